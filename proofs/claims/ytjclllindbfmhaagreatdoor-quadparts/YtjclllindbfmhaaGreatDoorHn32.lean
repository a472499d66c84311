/- Parts of the proof. -/
import Derived.Test.YtjclllindbfmhaaGreatDoorHn0
import Derived.Test.YtjclllindbfmhaaGreatDoorHn27
import Derived.Test.YtjclllindbfmhaaGreatDoorHn23
import Derived.Test.YtjclllindbfmhaaGreatDoorHn28
set_option linter.unusedSimpArgs false
set_option linter.unusedVariables false
namespace Go.Proofs.YtjclllindbfmhaaGreatDoor
/- The document's without, walked. No statement of the seat is proved here. -/
open Go Go.RowKit
/-- How many of the first j columns there are without column c. -/
def cn (c j:Nat):Nat:=if j≤c then j else j - 1
theorem cn_le (c j:Nat):cn c j≤j:=by unfold cn; split <;> omega
theorem cn_next {c j:Nat} (h:j ≠ c):cn c j+1=cn c (j+1):=by unfold cn; split <;> split <;> omega
theorem cn_skip (c:Nat):cn c c=cn c (c+1):=by unfold cn; rw [if_pos (Nat.le_refl _),if_neg (by omega)]; omega
theorem sk_cn {c j:Nat} (h:j ≠ c):M.sk c (cn c j)=j:=by unfold M.sk cn; split <;> split <;> omega
theorem cn_all {c n:Nat} (h:c < n+1):cn c (n+1)=n:=by unfold cn; rw [if_neg (by omega)]; omega
set_option maxRecDepth 100000 in
set_option maxHeartbeats 12800000 in
theorem dWithout {X0:Nat→Prop} {w:World} (hX:NX X0 w) (a:Sl) (c:Nat) {n:Nat} {B:Nat→Nat→Int} (ha:Mr (n+1) (fun _=>n+1) B a X0 w) (hc:c < n+1) (hn:n≤100):Calls Tryz.prog 110 #[a.v,.int .i64 ((c:Nat):Int)] w (PMXr X0 n (fun _=>n) (fun x y=>B (x+1) (M.sk c y)) w):=by
 have hZ0:=zs_start hX
 have hZ1:=hZ0.more (f:=Mr (n+1) (fun _=>n+1) B a) (Mr.stb _ _ _ _) ha
 clear hZ0
 go_enter Tryz.func110,Tryz.ntmps110
 go_wp2
 go_loopw [5,6] (fun ov iv wr=>∃ (x:Nat) (so:Sl) (Co:Array Value) (X:Nat→Prop),x≤n∧iv=.int .i64 ((x+1:Nat):Int)∧ov=so.v∧so.n=x∧Wr 1 so Co∧Zs w wr X0 X ([]++owl so Co 40) [Fl 1 (ERr (fun _=>n) (fun x y=>B (x+1) (M.sk c y))) x Co,Mr (n+1) (fun _=>n+1) B a]) (fun _ iv _=>n+1 - (intOf iv).toNat)
 case atStart=>exact ⟨0,slz,#[],_,by omega,rfl,rfl,rfl,wr_slz 1,by simpa [owl,slz] using (hZ1.more (f:=Fl 1 (ERr (fun _=>n) (fun x y=>B (x+1) (M.sk c y))) 0 #[]) (Fl.stb (ERr.stb _ _) _ _) (fl_zero 1 (ERr (fun _=>n) (fun x y=>B (x+1) (M.sk c y))) #[] _ _))⟩
 case round =>
  obtain ⟨x,so,Co,X,hx,rfl,rfl,hn_so,hw_so,hZ⟩:=hrel
  by_cases hlt:x < n
  ·
   go_wp2_with (refine zso rfl (fun K hK=>wp_lenq (.tmp 10) 39 40 a rfl (by kernel_rfl) rfl (hZ.get 1 (f:=Mr (n+1) (fun _=>n+1) B a) rfl).n (hK _ _ ?_)))
   simp only [Stop,Act.put,zzC,zzD,zzE]
   go_wp2_with (refine zso rfl (fun K hK=>wp_lssi (.tmp 9) (.tmp 11) rfl rfl rfl (r:=true) (decide_eq_true (by omega)) (hK _ _ ?_)))
   simp only [Stop,Act.put,zzC,zzD,zzE]
   go_wp2
   obtain ⟨wo,rfl⟩:∃ wo:World,wo=wr:=⟨_,rfl⟩
   go_wp2
   go_loopw [7,8] (fun rv jv wr=>∃ (j:Nat) (si:Sl) (Ci:Array Value) (X:Nat→Prop),j≤n+1∧jv=.int .i64 ((j:Nat):Int)∧rv=si.v∧si.n=cn c j∧Wr 2 si Ci∧Zs w wr X0 X ([]++(owl so Co 40++owl si Ci 43)) [Fl 2 (ENr (fun y=>B (x+1) (M.sk c y))) (cn c j) Ci,Fl 1 (ERr (fun _=>n) (fun x y=>B (x+1) (M.sk c y))) x Co,Mr (n+1) (fun _=>n+1) B a]) (fun _ iv _=>n+1 - (intOf iv).toNat)
   case atStart=>exact ⟨0,slz,#[],_,by omega,rfl,rfl,(by unfold cn; rw [if_pos (Nat.zero_le _)]; rfl),wr_slz 2,by simpa [owl,slz,cn] using (hZ.more (f:=Fl 2 (ENr (fun y=>B (x+1) (M.sk c y))) 0 #[]) (Fl.stb (ENr.stb _) _ _) (fl_zero 2 (ENr (fun y=>B (x+1) (M.sk c y))) #[] _ _))⟩
   case round =>
    clear hZ
    obtain ⟨j,si,Ci,Xi,hj,rfl,rfl,hn_si,hw_si,hZi⟩:=hrel
    have hcn:=cn_le c j
    by_cases hlj:j < n+1
    ·
     by_cases hjc:j=c
     ·
      have HJ:=Lib.hid hjc
      clear hjc
      go_wp2_with (refine zso rfl (fun K hK=>wp_ixs 39 (.tmp 16) (.tmp 17) a (x+1) 1 40 rfl rfl rfl (by kernel_rfl) sz40 (fun h=>((hZi.get 2 (f:=Mr (n+1) (fun _=>n+1) B a) rfl).sq.nil h).1) ((hZi.get 2 (f:=Mr (n+1) (fun _=>n+1) B a) rfl).n ▸ (by omega)) (hK _ _ ?_)))
      simp only [Stop,Act.put,zzC,zzD,zzE]
      go_wp2_with (refine zso rfl (fun K hK=>wp_ldmr 40 (.tmp 18) a (x+1) (n+1) (fun _=>n+1) B rfl rfl (hZi.get 2 (f:=Mr (n+1) (fun _=>n+1) B a) rfl) (by omega) ag40 (fun s1 hi_s1=>hK _ _ ?_)))
      simp only [Stop,Act.put,zzC,zzD,zzE]
      have hZ2:=hZi.more (f:=Lr (n+1) (B (x+1)) s1) (Lr.stb _ _ _) hi_s1
      clear hZi hi_s1
      go_wp2_with (refine zso rfl (fun K hK=>wp_lenq (.tmp 19) 40 43 s1 rfl (by kernel_rfl) rfl (hZ2.get 0 (f:=Lr (n+1) (B (x+1)) s1) rfl).n (hK _ _ ?_)))
      simp only [Stop,Act.put,zzC,zzD,zzE]
      go_wp2_with (refine zso rfl (fun K hK=>wp_lssi (.tmp 15) (.tmp 20) rfl rfl rfl (r:=true) (decide_eq_true (by omega)) (hK _ _ ?_)))
      simp only [Stop,Act.put,zzC,zzD,zzE]
      go_wp2_with (refine zso rfl (fun K hK=>wp_neqi (.tmp 24) (.tmp 25) 3 3 rfl rfl rfl rfl (r:=false) (decide_eq_false (by have:=HJ.out; omega)) (hK _ _ ?_)))
      simp only [Stop,Act.put,zzC,zzD,zzE]
      go_wp2_with (refine zso rfl (fun K hK=>wp_addi (.tmp 22) (.const (.int .i64 1)) rfl rfl rfl (C:=((j+1:Nat):Int)) (by omega) (by omega) (by omega) (hK _ _ ?_)))
      simp only [Stop,Act.put,zzC,zzD,zzE]
      have hZ3:=hZ2.only [Fl 2 (ENr (fun y=>B (x+1) (M.sk c y))) (cn c j) Ci,Fl 1 (ERr (fun _=>n) (fun x y=>B (x+1) (M.sk c y))) x Co,Mr (n+1) (fun _=>n+1) B a] (by simp)
      clear hZ2
      have hZ4e:cn c j=cn c (j+1):=by rw [HJ.out]; exact cn_skip c
      rw [hZ4e] at hn_si
      have hZ4:Zs w wr X0 Xi ([]++(owl so Co 40++owl si Ci 43)) [Fl 2 (ENr (fun y=>B (x+1) (M.sk c y))) (cn c (j+1)) Ci,Fl 1 (ERr (fun _=>n) (fun x y=>B (x+1) (M.sk c y))) x Co,Mr (n+1) (fun _=>n+1) B a]:=by
       have h:=hZ3
       rw [hZ4e] at h
       exact h
      go_wp2
      go_roundw
      case rel=>exact ⟨j+1,si,Ci,_,by omega,by go_num,rfl,hn_si,hw_si,hZ4⟩
      case measure=>simp [intOf]; omega
     ·
      have HJ:=Lib.hid hjc
      clear hjc
      go_wp2_with (refine zso rfl (fun K hK=>wp_ixs 39 (.tmp 16) (.tmp 17) a (x+1) 1 40 rfl rfl rfl (by kernel_rfl) sz40 (fun h=>((hZi.get 2 (f:=Mr (n+1) (fun _=>n+1) B a) rfl).sq.nil h).1) ((hZi.get 2 (f:=Mr (n+1) (fun _=>n+1) B a) rfl).n ▸ (by omega)) (hK _ _ ?_)))
      simp only [Stop,Act.put,zzC,zzD,zzE]
      go_wp2_with (refine zso rfl (fun K hK=>wp_ldmr 40 (.tmp 18) a (x+1) (n+1) (fun _=>n+1) B rfl rfl (hZi.get 2 (f:=Mr (n+1) (fun _=>n+1) B a) rfl) (by omega) ag40 (fun s2 hi_s2=>hK _ _ ?_)))
      simp only [Stop,Act.put,zzC,zzD,zzE]
      have hZ5:=hZi.more (f:=Lr (n+1) (B (x+1)) s2) (Lr.stb _ _ _) hi_s2
      clear hZi hi_s2
      go_wp2_with (refine zso rfl (fun K hK=>wp_lenq (.tmp 19) 40 43 s2 rfl (by kernel_rfl) rfl (hZ5.get 0 (f:=Lr (n+1) (B (x+1)) s2) rfl).n (hK _ _ ?_)))
      simp only [Stop,Act.put,zzC,zzD,zzE]
      go_wp2_with (refine zso rfl (fun K hK=>wp_lssi (.tmp 15) (.tmp 20) rfl rfl rfl (r:=true) (decide_eq_true (by omega)) (hK _ _ ?_)))
      simp only [Stop,Act.put,zzC,zzD,zzE]
      go_wp2_with (refine zso rfl (fun K hK=>wp_neqi (.tmp 24) (.tmp 25) 3 3 rfl rfl rfl rfl (r:=true) (decide_eq_true (by have:=HJ.out; omega)) (hK _ _ ?_)))
      simp only [Stop,Act.put,zzC,zzD,zzE]
      go_wp2_with (refine zso rfl (fun K hK=>wp_ixs 39 (.tmp 28) (.tmp 29) a (x+1) 1 40 rfl rfl rfl (by kernel_rfl) sz40 (fun h=>((hZ5.get 3 (f:=Mr (n+1) (fun _=>n+1) B a) rfl).sq.nil h).1) ((hZ5.get 3 (f:=Mr (n+1) (fun _=>n+1) B a) rfl).n ▸ (by omega)) (hK _ _ ?_)))
      simp only [Stop,Act.put,zzC,zzD,zzE]
      go_wp2_with (refine zso rfl (fun K hK=>wp_ldmr 40 (.tmp 30) a (x+1) (n+1) (fun _=>n+1) B rfl rfl (hZ5.get 3 (f:=Mr (n+1) (fun _=>n+1) B a) rfl) (by omega) ag40 (fun s3 hi_s3=>hK _ _ ?_)))
      simp only [Stop,Act.put,zzC,zzD,zzE]
      have hZ6:=hZ5.more (f:=Lr (n+1) (B (x+1)) s3) (Lr.stb _ _ _) hi_s3
      clear hZ5 hi_s3
      go_wp2_with (refine zso rfl (fun K hK=>wp_ixs 40 (.tmp 31) (.tmp 32) s3 j 2 43 rfl rfl rfl (by kernel_rfl) sz43 (fun h=>((hZ6.get 0 (f:=Lr (n+1) (B (x+1)) s3) rfl).sq.nil h).1) ((hZ6.get 0 (f:=Lr (n+1) (B (x+1)) s3) rfl).n ▸ (by omega)) (hK _ _ ?_)))
      simp only [Stop,Act.put,zzC,zzD,zzE]
      go_wp2_with (refine zso rfl (fun K hK=>wp_ldnr 43 (.tmp 33) s3 j (n+1) (B (x+1)) rfl rfl (hZ6.get 0 (f:=Lr (n+1) (B (x+1)) s3) rfl) (by omega) ag43 sz43 (fun q4 ez_q4 hi_q4=>hK _ _ ?_)))
      simp only [Stop,Act.put,zzC,zzD,zzE]
      have hZ7:=hZ6.more (f:=q4.ir) q4.stbr hi_q4
      clear hZ6 hi_q4
      go_wp2_with (refine zso rfl (fun K hK=>wp_bs2 ei40 (.tmp 34) rfl rfl (hK _ _ ?_)))
      simp only [Stop,Act.put,zzC,zzD,zzE]
      have hZ8:=hZ7.later (below_new _ (.cells #[.bool q4.b,.slice q4.a q4.n q4.c] 43))
      clear hZ7
      have hZ9y:=hZ8.perm ((List.Perm.append_left _ List.perm_append_comm).trans (perm_mid _ _ _))
      go_wp2_with (refine zso rfl (fun K hK=>wp_app ei40 (.tmp 27) (.tmp 35) rfl (s:=si) rfl ⟨wr.heap.size,0,none⟩ 1 rfl hw_si (by rw [hn_si]; omega) hZ9y [.bool q4.b,.slice q4.a q4.n q4.c] rfl (cell_two _ (.bool q4.b) (.slice q4.a q4.n q4.c) _) (fun u hu=>by simp only [List.mem_cons,List.not_mem_nil,or_false] at hu; rcases hu with rfl | rfl <;> rfl) (fun o5 C5 X9 W1 hn_o5 hw_o5 ho_C5 hg_C5 hZ9x=>hK _ _ ?_)))
      simp only [Stop,Act.put,zzC,zzD,zzE]
      clear hZ9y
      rw [hn_si] at hn_o5 ho_C5 hg_C5
      have hZ9:=hZ9x.perm (List.Perm.symm ((List.Perm.append_left _ List.perm_append_comm).trans (perm_mid _ _ _)))
      clear hZ9x hZ8
      have hZ10s:Fl 2 (ENr (fun y=>B (x+1) (M.sk c y))) (cn c j+1) C5 X9 W1:=Fl.snoc (C:=Ci) (hZ9.get 3 (f:=Fl 2 (ENr (fun y=>B (x+1) (M.sk c y))) (cn c j) Ci) rfl) (cs:=[.bool q4.b,.slice q4.a q4.n q4.c]) rfl ho_C5 hg_C5 ⟨q4,ez_q4.trans (by show _=B (x+1) (M.sk c (cn c j)); rw [sk_cn HJ.out]),(hZ9.get 0 (f:=q4.ir) rfl),rfl⟩
      have hZ10:=(hZ9.more (Fl.stb (ENr.stb _) _ _) hZ10s).only [Fl 2 (ENr (fun y=>B (x+1) (M.sk c y))) (cn c j+1) C5,Fl 1 (ERr (fun _=>n) (fun x y=>B (x+1) (M.sk c y))) x Co,Mr (n+1) (fun _=>n+1) B a] (by simp)
      clear hZ9 hZ10s
      go_wp2_with (refine zso rfl (fun K hK=>wp_addi (.tmp 22) (.const (.int .i64 1)) rfl rfl rfl (C:=((j+1:Nat):Int)) (by omega) (by omega) (by omega) (hK _ _ ?_)))
      simp only [Stop,Act.put,zzC,zzD,zzE]
      have hZ11e:cn c j+1=cn c (j+1):=cn_next HJ.out
      rw [hZ11e] at hn_o5
      have hZ11:Zs w W1 X0 X9 ([]++(owl so Co 40++owl o5 C5 43)) [Fl 2 (ENr (fun y=>B (x+1) (M.sk c y))) (cn c (j+1)) C5,Fl 1 (ERr (fun _=>n) (fun x y=>B (x+1) (M.sk c y))) x Co,Mr (n+1) (fun _=>n+1) B a]:=by
       have h:=hZ10
       rw [hZ11e] at h
       exact h
      go_wp2
      go_roundw
      case rel=>exact ⟨j+1,o5,C5,_,by omega,by go_num,rfl,hn_o5,hw_o5,hZ11⟩
      case measure=>simp [intOf]; omega
    ·
     obtain rfl:j=n+1:=by omega
     rw [cn_all hc] at hn_si
     rw [cn_all hc] at hZi
     clear hcn
     go_wp2_with (refine zso rfl (fun K hK=>wp_ixs 39 (.tmp 16) (.tmp 17) a (x+1) 1 40 rfl rfl rfl (by kernel_rfl) sz40 (fun h=>((hZi.get 2 (f:=Mr (n+1) (fun _=>n+1) B a) rfl).sq.nil h).1) ((hZi.get 2 (f:=Mr (n+1) (fun _=>n+1) B a) rfl).n ▸ (by omega)) (hK _ _ ?_)))
     simp only [Stop,Act.put,zzC,zzD,zzE]
     go_wp2_with (refine zso rfl (fun K hK=>wp_ldmr 40 (.tmp 18) a (x+1) (n+1) (fun _=>n+1) B rfl rfl (hZi.get 2 (f:=Mr (n+1) (fun _=>n+1) B a) rfl) (by omega) ag40 (fun s6 hi_s6=>hK _ _ ?_)))
     simp only [Stop,Act.put,zzC,zzD,zzE]
     have hZ12:=hZi.more (f:=Lr (n+1) (B (x+1)) s6) (Lr.stb _ _ _) hi_s6
     clear hZi hi_s6
     go_wp2_with (refine zso rfl (fun K hK=>wp_lenq (.tmp 19) 40 43 s6 rfl (by kernel_rfl) rfl (hZ12.get 0 (f:=Lr (n+1) (B (x+1)) s6) rfl).n (hK _ _ ?_)))
     simp only [Stop,Act.put,zzC,zzD,zzE]
     go_wp2_with (refine zso rfl (fun K hK=>wp_lssi (.tmp 15) (.tmp 20) rfl rfl rfl (r:=false) (decide_eq_false (Int.lt_irrefl _)) (hK _ _ ?_)))
     simp only [Stop,Act.put,zzC,zzD,zzE]
     have hZ13r:=(hZ12.get 1 (f:=Fl 2 (ENr (fun y=>B (x+1) (M.sk c y))) n Ci) rfl)
     obtain ⟨X14,hZ14⟩:=Zs.tellr (hZ12.perm ((List.Perm.append_left _ List.perm_append_comm).trans (perm_mid _ _ _))) hX hw_si hn_si hZ13r
     clear hZ12 hZ13r
     go_wp2_with (refine zso rfl (fun K hK=>wp_bs1 ei39 (.tmp 38) rfl rfl rfl (hK _ _ ?_)))
     simp only [Stop,Act.put,zzC,zzD,zzE]
     have hZ15:=hZ14.later (below_new _ (.cells #[si.v] 40))
     clear hZ14
     have hZ16y:=hZ15.perm List.perm_append_comm
     go_wp2_with (refine zso rfl (fun K hK=>wp_app ei39 (.tmp 37) (.tmp 39) rfl (s:=so) rfl ⟨wr.heap.size,0,none⟩ 1 rfl hw_so (by rw [hn_so]; omega) hZ16y [si.v] rfl (cell_one _ si.v _) (fun u hu=>by simp only [List.mem_cons,List.not_mem_nil,or_false] at hu; subst hu; rfl) (fun o7 C7 X16 W2 hn_o7 hw_o7 ho_C7 hg_C7 hZ16x=>hK _ _ ?_)))
     simp only [Stop,Act.put,zzC,zzD,zzE]
     clear hZ16y
     rw [hn_so] at hn_o7 ho_C7 hg_C7
     have hZ16:=hZ16x.perm List.perm_append_comm
     clear hZ16x hZ15
     have hZ17s:Fl 1 (ERr (fun _=>n) (fun x y=>B (x+1) (M.sk c y))) (x+1) C7 X16 W2:=Fl.snoc (C:=Co) (hZ16.get 3 (f:=Fl 1 (ERr (fun _=>n) (fun x y=>B (x+1) (M.sk c y))) x Co) rfl) (cs:=[si.v]) rfl ho_C7 hg_C7 ⟨si,(hZ16.get 0 (f:=Lr n ((fun x y=>B (x+1) (M.sk c y)) x) si) rfl),rfl⟩
     have hZ17:=(hZ16.more (Fl.stb (ERr.stb _ _) _ _) hZ17s).only [Fl 1 (ERr (fun _=>n) (fun x y=>B (x+1) (M.sk c y))) (x+1) C7,Mr (n+1) (fun _=>n+1) B a] (by simp)
     clear hZ16 hZ17s
     go_wp2_with (refine zso rfl (fun K hK=>wp_addi (.tmp 13) (.const (.int .i64 1)) rfl rfl rfl (C:=((x+1+1:Nat):Int)) (by omega) (by omega) (by omega) (hK _ _ ?_)))
     simp only [Stop,Act.put,zzC,zzD,zzE]
     go_wp2
     go_roundw
     case rel=>exact ⟨x+1,o7,C7,_,by omega,by go_num,rfl,hn_o7,hw_o7,hZ17⟩
     case measure=>simp [intOf]; omega
  ·
   obtain rfl:x=n:=by omega
   go_wp2_with (refine zso rfl (fun K hK=>wp_lenq (.tmp 10) 39 40 a rfl (by kernel_rfl) rfl (hZ.get 1 (f:=Mr (x+1) (fun _=>x+1) B a) rfl).n (hK _ _ ?_)))
   simp only [Stop,Act.put,zzC,zzD,zzE]
   go_wp2_with (refine zso rfl (fun K hK=>wp_lssi (.tmp 9) (.tmp 11) rfl rfl rfl (r:=false) (decide_eq_false (Int.lt_irrefl _)) (hK _ _ ?_)))
   simp only [Stop,Act.put,zzC,zzD,zzE]
   go_wp2
   go_ret
   exact ⟨so,rfl,⟨hn_so,hZ.sq hX (ERr.stb _ _) hw_so (T:=40) (fun p hp=>hp) (hn_so ▸ hZ.get 0 (f:=Fl 1 (ERr (fun _=>x) (fun x y=>B (x+1) (M.sk c y))) x Co) rfl)⟩,hZ.below⟩
def DetC (e n:Nat):Prop:=∀ (X0:Nat→Prop) (w:World) (_:NX X0 w) (a:Sl) (B:Nat→Nat→Int),Mr n (fun _=>n) B a X0 w→(∀ i j,i < n→j < n→Sz e (B i j))→Calls Tryz.prog 69 #[a.v] w (PNXr X0 (M.dt n B) w)
/-- What the j-th number of the first row gives to the determinant. -/
def cof (n:Nat) (B:Nat→Nat→Int) (j:Nat):Int:=if j % 2=1 then -(B 0 j*M.dt n (fun x y=>B (x+1) (M.sk j y))) else B 0 j*M.dt n (fun x y=>B (x+1) (M.sk j y))
theorem cof_sz {e n j:Nat} {B:Nat→Nat→Int} (hj:j < n+1) (h:∀ i j,i < n+1→j < n+1→Sz e (B i j)):Sz (e+dtb e n) (cof n B j):=by
 have h1:Sz (e+dtb e n) (B 0 j*M.dt n (fun x y=>B (x+1) (M.sk j y))):=Sz.mul (h 0 j (by omega) hj) (dt_sz fun x y hx hy=>h _ _ (by omega) (M.sk_lt hy))
 unfold cof
 split
 ·
  exact h1.neg
 ·
  exact h1
theorem cof_dt (n:Nat) (B:Nat→Nat→Int):M.sm (n+1) (cof n B)=M.dt (n+1) B:=by
 rw [M.dt_row]
 refine M.sm_congr fun j _=>?_
 unfold cof M.sg
 split
 ·
  rw [if_neg (by omega)]; grind
 ·
  rw [if_pos (by omega)]; grind
set_option maxRecDepth 100000 in
set_option maxHeartbeats 12800000 in
theorem dDet0 (e:Nat):DetC e 0:=by
 intro X0 w hX a B ha _
 have hZ0:=zs_start hX
 have hZ1:=hZ0.more (f:=Mr 0 (fun _=>0) B a) (Mr.stb _ _ _ _) ha
 clear hZ0
 go_enter Tryz.func69,Tryz.ntmps69
 go_wp2_with (refine zsa 43 #[.bool false,.slice none 0 0] (.agg #[.bool false,.slice none 0 0]) rfl rfl zv43 rfl hZ1 (fun bk1 X2 W1 hZ2=>?_))
 clear hZ1
 simp only [Stop,Act.put,zzC,zzD,zzE]
 go_wp2_with (refine zso rfl (fun K hK=>wp_lenq (.tmp 6) 39 40 a rfl (by kernel_rfl) rfl (hZ2.get 0 (f:=Mr 0 (fun _=>0) B a) rfl).n (hK _ _ ?_)))
 simp only [Stop,Act.put,zzC,zzD,zzE]
 go_wp2_with (refine zso rfl (fun K hK=>wp_eqli (.tmp 7) (.const (.int .i64 0)) 3 3 rfl rfl rfl rfl (r:=true) (decide_eq_true rfl) (hK _ _ ?_)))
 simp only [Stop,Act.put,zzC,zzD,zzE]
 go_wp2_with fail
 refine (zOfr hZ2.nx (by omega) (by omega)).mono ?_
 rintro zz W2 ⟨q1,rfl,ez_q1,hi_q1,hB⟩
 have hZ3:=hZ2.later hB
 clear hB hZ2
 have hZ4:=hZ3.more (f:=q1.ir) q1.stbr hi_q1
 clear hZ3 hi_q1
 go_wp2_with (refine zss 43 (.tmp 2) (.tmp 9) 0 bk1 0 #[.bool false,.slice none 0 0] 43 2 [.bool q1.b,.slice q1.a q1.n q1.c] #[.bool q1.b,.slice q1.a q1.n q1.c] [(bk1,#[.bool q1.b,.slice q1.a q1.n q1.c],43)] rfl rfl rfl rfl sz43 hZ4 rfl rfl (zzF (by kernel_rfl)) (by kernel_rfl) (by kernel_rfl) (by kernel_rfl) (fun W3 hZ5=>?_))
 clear hZ4
 simp only [Stop,Act.put,zzC,zzD,zzE]
 go_wp2
 exact bodyPost_ret (v:=q1.v) (results_cell 0 Tryz.results69 hZ5.es rfl ag43 sz43 (zzF (by kernel_rfl)) rfl (by kernel_rfl)) rfl ⟨q1,rfl,ez_q1,hZ5.out 0 (f:=q1.ir) rfl,hZ5.below⟩
set_option maxRecDepth 100000 in
set_option maxHeartbeats 12800000 in
theorem dDetS {e n:Nat} (he1:1≤e) (he:e≤200) (hn:n≤11) (ih:DetC e n):DetC e (n+1):=by
 intro X0 w hX a B ha bB
 have hdb:dtb e n≤3000:=dtb_le he (by omega)
 have hZ0:=zs_start hX
 have hZ1:=hZ0.more (f:=Mr (n+1) (fun _=>n+1) B a) (Mr.stb _ _ _ _) ha
 clear hZ0
 go_enter Tryz.func69,Tryz.ntmps69
 go_wp2_with (refine zsa 43 #[.bool false,.slice none 0 0] (.agg #[.bool false,.slice none 0 0]) rfl rfl zv43 rfl hZ1 (fun bk1 X2 W1 hZ2=>?_))
 clear hZ1
 simp only [Stop,Act.put,zzC,zzD,zzE]
 go_wp2_with (refine zso rfl (fun K hK=>wp_lenq (.tmp 6) 39 40 a rfl (by kernel_rfl) rfl (hZ2.get 0 (f:=Mr (n+1) (fun _=>n+1) B a) rfl).n (hK _ _ ?_)))
 simp only [Stop,Act.put,zzC,zzD,zzE]
 go_wp2_with (refine zso rfl (fun K hK=>wp_eqli (.tmp 7) (.const (.int .i64 0)) 3 3 rfl rfl rfl rfl (r:=false) (decide_eq_false (by omega)) (hK _ _ ?_)))
 simp only [Stop,Act.put,zzC,zzD,zzE]
 go_wp2_with fail
 refine (zOfr hZ2.nx (by omega) (by omega)).mono ?_
 rintro zz W2 ⟨q1,rfl,ez_q1,hi_q1,hB⟩
 have hZ3:=hZ2.later hB
 clear hB hZ2
 have hZ4:=hZ3.more (f:=q1.ir) q1.stbr hi_q1
 clear hZ3 hi_q1
 go_wp2_with (refine zsa 43 #[.bool false,.slice none 0 0] (.agg #[.bool false,.slice none 0 0]) rfl rfl zv43 rfl hZ4 (fun bk2 X5 W3 hZ5=>?_))
 clear hZ4
 simp only [Stop,Act.put,zzC,zzD,zzE]
 go_wp2_with (refine zss 43 (.tmp 3) (.tmp 10) 0 bk2 0 #[.bool false,.slice none 0 0] 43 2 [.bool q1.b,.slice q1.a q1.n q1.c] #[.bool q1.b,.slice q1.a q1.n q1.c] [(bk2,#[.bool q1.b,.slice q1.a q1.n q1.c],43),(bk1,#[.bool false,.slice none 0 0],43)] rfl rfl rfl rfl sz43 hZ5 rfl rfl (zzF (by kernel_rfl)) (by kernel_rfl) (by kernel_rfl) (by kernel_rfl) (fun W4 hZ6=>?_))
 clear hZ5
 simp only [Stop,Act.put,zzC,zzD,zzE]
 have hZ7:=hZ6.only [q1.ir,Mr (n+1) (fun _=>n+1) B a] (by simp)
 clear hZ6
 go_wp2
 go_loopw [4] (fun kv wr=>∃ (kk:Nat) (p:NL) (X:Nat→Prop),kk≤n+1∧kv=.int .i64 ((kk:Nat):Int)∧p.z=M.sm kk (cof n B)∧Zs w wr X0 X [(bk2,#[.bool p.b,.slice p.a p.n p.c],43),(bk1,#[.bool false,.slice none 0 0],43)] [p.ir,Mr (n+1) (fun _=>n+1) B a]) (fun iv _=>n+1 - (intOf iv).toNat)
 case atStart=>exact ⟨0,q1,_,by omega,rfl,ez_q1,hZ7⟩
 case round =>
  obtain ⟨kk,p,X,hk,rfl,ez_p,hZ⟩:=hrel
  by_cases hlt:kk < n+1
  ·
   have hk12:kk≤12:=by omega
   go_wp2_with (refine zso rfl (fun K hK=>wp_lenq (.tmp 12) 39 40 a rfl (by kernel_rfl) rfl (hZ.get 1 (f:=Mr (n+1) (fun _=>n+1) B a) rfl).n (hK _ _ ?_)))
   simp only [Stop,Act.put,zzC,zzD,zzE]
   go_wp2_with (refine zso rfl (fun K hK=>wp_lssi (.tmp 11) (.tmp 13) rfl rfl rfl (r:=true) (decide_eq_true (by omega)) (hK _ _ ?_)))
   simp only [Stop,Act.put,zzC,zzD,zzE]
   go_wp2
   have hM:Zs w wr.drew X0 X [(bk2,#[.bool p.b,.slice p.a p.n p.c],43),(bk1,#[.bool false,.slice none 0 0],43)] [p.ir,Mr (n+1) (fun _=>n+1) B a]∧Below wr.heap.size wr wr.drew:=⟨hZ.later (Below.refl _ _).drew,(Below.refl _ _).drew⟩
   have hVS7:∀ k,k ∈ ([veq (a.v),veq ((a.at 1 0)),vlsr (n+1) (B 0),veq (.int .i64 (((kk:Nat):Int))),vatr (n+1) (B 0) kk,vnumr (B 0 kk),veq (a.v),veq (.int .i64 (((kk:Nat):Int))),vmtr n (fun _=>n) (fun x y=>B (x+1) (M.sk kk y)),vnumr (M.dt n (fun x y=>B (x+1) (M.sk kk y))),vnumr ((B 0 kk)*(M.dt n (fun x y=>B (x+1) (M.sk kk y)))),vbox wr.heap.size #[.bool false,.slice none 0 0] 43]:List VF)→VSt k:=by
    intro k hk
    simp only [List.mem_cons,List.not_mem_nil,or_false] at hk
    rcases hk with rfl | rfl | rfl | rfl | rfl | rfl | rfl | rfl | rfl | rfl | rfl | rfl
    ·
     exact veq_st _
    ·
     exact veq_st _
    ·
     exact vls_str _ _
    ·
     exact veq_st _
    ·
     exact vat_str _ _ _
    ·
     exact vnum_str _
    ·
     exact veq_st _
    ·
     exact veq_st _
    ·
     exact vmt_str _ _ _
    ·
     exact vnum_str _
    ·
     exact vnum_str _
    ·
     exact vbox_st _ _ _
   refine wp_region_q 12 [some 17,some 18,some 19,some 20,some 21,some 22,some 23,some 24,some 25,some 26,some 27,some 5] (vzL [veq (a.v),veq ((a.at 1 0)),vlsr (n+1) (B 0),veq (.int .i64 (((kk:Nat):Int))),vatr (n+1) (B 0) kk,vnumr (B 0 kk),veq (a.v),veq (.int .i64 (((kk:Nat):Int))),vmtr n (fun _=>n) (fun x y=>B (x+1) (M.sk kk y)),vnumr (M.dt n (fun x y=>B (x+1) (M.sk kk y))),vnumr ((B 0 kk)*(M.dt n (fun x y=>B (x+1) (M.sk kk y)))),vbox wr.heap.size #[.bool false,.slice none 0 0] 43] X) (fun W=>Zs w W X0 X [(bk2,#[.bool p.b,.slice p.a p.n p.c],43),(bk1,#[.bool false,.slice none 0 0],43)] [p.ir,Mr (n+1) (fun _=>n+1) B a]∧Below wr.heap.size wr W) (by kernel_rfl) (by kernel_rfl) (by rfl) (by decide) (by rfl) hM ?_ ?_
   ·
    intro i hl hi LL uu ww aa hLi hLc hJ hd hev hin hold
    clear hM
    obtain ⟨hJ,hJb⟩:=hJ
    obtain rfl | rfl | rfl | rfl | rfl | rfl | rfl | rfl | rfl | rfl | rfl | rfl:i=0∨i=1∨i=2∨i=3∨i=4∨i=5∨i=6∨i=7∨i=8∨i=9∨i=10∨i=11:=by omega
    ·
     exact .inr ⟨rfl,fun K' hK=>wp_move (.tmp 0) rfl (zet ((hev 0 (by decide)).trans rfl)) (hK _ _ ⟨hJ,hJb⟩ rfl zvs)⟩
    ·
     exact .inr ⟨rfl,fun K' hK=>wp_ixs 39 (.tmp 17) (.const (.int .i64 0)) a 0 1 40 rfl (zet ((hin 0 17 rfl).trans (congrArg some (show uu 0=a.v from hd 0 (by decide) (by kernel_rfl))))) rfl (by kernel_rfl) sz40 (fun h=>((hJ.get 1 (f:=Mr (n+1) (fun _=>n+1) B a) rfl).sq.nil h).1) ((hJ.get 1 (f:=Mr (n+1) (fun _=>n+1) B a) rfl).n ▸ (by omega)) (hK _ _ ⟨hJ,hJb⟩ rfl zvs)⟩
    ·
     exact .inr ⟨rfl,fun K' hK=>wp_ldmr 40 (.tmp 18) a 0 (n+1) (fun _=>n+1) B rfl (zet ((hin 1 18 rfl).trans (congrArg some (show uu 1=(a.at 1 0) from hd 1 (by decide) (by kernel_rfl))))) (hJ.get 1 (f:=Mr (n+1) (fun _=>n+1) B a) rfl) (by omega) ag40 (fun s2 hi_s2=>hK _ _ ⟨hJ,hJb⟩ ⟨s2,rfl,hi_s2⟩ zvs)⟩
    ·
     exact .inr ⟨rfl,fun K' hK=>wp_move (.tmp 4) rfl (zet ((hev 4 (by decide)).trans rfl)) (hK _ _ ⟨hJ,hJb⟩ rfl zvs)⟩
    ·
     obtain ⟨s2,e2,hi_s2⟩:=(show (vlsr (n+1) (B 0)) (uu 2) X ww from hd 2 (by decide) (by kernel_rfl))
     replace hJ:=hJ.more (f:=Lr (n+1) (B 0) s2) (Lr.stb _ _ _) hi_s2
     exact .inr ⟨rfl,fun K' hK=>wp_ixs 40 (.tmp 19) (.tmp 20) s2 kk 2 43 rfl (zet ((hin 2 19 rfl).trans (congrArg some e2))) (zet ((hin 3 20 rfl).trans (congrArg some (show uu 3=.int .i64 (((kk:Nat):Int)) from hd 3 (by decide) (by kernel_rfl))))) (by kernel_rfl) sz43 (fun h=>((hJ.get 0 (f:=Lr (n+1) (B 0) s2) rfl).sq.nil h).1) ((hJ.get 0 (f:=Lr (n+1) (B 0) s2) rfl).n ▸ (by omega)) (hK _ _ ⟨(hJ.only [p.ir,Mr (n+1) (fun _=>n+1) B a] (by simp)),hJb⟩ ⟨s2,rfl,hi_s2⟩ zvs)⟩
    ·
     obtain ⟨s2,e4,hi_s2⟩:=(show (vatr (n+1) (B 0) kk) (uu 4) X ww from hd 4 (by decide) (by kernel_rfl))
     replace hJ:=hJ.more (f:=Lr (n+1) (B 0) s2) (Lr.stb _ _ _) hi_s2
     exact .inr ⟨rfl,fun K' hK=>wp_ldnr 43 (.tmp 21) s2 kk (n+1) (B 0) rfl (zet ((hin 4 21 rfl).trans (congrArg some e4))) (hJ.get 0 (f:=Lr (n+1) (B 0) s2) rfl) (by omega) ag43 sz43 (fun q3 ez_q3 hi_q3=>hK _ _ ⟨(hJ.only [p.ir,Mr (n+1) (fun _=>n+1) B a] (by simp)),hJb⟩ ⟨q3,rfl,ez_q3,hi_q3⟩ zvs)⟩
    ·
     exact .inr ⟨rfl,fun K' hK=>wp_move (.tmp 0) rfl (zet ((hev 0 (by decide)).trans rfl)) (hK _ _ ⟨hJ,hJb⟩ rfl zvs)⟩
    ·
     exact .inr ⟨rfl,fun K' hK=>wp_move (.tmp 4) rfl (zet ((hev 4 (by decide)).trans rfl)) (hK _ _ ⟨hJ,hJb⟩ rfl zvs)⟩
    ·
     refine .inr ⟨rfl,fun K' hK=>?_⟩
     refine zcz (.func 110) #[.tmp 23,.tmp 24] #[39,3] 110 #[] #[a.v,.int .i64 (((kk:Nat):Int))] _ rfl rfl (map2 (zet ((hin 6 23 rfl).trans (congrArg some (show uu 6=a.v from hd 6 (by decide) (by kernel_rfl))))) (zet ((hin 7 24 rfl).trans (congrArg some (show uu 7=.int .i64 (((kk:Nat):Int)) from hd 7 (by decide) (by kernel_rfl)))))) rfl (fun _ _=>rfl) (dWithout hJ.nx a kk (hJ.get 1 (f:=Mr (n+1) (fun _=>n+1) B a) rfl) (by omega) (by omega)) ?_
     rintro zz ww2 ⟨s4,rfl,hi_s4,hB⟩
     exact ⟨_,rfl,hK _ _ ⟨hJ.later hB,hJb.trans (hB.mono hJb.size)⟩ ⟨s4,rfl,hi_s4⟩ (zvl hVS7 hB)⟩
    ·
     obtain ⟨s4,e8,hi_s4⟩:=(show (vmtr n (fun _=>n) (fun x y=>B (x+1) (M.sk kk y))) (uu 8) X ww from hd 8 (by decide) (by kernel_rfl))
     replace hJ:=hJ.more (f:=Mr n (fun _=>n) (fun x y=>B (x+1) (M.sk kk y)) s4) (Mr.stb _ _ _ _) hi_s4
     refine .inr ⟨rfl,fun K' hK=>?_⟩
     refine zcz (.func 69) #[.tmp 25] #[39] 69 #[] #[s4.v] _ rfl rfl (map1 (zet ((hin 8 25 rfl).trans (congrArg some e8)))) rfl (fun _ _=>rfl) (ih _ _ hJ.nx s4 _ (hJ.get 0 (f:=Mr n (fun _=>n) (fun x y=>B (x+1) (M.sk kk y)) s4) rfl) (fun x y hx hy=>bB _ _ (by omega) (M.sk_lt hy))) ?_
     rintro zz ww2 ⟨q5,rfl,ez_q5,hi_q5,hB⟩
     exact ⟨_,rfl,hK _ _ ⟨(hJ.only [p.ir,Mr (n+1) (fun _=>n+1) B a] (by simp)).later hB,hJb.trans (hB.mono hJb.size)⟩ ⟨q5,rfl,ez_q5,hi_q5⟩ (zvl hVS7 hB)⟩
    ·
     obtain ⟨q3,e5,ez_q3,hi_q3⟩:=(show (vnumr (B 0 kk)) (uu 5) X ww from hd 5 (by decide) (by kernel_rfl))
     obtain ⟨q5,e9,ez_q5,hi_q5⟩:=(show (vnumr (M.dt n (fun x y=>B (x+1) (M.sk kk y)))) (uu 9) X ww from hd 9 (by decide) (by kernel_rfl))
     replace hJ:=hJ.more (f:=q3.ir) q3.stbr hi_q3
     replace hJ:=hJ.more (f:=q5.ir) q5.stbr hi_q5
     refine .inr ⟨rfl,fun K' hK=>?_⟩
     refine zcz (.func 71) #[.tmp 22,.tmp 26] #[43,43] 71 #[] #[q3.v,q5.v] _ rfl rfl (map2 (zet ((hin 5 22 rfl).trans (congrArg some e5))) (zet ((hin 9 26 rfl).trans (congrArg some e9)))) rfl (fun _ _=>rfl) (zMulr hJ.nx (hJ.get 1 (f:=q3.ir) rfl) (hJ.get 0 (f:=q5.ir) rfl) ez_q3 ez_q5 ((fun (t:Nat) (ht:t < n+1)=>bB 0 t (by omega) ht) kk (by omega)) (dt_sz (fun x y hx hy=>bB _ _ (by omega) (M.sk_lt hy))) (by omega) (by omega)) ?_
     rintro zz ww2 ⟨q6,rfl,ez_q6,hi_q6,hB⟩
     exact ⟨_,rfl,hK _ _ ⟨(hJ.only [p.ir,Mr (n+1) (fun _=>n+1) B a] (by simp)).later hB,hJb.trans (hB.mono hJb.size)⟩ ⟨q6,rfl,ez_q6,hi_q6⟩ (zvl hVS7 hB)⟩
    ·
     exact .inr ⟨rfl,fun K' hK=>wp_alloc 43 rfl (.agg #[.bool false,.slice none 0 0]) zv43 (hK _ _ ⟨hJ.later (below_new _ _),hJb.alloc (by have:=hJb.size; omega) _⟩ ⟨ww.heap.size,rfl,hJb.size,heap_new ww _⟩ (zvl hVS7 (below_new _ _)))⟩
   clear hM
   intro uu W5 hZ8p hd
   obtain ⟨hZ8,hb7⟩:=hZ8p
   have e_0:uu 0=a.v:=hd 0 (by decide)
   have e_1:uu 1=(a.at 1 0):=hd 1 (by decide)
   obtain ⟨s2,e_2,hi_s2⟩:=(show (vlsr (n+1) (B 0)) (uu 2) X W5 from hd 2 (by decide))
   clear hi_s2
   have e_3:uu 3=.int .i64 (((kk:Nat):Int)):=hd 3 (by decide)
   obtain ⟨s2_4,e_4,hi_s2_4⟩:=(show (vatr (n+1) (B 0) kk) (uu 4) X W5 from hd 4 (by decide))
   clear hi_s2_4
   obtain ⟨q3,e_5,ez_q3,hi_q30⟩:=(show (vnumr (B 0 kk)) (uu 5) X W5 from hd 5 (by decide))
   have e_6:uu 6=a.v:=hd 6 (by decide)
   have e_7:uu 7=.int .i64 (((kk:Nat):Int)):=hd 7 (by decide)
   obtain ⟨s4,e_8,hi_s4⟩:=(show (vmtr n (fun _=>n) (fun x y=>B (x+1) (M.sk kk y))) (uu 8) X W5 from hd 8 (by decide))
   clear hi_s4
   obtain ⟨q5,e_9,ez_q5,hi_q50⟩:=(show (vnumr (M.dt n (fun x y=>B (x+1) (M.sk kk y)))) (uu 9) X W5 from hd 9 (by decide))
   obtain ⟨q6,e_10,ez_q6,hi_q60⟩:=(show (vnumr ((B 0 kk)*(M.dt n (fun x y=>B (x+1) (M.sk kk y))))) (uu 10) X W5 from hd 10 (by decide))
   obtain ⟨bk3,e_11,hge7,hcl7⟩:=(show (vbox wr.heap.size #[.bool false,.slice none 0 0] 43) (uu 11) X W5 from hd 11 (by decide))
   clear hd hVS7
   simp only [layS,Act.put,zzC,zzD,zzE,Nat.zero_add,Nat.reduceAdd,List.drop_succ_cons,List.drop_zero,List.drop_nil,e_0,e_1,e_2,e_3,e_4,e_5,e_6,e_7,e_8,e_9,e_10,e_11]
   clear e_0 e_1 e_2 e_3 e_4 e_5 e_6 e_7 e_8 e_9 e_10 e_11
   have hZ9:=hZ.join hb7 hge7 hcl7
   have hx7:Ext X wr (fun k=>X k∨k=bk3) W5:=⟨hb7.size,fun k hk _=>hb7.block k hk,fun k hk hl=>hk.elim id fun e=>absurd (e ▸ hl) (Nat.not_lt.2 hge7)⟩
   have hi_q3:=NL.joinr hi_q30 hcl7 noI_zeror
   clear hi_q30
   have hi_q5:=NL.joinr hi_q50 hcl7 noI_zeror
   clear hi_q50
   have hi_q6:=NL.joinr hi_q60 hcl7 noI_zeror
   clear hi_q60 hZ8 hZ hx7 hge7 hcl7
   have hZ10:=hZ9.more (f:=q3.ir) q3.stbr hi_q3
   clear hZ9 hi_q3
   have hZ11:=hZ10.more (f:=q5.ir) q5.stbr hi_q5
   clear hZ10 hi_q5
   have hZ12:=hZ11.more (f:=q6.ir) q6.stbr hi_q6
   clear hZ11 hi_q6
   go_wp2_with (refine zss 43 (.tmp 5) (.tmp 27) 0 bk3 0 #[.bool false,.slice none 0 0] 43 2 [.bool q6.b,.slice q6.a q6.n q6.c] #[.bool q6.b,.slice q6.a q6.n q6.c] [(bk3,#[.bool q6.b,.slice q6.a q6.n q6.c],43),(bk2,#[.bool p.b,.slice p.a p.n p.c],43),(bk1,#[.bool false,.slice none 0 0],43)] rfl rfl rfl rfl sz43 hZ12 rfl rfl (zzF (by kernel_rfl)) (by kernel_rfl) (by kernel_rfl) (by kernel_rfl) (fun W6 hZ13=>?_))
   clear hZ12
   simp only [Stop,Act.put,zzC,zzD,zzE]
   by_cases hodd:kk % 2=1
   ·
    have HO:=Lib.hid hodd
    clear hodd
    go_wp2_with (refine zso rfl (fun K hK=>wp_rem2 (.tmp 28) (.const (.int .i64 2)) rfl rfl rfl (hK _ _ ?_)))
    simp only [Stop,Act.put,zzC,zzD,zzE]
    go_wp2_with (refine zso rfl (fun K hK=>wp_eqli (.tmp 29) (.const (.int .i64 1)) 3 3 rfl rfl rfl rfl (r:=true) (decide_eq_true (by have:=HO.out; omega)) (hK _ _ ?_)))
    simp only [Stop,Act.put,zzC,zzD,zzE]
    go_wp2_with (refine zso rfl (fun K hK=>wp_load 43 (.tmp 5) rfl bk3 0 2 #[.bool q6.b,.slice q6.a q6.n q6.c] #[.bool q6.b,.slice q6.a q6.n q6.c] 43 (hZ13.es.at' _ (zzG (i:=0) rfl)) rfl ag43 sz43 (zzF (by kernel_rfl)) (by kernel_rfl) (hK _ _ ?_)))
    simp only [Stop,Act.put,zzC,zzD,zzE]
    go_wp2_with fail
    refine (zNegr (hZ13.get 0 (f:=q6.ir) rfl) ez_q6).mono ?_
    rintro zz W7 ⟨q7,rfl,ez_q7,hi_q7,hB⟩
    have hZ14:=hZ13.later hB
    clear hB hZ13
    have hZ15:=hZ14.more (f:=q7.ir) q7.stbr hi_q7
    clear hZ14 hi_q7
    go_wp2_with (refine zss 43 (.tmp 5) (.tmp 32) 0 bk3 0 #[.bool q6.b,.slice q6.a q6.n q6.c] 43 2 [.bool q7.b,.slice q7.a q7.n q7.c] #[.bool q7.b,.slice q7.a q7.n q7.c] [(bk3,#[.bool q7.b,.slice q7.a q7.n q7.c],43),(bk2,#[.bool p.b,.slice p.a p.n p.c],43),(bk1,#[.bool false,.slice none 0 0],43)] rfl rfl rfl rfl sz43 hZ15 rfl rfl (zzF (by kernel_rfl)) (by kernel_rfl) (by kernel_rfl) (by kernel_rfl) (fun W8 hZ16=>?_))
    clear hZ15
    simp only [Stop,Act.put,zzC,zzD,zzE]
    go_wp2_with (refine zso rfl (fun K hK=>wp_load 43 (.tmp 3) rfl bk2 0 2 #[.bool p.b,.slice p.a p.n p.c] #[.bool p.b,.slice p.a p.n p.c] 43 (hZ16.es.at' _ (zzG (i:=1) rfl)) rfl ag43 sz43 (zzF (by kernel_rfl)) (by kernel_rfl) (hK _ _ ?_)))
    simp only [Stop,Act.put,zzC,zzD,zzE]
    go_wp2_with (refine zso rfl (fun K hK=>wp_load 43 (.tmp 5) rfl bk3 0 2 #[.bool q7.b,.slice q7.a q7.n q7.c] #[.bool q7.b,.slice q7.a q7.n q7.c] 43 (hZ16.es.at' _ (zzG (i:=0) rfl)) rfl ag43 sz43 (zzF (by kernel_rfl)) (by kernel_rfl) (hK _ _ ?_)))
    simp only [Stop,Act.put,zzC,zzD,zzE]
    go_wp2_with fail
    refine (zAddr hZ16.nx (hZ16.get 4 (f:=p.ir) rfl) (hZ16.get 0 (f:=q7.ir) rfl) ez_p ez_q7 (sm_sz (fun j hj=>cof_sz (by omega) bB)) (Sz.neg (Sz.mul ((fun (t:Nat) (ht:t < n+1)=>bB 0 t (by omega) ht) kk (by omega)) (dt_sz (fun x y hx hy=>bB _ _ (by omega) (M.sk_lt hy))))) (by omega) (by omega)).mono ?_
    rintro zz W9 ⟨q8,rfl,ez_q8,hi_q8,hB⟩
    have hZ17:=hZ16.later hB
    clear hB hZ16
    have hZ18:=hZ17.more (f:=q8.ir) q8.stbr hi_q8
    clear hZ17 hi_q8
    go_wp2_with (refine zss 43 (.tmp 3) (.tmp 35) 1 bk2 0 #[.bool p.b,.slice p.a p.n p.c] 43 2 [.bool q8.b,.slice q8.a q8.n q8.c] #[.bool q8.b,.slice q8.a q8.n q8.c] [(bk3,#[.bool q7.b,.slice q7.a q7.n q7.c],43),(bk2,#[.bool q8.b,.slice q8.a q8.n q8.c],43),(bk1,#[.bool false,.slice none 0 0],43)] rfl rfl rfl rfl sz43 hZ18 rfl rfl (zzF (by kernel_rfl)) (by kernel_rfl) (by kernel_rfl) (by kernel_rfl) (fun W10 hZ19=>?_))
    clear hZ18
    simp only [Stop,Act.put,zzC,zzD,zzE]
    have hZ20:=(hZ19.drop (List.sublist_cons_self _ _)).only [q8.ir,Mr (n+1) (fun _=>n+1) B a] (by simp)
    clear hZ19
    go_wp2_with (refine zso rfl (fun K hK=>wp_addi (.tmp 15) (.const (.int .i64 1)) rfl rfl rfl (C:=((kk+1:Nat):Int)) (by omega) (by omega) (by omega) (hK _ _ ?_)))
    simp only [Stop,Act.put,zzC,zzD,zzE]
    go_wp2
    go_roundw
    case rel=>exact ⟨kk+1,q8,_,by omega,by go_num,ez_q8.trans (by show _=M.sm kk (cof n B)+cof n B kk; unfold cof; rw [if_pos HO.out]),hZ20⟩
    case measure=>simp [intOf]; omega
   ·
    have HO:=Lib.hid hodd
    clear hodd
    go_wp2_with (refine zso rfl (fun K hK=>wp_rem2 (.tmp 28) (.const (.int .i64 2)) rfl rfl rfl (hK _ _ ?_)))
    simp only [Stop,Act.put,zzC,zzD,zzE]
    go_wp2_with (refine zso rfl (fun K hK=>wp_eqli (.tmp 29) (.const (.int .i64 1)) 3 3 rfl rfl rfl rfl (r:=false) (decide_eq_false (by have:=HO.out; omega)) (hK _ _ ?_)))
    simp only [Stop,Act.put,zzC,zzD,zzE]
    go_wp2_with (refine zso rfl (fun K hK=>wp_load 43 (.tmp 3) rfl bk2 0 2 #[.bool p.b,.slice p.a p.n p.c] #[.bool p.b,.slice p.a p.n p.c] 43 (hZ13.es.at' _ (zzG (i:=1) rfl)) rfl ag43 sz43 (zzF (by kernel_rfl)) (by kernel_rfl) (hK _ _ ?_)))
    simp only [Stop,Act.put,zzC,zzD,zzE]
    go_wp2_with (refine zso rfl (fun K hK=>wp_load 43 (.tmp 5) rfl bk3 0 2 #[.bool q6.b,.slice q6.a q6.n q6.c] #[.bool q6.b,.slice q6.a q6.n q6.c] 43 (hZ13.es.at' _ (zzG (i:=0) rfl)) rfl ag43 sz43 (zzF (by kernel_rfl)) (by kernel_rfl) (hK _ _ ?_)))
    simp only [Stop,Act.put,zzC,zzD,zzE]
    go_wp2_with fail
    refine (zAddr hZ13.nx (hZ13.get 3 (f:=p.ir) rfl) (hZ13.get 0 (f:=q6.ir) rfl) ez_p ez_q6 (sm_sz (fun j hj=>cof_sz (by omega) bB)) (Sz.mul ((fun (t:Nat) (ht:t < n+1)=>bB 0 t (by omega) ht) kk (by omega)) (dt_sz (fun x y hx hy=>bB _ _ (by omega) (M.sk_lt hy)))) (by omega) (by omega)).mono ?_
    rintro zz W11 ⟨q9,rfl,ez_q9,hi_q9,hB⟩
    have hZ21:=hZ13.later hB
    clear hB hZ13
    have hZ22:=hZ21.more (f:=q9.ir) q9.stbr hi_q9
    clear hZ21 hi_q9
    go_wp2_with (refine zss 43 (.tmp 3) (.tmp 35) 1 bk2 0 #[.bool p.b,.slice p.a p.n p.c] 43 2 [.bool q9.b,.slice q9.a q9.n q9.c] #[.bool q9.b,.slice q9.a q9.n q9.c] [(bk3,#[.bool q6.b,.slice q6.a q6.n q6.c],43),(bk2,#[.bool q9.b,.slice q9.a q9.n q9.c],43),(bk1,#[.bool false,.slice none 0 0],43)] rfl rfl rfl rfl sz43 hZ22 rfl rfl (zzF (by kernel_rfl)) (by kernel_rfl) (by kernel_rfl) (by kernel_rfl) (fun W12 hZ23=>?_))
    clear hZ22
    simp only [Stop,Act.put,zzC,zzD,zzE]
    have hZ24:=(hZ23.drop (List.sublist_cons_self _ _)).only [q9.ir,Mr (n+1) (fun _=>n+1) B a] (by simp)
    clear hZ23
    go_wp2_with (refine zso rfl (fun K hK=>wp_addi (.tmp 15) (.const (.int .i64 1)) rfl rfl rfl (C:=((kk+1:Nat):Int)) (by omega) (by omega) (by omega) (hK _ _ ?_)))
    simp only [Stop,Act.put,zzC,zzD,zzE]
    go_wp2
    go_roundw
    case rel=>exact ⟨kk+1,q9,_,by omega,by go_num,ez_q9.trans (by show _=M.sm kk (cof n B)+cof n B kk; unfold cof; rw [if_neg HO.out]),hZ24⟩
    case measure=>simp [intOf]; omega
  ·
   obtain rfl:kk=n+1:=by omega
   go_wp2_with (refine zso rfl (fun K hK=>wp_lenq (.tmp 12) 39 40 a rfl (by kernel_rfl) rfl (hZ.get 1 (f:=Mr (n+1) (fun _=>n+1) B a) rfl).n (hK _ _ ?_)))
   simp only [Stop,Act.put,zzC,zzD,zzE]
   go_wp2_with (refine zso rfl (fun K hK=>wp_lssi (.tmp 11) (.tmp 13) rfl rfl rfl (r:=false) (decide_eq_false (Int.lt_irrefl _)) (hK _ _ ?_)))
   simp only [Stop,Act.put,zzC,zzD,zzE]
   go_wp2_with (refine zso rfl (fun K hK=>wp_load 43 (.tmp 3) rfl bk2 0 2 #[.bool p.b,.slice p.a p.n p.c] #[.bool p.b,.slice p.a p.n p.c] 43 (hZ.es.at' _ (zzG (i:=0) rfl)) rfl ag43 sz43 (zzF (by kernel_rfl)) (by kernel_rfl) (hK _ _ ?_)))
   simp only [Stop,Act.put,zzC,zzD,zzE]
   go_wp2_with (refine zss 43 (.tmp 2) (.tmp 36) 1 bk1 0 #[.bool false,.slice none 0 0] 43 2 [.bool p.b,.slice p.a p.n p.c] #[.bool p.b,.slice p.a p.n p.c] [(bk2,#[.bool p.b,.slice p.a p.n p.c],43),(bk1,#[.bool p.b,.slice p.a p.n p.c],43)] rfl rfl rfl rfl sz43 hZ rfl rfl (zzF (by kernel_rfl)) (by kernel_rfl) (by kernel_rfl) (by kernel_rfl) (fun W13 hZ25=>?_))
   clear hZ
   simp only [Stop,Act.put,zzC,zzD,zzE]
   go_wp2
   exact bodyPost_ret (v:=p.v) (results_cell 1 Tryz.results69 hZ25.es rfl ag43 sz43 (zzF (by kernel_rfl)) rfl (by kernel_rfl)) rfl ⟨p,rfl,ez_p.trans (cof_dt n B),hZ25.out 0 (f:=p.ir) rfl,hZ25.below⟩
theorem dDet {e:Nat} (he1:1≤e) (he:e≤200):∀ n,n≤12→DetC e n
 | 0,_=>dDet0 e
 | n+1,hn=>dDetS he1 he (by omega) (dDet he1 he n (by omega))
end Go.Proofs.YtjclllindbfmhaaGreatDoor
