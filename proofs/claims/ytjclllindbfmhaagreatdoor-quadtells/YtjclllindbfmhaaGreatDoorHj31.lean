/- Parts of the proof. -/
import Derived.Test.YtjclllindbfmhaaGreatDoorHj0
import Derived.Test.YtjclllindbfmhaaGreatDoorHj26
import Derived.Test.YtjclllindbfmhaaGreatDoorHj22
namespace Go.Proofs.YtjclllindbfmhaaGreatDoor
/- The document's Of, walked. No statement of the seat is proved here. -/
open Go Go.RowKit
set_option maxRecDepth 100000 in
set_option maxHeartbeats 12800000 in
theorem dOf {X0:Nat→Prop} {w:World} (hX:NX X0 w) (rs:Sl) {m:Nat} {c:Nat→Nat} {R:Nat→Nat→Int} (hr:Mi m c R rs X0 w) (hm:m≤100) (hc:∀ i,i < m→c i≤100) (hR:∀ i j,i < m→j < c i→-9223372036854775808≤R i j∧R i j≤9223372036854775807):Calls Tryz.prog 44 #[rs.v] w (PMXr X0 m c R w):=by
 have hZ0:=zs_start hX
 have hZ1:=hZ0.more (f:=Mi m c R rs) (Mi.stb _ _ _ _) hr
 clear hZ0
 go_enter Tryz.func44,Tryz.ntmps44
 go_wp2
 go_loopw [3,4] (fun ov iv wr=>∃ (i:Nat) (so:Sl) (Co:Array Value) (X:Nat→Prop),i≤m∧iv=.int .i64 ((i:Nat):Int)∧ov=so.v∧so.n=i∧Wr 1 so Co∧Zs w wr X0 X ([]++owl so Co 40) [Fl 1 (ERr c R) i Co,Mi m c R rs]) (fun _ iv _=>m - (intOf iv).toNat)
 case atStart=>exact ⟨0,slz,#[],_,by omega,rfl,rfl,rfl,wr_slz 1,by simpa [owl,slz] using (hZ1.more (f:=Fl 1 (ERr c R) 0 #[]) (Fl.stb (ERr.stb _ _) _ _) (fl_zero 1 (ERr c R) #[] _ _))⟩
 case round =>
  obtain ⟨i,so,Co,X,hi,rfl,rfl,hn_so,hw_so,hZ⟩:=hrel
  by_cases hlt:i < m
  ·
   go_wp2_with (refine stop_op rfl (fun K hK=>wp_lenq (.tmp 8) 22 23 rs rfl (by kernel_rfl) rfl (hZ.get 1 (f:=Mi m c R rs) rfl).n (hK _ _ ?_)))
   simp only [Stop,Act.put,zzC,zzD,zzE]
   go_wp2_with (refine stop_op rfl (fun K hK=>wp_lssi (.tmp 7) (.tmp 9) rfl rfl rfl (r:=true) (decide_eq_true (by omega)) (hK _ _ ?_)))
   simp only [Stop,Act.put,zzC,zzD,zzE]
   go_wp2
   obtain ⟨wo,rfl⟩:∃ wo:World,wo=wr:=⟨_,rfl⟩
   have hci:=hc i hlt
   go_wp2
   go_loopw [5,6] (fun rv jv wr=>∃ (j:Nat) (si:Sl) (Ci:Array Value) (X:Nat→Prop),j≤c i∧jv=.int .i64 ((j:Nat):Int)∧rv=si.v∧si.n=j∧Wr 2 si Ci∧Zs w wr X0 X ([]++(owl so Co 40++owl si Ci 43)) [Fl 2 (ENr (R i)) j Ci,Fl 1 (ERr c R) i Co,Mi m c R rs]) (fun _ iv _=>c i - (intOf iv).toNat)
   case atStart=>exact ⟨0,slz,#[],_,by omega,rfl,rfl,rfl,wr_slz 2,by simpa [owl,slz] using (hZ.more (f:=Fl 2 (ENr (R i)) 0 #[]) (Fl.stb (ENr.stb _) _ _) (fl_zero 2 (ENr (R i)) #[] _ _))⟩
   case round =>
    clear hZ
    obtain ⟨j,si,Ci,Xi,hj,rfl,rfl,hn_si,hw_si,hZi⟩:=hrel
    by_cases hlj:j < c i
    ·
     go_wp2_with (refine stop_op rfl (fun K hK=>wp_ixs 22 (.tmp 14) (.tmp 15) rs i 1 23 rfl rfl rfl (by kernel_rfl) sz23 (fun h=>((hZi.get 2 (f:=Mi m c R rs) rfl).sq.nil h).1) ((hZi.get 2 (f:=Mi m c R rs) rfl).n ▸ (by omega)) (hK _ _ ?_)))
     simp only [Stop,Act.put,zzC,zzD,zzE]
     go_wp2_with (refine stop_op rfl (fun K hK=>wp_ldim 23 (.tmp 16) rs i m c R rfl rfl (hZi.get 2 (f:=Mi m c R rs) rfl) (by omega) ag23 (fun s1 hi_s1=>hK _ _ ?_)))
     simp only [Stop,Act.put,zzC,zzD,zzE]
     have hZ2:=hZi.more (f:=Li (c i) (R i) s1) (Li.stb _ _ _) hi_s1
     clear hZi hi_s1
     go_wp2_with (refine stop_op rfl (fun K hK=>wp_lenq (.tmp 17) 23 2 s1 rfl (by kernel_rfl) rfl (hZ2.get 0 (f:=Li (c i) (R i) s1) rfl).n (hK _ _ ?_)))
     simp only [Stop,Act.put,zzC,zzD,zzE]
     go_wp2_with (refine stop_op rfl (fun K hK=>wp_lssi (.tmp 13) (.tmp 18) rfl rfl rfl (r:=true) (decide_eq_true (by omega)) (hK _ _ ?_)))
     simp only [Stop,Act.put,zzC,zzD,zzE]
     go_wp2_with (refine stop_op rfl (fun K hK=>wp_ixs 22 (.tmp 23) (.tmp 24) rs i 1 23 rfl rfl rfl (by kernel_rfl) sz23 (fun h=>((hZ2.get 3 (f:=Mi m c R rs) rfl).sq.nil h).1) ((hZ2.get 3 (f:=Mi m c R rs) rfl).n ▸ (by omega)) (hK _ _ ?_)))
     simp only [Stop,Act.put,zzC,zzD,zzE]
     go_wp2_with (refine stop_op rfl (fun K hK=>wp_ldim 23 (.tmp 25) rs i m c R rfl rfl (hZ2.get 3 (f:=Mi m c R rs) rfl) (by omega) ag23 (fun s2 hi_s2=>hK _ _ ?_)))
     simp only [Stop,Act.put,zzC,zzD,zzE]
     have hZ3:=hZ2.more (f:=Li (c i) (R i) s2) (Li.stb _ _ _) hi_s2
     clear hZ2 hi_s2
     go_wp2_with (refine stop_op rfl (fun K hK=>wp_ixs 23 (.tmp 26) (.tmp 27) s2 j 1 2 rfl rfl rfl (by kernel_rfl) sz2 (fun h=>((hZ3.get 0 (f:=Li (c i) (R i) s2) rfl).sq.nil h).1) ((hZ3.get 0 (f:=Li (c i) (R i) s2) rfl).n ▸ (by omega)) (hK _ _ ?_)))
     simp only [Stop,Act.put,zzC,zzD,zzE]
     go_wp2_with (refine stop_op rfl (fun K hK=>wp_ldi 2 (.tmp 28) s2 j (c i) (R i) rfl rfl (hZ3.get 0 (f:=Li (c i) (R i) s2) rfl) (by omega) ag2 (hK _ _ ?_)))
     simp only [Stop,Act.put,zzC,zzD,zzE]
     go_wp2_with fail
     refine (zOfr hZ3.nx (hR i j hlt hlj).1 (hR i j hlt hlj).2).mono ?_
     rintro zz W1 ⟨q3,rfl,ez_q3,hi_q3,hB⟩
     have hZ4:=hZ3.later hB
     clear hB hZ3
     have hZ5:=hZ4.more (f:=q3.ir) q3.stbr hi_q3
     clear hZ4 hi_q3
     go_wp2_with (refine stop_op rfl (fun K hK=>wp_bs2 ei40 (.tmp 30) rfl rfl (hK _ _ ?_)))
     simp only [Stop,Act.put,zzC,zzD,zzE]
     have hZ6:=hZ5.later (below_new _ (.cells #[.bool q3.b,.slice q3.a q3.n q3.c] 43))
     clear hZ5
     have hZ7y:=hZ6.perm ((List.Perm.append_left _ List.perm_append_comm).trans (perm_mid _ _ _))
     go_wp2_with (refine stop_op rfl (fun K hK=>wp_app ei40 (.tmp 22) (.tmp 31) rfl (s:=si) rfl ⟨W1.heap.size,0,none⟩ 1 rfl hw_si (by rw [hn_si]; omega) hZ7y [.bool q3.b,.slice q3.a q3.n q3.c] rfl (cell_two _ (.bool q3.b) (.slice q3.a q3.n q3.c) _) (fun u hu=>by simp only [List.mem_cons,List.not_mem_nil,or_false] at hu; rcases hu with rfl | rfl <;> rfl) (fun o4 C4 X7 W2 hn_o4 hw_o4 ho_C4 hg_C4 hZ7x=>hK _ _ ?_)))
     simp only [Stop,Act.put,zzC,zzD,zzE]
     clear hZ7y
     rw [hn_si] at hn_o4 ho_C4 hg_C4
     have hZ7:=hZ7x.perm (List.Perm.symm ((List.Perm.append_left _ List.perm_append_comm).trans (perm_mid _ _ _)))
     clear hZ7x hZ6
     have hZ8s:Fl 2 (ENr (R i)) (j+1) C4 X7 W2:=Fl.snoc (C:=Ci) (hZ7.get 3 (f:=Fl 2 (ENr (R i)) j Ci) rfl) (cs:=[.bool q3.b,.slice q3.a q3.n q3.c]) rfl ho_C4 hg_C4 ⟨q3,ez_q3,(hZ7.get 0 (f:=q3.ir) rfl),rfl⟩
     have hZ8:=(hZ7.more (Fl.stb (ENr.stb _) _ _) hZ8s).only [Fl 2 (ENr (R i)) (j+1) C4,Fl 1 (ERr c R) i Co,Mi m c R rs] (by simp)
     clear hZ7 hZ8s
     go_wp2_with (refine stop_op rfl (fun K hK=>wp_addi (.tmp 20) (.const (.int .i64 1)) rfl rfl rfl (C:=((j+1:Nat):Int)) (by omega) (by omega) (by omega) (hK _ _ ?_)))
     simp only [Stop,Act.put,zzC,zzD,zzE]
     go_wp2
     go_roundw
     case rel=>exact ⟨j+1,o4,C4,_,by omega,by go_num,rfl,hn_o4,hw_o4,hZ8⟩
     case measure=>simp [intOf]; omega
    ·
     obtain rfl:j=c i:=by omega
     go_wp2_with (refine stop_op rfl (fun K hK=>wp_ixs 22 (.tmp 14) (.tmp 15) rs i 1 23 rfl rfl rfl (by kernel_rfl) sz23 (fun h=>((hZi.get 2 (f:=Mi m c R rs) rfl).sq.nil h).1) ((hZi.get 2 (f:=Mi m c R rs) rfl).n ▸ (by omega)) (hK _ _ ?_)))
     simp only [Stop,Act.put,zzC,zzD,zzE]
     go_wp2_with (refine stop_op rfl (fun K hK=>wp_ldim 23 (.tmp 16) rs i m c R rfl rfl (hZi.get 2 (f:=Mi m c R rs) rfl) (by omega) ag23 (fun s5 hi_s5=>hK _ _ ?_)))
     simp only [Stop,Act.put,zzC,zzD,zzE]
     have hZ9:=hZi.more (f:=Li (c i) (R i) s5) (Li.stb _ _ _) hi_s5
     clear hZi hi_s5
     go_wp2_with (refine stop_op rfl (fun K hK=>wp_lenq (.tmp 17) 23 2 s5 rfl (by kernel_rfl) rfl (hZ9.get 0 (f:=Li (c i) (R i) s5) rfl).n (hK _ _ ?_)))
     simp only [Stop,Act.put,zzC,zzD,zzE]
     go_wp2_with (refine stop_op rfl (fun K hK=>wp_lssi (.tmp 13) (.tmp 18) rfl rfl rfl (r:=false) (decide_eq_false (Int.lt_irrefl _)) (hK _ _ ?_)))
     simp only [Stop,Act.put,zzC,zzD,zzE]
     have hZ10r:=(hZ9.get 1 (f:=Fl 2 (ENr (R i)) (c i) Ci) rfl)
     obtain ⟨X11,hZ11⟩:=Zs.tellr (hZ9.perm ((List.Perm.append_left _ List.perm_append_comm).trans (perm_mid _ _ _))) hX hw_si hn_si hZ10r
     clear hZ9 hZ10r
     go_wp2_with (refine stop_op rfl (fun K hK=>wp_bs1 ei39 (.tmp 34) rfl rfl rfl (hK _ _ ?_)))
     simp only [Stop,Act.put,zzC,zzD,zzE]
     have hZ12:=hZ11.later (below_new _ (.cells #[si.v] 40))
     clear hZ11
     have hZ13y:=hZ12.perm List.perm_append_comm
     go_wp2_with (refine stop_op rfl (fun K hK=>wp_app ei39 (.tmp 33) (.tmp 35) rfl (s:=so) rfl ⟨wr.heap.size,0,none⟩ 1 rfl hw_so (by rw [hn_so]; omega) hZ13y [si.v] rfl (cell_one _ si.v _) (fun u hu=>by simp only [List.mem_cons,List.not_mem_nil,or_false] at hu; subst hu; rfl) (fun o6 C6 X13 W3 hn_o6 hw_o6 ho_C6 hg_C6 hZ13x=>hK _ _ ?_)))
     simp only [Stop,Act.put,zzC,zzD,zzE]
     clear hZ13y
     rw [hn_so] at hn_o6 ho_C6 hg_C6
     have hZ13:=hZ13x.perm List.perm_append_comm
     clear hZ13x hZ12
     have hZ14s:Fl 1 (ERr c R) (i+1) C6 X13 W3:=Fl.snoc (C:=Co) (hZ13.get 3 (f:=Fl 1 (ERr c R) i Co) rfl) (cs:=[si.v]) rfl ho_C6 hg_C6 ⟨si,(hZ13.get 0 (f:=Lr (c i) (R i) si) rfl),rfl⟩
     have hZ14:=(hZ13.more (Fl.stb (ERr.stb _ _) _ _) hZ14s).only [Fl 1 (ERr c R) (i+1) C6,Mi m c R rs] (by simp)
     clear hZ13 hZ14s
     go_wp2_with (refine stop_op rfl (fun K hK=>wp_addi (.tmp 11) (.const (.int .i64 1)) rfl rfl rfl (C:=((i+1:Nat):Int)) (by omega) (by omega) (by omega) (hK _ _ ?_)))
     simp only [Stop,Act.put,zzC,zzD,zzE]
     go_wp2
     go_roundw
     case rel=>exact ⟨i+1,o6,C6,_,by omega,by go_num,rfl,hn_o6,hw_o6,hZ14⟩
     case measure=>simp [intOf]; omega
  ·
   obtain rfl:i=m:=by omega
   go_wp2_with (refine stop_op rfl (fun K hK=>wp_lenq (.tmp 8) 22 23 rs rfl (by kernel_rfl) rfl (hZ.get 1 (f:=Mi i c R rs) rfl).n (hK _ _ ?_)))
   simp only [Stop,Act.put,zzC,zzD,zzE]
   go_wp2_with (refine stop_op rfl (fun K hK=>wp_lssi (.tmp 7) (.tmp 9) rfl rfl rfl (r:=false) (decide_eq_false (Int.lt_irrefl _)) (hK _ _ ?_)))
   simp only [Stop,Act.put,zzC,zzD,zzE]
   go_wp2
   go_ret
   exact ⟨so,rfl,⟨hn_so,hZ.sq hX (ERr.stb _ _) hw_so (T:=40) (fun p hp=>hp) (hn_so ▸ hZ.get 0 (f:=Fl 1 (ERr c R) i Co) rfl)⟩,hZ.below⟩
end Go.Proofs.YtjclllindbfmhaaGreatDoor
