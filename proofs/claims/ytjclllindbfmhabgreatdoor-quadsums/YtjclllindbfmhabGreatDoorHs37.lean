/- Parts of the proof. -/
import Derived.Test.YtjclllindbfmhabGreatDoorHs0
import Derived.Test.YtjclllindbfmhabGreatDoorHs29
import Derived.Test.YtjclllindbfmhabGreatDoorHs34
import Derived.Test.YtjclllindbfmhabGreatDoorHs26
import Derived.Test.YtjclllindbfmhabGreatDoorHs35
import Derived.Test.YtjclllindbfmhabGreatDoorHs31
set_option linter.unusedSimpArgs false
set_option linter.unusedVariables false
namespace Go.Proofs.YtjclllindbfmhabGreatDoor
/- The laws' helper mirror, walked. No statement of the seat is proved here. -/
open Go Go.RowKit
/-- Rows of int64 are handed back. -/
def PMI (X:Nat→Prop) (m:Nat) (c:Nat→Nat) (B:Nat→Nat→Int) (w:World) (e:Ending) (w':World):Prop:=∃ s:Sl,e=.returned s.v∧Mi m c B s X w'∧Below w.heap.size w w'
theorem fl_ei {n:Nat} {f g:Nat→Int} {C:Array Value} {X:Nat→Prop} {W:World} (h:Fl 1 (EI f) n C X W) (e:∀ i,i < n→f i=g i):Fl 1 (EI g) n C X W:=h.congr fun i cs hi hc=>by
 have h':cs=[.int .i64 (f i)]:=hc
 rw [e i hi] at h'
 exact h'
theorem row_at {C:Array Value} {r:Nat→Sl} {n i:Nat} (h:∀ j,j < n→C[j]?=some (r j).v) (hi:i < n):C[i*1+0]?=some (r i).v:=by rw [Nat.mul_one]; exact h i hi
theorem Rw.fcongr {m:Nat} {c:Nat→Nat} {r:Nat→Sl} {D:Nat→Array Value} {f g:Nat→Nat→Int} {X:Nat→Prop} {W:World} (h:Rw 1 (fun x=>EI (f x)) m c r D X W) (e:∀ x y,f x y=g x y):Rw 1 (fun x=>EI (g x)) m c r D X W:=fun i hi=>⟨(h i hi).1,(h i hi).2.1,fl_ei (h i hi).2.2 fun j _=>e i j⟩
/-- One number of one row is written. -/
theorem Rw.put1 {m:Nat} {n i j:Nat} {r:Nat→Sl} {D:Nat→Array Value} {f g:Nat→Nat→Int} {v:Int} {C:Array Value} {X:Nat→Prop} {W:World} (h:Rw 1 (fun x=>EI (f x)) m (fun _=>n) r D X W) (hi:i < m) (hw:Wr 1 (r i) C) (hg:∀ q,q < 1→C[j*1+q]?=[Value.int .i64 v][q]?) (ho:∀ q,(q < j*1∨j*1+1≤q)→C[q]?=(D i)[q]?) (hv:g i j=v) (he:∀ x y,¬ (x=i∧y=j)→g x y=f x y):Rw 1 (fun x=>EI (g x)) m (fun _=>n) r (upf D i C) X W:=fun x hx=>by
 by_cases e:x=i
 ·
  subst e
  rw [upf_self]
  refine ⟨(h x hx).1,hw,Fl.put (h x hx).2.2 (cs:=[.int .i64 v]) rfl hg ho (by show [Value.int .i64 v]=[.int .i64 (g x j)]; rw [hv]) fun q cs _ hne hc=>?_⟩
  have h':cs=[.int .i64 (f x q)]:=hc
  show cs=[.int .i64 (g x q)]
  rw [h',he x q (fun h=>hne h.2)]
 ·
  rw [upf_ne _ _ e]
  exact ⟨(h x hx).1,(h x hx).2.1,fl_ei (h x hx).2.2 fun q _=>(he x q (fun h=>e h.1)).symm⟩
theorem Mi.congr {m:Nat} {c c':Nat→Nat} {B B':Nat→Nat→Int} {s:Sl} {X:Nat→Prop} {W:World} (h:Mi m c B s X W) (ec:∀ i,i < m→c i=c' i) (e:∀ i j,i < m→j < c i→B i j=B' i j):Mi m c' B' s X W :=
 ⟨h.n,h.sq.congr fun i _ hi ⟨r,h1,h2⟩=>⟨r,⟨h1.n.trans (ec i (h.n ▸ hi)),h1.sq.congr fun j cs hj hc=>by
  have h':cs=[.int .i64 (B i j)]:=hc
  rw [e i j (h.n ▸ hi) (h1.n ▸ hj)] at h'
  exact h'⟩,h2⟩⟩
theorem snoc_cells {C C':Array Value} {r:Nat→Sl} {i:Nat} {s:Sl} (h:∀ j,j < i→C[j]?=some (r j).v) (ho:∀ j,j < i*1→C'[j]?=C[j]?) (hg:∀ j,j < 1→C'[i*1+j]?=[s.v][j]?):∀ j,j < i+1→C'[j]?=some (upf r i s j).v:=fun j hj=>by
 by_cases e:j=i
 ·
  subst e
  have:=hg 0 (by omega)
  rw [Nat.mul_one,Nat.add_zero] at this
  rw [this,upf_self]
  rfl
 ·
  rw [upf_ne _ _ e,ho j (by omega)]
  exact h j (by omega)
set_option maxRecDepth 100000 in
set_option maxHeartbeats 12800000 in
theorem uMirror {X0:Nat→Prop} {w:World} (hX:NX X0 w) (rs:Sl) (u n:Nat) {m:Nat} {c:Nat→Nat} {R:Nat→Nat→Int} (hr:Mi m c R rs X0 w) (hn:n≤100) (hnm:n≤m) (hmin:(((m:Nat):Int)≤((u:Nat):Int)∧((n:Nat):Int)=((m:Nat):Int))∨(((u:Nat):Int) < ((m:Nat):Int)∧((n:Nat):Int)=((u:Nat):Int))):Calls Tryz.prog 20 #[rs.v,.int .i64 ((u:Nat):Int)] w (PMI X0 n (fun _=>n) (mir c R) w):=by
 have hZ0:=zs_start hX
 have hZ1:=hZ0.more (f:=Mi m c R rs) (Mi.stb _ _ _ _) hr
 clear hZ0
 go_enter Tryz.func20,Tryz.ntmps20
 go_wp2_with (refine zso rfl (fun K hK=>wp_lenq (.tmp 10) 22 23 rs rfl (by kernel_rfl) rfl (hZ1.get 0 (f:=Mi m c R rs) rfl).n (hK _ _ ?_)))
 simp only [Stop,Act.put,zzC,zzD,zzE]
 go_wp2_with (refine zso rfl (fun K hK=>wp_mini (.tmp 11) (.tmp 12) 3 3 rfl rfl rfl (Cm:=((n:Nat):Int)) hmin (hK _ _ ?_)))
 simp only [Stop,Act.put,zzC,zzD,zzE]
 go_wp2
 go_loopw [6,7] (fun ov iv wr=>∃ (i:Nat) (so:Sl) (Co:Array Value) (r:Nat→Sl) (D:Nat→Array Value) (X:Nat→Prop),i≤n∧iv=.int .i64 ((i:Nat):Int)∧ov=so.v∧so.n=i∧Wr 1 so Co∧(∀ j,j < i→Co[j]?=some (r j).v)∧Zs w wr X0 X ([]++(owl so Co 23++rwl r D 2 i)) [Rw 1 (fun x=>EI ((fun _ _=>0) x)) i (fun _=>n) r D,Mi m c R rs]) (fun _ iv _=>n - (intOf iv).toNat)
 case atStart=>exact ⟨0,slz,#[],(fun _=>slz),(fun _=>#[]),_,by omega,rfl,rfl,rfl,wr_slz 1,fun j hj=>absurd hj (Nat.not_lt_zero j),by simpa [owl,slz,rwl] using (hZ1.more (f:=Rw 1 (fun x=>EI ((fun _ _=>0) x)) 0 (fun _=>n) (fun _=>slz) (fun _=>#[])) (Rw.stb (fun j=>EI.stb _) _ _ _ _) (rw_zero _ _ _ _ _ _ _))⟩
 case round =>
  clear hZ1
  obtain ⟨i,so,Co,r,D,X,hi,rfl,rfl,hn_so,hw_so,hC,hZ⟩:=hrel
  by_cases hlt:i < n
  ·
   go_wp2_with (refine zso rfl (fun K hK=>wp_lssi (.tmp 14) (.tmp 15) rfl rfl rfl (r:=true) (decide_eq_true (by omega)) (hK _ _ ?_)))
   simp only [Stop,Act.put,zzC,zzD,zzE]
   go_wp2_with (refine stopz_makez ei23 (.tmp 20) (.tmp 20) n rfl rfl rfl rfl (by omega) hZ (fun o1 C1 X2 W1 hn_o1 hw_o1 hc_o1 hZ2x=>?_))
   simp only [Stop,Act.put,zzC,zzD,zzE]
   clear hZ
   have hZ3:Zs w W1 X0 X2 ([]++(owl o1 C1 2++(owl so Co 23++rwl r D 2 i))) [Rw 1 (fun x=>EI ((fun _ _=>0) x)) i (fun _=>n) r D,Mi m c R rs]:=hZ2x.perm (perm_mid (owl o1 C1 2) [] (owl so Co 23++rwl r D 2 i))
   clear hZ2x
   have hZ4:=hZ3.more (f:=Fl 1 (EI (fun _=>0)) n C1) (Fl.stb (EI.stb _) _ _) (fl_zeros hc_o1)
   clear hZ3
   go_wp2_with (refine zso rfl (fun K hK=>wp_bs1 ei22 (.tmp 21) rfl rfl rfl (hK _ _ ?_)))
   simp only [Stop,Act.put,zzC,zzD,zzE]
   have hZ5:=hZ4.later (below_new _ (.cells #[o1.v] 23))
   clear hZ4
   have hZ6y:=hZ5.perm ((List.Perm.append_left _ (perm_mid _ _ _)).trans (perm_mid _ _ _))
   go_wp2_with (refine zso rfl (fun K hK=>wp_app ei22 (.tmp 19) (.tmp 22) rfl (s:=so) rfl ⟨W1.heap.size,0,none⟩ 1 rfl hw_so (by rw [hn_so]; omega) hZ6y [o1.v] rfl (cell_one _ o1.v _) (fun u hu=>by simp only [List.mem_cons,List.not_mem_nil,or_false] at hu; subst hu; rfl) (fun o2 C2 X6 W2 hn_o2 hw_o2 ho_C2 hg_C2 hZ6x=>hK _ _ ?_)))
   simp only [Stop,Act.put,zzC,zzD,zzE]
   clear hZ6y
   rw [hn_so] at hn_o2 ho_C2 hg_C2
   have hZ6:=hZ6x.perm (List.Perm.symm ((List.Perm.append_left _ (perm_mid _ _ _)).trans (perm_mid _ _ _)))
   clear hZ6x hZ5
   have hZ7c:∀ j,j < i+1→C2[j]?=some (upf r i o1 j).v:=snoc_cells hC ho_C2 hg_C2
   have hZ7r:=Rw.snoc (E:=fun x=>EI ((fun _ _=>0) x)) (hZ6.get 1 (f:=Rw 1 (fun x=>EI ((fun _ _=>0) x)) i (fun _=>n) r D) rfl) hn_o1 rfl hw_o1 (hZ6.get 0 (f:=Fl 1 (EI (fun _=>0)) n C1) rfl)
   have hZ7z:Zs w W2 X0 X6 ([]++(owl o2 C2 23++rwl (upf r i o1) (upf D i C1) 2 (i+1))) [Rw 1 (fun x=>EI ((fun _ _=>0) x)) (i+1) (fun _=>n) (upf r i o1) (upf D i C1),Mi m c R rs]:=by
    rw [rwl_snoc]
    have h:=(hZ6.more (f:=Rw 1 (fun x=>EI ((fun _ _=>0) x)) (i+1) (fun _=>n) (upf r i o1) (upf D i C1)) (Rw.stb (fun j=>EI.stb _) _ _ _ _) hZ7r).only [Rw 1 (fun x=>EI ((fun _ _=>0) x)) (i+1) (fun _=>n) (upf r i o1) (upf D i C1),Mi m c R rs] (by simp)
    exact h.perm (by
     classical
     refine List.perm_iff_count.2 fun x=>?_
     simp only [List.count_append,List.count_nil]
     omega)
   clear hZ6
   go_wp2_with (refine zso rfl (fun K hK=>wp_addi (.tmp 17) (.const (.int .i64 1)) rfl rfl rfl (C:=((i+1:Nat):Int)) (by omega) (by omega) (by omega) (hK _ _ ?_)))
   simp only [Stop,Act.put,zzC,zzD,zzE]
   go_wp2
   go_roundw
   case rel=>exact ⟨i+1,o2,C2,upf r i o1,upf D i C1,_,by omega,by go_num,rfl,hn_o2,hw_o2,hZ7c,hZ7z⟩
   case measure=>simp [intOf]; omega
  ·
   obtain rfl:n=i:=by omega
   go_wp2_with (refine zso rfl (fun K hK=>wp_lssi (.tmp 14) (.tmp 15) rfl rfl rfl (r:=false) (decide_eq_false (Int.lt_irrefl _)) (hK _ _ ?_)))
   simp only [Stop,Act.put,zzC,zzD,zzE]
   go_wp2
   have HC:=Lib.hid hC
   clear hC
   obtain ⟨wo,rfl⟩:∃ wo:World,wo=wr:=⟨_,rfl⟩
   have hZ8:=(hZ.more (f:=Rw 1 (fun x=>EI ((mirA 0 0 c R) x)) n (fun _=>n) r D) (Rw.stb (fun j=>EI.stb _) _ _ _ _) (Rw.fcongr (hZ.get 0 (f:=Rw 1 (fun x=>EI ((fun _ _=>0) x)) n (fun _=>n) r D) rfl) (fun x y=>(mirA_0 x y).symm))).only [Rw 1 (fun x=>EI ((mirA 0 0 c R) x)) n (fun _=>n) r D,Mi m c R rs] (by simp)
   clear hZ
   go_wp2
   go_loopw [8] (fun iv wr=>∃ i:Nat,i≤n∧iv=.int .i64 ((i:Nat):Int)∧∃ (D:Nat→Array Value) (X:Nat→Prop),Zs w wr X0 X ([]++(owl so Co 23++rwl r D 2 n)) [Rw 1 (fun x=>EI ((mirA i 0 c R) x)) n (fun _=>n) r D,Mi m c R rs]) (fun iv _=>n - (intOf iv).toNat)
   case atStart=>exact ⟨0,by omega,rfl,D,_,hZ8⟩
   case round =>
    clear hZ8
    obtain ⟨i,hi2,rfl,Dk2,X2,hZ2⟩:=hrel
    by_cases hlt2:i < n
    ·
     go_wp2_with (refine zso rfl (fun K hK=>wp_lssi (.tmp 24) (.tmp 25) rfl rfl rfl (r:=true) (decide_eq_true (by omega)) (hK _ _ ?_)))
     simp only [Stop,Act.put,zzC,zzD,zzE]
     go_wp2
     obtain ⟨wo,rfl⟩:∃ wo:World,wo=wr:=⟨_,rfl⟩
     go_wp2
     go_loopw [9] (fun kv wr=>∃ k:Nat,k≤i+1∧kv=.int .i64 ((k:Nat):Int)∧∃ (D:Nat→Array Value) (X:Nat→Prop),Zs w wr X0 X ([]++(owl so Co 23++rwl r D 2 n)) [Rw 1 (fun x=>EI ((mirA i k c R) x)) n (fun _=>n) r D,Mi m c R rs]) (fun kv _=>i+1 - (intOf kv).toNat)
     case atStart=>exact ⟨0,by omega,rfl,Dk2,_,hZ2⟩
     case round =>
      clear hZ2
      obtain ⟨k,hk,rfl,Dk3,X3,hZ3⟩:=hrel
      by_cases hki:k≤i
      ·
       by_cases hkc:k < c i
       ·
        go_wp2_with (refine zso rfl (fun K hK=>wp_leqi (.tmp 29) (.tmp 30) rfl rfl rfl (r:=true) (decide_eq_true (by omega)) (hK _ _ ?_)))
        simp only [Stop,Act.put,zzC,zzD,zzE]
        go_wp2_with (refine zsw (by kernel_rfl) (fun K hK=>wp_ixs 22 (.tmp 34) (.tmp 35) rs i 1 23 rfl rfl rfl (by kernel_rfl) sz23 (fun h=>((hZ3.get 1 (f:=Mi m c R rs) rfl).sq.nil h).1) ((hZ3.get 1 (f:=Mi m c R rs) rfl).n ▸ (by omega)) (hK _ _ ?_)))
        simp only [Stop,Act.put,zzC,zzD,zzE]
        go_wp2_with (refine zsw (by kernel_rfl) (fun K hK=>wp_ldim 23 (.tmp 36) rs i m c R rfl rfl (hZ3.get 1 (f:=Mi m c R rs) rfl) (by omega) ag23 (fun s3 hi_s3=>hK _ _ ?_)))
        simp only [Stop,Act.put,zzC,zzD,zzE]
        have hZ9:=hZ3.more (f:=Li (c i) (R i) s3) (Li.stb _ _ _) hi_s3
        clear hZ3 hi_s3
        go_wp2_with (refine zsw (by kernel_rfl) (fun K hK=>wp_lenq (.tmp 37) 23 2 s3 rfl (by kernel_rfl) rfl (hZ9.get 0 (f:=Li (c i) (R i) s3) rfl).n (hK _ _ ?_)))
        simp only [Stop,Act.put,zzC,zzD,zzE]
        go_wp2_with (refine zsw (by kernel_rfl) (fun K hK=>wp_lssi (.tmp 33) (.tmp 38) rfl rfl rfl (r:=true) (decide_eq_true (by omega)) (hK _ _ ?_)))
        simp only [Stop,Act.put,zzC,zzD,zzE]
        have hZ10:=hZ9.only [Rw 1 (fun x=>EI ((mirA i k c R) x)) n (fun _=>n) r Dk3,Mi m c R rs] (by simp)
        clear hZ9
        obtain ⟨ra,hra⟩:∃ s:Sl,s=r i:=⟨_,rfl⟩
        obtain ⟨Ca,hCa⟩:∃ s:Array Value,s=Dk3 i:=⟨_,rfl⟩
        have hqa:=(hZ10.get 0 (f:=Rw 1 (fun x=>EI ((mirA i k c R) x)) n (fun _=>n) r Dk3) rfl) i (by omega)
        have hn_ra:ra.n=n:=by rw [hra]; exact hqa.1
        have hw_ra:Wr 1 ra Ca:=by rw [hra,hCa]; exact hqa.2.1
        clear hqa
        have hpa:Co[i*1+0]?=some ra.v:=by rw [hra]; exact row_at HC.out (by omega)
        have HRa:=Lib.hid hra
        have HKa:=Lib.hid hCa
        clear hra hCa
        have hZ11:Zs w wr X0 X3 ([]++(owl so Co 23++(owl ra Ca 2++rwx r Dk3 2 i n))) [Rw 1 (fun x=>EI ((mirA i k c R) x)) n (fun _=>n) r Dk3,Mi m c R rs]:=by
         rw [HRa.out,HKa.out]
         exact hZ10.perm (List.Perm.append_left [] (List.Perm.append_left _ (rwl_front (show i < n by omega))))
        clear hZ10
        go_wp2
        obtain ⟨XR13,hZ12⟩:∃ Xr,Zs w wr X0 Xr ([]++(owl so Co 23++(owl ra Ca 2++rwx r Dk3 2 i n))) [Rw 1 (fun x=>EI ((mirA i k c R) x)) n (fun _=>n) r Dk3,Mi m c R rs]:=⟨_,hZ11⟩
        clear hZ11
        refine zrp 12 [some 43,some 44,some 45,some 46,some 47,some 48,some 49,some 50,some 51,some 52,some 53,some 54] [veq (so.v),veq (.int .i64 (((i:Nat):Int))),veq ((so.at 1 i)),veq (ra.v),veq (.int .i64 (((k:Nat):Int))),veq (rs.v),veq (.int .i64 (((i:Nat):Int))),veq ((rs.at 1 i)),vli (c i) (R i),veq (.int .i64 (((k:Nat):Int))),vati (c i) (R i) k,veq (.int .i64 (R i k))] (by kernel_rfl) (by kernel_rfl) (by rfl) (by decide) (by rfl) hZ12 ?_ ?_
        ·
         intro iq hlq hiq LL uu ww aa hLi hLc hJ hd hall hev hin hold
         clear hZ12
         obtain rfl | rfl | rfl | rfl | rfl | rfl | rfl | rfl | rfl | rfl | rfl | rfl:iq=0∨iq=1∨iq=2∨iq=3∨iq=4∨iq=5∨iq=6∨iq=7∨iq=8∨iq=9∨iq=10∨iq=11:=by omega
         ·
          exact oz rfl (fun _ hK=>wp_move (.tmp 6) rfl (zet ((hev 6 (by decide)).trans rfl)) (hK _ _ hJ rfl vsm))
         ·
          exact oz rfl (fun _ hK=>wp_move (.tmp 8) rfl (zet ((hev 8 (by decide)).trans rfl)) (hK _ _ hJ rfl vsm))
         ·
          exact oz rfl (fun _ hK=>wp_ixs 22 (.tmp 43) (.tmp 44) so i 1 23 rfl (zj (hin 0 43 rfl) (show uu 0=so.v from (hd 0 (by kernel_rfl)))) (zj (hin 1 44 rfl) (show uu 1=.int .i64 (((i:Nat):Int)) from (hd 1 (by kernel_rfl)))) (by kernel_rfl) sz23 hw_so.nil (by rw [hn_so]; omega) (hK _ _ hJ rfl vsm))
         ·
          exact oz rfl (fun _ hK=>wp_ldown 23 23 (.tmp 45) so i Co rfl (zj (hin 2 45 rfl) (show uu 2=(so.at 1 i) from (hd 2 (by kernel_rfl)))) hw_so (hJ.perm (perm_mid _ _ _)) (by rw [hn_so]; omega) hpa ag23 (hK _ _ hJ rfl vsm))
         ·
          exact oz rfl (fun _ hK=>wp_move (.tmp 9) rfl (zet ((hev 9 (by decide)).trans rfl)) (hK _ _ hJ rfl vsm))
         ·
          exact oz rfl (fun _ hK=>wp_move (.tmp 0) rfl (zet ((hev 0 (by decide)).trans rfl)) (hK _ _ hJ rfl vsm))
         ·
          exact oz rfl (fun _ hK=>wp_move (.tmp 8) rfl (zet ((hev 8 (by decide)).trans rfl)) (hK _ _ hJ rfl vsm))
         ·
          exact oz rfl (fun _ hK=>wp_ixs 22 (.tmp 48) (.tmp 49) rs i 1 23 rfl (zj (hin 5 48 rfl) (show uu 5=rs.v from (hd 5 (by kernel_rfl)))) (zj (hin 6 49 rfl) (show uu 6=.int .i64 (((i:Nat):Int)) from (hd 6 (by kernel_rfl)))) (by kernel_rfl) sz23 (fun h=>((hJ.get 1 (f:=Mi m c R rs) rfl).sq.nil h).1) ((hJ.get 1 (f:=Mi m c R rs) rfl).n ▸ (by omega)) (hK _ _ hJ rfl vsm))
         ·
          exact oz rfl (fun _ hK=>wp_ldim 23 (.tmp 50) rs i m c R rfl (zj (hin 7 50 rfl) (show uu 7=(rs.at 1 i) from (hd 7 (by kernel_rfl)))) (hJ.get 1 (f:=Mi m c R rs) rfl) (by omega) ag23 (fun s4 hi_s4=>hK _ _ hJ ⟨s4,rfl,hi_s4⟩ vsm))
         ·
          exact oz rfl (fun _ hK=>wp_move (.tmp 9) rfl (zet ((hev 9 (by decide)).trans rfl)) (hK _ _ hJ rfl vsm))
         ·
          obtain ⟨s4,e8,hi_s4⟩:=(show (vli (c i) (R i)) (uu 8) XR13 ww from (hd 8 (by kernel_rfl)))
          replace hJ:=hJ.more (f:=Li (c i) (R i) s4) (Li.stb _ _ _) hi_s4
          exact oz rfl (fun _ hK=>wp_ixs 23 (.tmp 51) (.tmp 52) s4 k 1 2 rfl (zj (hin 8 51 rfl) e8) (zj (hin 9 52 rfl) (show uu 9=.int .i64 (((k:Nat):Int)) from (hd 9 (by kernel_rfl)))) (by kernel_rfl) sz2 (fun h=>((hJ.get 0 (f:=Li (c i) (R i) s4) rfl).sq.nil h).1) ((hJ.get 0 (f:=Li (c i) (R i) s4) rfl).n ▸ (by omega)) (hK _ _ (hJ.only [Rw 1 (fun x=>EI ((mirA i k c R) x)) n (fun _=>n) r Dk3,Mi m c R rs] (by simp)) ⟨s4,rfl,hi_s4⟩ vsm))
         ·
          obtain ⟨s4,e10,hi_s4⟩:=(show (vati (c i) (R i) k) (uu 10) XR13 ww from (hd 10 (by kernel_rfl)))
          replace hJ:=hJ.more (f:=Li (c i) (R i) s4) (Li.stb _ _ _) hi_s4
          exact oz rfl (fun _ hK=>wp_ldi 2 (.tmp 53) s4 k (c i) (R i) rfl (zj (hin 10 53 rfl) e10) (hJ.get 0 (f:=Li (c i) (R i) s4) rfl) (by omega) ag2 (hK _ _ (hJ.only [Rw 1 (fun x=>EI ((mirA i k c R) x)) n (fun _=>n) r Dk3,Mi m c R rs] (by simp)) rfl vsm))
        clear hZ12
        intro uu W3 hZ13 hd
        have e_0:uu 0=so.v:=hd 0 (by decide)
        have e_1:uu 1=.int .i64 (((i:Nat):Int)):=hd 1 (by decide)
        have e_2:uu 2=(so.at 1 i):=hd 2 (by decide)
        have e_3:uu 3=ra.v:=hd 3 (by decide)
        have e_4:uu 4=.int .i64 (((k:Nat):Int)):=hd 4 (by decide)
        have e_5:uu 5=rs.v:=hd 5 (by decide)
        have e_6:uu 6=.int .i64 (((i:Nat):Int)):=hd 6 (by decide)
        have e_7:uu 7=(rs.at 1 i):=hd 7 (by decide)
        obtain ⟨s4,e_8,hi_s4⟩:=(show (vli (c i) (R i)) (uu 8) XR13 W3 from hd 8 (by decide))
        have e_9:uu 9=.int .i64 (((k:Nat):Int)):=hd 9 (by decide)
        obtain ⟨s4_10,e_10,hi_s4_10⟩:=(show (vati (c i) (R i) k) (uu 10) XR13 W3 from hd 10 (by decide))
        have e_11:uu 11=.int .i64 (R i k):=hd 11 (by decide)
        clear hd
        simp only [layS,Act.put,zzC,zzD,zzE,Nat.zero_add,Nat.reduceAdd,List.drop_succ_cons,List.drop_zero,List.drop_nil,e_0,e_1,e_2,e_3,e_4,e_5,e_6,e_7,e_8,e_9,e_10,e_11]
        clear e_0 e_1 e_2 e_3 e_4 e_5 e_6 e_7 e_8 e_9 e_10 e_11
        have hZ14:=hZ13.more (f:=Li (c i) (R i) s4) (Li.stb _ _ _) hi_s4
        clear hZ13 hi_s4
        have hZ15:=hZ14.more (f:=Li (c i) (R i) s4_10) (Li.stb _ _ _) hi_s4_10
        clear hZ14 hi_s4_10
        go_wp2_with (refine zso rfl (fun K hK=>wp_ixs 23 (.tmp 46) (.tmp 47) ra k 1 2 rfl rfl rfl (by kernel_rfl) sz2 hw_ra.nil (by rw [hn_ra]; omega) (hK _ _ ?_)))
        simp only [Stop,Act.put,zzC,zzD,zzE]
        have hZ16y:=hZ15.perm ((List.Perm.append_left _ (perm_mid _ _ _)).trans (perm_mid _ _ _))
        go_wp2_with (refine stopz_put 2 (.tmp 55) (.tmp 54) ra Ca k [.int .i64 (R i k)] rfl rfl rfl rfl sz2 rfl (by kernel_rfl) hw_ra (by rw [hn_ra]; omega) hZ16y (fun C5 W4 hw_ran hg_C5 ho_C5 hZ16x=>?_))
        clear hZ16y hw_ra
        have hw_ra:=hw_ran
        clear hw_ran
        have hZ16:=hZ16x.perm (List.Perm.symm ((List.Perm.append_left _ (perm_mid _ _ _)).trans (perm_mid _ _ _)))
        clear hZ16x hZ15
        simp only [Stop,Act.put,zzC,zzD,zzE]
        have hZ17r:Rw 1 (fun x=>EI ((fun x y=>if x=i∧y=k then R i k else mirA i k c R x y) x)) n (fun _=>n) r (upf Dk3 i C5) XR13 W4:=Rw.put1 (f:=(mirA i k c R)) (g:=(fun x y=>if x=i∧y=k then R i k else mirA i k c R x y)) (hZ16.get 2 (f:=Rw 1 (fun x=>EI ((mirA i k c R) x)) n (fun _=>n) r Dk3) rfl) (by omega) (by rw [← HRa.out]; exact hw_ra) hg_C5 (by rw [← HKa.out]; exact ho_C5) (if_pos ⟨rfl,rfl⟩) (fun x y hn=>if_neg hn)
        have hZ17:Zs w W4 X0 XR13 ([]++(owl so Co 23++rwl r (upf Dk3 i C5) 2 n)) [Rw 1 (fun x=>EI ((fun x y=>if x=i∧y=k then R i k else mirA i k c R x y) x)) n (fun _=>n) r (upf Dk3 i C5),Mi m c R rs]:=by
         have h:=(hZ16.more (f:=Rw 1 (fun x=>EI ((fun x y=>if x=i∧y=k then R i k else mirA i k c R x y) x)) n (fun _=>n) r (upf Dk3 i C5)) (Rw.stb (fun j=>EI.stb _) _ _ _ _) hZ17r).only [Rw 1 (fun x=>EI ((fun x y=>if x=i∧y=k then R i k else mirA i k c R x y) x)) n (fun _=>n) r (upf Dk3 i C5),Mi m c R rs] (by simp)
         rw [HRa.out] at h
         exact h.perm (List.Perm.append_left [] (List.Perm.append_left _ (rwl_back (show i < n by omega) C5)))
        clear hZ16 hZ17r
        obtain ⟨rb,hrb⟩:∃ s:Sl,s=r k:=⟨_,rfl⟩
        obtain ⟨Cb,hCb⟩:∃ s:Array Value,s=(upf Dk3 i C5) k:=⟨_,rfl⟩
        have hqb:=(hZ17.get 0 (f:=Rw 1 (fun x=>EI ((fun x y=>if x=i∧y=k then R i k else mirA i k c R x y) x)) n (fun _=>n) r (upf Dk3 i C5)) rfl) k (by omega)
        have hn_rb:rb.n=n:=by rw [hrb]; exact hqb.1
        have hw_rb:Wr 1 rb Cb:=by rw [hrb,hCb]; exact hqb.2.1
        clear hqb
        have hpb:Co[k*1+0]?=some rb.v:=by rw [hrb]; exact row_at HC.out (by omega)
        have HRb:=Lib.hid hrb
        have HKb:=Lib.hid hCb
        clear hrb hCb
        have hZ18:Zs w W4 X0 XR13 ([]++(owl so Co 23++(owl rb Cb 2++rwx r (upf Dk3 i C5) 2 k n))) [Rw 1 (fun x=>EI ((fun x y=>if x=i∧y=k then R i k else mirA i k c R x y) x)) n (fun _=>n) r (upf Dk3 i C5),Mi m c R rs]:=by
         rw [HRb.out,HKb.out]
         exact hZ17.perm (List.Perm.append_left [] (List.Perm.append_left _ (rwl_front (show k < n by omega))))
        clear hZ17
        go_wp2
        obtain ⟨XR14,hZ19⟩:∃ Xr,Zs w W4 X0 Xr ([]++(owl so Co 23++(owl rb Cb 2++rwx r (upf Dk3 i C5) 2 k n))) [Rw 1 (fun x=>EI ((fun x y=>if x=i∧y=k then R i k else mirA i k c R x y) x)) n (fun _=>n) r (upf Dk3 i C5),Mi m c R rs]:=⟨_,hZ18⟩
        clear hZ18
        refine zrp 12 [some 56,some 57,some 58,some 59,some 60,some 61,some 62,some 63,some 64,some 65,some 66,some 67] [veq (so.v),veq (.int .i64 (((k:Nat):Int))),veq ((so.at 1 k)),veq (rb.v),veq (.int .i64 (((i:Nat):Int))),veq (rs.v),veq (.int .i64 (((i:Nat):Int))),veq ((rs.at 1 i)),vli (c i) (R i),veq (.int .i64 (((k:Nat):Int))),vati (c i) (R i) k,veq (.int .i64 (R i k))] (by kernel_rfl) (by kernel_rfl) (by rfl) (by decide) (by rfl) hZ19 ?_ ?_
        ·
         intro iq hlq hiq LL uu ww aa hLi hLc hJ hd hall hev hin hold
         clear hZ19
         obtain rfl | rfl | rfl | rfl | rfl | rfl | rfl | rfl | rfl | rfl | rfl | rfl:iq=0∨iq=1∨iq=2∨iq=3∨iq=4∨iq=5∨iq=6∨iq=7∨iq=8∨iq=9∨iq=10∨iq=11:=by omega
         ·
          exact oz rfl (fun _ hK=>wp_move (.tmp 6) rfl (zet ((hev 6 (by decide)).trans rfl)) (hK _ _ hJ rfl vsm))
         ·
          exact oz rfl (fun _ hK=>wp_move (.tmp 9) rfl (zet ((hev 9 (by decide)).trans rfl)) (hK _ _ hJ rfl vsm))
         ·
          exact oz rfl (fun _ hK=>wp_ixs 22 (.tmp 56) (.tmp 57) so k 1 23 rfl (zj (hin 0 56 rfl) (show uu 0=so.v from (hd 0 (by kernel_rfl)))) (zj (hin 1 57 rfl) (show uu 1=.int .i64 (((k:Nat):Int)) from (hd 1 (by kernel_rfl)))) (by kernel_rfl) sz23 hw_so.nil (by rw [hn_so]; omega) (hK _ _ hJ rfl vsm))
         ·
          exact oz rfl (fun _ hK=>wp_ldown 23 23 (.tmp 58) so k Co rfl (zj (hin 2 58 rfl) (show uu 2=(so.at 1 k) from (hd 2 (by kernel_rfl)))) hw_so (hJ.perm (perm_mid _ _ _)) (by rw [hn_so]; omega) hpb ag23 (hK _ _ hJ rfl vsm))
         ·
          exact oz rfl (fun _ hK=>wp_move (.tmp 8) rfl (zet ((hev 8 (by decide)).trans rfl)) (hK _ _ hJ rfl vsm))
         ·
          exact oz rfl (fun _ hK=>wp_move (.tmp 0) rfl (zet ((hev 0 (by decide)).trans rfl)) (hK _ _ hJ rfl vsm))
         ·
          exact oz rfl (fun _ hK=>wp_move (.tmp 8) rfl (zet ((hev 8 (by decide)).trans rfl)) (hK _ _ hJ rfl vsm))
         ·
          exact oz rfl (fun _ hK=>wp_ixs 22 (.tmp 61) (.tmp 62) rs i 1 23 rfl (zj (hin 5 61 rfl) (show uu 5=rs.v from (hd 5 (by kernel_rfl)))) (zj (hin 6 62 rfl) (show uu 6=.int .i64 (((i:Nat):Int)) from (hd 6 (by kernel_rfl)))) (by kernel_rfl) sz23 (fun h=>((hJ.get 1 (f:=Mi m c R rs) rfl).sq.nil h).1) ((hJ.get 1 (f:=Mi m c R rs) rfl).n ▸ (by omega)) (hK _ _ hJ rfl vsm))
         ·
          exact oz rfl (fun _ hK=>wp_ldim 23 (.tmp 63) rs i m c R rfl (zj (hin 7 63 rfl) (show uu 7=(rs.at 1 i) from (hd 7 (by kernel_rfl)))) (hJ.get 1 (f:=Mi m c R rs) rfl) (by omega) ag23 (fun s6 hi_s6=>hK _ _ hJ ⟨s6,rfl,hi_s6⟩ vsm))
         ·
          exact oz rfl (fun _ hK=>wp_move (.tmp 9) rfl (zet ((hev 9 (by decide)).trans rfl)) (hK _ _ hJ rfl vsm))
         ·
          obtain ⟨s6,e8,hi_s6⟩:=(show (vli (c i) (R i)) (uu 8) XR14 ww from (hd 8 (by kernel_rfl)))
          replace hJ:=hJ.more (f:=Li (c i) (R i) s6) (Li.stb _ _ _) hi_s6
          exact oz rfl (fun _ hK=>wp_ixs 23 (.tmp 64) (.tmp 65) s6 k 1 2 rfl (zj (hin 8 64 rfl) e8) (zj (hin 9 65 rfl) (show uu 9=.int .i64 (((k:Nat):Int)) from (hd 9 (by kernel_rfl)))) (by kernel_rfl) sz2 (fun h=>((hJ.get 0 (f:=Li (c i) (R i) s6) rfl).sq.nil h).1) ((hJ.get 0 (f:=Li (c i) (R i) s6) rfl).n ▸ (by omega)) (hK _ _ (hJ.only [Rw 1 (fun x=>EI ((fun x y=>if x=i∧y=k then R i k else mirA i k c R x y) x)) n (fun _=>n) r (upf Dk3 i C5),Mi m c R rs] (by simp)) ⟨s6,rfl,hi_s6⟩ vsm))
         ·
          obtain ⟨s6,e10,hi_s6⟩:=(show (vati (c i) (R i) k) (uu 10) XR14 ww from (hd 10 (by kernel_rfl)))
          replace hJ:=hJ.more (f:=Li (c i) (R i) s6) (Li.stb _ _ _) hi_s6
          exact oz rfl (fun _ hK=>wp_ldi 2 (.tmp 66) s6 k (c i) (R i) rfl (zj (hin 10 66 rfl) e10) (hJ.get 0 (f:=Li (c i) (R i) s6) rfl) (by omega) ag2 (hK _ _ (hJ.only [Rw 1 (fun x=>EI ((fun x y=>if x=i∧y=k then R i k else mirA i k c R x y) x)) n (fun _=>n) r (upf Dk3 i C5),Mi m c R rs] (by simp)) rfl vsm))
        clear hZ19
        intro uu W5 hZ20 hd
        have e_0:uu 0=so.v:=hd 0 (by decide)
        have e_1:uu 1=.int .i64 (((k:Nat):Int)):=hd 1 (by decide)
        have e_2:uu 2=(so.at 1 k):=hd 2 (by decide)
        have e_3:uu 3=rb.v:=hd 3 (by decide)
        have e_4:uu 4=.int .i64 (((i:Nat):Int)):=hd 4 (by decide)
        have e_5:uu 5=rs.v:=hd 5 (by decide)
        have e_6:uu 6=.int .i64 (((i:Nat):Int)):=hd 6 (by decide)
        have e_7:uu 7=(rs.at 1 i):=hd 7 (by decide)
        obtain ⟨s6,e_8,hi_s6⟩:=(show (vli (c i) (R i)) (uu 8) XR14 W5 from hd 8 (by decide))
        have e_9:uu 9=.int .i64 (((k:Nat):Int)):=hd 9 (by decide)
        obtain ⟨s6_10,e_10,hi_s6_10⟩:=(show (vati (c i) (R i) k) (uu 10) XR14 W5 from hd 10 (by decide))
        have e_11:uu 11=.int .i64 (R i k):=hd 11 (by decide)
        clear hd
        simp only [layS,Act.put,zzC,zzD,zzE,Nat.zero_add,Nat.reduceAdd,List.drop_succ_cons,List.drop_zero,List.drop_nil,e_0,e_1,e_2,e_3,e_4,e_5,e_6,e_7,e_8,e_9,e_10,e_11]
        clear e_0 e_1 e_2 e_3 e_4 e_5 e_6 e_7 e_8 e_9 e_10 e_11
        have hZ21:=hZ20.more (f:=Li (c i) (R i) s6) (Li.stb _ _ _) hi_s6
        clear hZ20 hi_s6
        have hZ22:=hZ21.more (f:=Li (c i) (R i) s6_10) (Li.stb _ _ _) hi_s6_10
        clear hZ21 hi_s6_10
        go_wp2_with (refine zso rfl (fun K hK=>wp_ixs 23 (.tmp 59) (.tmp 60) rb i 1 2 rfl rfl rfl (by kernel_rfl) sz2 hw_rb.nil (by rw [hn_rb]; omega) (hK _ _ ?_)))
        simp only [Stop,Act.put,zzC,zzD,zzE]
        have hZ23y:=hZ22.perm ((List.Perm.append_left _ (perm_mid _ _ _)).trans (perm_mid _ _ _))
        go_wp2_with (refine stopz_put 2 (.tmp 68) (.tmp 67) rb Cb i [.int .i64 (R i k)] rfl rfl rfl rfl sz2 rfl (by kernel_rfl) hw_rb (by rw [hn_rb]; omega) hZ23y (fun C7 W6 hw_rbn hg_C7 ho_C7 hZ23x=>?_))
        clear hZ23y hw_rb
        have hw_rb:=hw_rbn
        clear hw_rbn
        have hZ23:=hZ23x.perm (List.Perm.symm ((List.Perm.append_left _ (perm_mid _ _ _)).trans (perm_mid _ _ _)))
        clear hZ23x hZ22
        simp only [Stop,Act.put,zzC,zzD,zzE]
        have hZ24r:Rw 1 (fun x=>EI ((mirA i (k+1) c R) x)) n (fun _=>n) r (upf (upf Dk3 i C5) k C7) XR14 W6:=Rw.put1 (f:=(fun x y=>if x=i∧y=k then R i k else mirA i k c R x y)) (g:=(mirA i (k+1) c R)) (hZ23.get 2 (f:=Rw 1 (fun x=>EI ((fun x y=>if x=i∧y=k then R i k else mirA i k c R x y) x)) n (fun _=>n) r (upf Dk3 i C5)) rfl) (by omega) (by rw [← HRb.out]; exact hw_rb) hg_C7 (by rw [← HKb.out]; exact ho_C7) (mirA_at2 hki hkc) (fun x y hn=>by
         by_cases e:x=i∧y=k
         ·
          rw [e.1,e.2,mirA_at1 hki hkc]
          exact (if_pos ⟨rfl,rfl⟩).symm
         ·
          rw [mirA_ne e hn]
          exact (if_neg e).symm)
        have hZ24:Zs w W6 X0 XR14 ([]++(owl so Co 23++rwl r (upf (upf Dk3 i C5) k C7) 2 n)) [Rw 1 (fun x=>EI ((mirA i (k+1) c R) x)) n (fun _=>n) r (upf (upf Dk3 i C5) k C7),Mi m c R rs]:=by
         have h:=(hZ23.more (f:=Rw 1 (fun x=>EI ((mirA i (k+1) c R) x)) n (fun _=>n) r (upf (upf Dk3 i C5) k C7)) (Rw.stb (fun j=>EI.stb _) _ _ _ _) hZ24r).only [Rw 1 (fun x=>EI ((mirA i (k+1) c R) x)) n (fun _=>n) r (upf (upf Dk3 i C5) k C7),Mi m c R rs] (by simp)
         rw [HRb.out] at h
         exact h.perm (List.Perm.append_left [] (List.Perm.append_left _ (rwl_back (show k < n by omega) C7)))
        clear hZ23 hZ24r
        go_wp2_with (refine zso rfl (fun K hK=>wp_addi (.tmp 41) (.const (.int .i64 1)) rfl rfl rfl (C:=((k+1:Nat):Int)) (by omega) (by omega) (by omega) (hK _ _ ?_)))
        simp only [Stop,Act.put,zzC,zzD,zzE]
        go_wp2
        go_roundw
        case rel=>exact ⟨k+1,by omega,by go_num,(upf (upf Dk3 i C5) k C7),_,hZ24⟩
        case measure=>simp [intOf]; omega
       ·
        go_wp2_with (refine zso rfl (fun K hK=>wp_leqi (.tmp 29) (.tmp 30) rfl rfl rfl (r:=true) (decide_eq_true (by omega)) (hK _ _ ?_)))
        simp only [Stop,Act.put,zzC,zzD,zzE]
        go_wp2_with (refine zsw (by kernel_rfl) (fun K hK=>wp_ixs 22 (.tmp 34) (.tmp 35) rs i 1 23 rfl rfl rfl (by kernel_rfl) sz23 (fun h=>((hZ3.get 1 (f:=Mi m c R rs) rfl).sq.nil h).1) ((hZ3.get 1 (f:=Mi m c R rs) rfl).n ▸ (by omega)) (hK _ _ ?_)))
        simp only [Stop,Act.put,zzC,zzD,zzE]
        go_wp2_with (refine zsw (by kernel_rfl) (fun K hK=>wp_ldim 23 (.tmp 36) rs i m c R rfl rfl (hZ3.get 1 (f:=Mi m c R rs) rfl) (by omega) ag23 (fun s8 hi_s8=>hK _ _ ?_)))
        simp only [Stop,Act.put,zzC,zzD,zzE]
        have hZ25:=hZ3.more (f:=Li (c i) (R i) s8) (Li.stb _ _ _) hi_s8
        clear hZ3 hi_s8
        go_wp2_with (refine zsw (by kernel_rfl) (fun K hK=>wp_lenq (.tmp 37) 23 2 s8 rfl (by kernel_rfl) rfl (hZ25.get 0 (f:=Li (c i) (R i) s8) rfl).n (hK _ _ ?_)))
        simp only [Stop,Act.put,zzC,zzD,zzE]
        go_wp2_with (refine zsw (by kernel_rfl) (fun K hK=>wp_lssi (.tmp 33) (.tmp 38) rfl rfl rfl (r:=false) (decide_eq_false (by omega)) (hK _ _ ?_)))
        simp only [Stop,Act.put,zzC,zzD,zzE]
        have hZ26:=hZ25.only [Rw 1 (fun x=>EI ((mirA i k c R) x)) n (fun _=>n) r Dk3,Mi m c R rs] (by simp)
        clear hZ25
        have hZ27:=(hZ26.more (f:=Rw 1 (fun x=>EI ((mirA (i+1) 0 c R) x)) n (fun _=>n) r Dk3) (Rw.stb (fun j=>EI.stb _) _ _ _ _) (Rw.fcongr (hZ26.get 0 (f:=Rw 1 (fun x=>EI ((mirA i k c R) x)) n (fun _=>n) r Dk3) rfl) (fun x y=>mirA_row (.inr (by omega)) x y))).only [Rw 1 (fun x=>EI ((mirA (i+1) 0 c R) x)) n (fun _=>n) r Dk3,Mi m c R rs] (by simp)
        clear hZ26
        go_wp2_with (refine zso rfl (fun K hK=>wp_addi (.tmp 27) (.const (.int .i64 1)) rfl rfl rfl (C:=((i+1:Nat):Int)) (by omega) (by omega) (by omega) (hK _ _ ?_)))
        simp only [Stop,Act.put,zzC,zzD,zzE]
        go_wp2
        go_roundw
        case rel=>exact ⟨i+1,by omega,by go_num,Dk3,_,hZ27⟩
        case measure=>simp [intOf]; omega
      ·
       go_wp2_with (refine zso rfl (fun K hK=>wp_leqi (.tmp 29) (.tmp 30) rfl rfl rfl (r:=false) (decide_eq_false (by omega)) (hK _ _ ?_)))
       simp only [Stop,Act.put,zzC,zzD,zzE]
       have hZ28:=(hZ3.more (f:=Rw 1 (fun x=>EI ((mirA (i+1) 0 c R) x)) n (fun _=>n) r Dk3) (Rw.stb (fun j=>EI.stb _) _ _ _ _) (Rw.fcongr (hZ3.get 0 (f:=Rw 1 (fun x=>EI ((mirA i k c R) x)) n (fun _=>n) r Dk3) rfl) (fun x y=>mirA_row (.inl (by omega)) x y))).only [Rw 1 (fun x=>EI ((mirA (i+1) 0 c R) x)) n (fun _=>n) r Dk3,Mi m c R rs] (by simp)
       clear hZ3
       go_wp2_with (refine zso rfl (fun K hK=>wp_addi (.tmp 27) (.const (.int .i64 1)) rfl rfl rfl (C:=((i+1:Nat):Int)) (by omega) (by omega) (by omega) (hK _ _ ?_)))
       simp only [Stop,Act.put,zzC,zzD,zzE]
       go_wp2
       go_roundw
       case rel=>exact ⟨i+1,by omega,by go_num,Dk3,_,hZ28⟩
       case measure=>simp [intOf]; omega
    ·
     obtain rfl:n=i:=by omega
     go_wp2_with (refine zso rfl (fun K hK=>wp_lssi (.tmp 24) (.tmp 25) rfl rfl rfl (r:=false) (decide_eq_false (Int.lt_irrefl _)) (hK _ _ ?_)))
     simp only [Stop,Act.put,zzC,zzD,zzE]
     go_wp2
     go_ret
     have hm:=hZ2.tabi hX hw_so hn_so HC.out (hZ2.get 0 (f:=Rw 1 (fun x=>EI ((mirA n 0 c R) x)) n (fun _=>n) r Dk2) rfl) (T1:=23) (T:=2) (fun p hp=>List.mem_append_right _ (List.mem_append_left _ hp)) (fun p hp=>List.mem_append_right _ (List.mem_append_right _ hp))
     exact ⟨so,rfl,Mi.congr hm (fun _ _=>rfl) (fun i j hi hj=>mirA_end hi hj),hZ2.below⟩
/-- A function of the document's is handed back. -/
def PUXr (X:Nat→Prop) (n:Nat) (P:Nat→Nat→Int) (q:Nat→Int) (C:Int) (w:World) (e:Ending) (w':World):Prop:=∃ (p s:Sl) (c:NL),e=.returned (.agg #[p.v,s.v,.bool c.b,.slice c.a c.n c.c])∧Mr n (fun _=>n) P p X w'∧Lr n q s X w'∧c.z=C∧c.ir X w'∧Below w.heap.size w w'
theorem bmap2 {a:Act} {i j:Nat} {x y:Operand} {u v:Value} (h1:a.eval x=u) (h2:a.eval y=v):#[(i,x),(j,y)].map (fun (i,x)=>(i,a.eval x))=#[(i,u),(j,v)]:=by simp [h1,h2]
set_option maxRecDepth 100000 in
set_option maxHeartbeats 12800000 in
theorem dOf8 {X0:Nat→Prop} {w:World} (hX:NX X0 w) (rs ls:Sl) {m:Nat} {R:Nat→Nat→Int} {x:Nat→Int} {cc:Int} (hr:Mi m (fun _=>m) R rs X0 w) (hl:Li m x ls X0 w) (hm:m≤100) (hR:∀ i j,i < m→j < m→-9223372036854775808≤R i j∧R i j≤9223372036854775807) (hx:∀ i,i < m→-9223372036854775808≤x i∧x i≤9223372036854775807) (hcc:-9223372036854775808≤cc∧cc≤9223372036854775807):Calls Tryz.prog 22 #[rs.v,ls.v,.int .i64 cc] w (PUXr X0 m R x cc w):=by
 have hZ0:=zs_start hX
 have hZ1:=hZ0.more (f:=Li m x ls) (Li.stb _ _ _) hl
 clear hZ0
 have hZ2:=hZ1.more (f:=Mi m (fun _=>m) R rs) (Mi.stb _ _ _ _) hr
 clear hZ1
 go_enter Tryz.func22,Tryz.ntmps22
 go_wp2_with (refine zsa 40 #[.slice none 0 0,.slice none 0 0,.bool false,.slice none 0 0] (.agg #[.slice none 0 0,.slice none 0 0,.bool false,.slice none 0 0]) rfl rfl zv40 rfl hZ2 (fun bk1 X3 W1 hZ3=>?_))
 clear hZ2
 simp only [Stop,Act.put,zzC,zzD,zzE]
 go_wp2_with fail
 refine (dOf hZ3.nx rs (hZ3.get 0 (f:=Mi m (fun _=>m) R rs) rfl) (by omega) (fun i hi=>by omega) hR).mono ?_
 rintro zz W2 ⟨sb,rfl,hi_sb,hB⟩
 have hZ4:=hZ3.later hB
 clear hB hZ3
 have hZ5:=hZ4.more (f:=Mr m (fun _=>m) R sb) (Mr.stb _ _ _ _) hi_sb
 clear hZ4 hi_sb
 go_wp2_with fail
 refine (zOfr hZ5.nx hcc.1 hcc.2).mono ?_
 rintro zz W3 ⟨d2,rfl,ez_d2,hi_d2,hB⟩
 have hZ6:=hZ5.later hB
 clear hB hZ5
 have hZ7:=hZ6.more (f:=d2.ir) d2.stbr hi_d2
 clear hZ6 hi_d2
 go_wp2_with (refine zso rfl (fun K hK=>wp_bld (v:=.agg #[sb.v,.slice none 0 0,.bool d2.b,.slice d2.a d2.n d2.c]) 40 #[(0,.tmp 10),(2,.tmp 12)] rfl (bmap2 (u:=sb.v) (v:=d2.v) rfl rfl) (fun _=>by kernel_rfl) (hK _ _ ?_)))
 simp only [Stop,Act.put,zzC,zzD,zzE]
 go_wp2_with (refine zsa 40 #[.slice none 0 0,.slice none 0 0,.bool false,.slice none 0 0] (.agg #[.slice none 0 0,.slice none 0 0,.bool false,.slice none 0 0]) rfl rfl zv40 rfl hZ7 (fun bk2 X8 W4 hZ8=>?_))
 clear hZ7
 simp only [Stop,Act.put,zzC,zzD,zzE]
 go_wp2_with (refine zss 40 (.tmp 7) (.tmp 13) 0 bk2 0 #[.slice none 0 0,.slice none 0 0,.bool false,.slice none 0 0] 40 4 [sb.v,.slice none 0 0,.bool d2.b,.slice d2.a d2.n d2.c] #[sb.v,.slice none 0 0,.bool d2.b,.slice d2.a d2.n d2.c] [(bk2,#[sb.v,.slice none 0 0,.bool d2.b,.slice d2.a d2.n d2.c],40),(bk1,#[.slice none 0 0,.slice none 0 0,.bool false,.slice none 0 0],40)] rfl rfl rfl rfl sz40 hZ8 rfl rfl (zzF (by kernel_rfl)) (by kernel_rfl) (by kernel_rfl) (by kernel_rfl) (fun W5 hZ9=>?_))
 clear hZ8
 simp only [Stop,Act.put,zzC,zzD,zzE]
 have hZ10:=hZ9.only [d2.ir,Mr m (fun _=>m) R sb,Li m x ls] (by simp)
 clear hZ9
 go_wp2
 go_loopw [8] (fun iv wr=>∃ (i:Nat) (so:Sl) (Co:Array Value) (X:Nat→Prop),i≤m∧iv=.int .i64 ((i:Nat):Int)∧so.n=i∧Wr 2 so Co∧Zs w wr X0 X ([(bk2,#[sb.v,so.v,.bool d2.b,.slice d2.a d2.n d2.c],40),(bk1,#[.slice none 0 0,.slice none 0 0,.bool false,.slice none 0 0],40)]++owl so Co 38) [Fl 2 (ENr x) i Co,d2.ir,Mr m (fun _=>m) R sb,Li m x ls]) (fun iv _=>m - (intOf iv).toNat)
 case atStart=>exact ⟨0,slz,#[],_,by omega,rfl,rfl,wr_slz 2,by simpa [owl,slz,Sl.v] using (hZ10.more (f:=Fl 2 (ENr x) 0 #[]) (Fl.stb (ENr.stb _) _ _) (fl_zero 2 (ENr x) #[] _ _))⟩
 case round =>
  clear hZ10
  obtain ⟨i,so,Co,X,hi,rfl,hn_so,hw_so,hZ⟩:=hrel
  by_cases hlt:i < m
  ·
   go_wp2_with (refine zso rfl (fun K hK=>wp_lenq (.tmp 15) 23 2 ls rfl (by kernel_rfl) rfl (hZ.get 3 (f:=Li m x ls) rfl).n (hK _ _ ?_)))
   simp only [Stop,Act.put,zzC,zzD,zzE]
   go_wp2_with (refine zso rfl (fun K hK=>wp_lssi (.tmp 14) (.tmp 16) rfl rfl rfl (r:=true) (decide_eq_true (by omega)) (hK _ _ ?_)))
   simp only [Stop,Act.put,zzC,zzD,zzE]
   go_wp2
   obtain ⟨XR5,hZ11⟩:∃ Xr,Zs w wr X0 Xr ([(bk2,#[sb.v,so.v,.bool d2.b,.slice d2.a d2.n d2.c],40),(bk1,#[.slice none 0 0,.slice none 0 0,.bool false,.slice none 0 0],40)]++owl so Co 38) [Fl 2 (ENr x) i Co,d2.ir,Mr m (fun _=>m) R sb,Li m x ls]:=⟨_,hZ⟩
   clear hZ
   refine zrp 8 [some 20,some 21,some 22,some 23,some 24,some 25,some 26,some 27] [veq (.pointer (some ⟨bk2,1,none⟩)),veq (so.v),veq (ls.v),veq (.int .i64 (((i:Nat):Int))),veq ((ls.at 1 i)),veq (.int .i64 (x i)),vnumr (x i),vlsr 1 (fun _=>x i)] (by kernel_rfl) (by kernel_rfl) (by rfl) (by decide) (by rfl) hZ11 ?_ ?_
   ·
    intro iq hlq hiq LL uu ww aa hLi hLc hJ hd hall hev hin hold
    clear hZ11
    obtain rfl | rfl | rfl | rfl | rfl | rfl | rfl | rfl:iq=0∨iq=1∨iq=2∨iq=3∨iq=4∨iq=5∨iq=6∨iq=7:=by omega
    ·
     exact oz rfl (fun _ hK=>wp_fda (v:=.pointer (some ⟨bk2,1,none⟩)) 40 (.tmp 7) 1 rfl (zet ((hev 7 (by decide)).trans rfl)) (fun _=>by kernel_rfl) (hK _ _ hJ rfl vsm))
    ·
     exact oz rfl (fun _ hK=>wp_load1 (v:=so.v) 35 (.tmp 20) rfl bk2 1 #[sb.v,so.v,.bool d2.b,.slice d2.a d2.n d2.c] 40 (hJ.es.at' _ (zzG (i:=0) rfl)) (zj (hin 0 20 rfl) (show uu 0=.pointer (some ⟨bk2,1,none⟩) from (hd 0 (by kernel_rfl)))) ag35 (by kernel_rfl) (hK _ _ hJ rfl vsm))
    ·
     exact oz rfl (fun _ hK=>wp_move (.tmp 1) rfl (zet ((hev 1 (by decide)).trans rfl)) (hK _ _ hJ rfl vsm))
    ·
     exact oz rfl (fun _ hK=>wp_move (.tmp 8) rfl (zet ((hev 8 (by decide)).trans rfl)) (hK _ _ hJ rfl vsm))
    ·
     exact oz rfl (fun _ hK=>wp_ixs 23 (.tmp 22) (.tmp 23) ls i 1 2 rfl (zj (hin 2 22 rfl) (show uu 2=ls.v from (hd 2 (by kernel_rfl)))) (zj (hin 3 23 rfl) (show uu 3=.int .i64 (((i:Nat):Int)) from (hd 3 (by kernel_rfl)))) (by kernel_rfl) sz2 (fun h=>((hJ.get 3 (f:=Li m x ls) rfl).sq.nil h).1) ((hJ.get 3 (f:=Li m x ls) rfl).n ▸ (by omega)) (hK _ _ hJ rfl vsm))
    ·
     exact oz rfl (fun _ hK=>wp_ldi 2 (.tmp 24) ls i m x rfl (zj (hin 4 24 rfl) (show uu 4=(ls.at 1 i) from (hd 4 (by kernel_rfl)))) (hJ.get 3 (f:=Li m x ls) rfl) (by omega) ag2 (hK _ _ hJ rfl vsm))
    ·
     refine oz rfl (fun _ hK=>zcz (.func 31) #[.tmp 25] #[2] 31 #[] #[.int .i64 (x i)] _ rfl rfl (map1 (zj (hin 5 25 rfl) (show uu 5=.int .i64 (x i) from (hd 5 (by kernel_rfl))))) rfl (fun _ _=>rfl) (zOfr hJ.nx (hx i hlt).1 (hx i hlt).2) ?_)
     rintro zz ww2 ⟨d3,rfl,ez_d3,hi_d3,hB⟩
     exact ⟨_,rfl,hK _ _ (hJ.later hB) ⟨d3,rfl,ez_d3,hi_d3⟩ (vlat hB)⟩
    ·
     obtain ⟨d3,e6,ez_d3,hi_d3⟩:=(show (vnumr (x i)) (uu 6) XR5 ww from (hd 6 (by kernel_rfl)))
     replace hJ:=hJ.more (f:=d3.ir) d3.stbr hi_d3
     exact oz rfl (fun _ hK=>wp_bsnr ei35 (.tmp 26) d3 rfl (zj (hin 6 26 rfl) e6) hJ hi_d3 (fun s4 ww2 hB hzb=>hK _ _ (hzb.only [Fl 2 (ENr x) i Co,d2.ir,Mr m (fun _=>m) R sb,Li m x ls] (by simp)) ⟨s4,rfl,(hzb.get 0 (f:=Lr 1 (fun _=>d3.z) s4) rfl).congr (fun _ _=>ez_d3)⟩ (vlat hB)))
   clear hZ11
   intro uu W6 hZ12 hd
   have e_0:uu 0=.pointer (some ⟨bk2,1,none⟩):=hd 0 (by decide)
   have e_1:uu 1=so.v:=hd 1 (by decide)
   have e_2:uu 2=ls.v:=hd 2 (by decide)
   have e_3:uu 3=.int .i64 (((i:Nat):Int)):=hd 3 (by decide)
   have e_4:uu 4=(ls.at 1 i):=hd 4 (by decide)
   have e_5:uu 5=.int .i64 (x i):=hd 5 (by decide)
   obtain ⟨d3,e_6,ez_d3,hi_d3⟩:=(show (vnumr (x i)) (uu 6) XR5 W6 from hd 6 (by decide))
   obtain ⟨s4,e_7,hi_s4⟩:=(show (vlsr 1 (fun _=>x i)) (uu 7) XR5 W6 from hd 7 (by decide))
   clear hd
   simp only [layS,Act.put,zzC,zzD,zzE,Nat.zero_add,Nat.reduceAdd,List.drop_succ_cons,List.drop_zero,List.drop_nil,e_0,e_1,e_2,e_3,e_4,e_5,e_6,e_7]
   clear e_0 e_1 e_2 e_3 e_4 e_5 e_6 e_7
   have hZ13:=hZ12.more (f:=d3.ir) d3.stbr hi_d3
   clear hZ12 hi_d3
   have hZ14:=hZ13.more (f:=Lr 1 (fun _=>x i) s4) (Lr.stb _ _ _) hi_s4
   clear hZ13 hi_s4
   obtain ⟨qa5,q5,ea5,ez_q5,hi_q5,hca5⟩:=Lr.one (hZ14.get 0 (f:=Lr 1 (fun _=>x i) s4) rfl)
   have EA5:=Lib.hid ea5
   clear ea5
   have hZ15w:=hZ14.more (f:=q5.ir) q5.stbr hi_q5
   have hZ15y:=hZ15w.perm List.perm_append_comm
   clear hZ15w hi_q5
   go_wp2_with (refine zso rfl (fun K hK=>wp_app ei35 (.tmp 21) (.tmp 27) rfl (s:=so) rfl qa5 s4.c EA5.out hw_so (by rw [hn_so]; omega) hZ15y [.bool q5.b,.slice q5.a q5.n q5.c] rfl hca5 (fun u hu=>by simp only [List.mem_cons,List.not_mem_nil,or_false] at hu; rcases hu with rfl | rfl <;> rfl) (fun o5 C5 X15 W7 hn_o5 hw_o5 ho_C5 hg_C5 hZ15x=>hK _ _ ?_)))
   simp only [Stop,Act.put,zzC,zzD,zzE]
   clear hZ15y hca5 EA5
   rw [hn_so] at hn_o5 ho_C5 hg_C5
   have hZ15:=hZ15x.perm List.perm_append_comm
   clear hZ15x hZ14
   go_wp2_with (refine zso rfl (fun K hK=>wp_fda (v:=.pointer (some ⟨bk2,1,none⟩)) 40 (.tmp 7) 1 rfl rfl (fun _=>by kernel_rfl) (hK _ _ ?_)))
   simp only [Stop,Act.put,zzC,zzD,zzE]
   go_wp2_with (refine zss 35 (.tmp 29) (.tmp 28) 0 bk2 1 #[sb.v,so.v,.bool d2.b,.slice d2.a d2.n d2.c] 40 1 [o5.v] #[sb.v,o5.v,.bool d2.b,.slice d2.a d2.n d2.c] ([(bk2,#[sb.v,o5.v,.bool d2.b,.slice d2.a d2.n d2.c],40),(bk1,#[.slice none 0 0,.slice none 0 0,.bool false,.slice none 0 0],40)]++owl o5 C5 38) rfl rfl rfl rfl sz35 hZ15 rfl rfl (zzF (by kernel_rfl)) (by kernel_rfl) (by kernel_rfl) (by kernel_rfl) (fun W8 hZ16=>?_))
   clear hZ15
   simp only [Stop,Act.put,zzC,zzD,zzE]
   have hZ17s:Fl 2 (ENr x) (i+1) C5 X15 W8:=Fl.snoc (C:=Co) (hZ16.get 3 (f:=Fl 2 (ENr x) i Co) rfl) (cs:=[.bool q5.b,.slice q5.a q5.n q5.c]) rfl ho_C5 hg_C5 ⟨q5,ez_q5.trans (by rfl),(hZ16.get 0 (f:=q5.ir) rfl),rfl⟩
   have hZ17:=(hZ16.more (Fl.stb (ENr.stb _) _ _) hZ17s).only [Fl 2 (ENr x) (i+1) C5,d2.ir,Mr m (fun _=>m) R sb,Li m x ls] (by simp)
   clear hZ16 hZ17s
   go_wp2_with (refine zso rfl (fun K hK=>wp_addi (.tmp 18) (.const (.int .i64 1)) rfl rfl rfl (C:=((i+1:Nat):Int)) (by omega) (by omega) (by omega) (hK _ _ ?_)))
   simp only [Stop,Act.put,zzC,zzD,zzE]
   go_wp2
   go_roundw
   case rel=>exact ⟨i+1,o5,C5,_,by omega,by go_num,hn_o5,hw_o5,hZ17⟩
   case measure=>simp [intOf]; omega
  ·
   obtain rfl:m=i:=by omega
   go_wp2_with (refine zso rfl (fun K hK=>wp_lenq (.tmp 15) 23 2 ls rfl (by kernel_rfl) rfl (hZ.get 3 (f:=Li m x ls) rfl).n (hK _ _ ?_)))
   simp only [Stop,Act.put,zzC,zzD,zzE]
   go_wp2_with (refine zso rfl (fun K hK=>wp_lssi (.tmp 14) (.tmp 16) rfl rfl rfl (r:=false) (decide_eq_false (Int.lt_irrefl _)) (hK _ _ ?_)))
   simp only [Stop,Act.put,zzC,zzD,zzE]
   go_wp2_with (refine zso rfl (fun K hK=>wp_load 40 (.tmp 7) rfl bk2 0 4 #[sb.v,so.v,.bool d2.b,.slice d2.a d2.n d2.c] #[sb.v,so.v,.bool d2.b,.slice d2.a d2.n d2.c] 40 (hZ.es.at' _ (zzG (i:=0) rfl)) rfl ag40 sz40 (zzF (by kernel_rfl)) (by kernel_rfl) (hK _ _ ?_)))
   simp only [Stop,Act.put,zzC,zzD,zzE]
   go_wp2_with (refine zss 40 (.tmp 6) (.tmp 30) 1 bk1 0 #[.slice none 0 0,.slice none 0 0,.bool false,.slice none 0 0] 40 4 [sb.v,so.v,.bool d2.b,.slice d2.a d2.n d2.c] #[sb.v,so.v,.bool d2.b,.slice d2.a d2.n d2.c] ([(bk2,#[sb.v,so.v,.bool d2.b,.slice d2.a d2.n d2.c],40),(bk1,#[sb.v,so.v,.bool d2.b,.slice d2.a d2.n d2.c],40)]++owl so Co 38) rfl rfl rfl rfl sz40 hZ rfl rfl (zzF (by kernel_rfl)) (by kernel_rfl) (by kernel_rfl) (by kernel_rfl) (fun W9 hZ18=>?_))
   clear hZ
   simp only [Stop,Act.put,zzC,zzD,zzE]
   go_wp2
   exact bodyPost_ret (v:=.agg #[sb.v,so.v,.bool d2.b,.slice d2.a d2.n d2.c]) (results_cell 1 Tryz.results22 hZ18.es rfl ag40 sz40 (zzF (by kernel_rfl)) rfl (by kernel_rfl)) rfl ⟨sb,so,d2,rfl,(hZ18.out 2 (f:=Mr m (fun _=>m) R sb) rfl),⟨hn_so,hZ18.sq hX (ENr.stb _) hw_so (T:=38) (fun p hp=>List.mem_append_right _ hp) (hn_so ▸ hZ18.get 0 (f:=Fl 2 (ENr x) m Co) rfl)⟩,ez_d2,(hZ18.out 1 (f:=d2.ir) rfl),hZ18.below⟩
end Go.Proofs.YtjclllindbfmhabGreatDoor
