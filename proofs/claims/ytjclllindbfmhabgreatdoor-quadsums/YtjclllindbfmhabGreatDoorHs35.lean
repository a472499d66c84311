/- Parts of the proof. -/
import Derived.Test.YtjclllindbfmhabGreatDoorHs0
import Derived.Test.YtjclllindbfmhabGreatDoorHs29
import Derived.Test.YtjclllindbfmhabGreatDoorHs34
import Derived.Test.YtjclllindbfmhabGreatDoorHs26
import Derived.Test.YtjclllindbfmhabGreatDoorHs32
import Derived.Test.YtjclllindbfmhabGreatDoorHs31
set_option linter.unusedSimpArgs false
set_option linter.unusedVariables false
namespace Go.Proofs.YtjclllindbfmhabGreatDoor
/- The laws' helpers filled, list, walked. No statement of the seat is proved here. -/
open Go Go.RowKit
theorem fl_filled {k n:Nat} {x:Nat→Int} {C C':Array Value} {X X':Nat→Prop} {W W':World} (h0:Fl 1 (EI (fun _=>0)) n C X W) (hin:∀ i,i < Nat.min k n→∃ cs:List Value,cs.length=1∧(∀ j,j < 1→C'[(0+i)*1+j]?=cs[j]?)∧EI x X' W' i cs) (hout:∀ j,(j < 0*1∨(0+Nat.min k n)*1≤j)→C'[j]?=C[j]?):Fl 1 (EI (xl k x)) n C' X W:=fun i hi=>by
 by_cases e:i < k
 ·
  have hm:i < Nat.min k n:=Nat.lt_min.2 ⟨e,hi⟩
  obtain ⟨cs,h1,h2,h3⟩:=hin i hm
  have h3':cs=[.int .i64 (x i)]:=h3
  refine ⟨cs,h1,fun j hj=>by have:=h2 j hj; rwa [Nat.zero_add] at this,?_⟩
  show cs=[.int .i64 (xl k x i)]
  rw [h3']; unfold xl; rw [if_pos e]
 ·
  obtain ⟨cs,h1,h2,h3⟩:=h0 i hi
  have h3':cs=[.int .i64 0]:=h3
  refine ⟨cs,h1,fun j hj=>?_,?_⟩
  ·
   rw [hout (i*1+j) (.inr (by have:Nat.min k n≤k:=Nat.min_le_left k n; omega))]
   exact h2 j hj
  ·
   show cs=[.int .i64 (xl k x i)]
   rw [h3']; unfold xl; rw [if_neg e]
/-- A list of int64 is handed back. -/
def PLI (X:Nat→Prop) (n:Nat) (x:Nat→Int) (w:World) (e:Ending) (w':World):Prop:=∃ s:Sl,e=.returned s.v∧Li n x s X w'∧Below w.heap.size w w'
set_option maxRecDepth 100000 in
set_option maxHeartbeats 12800000 in
theorem uFilled {X0:Nat→Prop} {w:World} (hX:NX X0 w) (l:Sl) (n:Nat) {k:Nat} {x:Nat→Int} (hl:Li k x l X0 w) (hn:n≤100):Calls Tryz.prog 21 #[l.v,.int .i64 ((n:Nat):Int)] w (PLI X0 n (xl k x) w):=by
 have hZ0:=zs_start hX
 have hZ1:=hZ0.more (f:=Li k x l) (Li.stb _ _ _) hl
 clear hZ0
 go_enter Tryz.func21,Tryz.ntmps21
 go_wp2_with (refine stopz_makez ei23 (.tmp 6) (.tmp 6) n rfl rfl rfl rfl (by omega) hZ1 (fun o1 C1 X2 W1 hn_o1 hw_o1 hc_o1 hZ2x=>?_))
 simp only [Stop,Act.put,zzC,zzD,zzE]
 clear hZ1
 have hZ3:Zs w W1 X0 X2 ([]++owl o1 C1 2) [Li k x l]:=hZ2x.perm List.perm_append_comm
 clear hZ2x
 have hZ4:=hZ3.more (f:=Fl 1 (EI (fun _=>0)) n C1) (Fl.stb (EI.stb _) _ _) (fl_zeros hc_o1)
 clear hZ3
 have hZ5f:=(hZ4.get 0 (f:=Fl 1 (EI (fun _=>0)) n C1) rfl)
 go_wp2_with (refine zso rfl (fun K hK=>wp_copy ei23 (.tmp 8) (.tmp 9) rfl (EI.stb x) (EI.one x) (s1:=o1) (s2:=l) 0 (Nat.min k n) (by rw [cut_none o1 1 hw_o1]; rfl) rfl hw_o1 (hZ4.perm List.perm_append_comm) (hZ4.get 1 (f:=Li k x l) rfl).sq (by rw [hn_o1]; omega) (by rw [(hZ4.get 1 (f:=Li k x l) rfl).n,hn_o1,Nat.sub_zero]) (fun C2 W2 hw_o1n hZ6 hin_C2 hout_C2=>hK _ _ ?_)))
 simp only [Stop,Act.put,zzC,zzD,zzE]
 clear hw_o1
 have hw_o1:=hw_o1n
 clear hw_o1n hZ4
 have hZ7:Zs w W2 X0 X2 ([]++owl o1 C2 2) [Fl 1 (EI (fun _=>0)) n C1,Li k x l]:=hZ6.perm List.perm_append_comm
 clear hZ6
 go_wp2
 go_ret
 have hZ8r:Fl 1 (EI (xl k x)) n C2 X2 W2:=fl_filled (hZ7.get 0 (f:=Fl 1 (EI (fun _=>0)) n C1) rfl) hin_C2 hout_C2
 exact ⟨o1,rfl,⟨hn_o1,hZ7.sq hX (EI.stb _) hw_o1 (T:=2) (fun p hp=>List.mem_append_right _ hp) (hn_o1 ▸ hZ8r)⟩,hZ7.below⟩
theorem xl_rng {k:Nat} {x:Nat→Int} (h:∀ i,i < k→-9223372036854775808≤x i∧x i≤9223372036854775807) (i:Nat):-9223372036854775808≤xl k x i∧xl k x i≤9223372036854775807:=by
 unfold xl
 split
 ·
  exact h i (by assumption)
 ·
  omega
/-- A list of numbers, and the same of the document's: of layer 8. -/
def PLj (X:Nat→Prop) (n:Nat) (x:Nat→Int) (w:World) (e:Ending) (w':World):Prop:=∃ a b:Sl,e=.returned (.tuple #[a.v,b.v])∧Ls n x a X w'∧Lr n x b X w'∧Below w.heap.size w w'
set_option maxRecDepth 100000 in
set_option maxHeartbeats 12800000 in
theorem uList {X0:Nat→Prop} {w:World} (hX:NX X0 w) (l:Sl) (n:Nat) {k:Nat} {x:Nat→Int} (hl:Li k x l X0 w) (hn:n≤100) (hb:∀ i,i < k→-9223372036854775808≤x i∧x i≤9223372036854775807):Calls Tryz.prog 8 #[l.v,.int .i64 ((n:Nat):Int)] w (PLj X0 n (xl k x) w):=by
 have HB:=Lib.hid hb
 clear hb
 have hZ0:=zs_start hX
 have hZ1:=hZ0.more (f:=Li k x l) (Li.stb _ _ _) hl
 clear hZ0
 go_enter Tryz.func8,Tryz.ntmps8
 go_wp2_with fail
 refine (uFilled hZ1.nx l n (hZ1.get 0 (f:=Li k x l) rfl) (by omega)).mono ?_
 rintro zz W1 ⟨sf,rfl,hi_sf,hB⟩
 have hZ2:=hZ1.later hB
 clear hB hZ1
 have hZ3:=hZ2.more (f:=Li n (xl k x) sf) (Li.stb _ _ _) hi_sf
 clear hZ2 hi_sf
 have hZ4:=hZ3.only [Li n (xl k x) sf] (by simp)
 clear hZ3
 go_wp2
 go_loopw [6,7,9] (fun av bv iv wr=>∃ (i:Nat) (sa sb:Sl) (Ca Cb:Array Value) (X:Nat→Prop),i≤n∧iv=.int .i64 ((i:Nat):Int)∧av=sa.v∧bv=sb.v∧sa.n=i∧Wr 2 sa Ca∧sb.n=i∧Wr 2 sb Cb∧Zs w wr X0 X ([]++(owl sa Ca 30++owl sb Cb 38)) [Fl 2 (EN (xl k x)) i Ca,Fl 2 (ENr (xl k x)) i Cb,Li n (xl k x) sf]) (fun _ _ iv _=>n - (intOf iv).toNat)
 case atStart=>exact ⟨0,slz,slz,#[],#[],_,by omega,rfl,rfl,rfl,rfl,wr_slz 2,rfl,wr_slz 2,((hZ4.more (f:=Fl 2 (ENr (xl k x)) 0 #[]) (Fl.stb (ENr.stb _) _ _) (fl_zero 2 (ENr (xl k x)) #[] _ _)).more (f:=Fl 2 (EN (xl k x)) 0 #[]) (Fl.stb (EN.stb _) _ _) (fl_zero 2 (EN (xl k x)) #[] _ _))⟩
 case round =>
  clear hZ4
  obtain ⟨i,sa,sb,Ca,Cb,X,hi,rfl,rfl,rfl,hn_sa,hw_sa,hn_sb,hw_sb,hZ⟩:=hrel
  by_cases hlt:i < n
  ·
   go_wp2_with (refine zso rfl (fun K hK=>wp_lssi (.tmp 13) (.tmp 14) rfl rfl rfl (r:=true) (decide_eq_true (by omega)) (hK _ _ ?_)))
   simp only [Stop,Act.put,zzC,zzD,zzE]
   go_wp2_with (refine zso rfl (fun K hK=>wp_ixs 23 (.tmp 19) (.tmp 20) sf i 1 2 rfl rfl rfl (by kernel_rfl) sz2 (fun h=>((hZ.get 2 (f:=Li n (xl k x) sf) rfl).sq.nil h).1) ((hZ.get 2 (f:=Li n (xl k x) sf) rfl).n ▸ (by omega)) (hK _ _ ?_)))
   simp only [Stop,Act.put,zzC,zzD,zzE]
   go_wp2_with (refine zso rfl (fun K hK=>wp_ldi 2 (.tmp 21) sf i n (xl k x) rfl rfl (hZ.get 2 (f:=Li n (xl k x) sf) rfl) (by omega) ag2 (hK _ _ ?_)))
   simp only [Stop,Act.put,zzC,zzD,zzE]
   go_wp2_with fail
   refine (zOf hZ.nx (xl_rng HB.out i).1 (xl_rng HB.out i).2).mono ?_
   rintro zz W2 ⟨q1,rfl,ez_q1,hi_q1,hB⟩
   have hZ5:=hZ.later hB
   clear hB hZ
   have hZ6:=hZ5.more (f:=q1.is) q1.stb hi_q1
   clear hZ5 hi_q1
   go_wp2_with (refine zso rfl (fun K hK=>wp_bs2 ei27 (.tmp 23) rfl rfl (hK _ _ ?_)))
   simp only [Stop,Act.put,zzC,zzD,zzE]
   have hZ7:=hZ6.later (below_new _ (.cells #[.bool q1.b,.slice q1.a q1.n q1.c] 30))
   clear hZ6
   have hZ8y:=hZ7.perm (perm_mid _ _ _)
   go_wp2_with (refine zso rfl (fun K hK=>wp_app ei27 (.tmp 18) (.tmp 24) rfl (s:=sa) rfl ⟨W2.heap.size,0,none⟩ 1 rfl hw_sa (by rw [hn_sa]; omega) hZ8y [.bool q1.b,.slice q1.a q1.n q1.c] rfl (cell_two _ (.bool q1.b) (.slice q1.a q1.n q1.c) _) (fun u hu=>by simp only [List.mem_cons,List.not_mem_nil,or_false] at hu; rcases hu with rfl | rfl <;> rfl) (fun o2 C2 X8 W3 hn_o2 hw_o2 ho_C2 hg_C2 hZ8x=>hK _ _ ?_)))
   simp only [Stop,Act.put,zzC,zzD,zzE]
   clear hZ8y
   rw [hn_sa] at hn_o2 ho_C2 hg_C2
   have hZ8:=hZ8x.perm (List.Perm.symm (perm_mid _ _ _))
   clear hZ8x hZ7
   have hZ9s:Fl 2 (EN (xl k x)) (i+1) C2 X8 W3:=Fl.snoc (C:=Ca) (hZ8.get 1 (f:=Fl 2 (EN (xl k x)) i Ca) rfl) (cs:=[.bool q1.b,.slice q1.a q1.n q1.c]) rfl ho_C2 hg_C2 ⟨q1,ez_q1,(hZ8.get 0 (f:=q1.is) rfl),rfl⟩
   have hZ9:=(hZ8.more (Fl.stb (EN.stb _) _ _) hZ9s).only [Fl 2 (EN (xl k x)) (i+1) C2,Fl 2 (ENr (xl k x)) i Cb,Li n (xl k x) sf] (by simp)
   clear hZ8 hZ9s
   go_wp2_with (refine zso rfl (fun K hK=>wp_ixs 23 (.tmp 27) (.tmp 28) sf i 1 2 rfl rfl rfl (by kernel_rfl) sz2 (fun h=>((hZ9.get 2 (f:=Li n (xl k x) sf) rfl).sq.nil h).1) ((hZ9.get 2 (f:=Li n (xl k x) sf) rfl).n ▸ (by omega)) (hK _ _ ?_)))
   simp only [Stop,Act.put,zzC,zzD,zzE]
   go_wp2_with (refine zso rfl (fun K hK=>wp_ldi 2 (.tmp 29) sf i n (xl k x) rfl rfl (hZ9.get 2 (f:=Li n (xl k x) sf) rfl) (by omega) ag2 (hK _ _ ?_)))
   simp only [Stop,Act.put,zzC,zzD,zzE]
   go_wp2_with fail
   refine (zOfr hZ9.nx (xl_rng HB.out i).1 (xl_rng HB.out i).2).mono ?_
   rintro zz W4 ⟨d4,rfl,ez_d4,hi_d4,hB⟩
   have hZ10:=hZ9.later hB
   clear hB hZ9
   have hZ11:=hZ10.more (f:=d4.ir) d4.stbr hi_d4
   clear hZ10 hi_d4
   go_wp2_with (refine zso rfl (fun K hK=>wp_bs2 ei35 (.tmp 31) rfl rfl (hK _ _ ?_)))
   simp only [Stop,Act.put,zzC,zzD,zzE]
   have hZ12:=hZ11.later (below_new _ (.cells #[.bool d4.b,.slice d4.a d4.n d4.c] 38))
   clear hZ11
   have hZ13y:=hZ12.perm ((List.Perm.append_left _ List.perm_append_comm).trans (perm_mid _ _ _))
   go_wp2_with (refine zso rfl (fun K hK=>wp_app ei35 (.tmp 26) (.tmp 32) rfl (s:=sb) rfl ⟨W4.heap.size,0,none⟩ 1 rfl hw_sb (by rw [hn_sb]; omega) hZ13y [.bool d4.b,.slice d4.a d4.n d4.c] rfl (cell_two _ (.bool d4.b) (.slice d4.a d4.n d4.c) _) (fun u hu=>by simp only [List.mem_cons,List.not_mem_nil,or_false] at hu; rcases hu with rfl | rfl <;> rfl) (fun o5 C5 X13 W5 hn_o5 hw_o5 ho_C5 hg_C5 hZ13x=>hK _ _ ?_)))
   simp only [Stop,Act.put,zzC,zzD,zzE]
   clear hZ13y
   rw [hn_sb] at hn_o5 ho_C5 hg_C5
   have hZ13:=hZ13x.perm (List.Perm.symm ((List.Perm.append_left _ List.perm_append_comm).trans (perm_mid _ _ _)))
   clear hZ13x hZ12
   have hZ14s:Fl 2 (ENr (xl k x)) (i+1) C5 X13 W5:=Fl.snoc (C:=Cb) (hZ13.get 2 (f:=Fl 2 (ENr (xl k x)) i Cb) rfl) (cs:=[.bool d4.b,.slice d4.a d4.n d4.c]) rfl ho_C5 hg_C5 ⟨d4,ez_d4,(hZ13.get 0 (f:=d4.ir) rfl),rfl⟩
   have hZ14:=(hZ13.more (Fl.stb (ENr.stb _) _ _) hZ14s).only [Fl 2 (ENr (xl k x)) (i+1) C5,Fl 2 (EN (xl k x)) (i+1) C2,Li n (xl k x) sf] (by simp)
   clear hZ13 hZ14s
   have hZ15:=hZ14.only [Fl 2 (EN (xl k x)) (i+1) C2,Fl 2 (ENr (xl k x)) (i+1) C5,Li n (xl k x) sf] (by simp)
   clear hZ14
   go_wp2_with (refine zso rfl (fun K hK=>wp_addi (.tmp 16) (.const (.int .i64 1)) rfl rfl rfl (C:=((i+1:Nat):Int)) (by omega) (by omega) (by omega) (hK _ _ ?_)))
   simp only [Stop,Act.put,zzC,zzD,zzE]
   go_wp2
   go_roundw
   case rel=>exact ⟨i+1,o2,o5,C2,C5,_,by omega,by go_num,rfl,rfl,hn_o2,hw_o2,hn_o5,hw_o5,hZ15⟩
   case measure=>simp [intOf]; omega
  ·
   obtain rfl:n=i:=by omega
   go_wp2_with (refine zso rfl (fun K hK=>wp_lssi (.tmp 13) (.tmp 14) rfl rfl rfl (r:=false) (decide_eq_false (Int.lt_irrefl _)) (hK _ _ ?_)))
   simp only [Stop,Act.put,zzC,zzD,zzE]
   go_wp2
   go_ret2
   exact ⟨sa,sb,rfl,⟨hn_sa,hZ.sq hX (EN.stb _) hw_sa (T:=30) (fun p hp=>List.mem_append_right _ (List.mem_append_left _ hp)) (hn_sa ▸ hZ.get 0 (f:=Fl 2 (EN (xl k x)) n Ca) rfl)⟩,⟨hn_sb,hZ.sq hX (ENr.stb _) hw_sb (T:=38) (fun p hp=>List.mem_append_right _ (List.mem_append_right _ hp)) (hn_sb ▸ hZ.get 1 (f:=Fl 2 (ENr (xl k x)) n Cb) rfl)⟩,hZ.below⟩
set_option maxRecDepth 100000 in
set_option maxHeartbeats 12800000 in
theorem uWith1 {X0:Nat→Prop} {w:World} (hX:NX X0 w) {n f:Nat} {ss:Sl} {y:Nat→Int} (bS i:Nat) (hi:i < n) (cS:Cf bS #[ss.v] 27 X0 w) (hss:Ls n y ss X0 w) (by_:∀ i,i < n→Sz f (y i)) (hf:f≤1000000):Calls Tryz.prog 52 #[.int .i64 ((i:Nat):Int),.pointer (some ⟨bS,0,none⟩)] w (PNX X0 (-y i) w):=by
 have hZ0:=zs_start hX
 have hZ1:=hZ0.more (f:=Cf bS #[ss.v] 27) (Cf.stb _ _ _) cS
 clear hZ0
 have hZ2:=hZ1.more (f:=Ls n y ss) (Ls.stb _ _ _) hss
 clear hZ1
 go_enter Tryz.func52,Tryz.ntmps52
 go_wp2_with (refine zsa 30 #[.bool false,.slice none 0 0] (.agg #[.bool false,.slice none 0 0]) rfl rfl zv30 rfl hZ2 (fun bk1 X3 W1 hZ3=>?_))
 clear hZ2
 simp only [Stop,Act.put,zzC,zzD,zzE]
 go_wp2_with (refine zso rfl (fun K hK=>wp_load1 (v:=ss.v) 27 (.tmp 1) rfl bS 0 #[ss.v] 27 (hZ3.get 1 (f:=Cf bS #[ss.v] 27) rfl).1 rfl ag27 (by kernel_rfl) (hK _ _ ?_)))
 simp only [Stop,Act.put,zzC,zzD,zzE]
 go_wp2_with (refine zso rfl (fun K hK=>wp_ixs 27 (.tmp 4) (.tmp 5) ss i 2 30 rfl rfl rfl (by kernel_rfl) sz30 (fun h=>((hZ3.get 0 (f:=Ls n y ss) rfl).sq.nil h).1) ((hZ3.get 0 (f:=Ls n y ss) rfl).n ▸ (by omega)) (hK _ _ ?_)))
 simp only [Stop,Act.put,zzC,zzD,zzE]
 go_wp2_with (refine zso rfl (fun K hK=>wp_ldn 30 (.tmp 6) ss i n y rfl rfl (hZ3.get 0 (f:=Ls n y ss) rfl) (by omega) ag30 sz30 (fun q1 ez_q1 hi_q1=>hK _ _ ?_)))
 simp only [Stop,Act.put,zzC,zzD,zzE]
 have hZ4:=hZ3.more (f:=q1.is) q1.stb hi_q1
 clear hZ3 hi_q1
 go_wp2_with fail
 refine (zNeg hZ4.nx (hZ4.get 0 (f:=q1.is) rfl) ez_q1 (by_ i (by omega)) (by omega)).mono ?_
 rintro zz W2 ⟨q2,rfl,ez_q2,hi_q2,hB⟩
 have hZ5:=hZ4.later hB
 clear hB hZ4
 have hZ6:=hZ5.more (f:=q2.is) q2.stb hi_q2
 clear hZ5 hi_q2
 go_wp2_with (refine zss 30 (.tmp 3) (.tmp 8) 0 bk1 0 #[.bool false,.slice none 0 0] 30 2 [.bool q2.b,.slice q2.a q2.n q2.c] #[.bool q2.b,.slice q2.a q2.n q2.c] [(bk1,#[.bool q2.b,.slice q2.a q2.n q2.c],30)] rfl rfl rfl rfl sz30 hZ6 rfl rfl (zzF (by kernel_rfl)) (by kernel_rfl) (by kernel_rfl) (by kernel_rfl) (fun W3 hZ7=>?_))
 clear hZ6
 simp only [Stop,Act.put,zzC,zzD,zzE]
 go_wp2
 exact bodyPost_ret (v:=q2.v) (results_cell 0 Tryz.results52 hZ7.es rfl ag30 sz30 (zzF (by kernel_rfl)) rfl (by kernel_rfl)) rfl ⟨q2,rfl,ez_q2,hZ7.out 0 (f:=q2.is) rfl,hZ7.below⟩
set_option maxRecDepth 100000 in
set_option maxHeartbeats 12800000 in
theorem uWithY {X0:Nat→Prop} {w:World} (hX:NX X0 w) (p s ys:Sl) (c:NL) {k r e:Nat} {P:Nat→Nat→Int} {q y:Nat→Int} {C:Int} (hp:Mt (k+r) (fun _=>k+r) P p X0 w) (hq:Ls (k+r) q s X0 w) (hc:c.is X0 w) (ez_c:c.z=C) (hys:Ls r y ys X0 w) (bP:∀ i j,i < k+r→j < k+r→Sz e (P i j)) (bq:∀ i,i < k+r→Sz e (q i)) (bC:Sz e C) (by_:∀ i,i < r→Sz e (y i)) (hs:Sym (k+r) P) (hkr:k+r≤100) (he:e≤100000):Calls Tryz.prog 17 #[.agg #[p.v,s.v,.bool c.b,.slice c.a c.n c.c],ys.v] w (PUE X0 k P (wq k r P q y) (wc k r P q C y) w):=by
 have bx:∀ i,i < k+r→Sz e (jn k (fun _=>0) y i):=fun i hi=>by
  unfold jn
  split
  ·
   exact sz_zero _
  ·
   exact by_ _ (by omega)
 have hZ0:=zs_start hX
 have hZ1:=hZ0.more (f:=c.is) c.stb hc
 clear hZ0
 have hZ2:=hZ1.more (f:=Ls (k+r) q s) (Ls.stb _ _ _) hq
 clear hZ1
 have hZ3:=hZ2.more (f:=Mt (k+r) (fun _=>k+r) P p) (Mt.stb _ _ _ _) hp
 clear hZ2
 have hZ4:=hZ3.more (f:=Ls r y ys) (Ls.stb _ _ _) hys
 clear hZ3
 go_enter Tryz.func17,Tryz.ntmps17
 go_wp2_with (refine zsb 32 (.tmp 0) #[p.v,s.v,.bool c.b,.slice c.a c.n c.c] rfl rfl rfl hZ4 (fun bk1 X5 W1 hZ5=>?_))
 clear hZ4
 simp only [Stop,Act.put,zzC,zzD,zzE]
 go_wp2_with (refine zsa 32 #[.slice none 0 0,.slice none 0 0,.bool false,.slice none 0 0] (.agg #[.slice none 0 0,.slice none 0 0,.bool false,.slice none 0 0]) rfl rfl zv32 rfl hZ5 (fun bk2 X6 W2 hZ6=>?_))
 clear hZ5
 simp only [Stop,Act.put,zzC,zzD,zzE]
 go_wp2_with (refine zso rfl (fun K hK=>wp_fda (v:=.pointer (some ⟨bk1,1,none⟩)) 32 (.tmp 2) 1 rfl rfl (fun _=>by kernel_rfl) (hK _ _ ?_)))
 simp only [Stop,Act.put,zzC,zzD,zzE]
 go_wp2_with (refine zso rfl (fun K hK=>wp_load1 (v:=s.v) 27 (.tmp 9) rfl bk1 1 #[p.v,s.v,.bool c.b,.slice c.a c.n c.c] 32 (hZ6.es.at' _ (zzG (i:=1) rfl)) rfl ag27 (by kernel_rfl) (hK _ _ ?_)))
 simp only [Stop,Act.put,zzC,zzD,zzE]
 go_wp2_with (refine zso rfl (fun K hK=>wp_lenq (.tmp 10) 27 30 s rfl (by kernel_rfl) rfl (hZ6.get 2 (f:=Ls (k+r) q s) rfl).n (hK _ _ ?_)))
 simp only [Stop,Act.put,zzC,zzD,zzE]
 go_wp2_with (refine zso rfl (fun K hK=>wp_lenq (.tmp 12) 27 30 ys rfl (by kernel_rfl) rfl (hZ6.get 0 (f:=Ls r y ys) rfl).n (hK _ _ ?_)))
 simp only [Stop,Act.put,zzC,zzD,zzE]
 go_wp2_with (refine zso rfl (fun K hK=>wp_subi (.tmp 11) (.tmp 13) rfl rfl rfl (C:=((k:Nat):Int)) (by omega) (by omega) (by omega) (hK _ _ ?_)))
 simp only [Stop,Act.put,zzC,zzD,zzE]
 go_wp2_with (refine zso rfl (fun K hK=>wp_lssi (.tmp 15) (.const (.int .i64 0)) rfl rfl rfl (r:=false) (decide_eq_false (by omega)) (hK _ _ ?_)))
 simp only [Stop,Act.put,zzC,zzD,zzE]
 go_wp2_with (refine stopz_makez ei27 (.tmp 18) (.tmp 18) k rfl rfl rfl rfl (by omega) hZ6 (fun o1 C1 X7 W3 hn_o1 hw_o1 hc_o1 hZ7x=>?_))
 simp only [Stop,Act.put,zzC,zzD,zzE]
 clear hZ6
 have hZ8:Zs w W3 X0 X7 ([(bk2,#[.slice none 0 0,.slice none 0 0,.bool false,.slice none 0 0],32),(bk1,#[p.v,s.v,.bool c.b,.slice c.a c.n c.c],32)]++owl o1 C1 30) [Ls r y ys,Mt (k+r) (fun _=>k+r) P p,Ls (k+r) q s,c.is]:=hZ7x.perm List.perm_append_comm
 clear hZ7x
 have hZ9:=hZ8.more (f:=Fl 2 (EN (fun _=>0)) k C1) (Fl.stb (EN.stb _) _ _) (fl_noughts hc_o1)
 clear hZ8
 have hZ10r:=(hZ9.get 0 (f:=Fl 2 (EN (fun _=>0)) k C1) rfl)
 obtain ⟨X11,hZ11⟩:=Zs.tell (hZ9.perm List.perm_append_comm) hX hw_o1 hn_o1 hZ10r
 clear hZ9 hZ10r
 go_wp2_with fail
 refine ((uLong hZ11.nx o1 ys (hZ11.get 0 (f:=Ls k (fun _=>0) o1) rfl) (hZ11.get 2 (f:=Ls r y ys) rfl) (by omega)).mono (plong_ls hZ11.nx)).mono ?_
 rintro zz W4 ⟨s2,rfl,hi_s2,hB⟩
 have hZ13:=hZ11.later hB
 clear hB hZ11
 have hZ14:=hZ13.more (f:=Ls (k+r) (jn k (fun _=>0) y) s2) (Ls.stb _ _ _) hi_s2
 clear hZ13 hi_s2
 go_wp2_with (refine zso rfl (fun K hK=>wp_load 32 (.tmp 2) rfl bk1 0 4 #[p.v,s.v,.bool c.b,.slice c.a c.n c.c] #[p.v,s.v,.bool c.b,.slice c.a c.n c.c] 32 (hZ14.es.at' _ (zzG (i:=1) rfl)) rfl ag32 sz32 (zzF (by kernel_rfl)) (by kernel_rfl) (hK _ _ ?_)))
 simp only [Stop,Act.put,zzC,zzD,zzE]
 go_wp2_with fail
 refine (uSlope hZ14.nx p s c (x:=jn k (fun _=>0) y) s2 (hZ14.get 4 (f:=Mt (k+r) (fun _=>k+r) P p) rfl) (hZ14.get 5 (f:=Ls (k+r) q s) rfl) (hZ14.get 6 (f:=c.is) rfl) ez_c (hZ14.get 0 (f:=Ls (k+r) (jn k (fun _=>0) y) s2) rfl) bP bq bC bx (by omega) (by omega)).mono ?_
 rintro zz W5 ⟨s3,rfl,hi_s3,hB⟩
 have hZ15:=hZ14.later hB
 clear hB hZ14
 have hZ16:=hZ15.more (f:=Ls (k+r) (fun i=>M.mulv (k+r) P (jn k (fun _=>0) y) i - q i) s3) (Ls.stb _ _ _) hi_s3
 clear hZ15 hi_s3
 go_wp2_with (refine zsa 27 #[.slice none 0 0] (.slice none 0 0) rfl rfl zv27 rfl hZ16 (fun bk3 X17 W6 hZ17=>?_))
 clear hZ16
 simp only [Stop,Act.put,zzC,zzD,zzE]
 go_wp2_with (refine zss 27 (.tmp 8) (.tmp 24) 0 bk3 0 #[.slice none 0 0] 27 1 [s3.v] #[s3.v] [(bk3,#[s3.v],27),(bk2,#[.slice none 0 0,.slice none 0 0,.bool false,.slice none 0 0],32),(bk1,#[p.v,s.v,.bool c.b,.slice c.a c.n c.c],32)] rfl rfl rfl rfl sz27 hZ17 rfl rfl (zzF (by kernel_rfl)) (by kernel_rfl) (by kernel_rfl) (by kernel_rfl) (fun W7 hZ18=>?_))
 clear hZ17
 simp only [Stop,Act.put,zzC,zzD,zzE]
 have hZ19:=hZ18.release hX
 clear hZ18
 go_wp2
 obtain ⟨XR6,hZ20⟩:∃ Xr,Zs w W7 X0 Xr [(bk2,#[.slice none 0 0,.slice none 0 0,.bool false,.slice none 0 0],32),(bk1,#[p.v,s.v,.bool c.b,.slice c.a c.n c.c],32)] [Cf bk3 #[s3.v] 27,Ls (k+r) (fun i=>M.mulv (k+r) P (jn k (fun _=>0) y) i - q i) s3,Ls (k+r) (jn k (fun _=>0) y) s2,Ls k (fun _=>0) o1,Fl 2 (EN (fun _=>0)) k C1,Ls r y ys,Mt (k+r) (fun _=>k+r) P p,Ls (k+r) q s,c.is]:=⟨_,hZ19⟩
 clear hZ19
 refine zrp 10 [some 25,some 26,some 27,some 28,some 29,some 30,some 31,some 32,some 33,some 34] [veq (.pointer (some ⟨bk1,0,none⟩)),veq (p.v),veq (.int .i64 (((k:Nat):Int))),vmt k (fun _=>k) P,veq (.int .i64 (((k:Nat):Int))),veq (.func (.func 52) #[] #[.pointer (some ⟨bk3,0,none⟩)]),vls k (fun i=>-(M.mulv (k+r) P (jn k (fun _=>0) y) i - q i)),veq (.agg #[p.v,s.v,.bool c.b,.slice c.a c.n c.c]),veq (s2.v),vnum (Vq (k+r) P q C (jn k (fun _=>0) y))] (by kernel_rfl) (by kernel_rfl) (by rfl) (by decide) (by rfl) hZ20 ?_ ?_
 ·
  intro iq hlq hiq LL uu ww aa hLi hLc hJ hd hall hev hin hold
  clear hZ20
  obtain rfl | rfl | rfl | rfl | rfl | rfl | rfl | rfl | rfl | rfl:iq=0∨iq=1∨iq=2∨iq=3∨iq=4∨iq=5∨iq=6∨iq=7∨iq=8∨iq=9:=by omega
  ·
   exact oz rfl (fun _ hK=>wp_fda (v:=.pointer (some ⟨bk1,0,none⟩)) 32 (.tmp 2) 0 rfl (zet ((hev 2 (by decide)).trans rfl)) (fun _=>by kernel_rfl) (hK _ _ hJ rfl vsm))
  ·
   exact oz rfl (fun _ hK=>wp_load1 (v:=p.v) 26 (.tmp 25) rfl bk1 0 #[p.v,s.v,.bool c.b,.slice c.a c.n c.c] 32 (hJ.es.at' _ (zzG (i:=1) rfl)) (zj (hin 0 25 rfl) (show uu 0=.pointer (some ⟨bk1,0,none⟩) from (hd 0 (by kernel_rfl)))) ag26 (by kernel_rfl) (hK _ _ hJ rfl vsm))
  ·
   exact oz rfl (fun _ hK=>wp_move (.tmp 6) rfl (zet ((hev 6 (by decide)).trans rfl)) (hK _ _ hJ rfl vsm))
  ·
   refine oz rfl (fun _ hK=>zcz (.func 23) #[.tmp 26,.tmp 27] #[26,3] 23 #[] #[p.v,.int .i64 (((k:Nat):Int))] _ rfl rfl (map2 (zj (hin 1 26 rfl) (show uu 1=p.v from (hd 1 (by kernel_rfl)))) (zj (hin 2 27 rfl) (show uu 2=.int .i64 (((k:Nat):Int)) from (hd 2 (by kernel_rfl))))) rfl (fun _ _=>rfl) (uLead hJ.nx p k (hJ.get 6 (f:=Mt (k+r) (fun _=>k+r) P p) rfl) (by omega) (by omega)) ?_)
   rintro zz ww2 ⟨s4,rfl,hi_s4,hB⟩
   exact ⟨_,rfl,hK _ _ (hJ.later hB) ⟨s4,rfl,hi_s4⟩ (vlat hB)⟩
  ·
   exact oz rfl (fun _ hK=>wp_move (.tmp 6) rfl (zet ((hev 6 (by decide)).trans rfl)) (hK _ _ hJ rfl vsm))
  ·
   exact oz rfl (fun _ hK=>wp_mkf 52 #[.tmp 8] #[.pointer (some ⟨bk3,0,none⟩)] rfl (map1 (zet ((hev 8 (by decide)).trans rfl))) (hK _ _ hJ rfl vsm))
  ·
   refine oz rfl (fun _ hK=>zcz (.func 42) #[.tmp 29,.tmp 30] #[3,81] 42 #[] #[.int .i64 (((k:Nat):Int)),.func (.func 52) #[] #[.pointer (some ⟨bk3,0,none⟩)]] _ rfl rfl (map2 (zj (hin 4 29 rfl) (show uu 4=.int .i64 (((k:Nat):Int)) from (hd 4 (by kernel_rfl)))) (zj (hin 5 30 rfl) (show uu 5=.func (.func 52) #[] #[.pointer (some ⟨bk3,0,none⟩)] from (hd 5 (by kernel_rfl))))) rfl (fun _ _=>rfl) (uMadeN hJ.nx k 52 #[.pointer (some ⟨bk3,0,none⟩)] (fun i=>-(M.mulv (k+r) P (jn k (fun _=>0) y) i - q i)) (by omega) ⟨fun _ _=>rfl,fun i hi X' W' hx_ he_ hb=>(show Calls _ _ #[.int .i64 ((i:Nat):Int),.pointer (some ⟨bk3,0,none⟩)] _ _ from uWith1 hx_ bk3 i (show i < k+r by omega) (Cf.stb _ _ _ _ _ _ _ he_ (hJ.get 0 (f:=Cf bk3 #[s3.v] 27) rfl)) (Ls.stb _ _ _ _ _ _ _ he_ (hJ.get 1 (f:=Ls (k+r) (fun i=>M.mulv (k+r) P (jn k (fun _=>0) y) i - q i) s3) rfl)) (fun (i:Nat) (hi:i < k+r)=>Sz.minus (e:=3*e+k+r) ((sm_sz (fun (t:Nat) (ht:t < k+r)=>Sz.mul (bP i t hi ht) (bx t ht))).mono (by omega)) ((bq i hi).mono (by omega))) (by omega))⟩) ?_)
   rintro zz ww2 ⟨s5,rfl,hi_s5,hB⟩
   exact ⟨_,rfl,hK _ _ (hJ.later hB) ⟨s5,rfl,hi_s5⟩ (vlat hB)⟩
  ·
   exact oz rfl (fun _ hK=>wp_load 32 (.tmp 2) rfl bk1 0 4 #[p.v,s.v,.bool c.b,.slice c.a c.n c.c] #[p.v,s.v,.bool c.b,.slice c.a c.n c.c] 32 (hJ.es.at' _ (zzG (i:=1) rfl)) (zet ((hev 2 (by decide)).trans rfl)) ag32 sz32 (zzF (by kernel_rfl)) (by kernel_rfl) (hK _ _ hJ rfl vsm))
  ·
   exact oz rfl (fun _ hK=>wp_move (.tmp 7) rfl (zet ((hev 7 (by decide)).trans rfl)) (hK _ _ hJ rfl vsm))
  ·
   refine oz rfl (fun _ hK=>zcz (.func 10) #[.tmp 32,.tmp 33] #[32,27] 10 #[] #[.agg #[p.v,s.v,.bool c.b,.slice c.a c.n c.c],s2.v] _ rfl rfl (map2 (zj (hin 7 32 rfl) (show uu 7=.agg #[p.v,s.v,.bool c.b,.slice c.a c.n c.c] from (hd 7 (by kernel_rfl)))) (zj (hin 8 33 rfl) (show uu 8=s2.v from (hd 8 (by kernel_rfl))))) rfl (fun _ _=>rfl) (uValue hJ.nx p s c (x:=jn k (fun _=>0) y) s2 (hJ.get 6 (f:=Mt (k+r) (fun _=>k+r) P p) rfl) (hJ.get 7 (f:=Ls (k+r) q s) rfl) (hJ.get 8 (f:=c.is) rfl) ez_c (hJ.get 2 (f:=Ls (k+r) (jn k (fun _=>0) y) s2) rfl) bP bq bC bx (by omega) (by omega)) ?_)
   rintro zz ww2 ⟨q6,rfl,ez_q6,hi_q6,hB⟩
   exact ⟨_,rfl,hK _ _ (hJ.later hB) ⟨q6,rfl,ez_q6,hi_q6⟩ (vlat hB)⟩
 clear hZ20
 intro uu W8 hZ21 hd
 have e_0:uu 0=.pointer (some ⟨bk1,0,none⟩):=hd 0 (by decide)
 have e_1:uu 1=p.v:=hd 1 (by decide)
 have e_2:uu 2=.int .i64 (((k:Nat):Int)):=hd 2 (by decide)
 obtain ⟨s4,e_3,hi_s4⟩:=(show (vmt k (fun _=>k) P) (uu 3) XR6 W8 from hd 3 (by decide))
 have e_4:uu 4=.int .i64 (((k:Nat):Int)):=hd 4 (by decide)
 have e_5:uu 5=.func (.func 52) #[] #[.pointer (some ⟨bk3,0,none⟩)]:=hd 5 (by decide)
 obtain ⟨s5,e_6,hi_s5⟩:=(show (vls k (fun i=>-(M.mulv (k+r) P (jn k (fun _=>0) y) i - q i))) (uu 6) XR6 W8 from hd 6 (by decide))
 have e_7:uu 7=.agg #[p.v,s.v,.bool c.b,.slice c.a c.n c.c]:=hd 7 (by decide)
 have e_8:uu 8=s2.v:=hd 8 (by decide)
 obtain ⟨q6,e_9,ez_q6,hi_q6⟩:=(show (vnum (Vq (k+r) P q C (jn k (fun _=>0) y))) (uu 9) XR6 W8 from hd 9 (by decide))
 clear hd
 simp only [layS,Act.put,zzC,zzD,zzE,Nat.zero_add,Nat.reduceAdd,List.drop_succ_cons,List.drop_zero,List.drop_nil,e_0,e_1,e_2,e_3,e_4,e_5,e_6,e_7,e_8,e_9]
 clear e_0 e_1 e_2 e_3 e_4 e_5 e_6 e_7 e_8 e_9
 have hZ22:=hZ21.more (f:=Mt k (fun _=>k) P s4) (Mt.stb _ _ _ _) hi_s4
 clear hZ21 hi_s4
 have hZ23:=hZ22.more (f:=Ls k (fun i=>-(M.mulv (k+r) P (jn k (fun _=>0) y) i - q i)) s5) (Ls.stb _ _ _) hi_s5
 clear hZ22 hi_s5
 have hZ24:=hZ23.more (f:=q6.is) q6.stb hi_q6
 clear hZ23 hi_q6
 go_wp2_with (refine zso rfl (fun K hK=>wp_bld (v:=.agg #[s4.v,s5.v,.bool q6.b,.slice q6.a q6.n q6.c]) 32 #[(0,.tmp 28),(1,.tmp 31),(2,.tmp 34)] rfl (bmap3 (u:=s4.v) (v:=s5.v) (t:=q6.v) rfl rfl rfl) (fun _=>by kernel_rfl) (hK _ _ ?_)))
 simp only [Stop,Act.put,zzC,zzD,zzE]
 go_wp2_with (refine zss 32 (.tmp 4) (.tmp 35) 0 bk2 0 #[.slice none 0 0,.slice none 0 0,.bool false,.slice none 0 0] 32 4 [s4.v,s5.v,.bool q6.b,.slice q6.a q6.n q6.c] #[s4.v,s5.v,.bool q6.b,.slice q6.a q6.n q6.c] [(bk2,#[s4.v,s5.v,.bool q6.b,.slice q6.a q6.n q6.c],32),(bk1,#[p.v,s.v,.bool c.b,.slice c.a c.n c.c],32)] rfl rfl rfl rfl sz32 hZ24 rfl rfl (zzF (by kernel_rfl)) (by kernel_rfl) (by kernel_rfl) (by kernel_rfl) (fun W9 hZ25=>?_))
 clear hZ24
 simp only [Stop,Act.put,zzC,zzD,zzE]
 go_wp2
 refine bodyPost_ret (v:=.tuple #[.agg #[s4.v,s5.v,.bool q6.b,.slice q6.a q6.n q6.c],.int .i64 0]) (results_ct Tryz.results17 (hZ25.es.loadBox 0 rfl ag32 sz32 (zzF (by kernel_rfl)) (by kernel_rfl)) rfl rfl) rfl ?_
 exact ⟨s4,s5,q6,rfl,(hZ25.out 2 (f:=Mt k (fun _=>k) P s4) rfl),(hZ25.out 1 (f:=Ls k (fun i=>-(M.mulv (k+r) P (jn k (fun _=>0) y) i - q i)) s5) rfl).congr (fun i _=>with_q k r P q y i),ez_q6.trans (with_c hs q C y),(hZ25.out 0 (f:=q6.is) rfl),hZ25.below⟩
/-- What is left without the first numbers, the scale. -/
def PWo (X:Nat→Prop) (k r:Nat) (P:Nat→Nat→Int) (q:Nat→Int) (C:Int) (w:World) (e:Ending) (w':World):Prop:=∃ (p s:Sl) (c d:NL),e=.returned (.tuple #[.agg #[p.v,s.v,.bool c.b,.slice c.a c.n c.c],.agg #[.bool d.b,.slice d.a d.n d.c],.int .i64 0])∧Mt r (fun _=>r) (lp k P) p X w'∧Ls r (lq k P q) s X w'∧c.z=lc k P q C∧c.is X w'∧d.z=M.dt k P∧d.is X w'∧Below w.heap.size w w'
open Classical in
set_option maxRecDepth 100000 in
set_option maxHeartbeats 12800000 in
theorem uWoFlat {X0:Nat→Prop} {w:World} (hX:NX X0 w) (p s:Sl) (c:NL) {k r e:Nat} {P:Nat→Nat→Int} {q:Nat→Int} {C:Int} (hp:Mt (k+r) (fun _=>k+r) P p X0 w) (hq:Ls (k+r) q s X0 w) (hc:c.is X0 w) (ez_c:c.z=C) (bP:∀ i j,i < k+r→j < k+r→Sz e (P i j)) (bq:∀ i,i < k+r→Sz e (q i)) (bC:Sz e C) (hs:Sym (k+r) P) (hk:k≤12) (hkr:k+r≤90) (he1:1≤e) (he:e≤200) (ho:¬ (Sym k P∧∀ i,i < k→0 < M.dt (i+1) P)):Calls Tryz.prog 6 #[.agg #[p.v,s.v,.bool c.b,.slice c.a c.n c.c],.int .i64 ((k:Nat):Int)] w (PVal (.tuple #[.agg #[.slice none 0 0,.slice none 0 0,.bool false,.slice none 0 0],.agg #[.bool false,.slice none 0 0],.int .i64 80]) w):=by
 have hdb:dtb e k≤3000:=dtb_le he hk
 have HO:=Lib.hid ho
 clear ho
 have HS:=Lib.hid hs
 clear hs
 have hZ0:=zs_start hX
 have hZ1:=hZ0.more (f:=c.is) c.stb hc
 clear hZ0
 have hZ2:=hZ1.more (f:=Ls (k+r) q s) (Ls.stb _ _ _) hq
 clear hZ1
 have hZ3:=hZ2.more (f:=Mt (k+r) (fun _=>k+r) P p) (Mt.stb _ _ _ _) hp
 clear hZ2
 go_enter Tryz.func6,Tryz.ntmps6
 go_wp2_with (refine zsb 32 (.tmp 0) #[p.v,s.v,.bool c.b,.slice c.a c.n c.c] rfl rfl rfl hZ3 (fun bk1 X4 W1 hZ4=>?_))
 clear hZ3
 simp only [Stop,Act.put,zzC,zzD,zzE]
 go_wp2_with (refine zsa 32 #[.slice none 0 0,.slice none 0 0,.bool false,.slice none 0 0] (.agg #[.slice none 0 0,.slice none 0 0,.bool false,.slice none 0 0]) rfl rfl zv32 rfl hZ4 (fun bk2 X5 W2 hZ5=>?_))
 clear hZ4
 simp only [Stop,Act.put,zzC,zzD,zzE]
 go_wp2_with (refine zsa 30 #[.bool false,.slice none 0 0] (.agg #[.bool false,.slice none 0 0]) rfl rfl zv30 rfl hZ5 (fun bk3 X6 W3 hZ6=>?_))
 clear hZ5
 simp only [Stop,Act.put,zzC,zzD,zzE]
 go_wp2_with (refine zso rfl (fun K hK=>wp_lssi (.tmp 8) (.const (.int .i64 0)) rfl rfl rfl (r:=false) (decide_eq_false (by omega)) (hK _ _ ?_)))
 simp only [Stop,Act.put,zzC,zzD,zzE]
 go_wp2_with (refine zsw (by kernel_rfl) (fun K hK=>wp_fda (v:=.pointer (some ⟨bk1,1,none⟩)) 32 (.tmp 2) 1 rfl rfl (fun _=>by kernel_rfl) (hK _ _ ?_)))
 simp only [Stop,Act.put,zzC,zzD,zzE]
 go_wp2_with (refine zsw (by kernel_rfl) (fun K hK=>wp_load1 (v:=s.v) 27 (.tmp 12) rfl bk1 1 #[p.v,s.v,.bool c.b,.slice c.a c.n c.c] 32 (hZ6.es.at' _ (zzG (i:=2) rfl)) rfl ag27 (by kernel_rfl) (hK _ _ ?_)))
 simp only [Stop,Act.put,zzC,zzD,zzE]
 go_wp2_with (refine zsw (by kernel_rfl) (fun K hK=>wp_lenq (.tmp 13) 27 30 s rfl (by kernel_rfl) rfl (hZ6.get 1 (f:=Ls (k+r) q s) rfl).n (hK _ _ ?_)))
 simp only [Stop,Act.put,zzC,zzD,zzE]
 go_wp2_with (refine zsw (by kernel_rfl) (fun K hK=>wp_gtri (.tmp 11) (.tmp 14) rfl rfl rfl (r:=false) (decide_eq_false (by omega)) (hK _ _ ?_)))
 simp only [Stop,Act.put,zzC,zzD,zzE]
 go_wp2_with (refine zso rfl (fun K hK=>wp_fda (v:=.pointer (some ⟨bk1,0,none⟩)) 32 (.tmp 2) 0 rfl rfl (fun _=>by kernel_rfl) (hK _ _ ?_)))
 simp only [Stop,Act.put,zzC,zzD,zzE]
 go_wp2_with (refine zso rfl (fun K hK=>wp_load1 (v:=p.v) 26 (.tmp 19) rfl bk1 0 #[p.v,s.v,.bool c.b,.slice c.a c.n c.c] 32 (hZ6.es.at' _ (zzG (i:=2) rfl)) rfl ag26 (by kernel_rfl) (hK _ _ ?_)))
 simp only [Stop,Act.put,zzC,zzD,zzE]
 go_wp2_with fail
 refine (uLead hZ6.nx p k (hZ6.get 0 (f:=Mt (k+r) (fun _=>k+r) P p) rfl) (by omega) (by omega)).mono ?_
 rintro zz W4 ⟨s1,rfl,hi_s1,hB⟩
 have hZ7:=hZ6.later hB
 clear hB hZ6
 have hZ8:=hZ7.more (f:=Mt k (fun _=>k) P s1) (Mt.stb _ _ _ _) hi_s1
 clear hZ7 hi_s1
 go_wp2_with fail
 refine ((lDefinite hZ8.nx s1 (e:=e) (by omega) (by omega) (by omega) (hZ8.get 0 (f:=Mt k (fun _=>k) P s1) rfl) (fun (i j:Nat) (hi:i < k) (hj:j < k)=>bP i j (by omega) (by omega))).mono (fun _ _ h=>by rw [decide_eq_false HO.out] at h; exact h)).mono ?_
 rintro zz W5 ⟨rfl,hB⟩
 have hZ9:=hZ8.later hB
 clear hB hZ8
 go_wp2_with (refine zss 32 (.tmp 4) (.tmp 26) 1 bk2 0 #[.slice none 0 0,.slice none 0 0,.bool false,.slice none 0 0] 32 4 [.slice none 0 0,.slice none 0 0,.bool false,.slice none 0 0] #[.slice none 0 0,.slice none 0 0,.bool false,.slice none 0 0] [(bk3,#[.bool false,.slice none 0 0],30),(bk2,#[.slice none 0 0,.slice none 0 0,.bool false,.slice none 0 0],32),(bk1,#[p.v,s.v,.bool c.b,.slice c.a c.n c.c],32)] rfl rfl rfl rfl sz32 hZ9 rfl rfl (zzF (by kernel_rfl)) (by kernel_rfl) (by kernel_rfl) (by kernel_rfl) (fun W6 hZ10=>?_))
 clear hZ9
 simp only [Stop,Act.put,zzC,zzD,zzE]
 go_wp2_with (refine zss 30 (.tmp 5) (.tmp 27) 0 bk3 0 #[.bool false,.slice none 0 0] 30 2 [.bool false,.slice none 0 0] #[.bool false,.slice none 0 0] [(bk3,#[.bool false,.slice none 0 0],30),(bk2,#[.slice none 0 0,.slice none 0 0,.bool false,.slice none 0 0],32),(bk1,#[p.v,s.v,.bool c.b,.slice c.a c.n c.c],32)] rfl rfl rfl rfl sz30 hZ10 rfl rfl (zzF (by kernel_rfl)) (by kernel_rfl) (by kernel_rfl) (by kernel_rfl) (fun W7 hZ11=>?_))
 clear hZ10
 simp only [Stop,Act.put,zzC,zzD,zzE]
 go_wp2
 refine bodyPost_ret (v:=.tuple #[.agg #[.slice none 0 0,.slice none 0 0,.bool false,.slice none 0 0],.agg #[.bool false,.slice none 0 0],.int .i64 80]) (results_cct Tryz.results6 (hZ11.es.loadBox 1 rfl ag32 sz32 (zzF (by kernel_rfl)) (by kernel_rfl)) (hZ11.es.loadBox 0 rfl ag30 sz30 (zzF (by kernel_rfl)) (by kernel_rfl)) rfl rfl rfl) rfl ?_
 exact ⟨rfl,hZ11.below⟩
open Classical in
set_option maxRecDepth 100000 in
set_option maxHeartbeats 12800000 in
theorem uWoY {X0:Nat→Prop} {w:World} (hX:NX X0 w) (p s:Sl) (c:NL) {k r e:Nat} {P:Nat→Nat→Int} {q:Nat→Int} {C:Int} (hp:Mt (k+r) (fun _=>k+r) P p X0 w) (hq:Ls (k+r) q s X0 w) (hc:c.is X0 w) (ez_c:c.z=C) (bP:∀ i j,i < k+r→j < k+r→Sz e (P i j)) (bq:∀ i,i < k+r→Sz e (q i)) (bC:Sz e C) (hs:Sym (k+r) P) (hk:k≤12) (hkr:k+r≤90) (he1:1≤e) (he:e≤200) (ho:(Sym k P∧∀ i,i < k→0 < M.dt (i+1) P)) (hD:M.dt k P ≠ 0):Calls Tryz.prog 6 #[.agg #[p.v,s.v,.bool c.b,.slice c.a c.n c.c],.int .i64 ((k:Nat):Int)] w (PWo X0 k r P q C w):=by
 have hdb:dtb e k≤3000:=dtb_le he hk
 have HO:=Lib.hid ho
 clear ho
 have HS:=Lib.hid hs
 clear hs
 have HD:=Lib.hid hD
 clear hD
 have hZ0:=zs_start hX
 have hZ1:=hZ0.more (f:=c.is) c.stb hc
 clear hZ0
 have hZ2:=hZ1.more (f:=Ls (k+r) q s) (Ls.stb _ _ _) hq
 clear hZ1
 have hZ3:=hZ2.more (f:=Mt (k+r) (fun _=>k+r) P p) (Mt.stb _ _ _ _) hp
 clear hZ2
 go_enter Tryz.func6,Tryz.ntmps6
 go_wp2_with (refine zsb 32 (.tmp 0) #[p.v,s.v,.bool c.b,.slice c.a c.n c.c] rfl rfl rfl hZ3 (fun bk1 X4 W1 hZ4=>?_))
 clear hZ3
 simp only [Stop,Act.put,zzC,zzD,zzE]
 go_wp2_with (refine zsa 32 #[.slice none 0 0,.slice none 0 0,.bool false,.slice none 0 0] (.agg #[.slice none 0 0,.slice none 0 0,.bool false,.slice none 0 0]) rfl rfl zv32 rfl hZ4 (fun bk2 X5 W2 hZ5=>?_))
 clear hZ4
 simp only [Stop,Act.put,zzC,zzD,zzE]
 go_wp2_with (refine zsa 30 #[.bool false,.slice none 0 0] (.agg #[.bool false,.slice none 0 0]) rfl rfl zv30 rfl hZ5 (fun bk3 X6 W3 hZ6=>?_))
 clear hZ5
 simp only [Stop,Act.put,zzC,zzD,zzE]
 go_wp2_with (refine zso rfl (fun K hK=>wp_lssi (.tmp 8) (.const (.int .i64 0)) rfl rfl rfl (r:=false) (decide_eq_false (by omega)) (hK _ _ ?_)))
 simp only [Stop,Act.put,zzC,zzD,zzE]
 go_wp2_with (refine zsw (by kernel_rfl) (fun K hK=>wp_fda (v:=.pointer (some ⟨bk1,1,none⟩)) 32 (.tmp 2) 1 rfl rfl (fun _=>by kernel_rfl) (hK _ _ ?_)))
 simp only [Stop,Act.put,zzC,zzD,zzE]
 go_wp2_with (refine zsw (by kernel_rfl) (fun K hK=>wp_load1 (v:=s.v) 27 (.tmp 12) rfl bk1 1 #[p.v,s.v,.bool c.b,.slice c.a c.n c.c] 32 (hZ6.es.at' _ (zzG (i:=2) rfl)) rfl ag27 (by kernel_rfl) (hK _ _ ?_)))
 simp only [Stop,Act.put,zzC,zzD,zzE]
 go_wp2_with (refine zsw (by kernel_rfl) (fun K hK=>wp_lenq (.tmp 13) 27 30 s rfl (by kernel_rfl) rfl (hZ6.get 1 (f:=Ls (k+r) q s) rfl).n (hK _ _ ?_)))
 simp only [Stop,Act.put,zzC,zzD,zzE]
 go_wp2_with (refine zsw (by kernel_rfl) (fun K hK=>wp_gtri (.tmp 11) (.tmp 14) rfl rfl rfl (r:=false) (decide_eq_false (by omega)) (hK _ _ ?_)))
 simp only [Stop,Act.put,zzC,zzD,zzE]
 go_wp2_with (refine zso rfl (fun K hK=>wp_fda (v:=.pointer (some ⟨bk1,0,none⟩)) 32 (.tmp 2) 0 rfl rfl (fun _=>by kernel_rfl) (hK _ _ ?_)))
 simp only [Stop,Act.put,zzC,zzD,zzE]
 go_wp2_with (refine zso rfl (fun K hK=>wp_load1 (v:=p.v) 26 (.tmp 19) rfl bk1 0 #[p.v,s.v,.bool c.b,.slice c.a c.n c.c] 32 (hZ6.es.at' _ (zzG (i:=2) rfl)) rfl ag26 (by kernel_rfl) (hK _ _ ?_)))
 simp only [Stop,Act.put,zzC,zzD,zzE]
 go_wp2_with fail
 refine (uLead hZ6.nx p k (hZ6.get 0 (f:=Mt (k+r) (fun _=>k+r) P p) rfl) (by omega) (by omega)).mono ?_
 rintro zz W4 ⟨s1,rfl,hi_s1,hB⟩
 have hZ7:=hZ6.later hB
 clear hB hZ6
 have hZ8:=hZ7.more (f:=Mt k (fun _=>k) P s1) (Mt.stb _ _ _ _) hi_s1
 clear hZ7 hi_s1
 go_wp2_with fail
 refine ((lDefinite hZ8.nx s1 (e:=e) (by omega) (by omega) (by omega) (hZ8.get 0 (f:=Mt k (fun _=>k) P s1) rfl) (fun (i j:Nat) (hi:i < k) (hj:j < k)=>bP i j (by omega) (by omega))).mono (fun _ _ h=>by rw [decide_eq_true HO.out] at h; exact h)).mono ?_
 rintro zz W5 ⟨rfl,hB⟩
 have hZ9:=hZ8.later hB
 clear hB hZ8
 go_wp2_with fail
 refine (lDet hZ9.nx s1 (e:=e) (by omega) (by omega) (by omega) (hZ9.get 0 (f:=Mt k (fun _=>k) P s1) rfl) (fun (i j:Nat) (hi:i < k) (hj:j < k)=>bP i j (by omega) (by omega))).mono ?_
 rintro zz W6 ⟨q2,rfl,ez_q2,hi_q2,hB⟩
 have hZ10:=hZ9.later hB
 clear hB hZ9
 have hZ11:=hZ10.more (f:=q2.is) q2.stb hi_q2
 clear hZ10 hi_q2
 go_wp2_with (refine zss 30 (.tmp 5) (.tmp 29) 0 bk3 0 #[.bool false,.slice none 0 0] 30 2 [.bool q2.b,.slice q2.a q2.n q2.c] #[.bool q2.b,.slice q2.a q2.n q2.c] [(bk3,#[.bool q2.b,.slice q2.a q2.n q2.c],30),(bk2,#[.slice none 0 0,.slice none 0 0,.bool false,.slice none 0 0],32),(bk1,#[p.v,s.v,.bool c.b,.slice c.a c.n c.c],32)] rfl rfl rfl rfl sz30 hZ11 rfl rfl (zzF (by kernel_rfl)) (by kernel_rfl) (by kernel_rfl) (by kernel_rfl) (fun W7 hZ12=>?_))
 clear hZ11
 simp only [Stop,Act.put,zzC,zzD,zzE]
 go_wp2
 obtain ⟨XR7,hZ13⟩:∃ Xr,Zs w W7 X0 Xr [(bk3,#[.bool q2.b,.slice q2.a q2.n q2.c],30),(bk2,#[.slice none 0 0,.slice none 0 0,.bool false,.slice none 0 0],32),(bk1,#[p.v,s.v,.bool c.b,.slice c.a c.n c.c],32)] [q2.is,Mt k (fun _=>k) P s1,Mt (k+r) (fun _=>k+r) P p,Ls (k+r) q s,c.is]:=⟨_,hZ12⟩
 clear hZ12
 have hVS7:∀ kq,kq ∈ ([veq (.agg #[p.v,s.v,.bool c.b,.slice c.a c.n c.c]),vmt (k+r+1) (fun _=>k+r+1) (tbl (k+r) P q C),veq (.int .i64 (((k:Nat):Int))),vmt (k+r+1 - k) (fun i=>(fun _=>k+r+1) (k+i)) (fun i=>(tbl (k+r) P q C) (k+i)),veq (s1.v),veq (q2.v),vmt (r+1) (fun _=>r+1) (cdn k (k+r) P q C),vux r (cdn k (k+r) P q C) (cdn k (k+r) P q C r) (cdn k (k+r) P q C r r),veq (q2.v),vstU bk2 r (cdn k (k+r) P q C) (cdn k (k+r) P q C r) (cdn k (k+r) P q C r r) 32]:List VF)→VSt kq:=by
  intro kq hkq
  simp only [List.mem_cons,List.not_mem_nil,or_false] at hkq
  rcases hkq with rfl | rfl | rfl | rfl | rfl | rfl | rfl | rfl | rfl | rfl
  ·
   exact (zve _).st
  ·
   exact (vmt_se _ _ _).st
  ·
   exact (zve _).st
  ·
   exact (vmt_se _ _ _).st
  ·
   exact (zve _).st
  ·
   exact (zve _).st
  ·
   exact (vmt_se _ _ _).st
  ·
   exact (vux_se _ _ _ _).st
  ·
   exact (zve _).st
  ·
   exact vstU_st _ _ _ _ _ _
 refine wp_region_s 10 [some 30,some 31,some 32,some 33,some 34,some 35,some 36,some 37,some 38,none] [veq (.agg #[p.v,s.v,.bool c.b,.slice c.a c.n c.c]),vmt (k+r+1) (fun _=>k+r+1) (tbl (k+r) P q C),veq (.int .i64 (((k:Nat):Int))),vmt (k+r+1 - k) (fun i=>(fun _=>k+r+1) (k+i)) (fun i=>(tbl (k+r) P q C) (k+i)),veq (s1.v),veq (q2.v),vmt (r+1) (fun _=>r+1) (cdn k (k+r) P q C),vux r (cdn k (k+r) P q C) (cdn k (k+r) P q C r) (cdn k (k+r) P q C r r),veq (q2.v),vstU bk2 r (cdn k (k+r) P q C) (cdn k (k+r) P q C r) (cdn k (k+r) P q C r r) 32] (fun _ _ X1 l1=>XR7=X1∧∃ Cz0:Array Value,Cz0.size=4∧[(bk3,#[.bool q2.b,.slice q2.a q2.n q2.c],30),(bk2,Cz0,32),(bk1,#[p.v,s.v,.bool c.b,.slice c.a c.n c.c],32)]=l1) [q2.is,Mt k (fun _=>k) P s1,Mt (k+r) (fun _=>k+r) P p,Ls (k+r) q s,c.is] (by kernel_rfl) (by kernel_rfl) (by rfl) (by decide) (by rfl) (fun _=>⟨XR7,_,⟨rfl,_,rfl,rfl⟩,hZ13.later (Below.refl _ _).drew⟩) ?_ ?_
 ·
  intro iq hlq hiq LL uu ww aa X1 l1 hLi hLc hR hJ hd hall hev hin hold
  clear hZ13
  obtain rfl | rfl | rfl | rfl | rfl | rfl | rfl | rfl | rfl | rfl:iq=0∨iq=1∨iq=2∨iq=3∨iq=4∨iq=5∨iq=6∨iq=7∨iq=8∨iq=9:=by omega
  ·
   refine zos hJ (fun _=>hR) ?_
   obtain ⟨eX,Cz0,hsCz0,el⟩:=hR
   subst eX
   subst el
   exact .inr ⟨rfl,fun K' hK=>wp_load 32 (.tmp 2) rfl bk1 0 4 #[p.v,s.v,.bool c.b,.slice c.a c.n c.c] #[p.v,s.v,.bool c.b,.slice c.a c.n c.c] 32 (hJ.es.at' _ (zzG (i:=2) rfl)) (zet ((hev 2 (by decide)).trans rfl)) ag32 sz32 (zzF (by kernel_rfl)) (by kernel_rfl) (hK _ _ hJ rfl zvs)⟩
  ·
   refine zos hJ (fun _=>hR) ?_
   obtain ⟨eX,Cz0,hsCz0,el⟩:=hR
   subst eX
   subst el
   refine .inr ⟨rfl,fun K' hK=>?_⟩
   refine zcz (.func 28) #[.tmp 30] #[32] 28 #[] #[.agg #[p.v,s.v,.bool c.b,.slice c.a c.n c.c]] _ rfl rfl (map1 (zj (hin 0 30 rfl) (show uu 0=.agg #[p.v,s.v,.bool c.b,.slice c.a c.n c.c] from (hd 0 (by decide) (by kernel_rfl)).2))) rfl (fun _ _=>rfl) ((uTable hJ.nx p s c (hJ.get 2 (f:=Mt (k+r) (fun _=>k+r) P p) rfl) (hJ.get 3 (f:=Ls (k+r) q s) rfl) (hJ.get 4 (f:=c.is) rfl) ez_c (by omega)).mono (ptab_mt hJ.nx)) ?_
   rintro zz ww2 ⟨s3,rfl,hi_s3,hB⟩
   exact ⟨_,rfl,hK _ _ (hJ.later hB) ⟨s3,rfl,hi_s3⟩ (zvl hVS7 hB)⟩
  ·
   refine zos hJ (fun _=>hR) ?_
   obtain ⟨eX,Cz0,hsCz0,el⟩:=hR
   subst eX
   subst el
   exact .inr ⟨rfl,fun K' hK=>wp_move (.tmp 1) rfl (zet ((hev 1 (by decide)).trans rfl)) (hK _ _ hJ rfl zvs)⟩
  ·
   refine zos hJ (fun _=>hR) ?_
   obtain ⟨eX,Cz0,hsCz0,el⟩:=hR
   subst eX
   subst el
   obtain ⟨s3,e1,hi_s3⟩:=(show (vmt (k+r+1) (fun _=>k+r+1) (tbl (k+r) P q C)) (uu 1) XR7 ww from (hd 1 (by decide) (by kernel_rfl)).2)
   replace hJ:=hJ.more (f:=Mt (k+r+1) (fun _=>k+r+1) (tbl (k+r) P q C) s3) (Mt.stb _ _ _ _) hi_s3
   exact .inr ⟨rfl,fun K' hK=>wp_slm 25 27 (.tmp 31) (.tmp 32) s3 k rfl (zj (hin 1 31 rfl) e1) (zj (hin 2 32 rfl) (show uu 2=.int .i64 (((k:Nat):Int)) from (hd 2 (by decide) (by kernel_rfl)).2)) (by kernel_rfl) sz27 (hJ.get 0 (f:=Mt (k+r+1) (fun _=>k+r+1) (tbl (k+r) P q C) s3) rfl) (by omega) (fun s4 hi_s4=>hK _ _ (hJ.only [q2.is,Mt k (fun _=>k) P s1,Mt (k+r) (fun _=>k+r) P p,Ls (k+r) q s,c.is] (by simp)) ⟨s4,rfl,hi_s4⟩ zvs)⟩
  ·
   refine zos hJ (fun _=>hR) ?_
   obtain ⟨eX,Cz0,hsCz0,el⟩:=hR
   subst eX
   subst el
   exact .inr ⟨rfl,fun K' hK=>wp_move (.tmp 7) rfl (zet ((hev 7 (by decide)).trans rfl)) (hK _ _ hJ rfl zvs)⟩
  ·
   refine zos hJ (fun _=>hR) ?_
   obtain ⟨eX,Cz0,hsCz0,el⟩:=hR
   subst eX
   subst el
   exact .inr ⟨rfl,fun K' hK=>wp_load 30 (.tmp 5) rfl bk3 0 2 #[.bool q2.b,.slice q2.a q2.n q2.c] #[.bool q2.b,.slice q2.a q2.n q2.c] 30 (hJ.es.at' _ (zzG (i:=0) rfl)) (zet ((hev 5 (by decide)).trans rfl)) ag30 sz30 (zzF (by kernel_rfl)) (by kernel_rfl) (hK _ _ hJ rfl zvs)⟩
  ·
   refine zos hJ (fun _=>hR) ?_
   obtain ⟨eX,Cz0,hsCz0,el⟩:=hR
   subst eX
   subst el
   obtain ⟨s4,e3,hi_s4⟩:=(show (vmt (k+r+1 - k) (fun i=>(fun _=>k+r+1) (k+i)) (fun i=>(tbl (k+r) P q C) (k+i))) (uu 3) XR7 ww from (hd 3 (by decide) (by kernel_rfl)).2)
   replace hJ:=hJ.more (f:=Mt (k+r+1 - k) (fun i=>(fun _=>k+r+1) (k+i)) (fun i=>(tbl (k+r) P q C) (k+i)) s4) (Mt.stb _ _ _ _) hi_s4
   refine .inr ⟨rfl,fun K' hK=>?_⟩
   refine zcz (.func 27) #[.tmp 33,.tmp 34,.tmp 35] #[25,26,30] 27 #[] #[s4.v,s1.v,q2.v] _ rfl rfl (map3 (zj (hin 3 33 rfl) e3) (zj (hin 4 34 rfl) (show uu 4=s1.v from (hd 4 (by decide) (by kernel_rfl)).2)) (zj (hin 5 35 rfl) (show uu 5=q2.v from (hd 5 (by decide) (by kernel_rfl)).2))) rfl (fun _ _=>rfl) (uCond hJ.nx s4 s1 q2 (k:=k) (r:=r+1) (m:=k+r+1) (e:=e) (B:=fun i=>tbl (k+r) P q C (k+i)) hk (by omega) (by omega) he1 he (hJ.get 1 (f:=q2.is) rfl) ez_q2 (dt_sz (fun i j hi hj=>bP i j (by omega) (by omega))) (hJ.get 2 (f:=Mt k (fun _=>k) P s1) rfl) (Mt.cast (by omega) (hJ.get 0 (f:=Mt (k+r+1 - k) (fun i=>(fun _=>k+r+1) (k+i)) (fun i=>(tbl (k+r) P q C) (k+i)) s4) rfl)) (fun i j hi hj=>bP i j (by omega) (by omega)) (fun i j _ _=>tbl_sz bP bq bC _ _) HD.out) ?_
   rintro zz ww2 ⟨s5,rfl,hi_s5,hB⟩
   exact ⟨_,rfl,hK _ _ ((hJ.only [q2.is,Mt k (fun _=>k) P s1,Mt (k+r) (fun _=>k+r) P p,Ls (k+r) q s,c.is] (by simp)).later hB) ⟨s5,rfl,hi_s5⟩ (zvl hVS7 hB)⟩
  ·
   refine zos hJ (fun _=>hR) ?_
   obtain ⟨eX,Cz0,hsCz0,el⟩:=hR
   subst eX
   subst el
   obtain ⟨s5,e6,hi_s5⟩:=(show (vmt (r+1) (fun _=>r+1) (cdn k (k+r) P q C)) (uu 6) XR7 ww from (hd 6 (by decide) (by kernel_rfl)).2)
   replace hJ:=hJ.more (f:=Mt (r+1) (fun _=>r+1) (cdn k (k+r) P q C) s5) (Mt.stb _ _ _ _) hi_s5
   refine .inr ⟨rfl,fun K' hK=>?_⟩
   refine zcz (.func 26) #[.tmp 36] #[25] 26 #[] #[s5.v] _ rfl rfl (map1 (zj (hin 6 36 rfl) e6)) rfl (fun _ _=>rfl) (uOfT hJ.nx s5 (n:=r) (hJ.get 0 (f:=Mt (r+1) (fun _=>r+1) (cdn k (k+r) P q C) s5) rfl) (by omega)) ?_
   rintro zz ww2 ⟨pw,sw,cw,rfl,hi_pw,hi_sw,ez_cw,hi_cw,hB⟩
   exact ⟨_,rfl,hK _ _ ((hJ.only [q2.is,Mt k (fun _=>k) P s1,Mt (k+r) (fun _=>k+r) P p,Ls (k+r) q s,c.is] (by simp)).later hB) ⟨pw,sw,cw,rfl,hi_pw,hi_sw,ez_cw,hi_cw⟩ (zvl hVS7 hB)⟩
  ·
   refine zos hJ (fun _=>hR) ?_
   obtain ⟨eX,Cz0,hsCz0,el⟩:=hR
   subst eX
   subst el
   exact .inr ⟨rfl,fun K' hK=>wp_load 30 (.tmp 5) rfl bk3 0 2 #[.bool q2.b,.slice q2.a q2.n q2.c] #[.bool q2.b,.slice q2.a q2.n q2.c] 30 (hJ.es.at' _ (zzG (i:=0) rfl)) (zet ((hev 5 (by decide)).trans rfl)) ag30 sz30 (zzF (by kernel_rfl)) (by kernel_rfl) (hK _ _ hJ rfl zvs)⟩
  ·
   obtain ⟨eX,Cz0,hsCz0,el⟩:=hR
   subst eX
   subst el
   obtain ⟨pw,sw,cw,e7,hi_pw,hi_sw,ez_cw,hi_cw⟩:=(show (vux r (cdn k (k+r) P q C) (cdn k (k+r) P q C r) (cdn k (k+r) P q C r r)) (uu 7) XR7 ww from (hd 7 (by decide) (by kernel_rfl)).2)
   replace hJ:=hJ.more (f:=Mt r (fun _=>r) (cdn k (k+r) P q C) pw) (Mt.stb _ _ _ _) hi_pw
   replace hJ:=hJ.more (f:=Ls r (cdn k (k+r) P q C r) sw) (Ls.stb _ _ _) hi_sw
   replace hJ:=hJ.more (f:=cw.is) cw.stb hi_cw
   have hXb:XR7 bk2:=hJ.own _ (zzG (i:=1) rfl)
   refine .inr ⟨rfl,fun K' hK=>wp_store 32 (.tmp 4) (.tmp 37) rfl 1 bk2 0 Cz0 32 4 [pw.v,sw.v,.bool cw.b,.slice cw.a cw.n cw.c] hJ.es rfl (zet ((hev 4 (by decide)).trans rfl)) (by rw [(zj (hin 7 37 rfl) e7)]; rfl) sz32 rfl (by omega) (by kernel_rfl) (fun ww2 hE hk hz=>?_)⟩
   have hP:=(hJ.put (j:=1) rfl hE hk hz).only [q2.is,Mt k (fun _=>k) P s1,Mt (k+r) (fun _=>k+r) P p,Ls (k+r) q s,c.is] (by simp)
   exact hK undef ww2 _ _ ⟨rfl,putC Cz0 0 _,by rw [putC_size]; exact hsCz0,rfl⟩ hP ⟨pw,sw,cw,(Mt.stb _ _ _ _ _ _ _ _ (ext_put hXb hk hz) hi_pw),(Ls.stb _ _ _ _ _ _ _ (ext_put hXb hk hz) hi_sw),ez_cw,(cw.stb _ _ _ _ (ext_put hXb hk hz) hi_cw),(put_cl (j:=1) hE rfl (by rw [hsCz0]; rfl))⟩ (vzL_p hXb hk hz (by
    intro kq hkq
    simp only [List.mem_cons,List.not_mem_nil,or_false] at hkq
    rcases hkq with rfl | rfl | rfl | rfl | rfl | rfl | rfl | rfl | rfl | rfl
    ·
     exact .inl ((zve _).sp _)
    ·
     exact .inl ((vmt_se _ _ _).sp _)
    ·
     exact .inl ((zve _).sp _)
    ·
     exact .inl ((vmt_se _ _ _).sp _)
    ·
     exact .inl ((zve _).sp _)
    ·
     exact .inl ((zve _).sp _)
    ·
     exact .inl ((vmt_se _ _ _).sp _)
    ·
     exact .inl ((vux_se _ _ _ _).sp _)
    ·
     exact .inl ((zve _).sp _)
    ·
     exact .inr (fun _=>⟨pw,sw,cw,(Mt.stb _ _ _ _ _ _ _ _ (ext_put hXb hk hz) hi_pw),(Ls.stb _ _ _ _ _ _ _ (ext_put hXb hk hz) hi_sw),ez_cw,(cw.stb _ _ _ _ (ext_put hXb hk hz) hi_cw),(put_cl (j:=1) hE rfl (by rw [hsCz0]; rfl))⟩)))
 clear hZ13
 intro LL uu W8 X1 l1 hLL hR hZ14 hd
 obtain ⟨eX,Cz0,hsCz0,el⟩:=hR
 subst eX
 subst el
 have e_0:uu 0=.agg #[p.v,s.v,.bool c.b,.slice c.a c.n c.c]:=hd 0 (by decide)
 obtain ⟨s3,e_1,hi_s3⟩:=(show (vmt (k+r+1) (fun _=>k+r+1) (tbl (k+r) P q C)) (uu 1) XR7 W8 from hd 1 (by decide))
 have e_2:uu 2=.int .i64 (((k:Nat):Int)):=hd 2 (by decide)
 obtain ⟨s4,e_3,hi_s4⟩:=(show (vmt (k+r+1 - k) (fun i=>(fun _=>k+r+1) (k+i)) (fun i=>(tbl (k+r) P q C) (k+i))) (uu 3) XR7 W8 from hd 3 (by decide))
 have e_4:uu 4=s1.v:=hd 4 (by decide)
 have e_5:uu 5=q2.v:=hd 5 (by decide)
 obtain ⟨s5,e_6,hi_s5⟩:=(show (vmt (r+1) (fun _=>r+1) (cdn k (k+r) P q C)) (uu 6) XR7 W8 from hd 6 (by decide))
 obtain ⟨pw,sw,cw,e_7,hi_pw,hi_sw,ez_cw,hi_cw⟩:=(show (vux r (cdn k (k+r) P q C) (cdn k (k+r) P q C r) (cdn k (k+r) P q C r r)) (uu 7) XR7 W8 from hd 7 (by decide))
 have e_8:uu 8=q2.v:=hd 8 (by decide)
 obtain ⟨pw_9,sw_9,cw_9,hi_pw_9,hi_sw_9,ez_cw_9,hi_cw_9,hcl9⟩:=(show (vstU bk2 r (cdn k (k+r) P q C) (cdn k (k+r) P q C r) (cdn k (k+r) P q C r r) 32) (uu 9) XR7 W8 from hd 9 (by decide))
 obtain rfl:=cl_eq (hZ14.es.at' _ (zzG (i:=1) rfl)) hcl9
 clear hcl9 hsCz0 hd hVS7
 simp only [layS,Act.put,zzC,zzD,zzE,Nat.zero_add,Nat.reduceAdd,List.drop_succ_cons,List.drop_zero,List.drop_nil,e_0,e_1,e_2,e_3,e_4,e_5,e_6,e_7,e_8]
 clear e_0 e_1 e_2 e_3 e_4 e_5 e_6 e_7 e_8
 have hZ15:=hZ14.more (f:=Mt (k+r+1) (fun _=>k+r+1) (tbl (k+r) P q C) s3) (Mt.stb _ _ _ _) hi_s3
 clear hZ14 hi_s3
 have hZ16:=hZ15.more (f:=Mt (k+r+1 - k) (fun i=>(fun _=>k+r+1) (k+i)) (fun i=>(tbl (k+r) P q C) (k+i)) s4) (Mt.stb _ _ _ _) hi_s4
 clear hZ15 hi_s4
 have hZ17:=hZ16.more (f:=Mt (r+1) (fun _=>r+1) (cdn k (k+r) P q C) s5) (Mt.stb _ _ _ _) hi_s5
 clear hZ16 hi_s5
 have hZ18:=hZ17.more (f:=Mt r (fun _=>r) (cdn k (k+r) P q C) pw) (Mt.stb _ _ _ _) hi_pw
 clear hZ17 hi_pw
 have hZ19:=hZ18.more (f:=Ls r (cdn k (k+r) P q C r) sw) (Ls.stb _ _ _) hi_sw
 clear hZ18 hi_sw
 have hZ20:=hZ19.more (f:=cw.is) cw.stb hi_cw
 clear hZ19 hi_cw
 have hZ21:=hZ20.more (f:=Mt r (fun _=>r) (cdn k (k+r) P q C) pw_9) (Mt.stb _ _ _ _) hi_pw_9
 clear hZ20 hi_pw_9
 have hZ22:=hZ21.more (f:=Ls r (cdn k (k+r) P q C r) sw_9) (Ls.stb _ _ _) hi_sw_9
 clear hZ21 hi_sw_9
 have hZ23:=hZ22.more (f:=cw_9.is) cw_9.stb hi_cw_9
 clear hZ22 hi_cw_9
 go_wp2_with (refine zss 30 (.tmp 5) (.tmp 38) 0 bk3 0 #[.bool q2.b,.slice q2.a q2.n q2.c] 30 2 [.bool q2.b,.slice q2.a q2.n q2.c] #[.bool q2.b,.slice q2.a q2.n q2.c] [(bk3,#[.bool q2.b,.slice q2.a q2.n q2.c],30),(bk2,#[pw_9.v,sw_9.v,.bool cw_9.b,.slice cw_9.a cw_9.n cw_9.c],32),(bk1,#[p.v,s.v,.bool c.b,.slice c.a c.n c.c],32)] rfl rfl rfl rfl sz30 hZ23 rfl rfl (zzF (by kernel_rfl)) (by kernel_rfl) (by kernel_rfl) (by kernel_rfl) (fun W9 hZ24=>?_))
 clear hZ23
 simp only [Stop,Act.put,zzC,zzD,zzE]
 go_wp2
 refine bodyPost_ret (v:=.tuple #[.agg #[pw_9.v,sw_9.v,.bool cw_9.b,.slice cw_9.a cw_9.n cw_9.c],.agg #[.bool q2.b,.slice q2.a q2.n q2.c],.int .i64 0]) (results_cct Tryz.results6 (hZ24.es.loadBox 1 rfl ag32 sz32 (zzF (by kernel_rfl)) (by kernel_rfl)) (hZ24.es.loadBox 0 rfl ag30 sz30 (zzF (by kernel_rfl)) (by kernel_rfl)) rfl rfl rfl) rfl ?_
 exact ⟨pw_9,sw_9,cw_9,q2,rfl,(hZ24.out 2 (f:=Mt r (fun _=>r) (cdn k (k+r) P q C) pw_9) rfl).congr (fun _ _=>rfl) (fun i j hi hj=>cdn_lp HS.out HD.out hi hj),(hZ24.out 1 (f:=Ls r (cdn k (k+r) P q C r) sw_9) rfl).congr (fun i hi=>cdn_lq HS.out hi),ez_cw_9.trans cdn_lc,(hZ24.out 0 (f:=cw_9.is) rfl),ez_q2,(hZ24.out 9 (f:=q2.is) rfl),hZ24.below⟩
end Go.Proofs.YtjclllindbfmhabGreatDoor
