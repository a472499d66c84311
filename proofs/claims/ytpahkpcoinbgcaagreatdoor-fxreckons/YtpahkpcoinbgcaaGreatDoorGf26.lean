/- Parts of the proof. -/
import Derived.Test.YtpahkpcoinbgcaaGreatDoorGf21
import Derived.Test.YtpahkpcoinbgcaaGreatDoorGf22
import Derived.Test.YtpahkpcoinbgcaaGreatDoorGf25
/- The document's fixed numbers: the walks of Div and Sqrt. No statement of the seat is proved here. -/
namespace Go.Proofs.YtpahkpcoinbgcaaGreatDoor
open Go Go.RowKit
theorem zv42 (W : World) : (zeroValue 42).run Tryz.prog W = .ok (.agg #[.bool false, .slice none 0 0]) W := by kernel_rfl
theorem sz42 (W : World) : (sizeOf 42).run Tryz.prog W = .ok 2 W := by kernel_rfl
set_option maxRecDepth 100000 in
set_option maxHeartbeats 12800000 in
theorem rfDiv_t (a b X Y q n : Int) (c : Bool) (hH2 : ∀ (W : World), Calls Tryz.prog 24 #[.int .i64 a, .int .i64 b] W (PN3 (X) (Y) (.bool true) W)) (hH1 : ∀ (W : World), Calls Tryz.prog 31 #[] W (PN (1048576) W)) (hHm : ∀ (p0 p1 : NR) (W : World), p0.z = X → p1.z = 1048576 → p0.is W → p1.is W → Calls Tryz.prog 29 #[.agg #[.bool p0.b, .slice p0.a p0.n p0.c], .agg #[.bool p1.b, .slice p1.a p1.n p1.c]] W (PN (X * 1048576) W)) (hHq : ∀ (p0 p1 : NR) (W : World), p0.z = X * 1048576 → p1.z = Y → p0.is W → p1.is W → Calls Tryz.prog 30 #[.agg #[.bool p0.b, .slice p0.a p0.n p0.c], .agg #[.bool p1.b, .slice p1.a p1.n p1.c]] W (PNQ (q) 0 W)) (hHc : ∀ (p0 : NR) (W : World), p0.z = q → p0.is W → Calls Tryz.prog 25 #[.agg #[.bool p0.b, .slice p0.a p0.n p0.c]] W (PVal (.tuple #[.int .i64 n, .bool c]) W))   (w : World) : Calls Tryz.prog 14 #[.int .i64 a, .int .i64 b] w (PVal (.tuple #[.int .i64 n, .bool true, .int .i64 0]) w) := by
 have H2 := Lib.hid hH2
 have H1 := Lib.hid hH1
 have Hm := Lib.hid hHm
 have Hq := Lib.hid hHq
 have Hc := Lib.hid hHc
 clear hH2 hH1 hHm hHq hHc
 have hJ0 := en_nil w
 go_enter Tryz.func14, Tryz.ntmps14
 go_wp2_with fail
 refine (H2.out _).mono ?_
 rintro zz W1 ⟨pn1, pn2, hz_pn1, hz_pn2, rfl, hi_pn1, hi_pn2, hB⟩
 have hJ1 := ((hJ0.later hB).more hi_pn1).more hi_pn2
 have Hz_pn1 := Lib.hid hz_pn1
 clear hz_pn1
 clear hi_pn1
 have Hz_pn2 := Lib.hid hz_pn2
 clear hz_pn2
 clear hi_pn2
 clear hB
 clear hJ0
 go_wp2_with (refine stopn_alloc 42 #[.bool false, .slice none 0 0] (.agg #[.bool false, .slice none 0 0]) rfl rfl zv42 rfl hJ1 (fun bk1 W2 hJ2 => ?_))
 clear hJ1
 unfold Stop
 try simp only [Act.put, List.setIfInBounds_toArray, List.set_cons_succ, List.set_cons_zero]
 go_wp2_with (refine stopn_alloc 42 #[.bool false, .slice none 0 0] (.agg #[.bool false, .slice none 0 0]) rfl rfl zv42 rfl hJ2 (fun bk2 W3 hJ3 => ?_))
 clear hJ2
 unfold Stop
 try simp only [Act.put, List.setIfInBounds_toArray, List.set_cons_succ, List.set_cons_zero]
 go_wp2_with (refine stopn_store 42 (.tmp 7) (.tmp 19) 1 bk1 0 #[.bool false, .slice none 0 0] 42 2 [.bool pn1.b, .slice pn1.a pn1.n pn1.c] #[.bool pn1.b, .slice pn1.a pn1.n pn1.c] [(bk2, #[.bool false, .slice none 0 0], 42), (bk1, #[.bool pn1.b, .slice pn1.a pn1.n pn1.c], 42)] (by kernel_rfl) rfl rfl rfl rfl sz42 hJ3 rfl rfl (Nat.le_of_ble_eq_true (by kernel_rfl)) (by kernel_rfl) (by kernel_rfl) (by kernel_rfl) (fun W4 hJ4 => ?_))
 clear hJ3
 unfold Stop
 try simp only [Act.put, List.setIfInBounds_toArray, List.set_cons_succ, List.set_cons_zero]
 go_wp2_with (refine stopn_store 42 (.tmp 8) (.tmp 20) 0 bk2 0 #[.bool false, .slice none 0 0] 42 2 [.bool pn2.b, .slice pn2.a pn2.n pn2.c] #[.bool pn2.b, .slice pn2.a pn2.n pn2.c] [(bk2, #[.bool pn2.b, .slice pn2.a pn2.n pn2.c], 42), (bk1, #[.bool pn1.b, .slice pn1.a pn1.n pn1.c], 42)] (by kernel_rfl) rfl rfl rfl rfl sz42 hJ4 rfl rfl (Nat.le_of_ble_eq_true (by kernel_rfl)) (by kernel_rfl) (by kernel_rfl) (by kernel_rfl) (fun W5 hJ5 => ?_))
 clear hJ4
 unfold Stop
 try simp only [Act.put, List.setIfInBounds_toArray, List.set_cons_succ, List.set_cons_zero]
 go_wp2
 obtain ⟨m2_5, hm⟩ : ∃ m, m = W5.heap.size := ⟨_, rfl⟩
 have hM : ∀ uu, Jn w m2_5 [(bk2, #[.bool pn2.b, .slice pn2.a pn2.n pn2.c], 42), (bk1, #[.bool pn1.b, .slice pn1.a pn1.n pn1.c], 42)] [pn2, pn1] [(9, 2, 42), (10, 2, 42)] [(11, 9, 6, 42), (12, 10, 7, 42)] (fun _ => false) uu W5.drew := fun uu => by rw [hm]; exact Jn.start hJ5 uu
 clear hm hJ5
 refine wp_region_y 14 [some 23, some 24, some 25, some 26, some 27, some 22, some 28, some 29, some 30, some 10, some 11, none, none, some 12] (vnL [.eq (.agg #[.bool pn1.b, .slice pn1.a pn1.n pn1.c]), .num (1048576), .num (X * 1048576), .eq (.agg #[.bool pn2.b, .slice pn2.a pn2.n pn2.c]), .num2 (q) (.int .i64 0), .num2 (q) (.int .i64 0), .num (q), .numu, .eq (.int .i64 0), .any, .any, .any, .any, .eq (.int .i64 0)]) (Jn w m2_5 [(bk2, #[.bool pn2.b, .slice pn2.a pn2.n pn2.c], 42), (bk1, #[.bool pn1.b, .slice pn1.a pn1.n pn1.c], 42)] [pn2, pn1] [(9, 2, 42), (10, 2, 42)] [(11, 9, 6, 42), (12, 10, 7, 42)]) (by kernel_rfl) (by kernel_rfl) (by rfl) (by decide) (by rfl) hM ?_ ?_
 ·
  intro i hl hi LL uu ww aa hLi hJ hd hev hin
  clear hM
  obtain rfl | rfl | rfl | rfl | rfl | rfl | rfl | rfl | rfl | rfl | rfl | rfl | rfl | rfl : i = 0 ∨ i = 1 ∨ i = 2 ∨ i = 3 ∨ i = 4 ∨ i = 5 ∨ i = 6 ∨ i = 7 ∨ i = 8 ∨ i = 9 ∨ i = 10 ∨ i = 11 ∨ i = 12 ∨ i = 13 := by omega
  ·
   have x7 : aa.tmps[7]? = some (.pointer (some ⟨bk1, 0, none⟩)) := (hev 7 (by decide)).trans rfl
   clear hd hev hin
   simp only [List.getElem_cons_succ, List.getElem_cons_zero]
   clear hl
   refine .inr ⟨rfl, fun K' hK => ?_⟩
   have HK := Lib.hid hK
   clear hK
   have f0 : ww.cell? ⟨bk1, 0, none⟩ = some (.bool pn1.b) := hJ.em.es.cell 1 rfl 0 rfl
   have f1 : ww.cell? ⟨bk1, 1, none⟩ = some (.slice pn1.a pn1.n pn1.c) := hJ.em.es.cell 1 rfl 1 rfl
   go_simp
   exact HK.out (.agg #[.bool pn1.b, .slice pn1.a pn1.n pn1.c]) _ (hJ.grow hLi (by simp) (by simp) (Below.refl _ _)) rfl vnL_same
  ·
   clear hd hev hin
   simp only [List.getElem_cons_succ, List.getElem_cons_zero]
   clear hl
   refine .inr ⟨rfl, fun K' hK => ?_⟩
   have HK := Lib.hid hK
   clear hK
   go_simp
   refine (H1.out ww).mono ?_
   rintro zz W' ⟨py0, hzy0, rfl, ipy0, hB⟩
   exact HK.out (.agg #[.bool py0.b, .slice py0.a py0.n py0.c]) _ (hJ.grow hLi (by simp) (by simp) hB) ⟨py0, hzy0, rfl, ipy0⟩ (vnL_later hB)
  ·
   have x23 : aa.tmps[23]? = some (.agg #[.bool pn1.b, .slice pn1.a pn1.n pn1.c]) := (hin 0 23 rfl).trans (congrArg some (show uu 0 = .agg #[.bool pn1.b, .slice pn1.a pn1.n pn1.c] from (hd 0 (by decide) (by kernel_rfl)).2))
   obtain ⟨q1, z1, e1, iq1⟩ := (show vnP (.num (1048576)) (uu 1) ww from (hd 1 (by decide) (by kernel_rfl)).2)
   have x24 : aa.tmps[24]? = some (.agg #[.bool q1.b, .slice q1.a q1.n q1.c]) := (hin 1 24 rfl).trans (congrArg some e1)
   clear hd hev hin
   simp only [List.getElem_cons_succ, List.getElem_cons_zero]
   clear hl
   refine .inr ⟨rfl, fun K' hK => ?_⟩
   have HK := Lib.hid hK
   clear hK
   go_simp
   refine (Hm.out pn1 q1 ww Hz_pn1.out z1 (hJ.num pn1 (by simp)) iq1).mono ?_
   rintro zz W' ⟨py0, hzy0, rfl, ipy0, hB⟩
   exact HK.out (.agg #[.bool py0.b, .slice py0.a py0.n py0.c]) _ (hJ.grow hLi (by simp) (by simp) hB) ⟨py0, hzy0, rfl, ipy0⟩ (vnL_later hB)
  ·
   have x8 : aa.tmps[8]? = some (.pointer (some ⟨bk2, 0, none⟩)) := (hev 8 (by decide)).trans rfl
   clear hd hev hin
   simp only [List.getElem_cons_succ, List.getElem_cons_zero]
   clear hl
   refine .inr ⟨rfl, fun K' hK => ?_⟩
   have HK := Lib.hid hK
   clear hK
   have f0 : ww.cell? ⟨bk2, 0, none⟩ = some (.bool pn2.b) := hJ.em.es.cell 0 rfl 0 rfl
   have f1 : ww.cell? ⟨bk2, 1, none⟩ = some (.slice pn2.a pn2.n pn2.c) := hJ.em.es.cell 0 rfl 1 rfl
   go_simp
   exact HK.out (.agg #[.bool pn2.b, .slice pn2.a pn2.n pn2.c]) _ (hJ.grow hLi (by simp) (by simp) (Below.refl _ _)) rfl vnL_same
  ·
   obtain ⟨q2, z2, e2, iq2⟩ := (show vnP (.num (X * 1048576)) (uu 2) ww from (hd 2 (by decide) (by kernel_rfl)).2)
   have x25 : aa.tmps[25]? = some (.agg #[.bool q2.b, .slice q2.a q2.n q2.c]) := (hin 2 25 rfl).trans (congrArg some e2)
   have x26 : aa.tmps[26]? = some (.agg #[.bool pn2.b, .slice pn2.a pn2.n pn2.c]) := (hin 3 26 rfl).trans (congrArg some (show uu 3 = .agg #[.bool pn2.b, .slice pn2.a pn2.n pn2.c] from (hd 3 (by decide) (by kernel_rfl)).2))
   clear hd hev hin
   simp only [List.getElem_cons_succ, List.getElem_cons_zero]
   clear hl
   refine .inr ⟨rfl, fun K' hK => ?_⟩
   have HK := Lib.hid hK
   clear hK
   go_simp
   refine (Hq.out q2 pn2 ww z2 Hz_pn2.out iq2 (hJ.num pn2 (by simp))).mono ?_
   rintro zz W' ⟨py0, py1, hzy0, rfl, ipy0, ipy1, hB⟩
   exact HK.out (.tuple #[.agg #[.bool py0.b, .slice py0.a py0.n py0.c], .agg #[.bool py1.b, .slice py1.a py1.n py1.c], .int .i64 0]) _ (hJ.grow hLi (by simp) (by simp) hB) ⟨py0, py1, hzy0, rfl, ipy0, ipy1⟩ (vnL_later hB)
  ·
   obtain ⟨q4, q4r, z4, e4, iq4, iq4r⟩ := (show vnP (.num2 (q) (.int .i64 0)) (uu 4) ww from (hd 4 (by decide) (by kernel_rfl)).2)
   have x27 : aa.tmps[27]? = some (.tuple #[.agg #[.bool q4.b, .slice q4.a q4.n q4.c], .agg #[.bool q4r.b, .slice q4r.a q4r.n q4r.c], .int .i64 0]) := (hin 4 27 rfl).trans (congrArg some e4)
   clear hd hev hin
   simp only [List.getElem_cons_succ, List.getElem_cons_zero]
   clear hl
   refine .inr ⟨rfl, fun K' hK => ?_⟩
   have HK := Lib.hid hK
   clear hK
   go_simp
   exact HK.out (.tuple #[.agg #[.bool q4.b, .slice q4.a q4.n q4.c], .agg #[.bool q4r.b, .slice q4r.a q4r.n q4r.c], .int .i64 0]) _ (hJ.grow hLi (by simp) (by simp) (Below.refl _ _)) ⟨q4, q4r, z4, rfl, iq4, iq4r⟩ vnL_same
  ·
   obtain ⟨q5, q5r, z5, e5, iq5, iq5r⟩ := (show vnP (.num2 (q) (.int .i64 0)) (uu 5) ww from (hd 5 (by decide) (by kernel_rfl)).2)
   have x22 : aa.tmps[22]? = some (.tuple #[.agg #[.bool q5.b, .slice q5.a q5.n q5.c], .agg #[.bool q5r.b, .slice q5r.a q5r.n q5r.c], .int .i64 0]) := (hin 5 22 rfl).trans (congrArg some e5)
   clear hd hev hin
   simp only [List.getElem_cons_succ, List.getElem_cons_zero]
   clear hl
   refine .inr ⟨rfl, fun K' hK => ?_⟩
   have HK := Lib.hid hK
   clear hK
   go_simp
   exact HK.out (.agg #[.bool q5.b, .slice q5.a q5.n q5.c]) _ (hJ.grow hLi (by simp) (by simp) (Below.refl _ _)) ⟨q5, z5, rfl, iq5⟩ vnL_same
  ·
   obtain ⟨q5, q5r, z5, e5, iq5, iq5r⟩ := (show vnP (.num2 (q) (.int .i64 0)) (uu 5) ww from (hd 5 (by decide) (by kernel_rfl)).2)
   have x22 : aa.tmps[22]? = some (.tuple #[.agg #[.bool q5.b, .slice q5.a q5.n q5.c], .agg #[.bool q5r.b, .slice q5r.a q5r.n q5r.c], .int .i64 0]) := (hin 5 22 rfl).trans (congrArg some e5)
   clear hd hev hin
   simp only [List.getElem_cons_succ, List.getElem_cons_zero]
   clear hl
   refine .inr ⟨rfl, fun K' hK => ?_⟩
   have HK := Lib.hid hK
   clear hK
   go_simp
   exact HK.out (.agg #[.bool q5r.b, .slice q5r.a q5r.n q5r.c]) _ (hJ.grow hLi (by simp) (by simp) (Below.refl _ _)) ⟨q5r, rfl, iq5r⟩ vnL_same
  ·
   obtain ⟨q5, q5r, z5, e5, iq5, iq5r⟩ := (show vnP (.num2 (q) (.int .i64 0)) (uu 5) ww from (hd 5 (by decide) (by kernel_rfl)).2)
   have x22 : aa.tmps[22]? = some (.tuple #[.agg #[.bool q5.b, .slice q5.a q5.n q5.c], .agg #[.bool q5r.b, .slice q5r.a q5r.n q5r.c], .int .i64 0]) := (hin 5 22 rfl).trans (congrArg some e5)
   clear hd hev hin
   simp only [List.getElem_cons_succ, List.getElem_cons_zero]
   clear hl
   refine .inr ⟨rfl, fun K' hK => ?_⟩
   have HK := Lib.hid hK
   clear hK
   go_simp
   exact HK.out (.int .i64 0) _ (hJ.grow hLi (by simp) (by simp) (Below.refl _ _)) rfl vnL_same
  ·
   clear hd hev hin
   simp only [List.getElem_cons_succ, List.getElem_cons_zero]
   clear hl
   refine .inr ⟨rfl, fun K' hK => ?_⟩
   have HK := Lib.hid hK
   clear hK
   refine wp_alloc 42 rfl (.agg #[.bool false, .slice none 0 0]) zv42 ?_
   exact HK.out _ _ (hJ.alloc hLi (n := 2) rfl (by kernel_rfl) (by simp) (by simp)) trivial (vnL_later ((Below.refl _ _).alloc (Nat.le_refl _) _))
  ·
   clear hd hev hin
   simp only [List.getElem_cons_succ, List.getElem_cons_zero]
   clear hl
   refine .inr ⟨rfl, fun K' hK => ?_⟩
   have HK := Lib.hid hK
   clear hK
   refine wp_alloc 42 rfl (.agg #[.bool false, .slice none 0 0]) zv42 ?_
   exact HK.out _ _ (hJ.alloc hLi (n := 2) rfl (by kernel_rfl) (by simp) (by simp)) trivial (vnL_later ((Below.refl _ _).alloc (Nat.le_refl _) _))
  ·
   have hLa := (hd 9 (by decide) (by kernel_rfl)).1
   obtain ⟨kb, kC, ke, kge, ksz, kno, kcl⟩ := hJ.bx (9, 2, 42) (by simp) hLa
   have x10 : aa.tmps[10]? = some (.pointer (some ⟨kb, 0, none⟩)) := (hin 9 10 rfl).trans (congrArg some ke)
   obtain ⟨q6, z6, e6, iq6⟩ := (show vnP (.num (q)) (uu 6) ww from (hd 6 (by decide) (by kernel_rfl)).2)
   have x28 : aa.tmps[28]? = some (.agg #[.bool q6.b, .slice q6.a q6.n q6.c]) := (hin 6 28 rfl).trans (congrArg some e6)
   have hLx := (hd 6 (by decide) (by kernel_rfl)).1
   clear hd hev hin
   simp only [List.getElem_cons_succ, List.getElem_cons_zero]
   clear hl
   refine .inr ⟨rfl, fun K' hK => ?_⟩
   have HK := Lib.hid hK
   clear hK
   refine wp_store 42 (.tmp 10) (.tmp 28) rfl 0 kb 0 kC 42 2 [.bool q6.b, .slice q6.a q6.n q6.c] (hJ.em.join kge kcl) rfl (eval_tmp x10) (by rw [eval_tmp x28]; rfl) sz42 rfl (by rw [ksz]; decide) (by kernel_rfl) (fun ww2 hE hk hz => ?_)
   rw [putC_full (show kC.size = ([.bool q6.b, .slice q6.a q6.n q6.c] : List Value).length from ksz)] at hE
   exact HK.out undef _ (hJ.store (a := 9) (x := 6) (n := 2) (T := 42) (Cn := #[.bool q6.b, .slice q6.a q6.n q6.c]) hLi (by simp) (by simp) (by simp) (by simp) (by simp) (by simp) hLa hLx ke kge rfl (by kernel_rfl) (by rw [e6]; rfl) kcl kno hE hk hz) trivial (vnL_store kcl kno hk hz)
  ·
   have hLa := (hd 10 (by decide) (by kernel_rfl)).1
   obtain ⟨kb, kC, ke, kge, ksz, kno, kcl⟩ := hJ.bx (10, 2, 42) (by simp) hLa
   have x11 : aa.tmps[11]? = some (.pointer (some ⟨kb, 0, none⟩)) := (hin 10 11 rfl).trans (congrArg some ke)
   obtain ⟨q7, e7, iq7⟩ := (show vnP (.numu) (uu 7) ww from (hd 7 (by decide) (by kernel_rfl)).2)
   have x29 : aa.tmps[29]? = some (.agg #[.bool q7.b, .slice q7.a q7.n q7.c]) := (hin 7 29 rfl).trans (congrArg some e7)
   have hLx := (hd 7 (by decide) (by kernel_rfl)).1
   clear hd hev hin
   simp only [List.getElem_cons_succ, List.getElem_cons_zero]
   clear hl
   refine .inr ⟨rfl, fun K' hK => ?_⟩
   have HK := Lib.hid hK
   clear hK
   refine wp_store 42 (.tmp 11) (.tmp 29) rfl 0 kb 0 kC 42 2 [.bool q7.b, .slice q7.a q7.n q7.c] (hJ.em.join kge kcl) rfl (eval_tmp x11) (by rw [eval_tmp x29]; rfl) sz42 rfl (by rw [ksz]; decide) (by kernel_rfl) (fun ww2 hE hk hz => ?_)
   rw [putC_full (show kC.size = ([.bool q7.b, .slice q7.a q7.n q7.c] : List Value).length from ksz)] at hE
   exact HK.out undef _ (hJ.store (a := 10) (x := 7) (n := 2) (T := 42) (Cn := #[.bool q7.b, .slice q7.a q7.n q7.c]) hLi (by simp) (by simp) (by simp) (by simp) (by simp) (by simp) hLa hLx ke kge rfl (by kernel_rfl) (by rw [e7]; rfl) kcl kno hE hk hz) trivial (vnL_store kcl kno hk hz)
  ·
   have x30 : aa.tmps[30]? = some (.int .i64 0) := (hin 8 30 rfl).trans (congrArg some (show uu 8 = .int .i64 0 from (hd 8 (by decide) (by kernel_rfl)).2))
   clear hd hev hin
   simp only [List.getElem_cons_succ, List.getElem_cons_zero]
   clear hl
   refine .inr ⟨rfl, fun K' hK => ?_⟩
   have HK := Lib.hid hK
   clear hK
   go_simp
   exact HK.out (.int .i64 0) _ (hJ.grow hLi (by simp) (by simp) (Below.refl _ _)) rfl vnL_same
 clear hM
 intro LL uu W6 hLL hJm hd
 have e_0 : uu 0 = .agg #[.bool pn1.b, .slice pn1.a pn1.n pn1.c] := hd 0 (by decide)
 obtain ⟨pn3, hz_pn3, e_1, hi_pn3⟩ := (show vnP (.num (1048576)) (uu 1) W6 from hd 1 (by decide))
 have Hz_pn3 := Lib.hid hz_pn3
 clear hz_pn3
 obtain ⟨pn4, hz_pn4, e_2, hi_pn4⟩ := (show vnP (.num (X * 1048576)) (uu 2) W6 from hd 2 (by decide))
 have Hz_pn4 := Lib.hid hz_pn4
 clear hz_pn4
 have e_3 : uu 3 = .agg #[.bool pn2.b, .slice pn2.a pn2.n pn2.c] := hd 3 (by decide)
 obtain ⟨pn5, pn6, hz_pn5, e_4, hi_pn5, hi_pn6⟩ := (show vnP (.num2 (q) (.int .i64 0)) (uu 4) W6 from hd 4 (by decide))
 have Hz_pn5 := Lib.hid hz_pn5
 clear hz_pn5
 obtain ⟨pn7, pn8, hz_pn7, e_5, hi_pn7, hi_pn8⟩ := (show vnP (.num2 (q) (.int .i64 0)) (uu 5) W6 from hd 5 (by decide))
 have Hz_pn7 := Lib.hid hz_pn7
 clear hz_pn7
 obtain ⟨pn9, hz_pn9, e_6, hi_pn9⟩ := (show vnP (.num (q)) (uu 6) W6 from hd 6 (by decide))
 have Hz_pn9 := Lib.hid hz_pn9
 clear hz_pn9
 obtain ⟨pn10, e_7, hi_pn10⟩ := (show vnP (.numu) (uu 7) W6 from hd 7 (by decide))
 have e_8 : uu 8 = .int .i64 0 := hd 8 (by decide)
 obtain ⟨bk3, kC9, e_9, nge9, ksz9, kno9, nB9⟩ := hJm.bx (9, 2, 42) (by simp) (hLL 9 (by decide))
 obtain ⟨bk4, kC10, e_10, nge10, ksz10, kno10, nB10⟩ := hJm.bx (10, 2, 42) (by simp) (hLL 10 (by decide))
 have e_13 : uu 13 = .int .i64 0 := hd 13 (by decide)
 obtain ⟨_, _, kb11, ke11, kl11⟩ := hJm.st (11, 9, 6, 42) (by simp) (hLL 11 (by decide))
 have kq11 : kb11 = bk3 := by
  have hq := ke11.symm.trans e_9
  injection hq with hq
  injection hq with hq
  injection hq with hq
 subst kq11
 clear ke11
 replace kl11 : Cl W6 (kb11, #[.bool pn9.b, .slice pn9.a pn9.n pn9.c], 42) := by
  rw [show (uu (11, 9, 6, 42).2.2.1) = _ from e_6] at kl11
  exact kl11
 obtain ⟨_, _, kb12, ke12, kl12⟩ := hJm.st (12, 10, 7, 42) (by simp) (hLL 12 (by decide))
 have kq12 : kb12 = bk4 := by
  have hq := ke12.symm.trans e_10
  injection hq with hq
  injection hq with hq
  injection hq with hq
 subst kq12
 clear ke12
 replace kl12 : Cl W6 (kb12, #[.bool pn10.b, .slice pn10.a pn10.n pn10.c], 42) := by
  rw [show (uu (12, 10, 7, 42).2.2.1) = _ from e_7] at kl12
  exact kl12
 have g9 := hJm.em.join nge9 kl11
 have g10 : Es w W6 _ := Es.join g9 (Nat.le_trans hJm.em.ge nge10) (by
  intro p hp
  rcases List.mem_cons.1 hp with rfl | hp
  ·
   intro hc
   refine hJm.ne (9, 2, 42) (10, 2, 42) (by simp) (by simp) (by decide) (hLL 9 (by decide)) (hLL 10 (by decide)) ?_
   rw [e_9, e_10]
   exact congrArg (fun k => Value.pointer (some ⟨k, 0, none⟩)) hc
  have h1 := hJm.em.lt p hp
  have h2 := nge10
  omega) kl12
 clear hd hLL
 simp only [layS, Act.put, List.setIfInBounds_toArray, List.set_cons_succ, List.set_cons_zero, Nat.zero_add, Nat.reduceAdd, List.drop_succ_cons, List.drop_zero, List.drop_nil, e_0, e_1, e_2, e_3, e_4, e_5, e_6, e_7, e_8, e_9, e_10, e_13]
 have hJ6 := (((((((((⟨g10, hJm.num⟩ : En w W6 [(kb12, #[.bool pn10.b, .slice pn10.a pn10.n pn10.c], 42), (kb11, #[.bool pn9.b, .slice pn9.a pn9.n pn9.c], 42), (bk2, #[.bool pn2.b, .slice pn2.a pn2.n pn2.c], 42), (bk1, #[.bool pn1.b, .slice pn1.a pn1.n pn1.c], 42)] [pn2, pn1])).more hi_pn3).more hi_pn4).more hi_pn5).more hi_pn6).more hi_pn7).more hi_pn8).more hi_pn9).more hi_pn10
 clear hJm e_0 e_1 e_2 e_3 e_4 e_5 e_6 e_7 e_8 e_9 e_10 e_13 nge9 nB9 ksz9 kno9 g9 nge10 nB10 ksz10 kno10 g10 hi_pn3 hi_pn4 hi_pn5 hi_pn6 hi_pn7 hi_pn8 hi_pn9 hi_pn10
 have f0 : W6.cell? ⟨kb11, 0, none⟩ = some (.bool pn9.b) := hJ6.cell 1 rfl 0 rfl
 have f1 : W6.cell? ⟨kb11, 1, none⟩ = some (.slice pn9.a pn9.n pn9.c) := hJ6.cell 1 rfl 1 rfl
 go_wp2_with fail
 refine (Hc.out pn9 _ Hz_pn9.out (hJ6.num pn9 (by simp))).mono ?_
 rintro zz W7 ⟨rfl, hB⟩
 have hJ7 := hJ6.later hB
 clear hB
 clear f0 f1
 clear hJ6
 go_wp2
 exact bodyPost_ret (v := .tuple #[.int .i64 n, .bool true, .int .i64 0]) (by simp [results, Tryz.results14, go_sem]) rfl ⟨rfl, hJ7.below⟩
set_option maxRecDepth 100000 in
set_option maxHeartbeats 12800000 in
theorem rfDiv_f (a b X Y q n : Int) (c : Bool) (hH2 : ∀ (W : World), Calls Tryz.prog 24 #[.int .i64 a, .int .i64 b] W (PN3 (X) (Y) (.bool false) W)) (hH1 : ∀ (W : World), Calls Tryz.prog 31 #[] W (PN (1048576) W)) (hHm : ∀ (p0 p1 : NR) (W : World), p0.z = X → p1.z = 1048576 → p0.is W → p1.is W → Calls Tryz.prog 29 #[.agg #[.bool p0.b, .slice p0.a p0.n p0.c], .agg #[.bool p1.b, .slice p1.a p1.n p1.c]] W (PN (X * 1048576) W)) (hHq : ∀ (p0 p1 : NR) (W : World), p0.z = X * 1048576 → p1.z = Y → p0.is W → p1.is W → Calls Tryz.prog 30 #[.agg #[.bool p0.b, .slice p0.a p0.n p0.c], .agg #[.bool p1.b, .slice p1.a p1.n p1.c]] W (PNQ (q) 0 W)) (hHc : ∀ (p0 : NR) (W : World), p0.z = q → p0.is W → Calls Tryz.prog 25 #[.agg #[.bool p0.b, .slice p0.a p0.n p0.c]] W (PVal (.tuple #[.int .i64 n, .bool c]) W))   (w : World) : Calls Tryz.prog 14 #[.int .i64 a, .int .i64 b] w (PVal (.tuple #[.int .i64 n, .bool c, .int .i64 0]) w) := by
 have H2 := Lib.hid hH2
 have H1 := Lib.hid hH1
 have Hm := Lib.hid hHm
 have Hq := Lib.hid hHq
 have Hc := Lib.hid hHc
 clear hH2 hH1 hHm hHq hHc
 have hJ0 := en_nil w
 go_enter Tryz.func14, Tryz.ntmps14
 go_wp2_with fail
 refine (H2.out _).mono ?_
 rintro zz W1 ⟨pn1, pn2, hz_pn1, hz_pn2, rfl, hi_pn1, hi_pn2, hB⟩
 have hJ1 := ((hJ0.later hB).more hi_pn1).more hi_pn2
 have Hz_pn1 := Lib.hid hz_pn1
 clear hz_pn1
 clear hi_pn1
 have Hz_pn2 := Lib.hid hz_pn2
 clear hz_pn2
 clear hi_pn2
 clear hB
 clear hJ0
 go_wp2_with (refine stopn_alloc 42 #[.bool false, .slice none 0 0] (.agg #[.bool false, .slice none 0 0]) rfl rfl zv42 rfl hJ1 (fun bk1 W2 hJ2 => ?_))
 clear hJ1
 unfold Stop
 try simp only [Act.put, List.setIfInBounds_toArray, List.set_cons_succ, List.set_cons_zero]
 go_wp2_with (refine stopn_alloc 42 #[.bool false, .slice none 0 0] (.agg #[.bool false, .slice none 0 0]) rfl rfl zv42 rfl hJ2 (fun bk2 W3 hJ3 => ?_))
 clear hJ2
 unfold Stop
 try simp only [Act.put, List.setIfInBounds_toArray, List.set_cons_succ, List.set_cons_zero]
 go_wp2_with (refine stopn_store 42 (.tmp 7) (.tmp 19) 1 bk1 0 #[.bool false, .slice none 0 0] 42 2 [.bool pn1.b, .slice pn1.a pn1.n pn1.c] #[.bool pn1.b, .slice pn1.a pn1.n pn1.c] [(bk2, #[.bool false, .slice none 0 0], 42), (bk1, #[.bool pn1.b, .slice pn1.a pn1.n pn1.c], 42)] (by kernel_rfl) rfl rfl rfl rfl sz42 hJ3 rfl rfl (Nat.le_of_ble_eq_true (by kernel_rfl)) (by kernel_rfl) (by kernel_rfl) (by kernel_rfl) (fun W4 hJ4 => ?_))
 clear hJ3
 unfold Stop
 try simp only [Act.put, List.setIfInBounds_toArray, List.set_cons_succ, List.set_cons_zero]
 go_wp2_with (refine stopn_store 42 (.tmp 8) (.tmp 20) 0 bk2 0 #[.bool false, .slice none 0 0] 42 2 [.bool pn2.b, .slice pn2.a pn2.n pn2.c] #[.bool pn2.b, .slice pn2.a pn2.n pn2.c] [(bk2, #[.bool pn2.b, .slice pn2.a pn2.n pn2.c], 42), (bk1, #[.bool pn1.b, .slice pn1.a pn1.n pn1.c], 42)] (by kernel_rfl) rfl rfl rfl rfl sz42 hJ4 rfl rfl (Nat.le_of_ble_eq_true (by kernel_rfl)) (by kernel_rfl) (by kernel_rfl) (by kernel_rfl) (fun W5 hJ5 => ?_))
 clear hJ4
 unfold Stop
 try simp only [Act.put, List.setIfInBounds_toArray, List.set_cons_succ, List.set_cons_zero]
 go_wp2
 obtain ⟨m2_5, hm⟩ : ∃ m, m = W5.heap.size := ⟨_, rfl⟩
 have hM : ∀ uu, Jn w m2_5 [(bk2, #[.bool pn2.b, .slice pn2.a pn2.n pn2.c], 42), (bk1, #[.bool pn1.b, .slice pn1.a pn1.n pn1.c], 42)] [pn2, pn1] [(9, 2, 42), (10, 2, 42)] [(11, 9, 6, 42), (12, 10, 7, 42)] (fun _ => false) uu W5.drew := fun uu => by rw [hm]; exact Jn.start hJ5 uu
 clear hm hJ5
 refine wp_region_y 14 [some 23, some 24, some 25, some 26, some 27, some 22, some 28, some 29, some 30, some 10, some 11, none, none, some 12] (vnL [.eq (.agg #[.bool pn1.b, .slice pn1.a pn1.n pn1.c]), .num (1048576), .num (X * 1048576), .eq (.agg #[.bool pn2.b, .slice pn2.a pn2.n pn2.c]), .num2 (q) (.int .i64 0), .num2 (q) (.int .i64 0), .num (q), .numu, .eq (.int .i64 0), .any, .any, .any, .any, .eq (.int .i64 0)]) (Jn w m2_5 [(bk2, #[.bool pn2.b, .slice pn2.a pn2.n pn2.c], 42), (bk1, #[.bool pn1.b, .slice pn1.a pn1.n pn1.c], 42)] [pn2, pn1] [(9, 2, 42), (10, 2, 42)] [(11, 9, 6, 42), (12, 10, 7, 42)]) (by kernel_rfl) (by kernel_rfl) (by rfl) (by decide) (by rfl) hM ?_ ?_
 ·
  intro i hl hi LL uu ww aa hLi hJ hd hev hin
  clear hM
  obtain rfl | rfl | rfl | rfl | rfl | rfl | rfl | rfl | rfl | rfl | rfl | rfl | rfl | rfl : i = 0 ∨ i = 1 ∨ i = 2 ∨ i = 3 ∨ i = 4 ∨ i = 5 ∨ i = 6 ∨ i = 7 ∨ i = 8 ∨ i = 9 ∨ i = 10 ∨ i = 11 ∨ i = 12 ∨ i = 13 := by omega
  ·
   have x7 : aa.tmps[7]? = some (.pointer (some ⟨bk1, 0, none⟩)) := (hev 7 (by decide)).trans rfl
   clear hd hev hin
   simp only [List.getElem_cons_succ, List.getElem_cons_zero]
   clear hl
   refine .inr ⟨rfl, fun K' hK => ?_⟩
   have HK := Lib.hid hK
   clear hK
   have f0 : ww.cell? ⟨bk1, 0, none⟩ = some (.bool pn1.b) := hJ.em.es.cell 1 rfl 0 rfl
   have f1 : ww.cell? ⟨bk1, 1, none⟩ = some (.slice pn1.a pn1.n pn1.c) := hJ.em.es.cell 1 rfl 1 rfl
   go_simp
   exact HK.out (.agg #[.bool pn1.b, .slice pn1.a pn1.n pn1.c]) _ (hJ.grow hLi (by simp) (by simp) (Below.refl _ _)) rfl vnL_same
  ·
   clear hd hev hin
   simp only [List.getElem_cons_succ, List.getElem_cons_zero]
   clear hl
   refine .inr ⟨rfl, fun K' hK => ?_⟩
   have HK := Lib.hid hK
   clear hK
   go_simp
   refine (H1.out ww).mono ?_
   rintro zz W' ⟨py0, hzy0, rfl, ipy0, hB⟩
   exact HK.out (.agg #[.bool py0.b, .slice py0.a py0.n py0.c]) _ (hJ.grow hLi (by simp) (by simp) hB) ⟨py0, hzy0, rfl, ipy0⟩ (vnL_later hB)
  ·
   have x23 : aa.tmps[23]? = some (.agg #[.bool pn1.b, .slice pn1.a pn1.n pn1.c]) := (hin 0 23 rfl).trans (congrArg some (show uu 0 = .agg #[.bool pn1.b, .slice pn1.a pn1.n pn1.c] from (hd 0 (by decide) (by kernel_rfl)).2))
   obtain ⟨q1, z1, e1, iq1⟩ := (show vnP (.num (1048576)) (uu 1) ww from (hd 1 (by decide) (by kernel_rfl)).2)
   have x24 : aa.tmps[24]? = some (.agg #[.bool q1.b, .slice q1.a q1.n q1.c]) := (hin 1 24 rfl).trans (congrArg some e1)
   clear hd hev hin
   simp only [List.getElem_cons_succ, List.getElem_cons_zero]
   clear hl
   refine .inr ⟨rfl, fun K' hK => ?_⟩
   have HK := Lib.hid hK
   clear hK
   go_simp
   refine (Hm.out pn1 q1 ww Hz_pn1.out z1 (hJ.num pn1 (by simp)) iq1).mono ?_
   rintro zz W' ⟨py0, hzy0, rfl, ipy0, hB⟩
   exact HK.out (.agg #[.bool py0.b, .slice py0.a py0.n py0.c]) _ (hJ.grow hLi (by simp) (by simp) hB) ⟨py0, hzy0, rfl, ipy0⟩ (vnL_later hB)
  ·
   have x8 : aa.tmps[8]? = some (.pointer (some ⟨bk2, 0, none⟩)) := (hev 8 (by decide)).trans rfl
   clear hd hev hin
   simp only [List.getElem_cons_succ, List.getElem_cons_zero]
   clear hl
   refine .inr ⟨rfl, fun K' hK => ?_⟩
   have HK := Lib.hid hK
   clear hK
   have f0 : ww.cell? ⟨bk2, 0, none⟩ = some (.bool pn2.b) := hJ.em.es.cell 0 rfl 0 rfl
   have f1 : ww.cell? ⟨bk2, 1, none⟩ = some (.slice pn2.a pn2.n pn2.c) := hJ.em.es.cell 0 rfl 1 rfl
   go_simp
   exact HK.out (.agg #[.bool pn2.b, .slice pn2.a pn2.n pn2.c]) _ (hJ.grow hLi (by simp) (by simp) (Below.refl _ _)) rfl vnL_same
  ·
   obtain ⟨q2, z2, e2, iq2⟩ := (show vnP (.num (X * 1048576)) (uu 2) ww from (hd 2 (by decide) (by kernel_rfl)).2)
   have x25 : aa.tmps[25]? = some (.agg #[.bool q2.b, .slice q2.a q2.n q2.c]) := (hin 2 25 rfl).trans (congrArg some e2)
   have x26 : aa.tmps[26]? = some (.agg #[.bool pn2.b, .slice pn2.a pn2.n pn2.c]) := (hin 3 26 rfl).trans (congrArg some (show uu 3 = .agg #[.bool pn2.b, .slice pn2.a pn2.n pn2.c] from (hd 3 (by decide) (by kernel_rfl)).2))
   clear hd hev hin
   simp only [List.getElem_cons_succ, List.getElem_cons_zero]
   clear hl
   refine .inr ⟨rfl, fun K' hK => ?_⟩
   have HK := Lib.hid hK
   clear hK
   go_simp
   refine (Hq.out q2 pn2 ww z2 Hz_pn2.out iq2 (hJ.num pn2 (by simp))).mono ?_
   rintro zz W' ⟨py0, py1, hzy0, rfl, ipy0, ipy1, hB⟩
   exact HK.out (.tuple #[.agg #[.bool py0.b, .slice py0.a py0.n py0.c], .agg #[.bool py1.b, .slice py1.a py1.n py1.c], .int .i64 0]) _ (hJ.grow hLi (by simp) (by simp) hB) ⟨py0, py1, hzy0, rfl, ipy0, ipy1⟩ (vnL_later hB)
  ·
   obtain ⟨q4, q4r, z4, e4, iq4, iq4r⟩ := (show vnP (.num2 (q) (.int .i64 0)) (uu 4) ww from (hd 4 (by decide) (by kernel_rfl)).2)
   have x27 : aa.tmps[27]? = some (.tuple #[.agg #[.bool q4.b, .slice q4.a q4.n q4.c], .agg #[.bool q4r.b, .slice q4r.a q4r.n q4r.c], .int .i64 0]) := (hin 4 27 rfl).trans (congrArg some e4)
   clear hd hev hin
   simp only [List.getElem_cons_succ, List.getElem_cons_zero]
   clear hl
   refine .inr ⟨rfl, fun K' hK => ?_⟩
   have HK := Lib.hid hK
   clear hK
   go_simp
   exact HK.out (.tuple #[.agg #[.bool q4.b, .slice q4.a q4.n q4.c], .agg #[.bool q4r.b, .slice q4r.a q4r.n q4r.c], .int .i64 0]) _ (hJ.grow hLi (by simp) (by simp) (Below.refl _ _)) ⟨q4, q4r, z4, rfl, iq4, iq4r⟩ vnL_same
  ·
   obtain ⟨q5, q5r, z5, e5, iq5, iq5r⟩ := (show vnP (.num2 (q) (.int .i64 0)) (uu 5) ww from (hd 5 (by decide) (by kernel_rfl)).2)
   have x22 : aa.tmps[22]? = some (.tuple #[.agg #[.bool q5.b, .slice q5.a q5.n q5.c], .agg #[.bool q5r.b, .slice q5r.a q5r.n q5r.c], .int .i64 0]) := (hin 5 22 rfl).trans (congrArg some e5)
   clear hd hev hin
   simp only [List.getElem_cons_succ, List.getElem_cons_zero]
   clear hl
   refine .inr ⟨rfl, fun K' hK => ?_⟩
   have HK := Lib.hid hK
   clear hK
   go_simp
   exact HK.out (.agg #[.bool q5.b, .slice q5.a q5.n q5.c]) _ (hJ.grow hLi (by simp) (by simp) (Below.refl _ _)) ⟨q5, z5, rfl, iq5⟩ vnL_same
  ·
   obtain ⟨q5, q5r, z5, e5, iq5, iq5r⟩ := (show vnP (.num2 (q) (.int .i64 0)) (uu 5) ww from (hd 5 (by decide) (by kernel_rfl)).2)
   have x22 : aa.tmps[22]? = some (.tuple #[.agg #[.bool q5.b, .slice q5.a q5.n q5.c], .agg #[.bool q5r.b, .slice q5r.a q5r.n q5r.c], .int .i64 0]) := (hin 5 22 rfl).trans (congrArg some e5)
   clear hd hev hin
   simp only [List.getElem_cons_succ, List.getElem_cons_zero]
   clear hl
   refine .inr ⟨rfl, fun K' hK => ?_⟩
   have HK := Lib.hid hK
   clear hK
   go_simp
   exact HK.out (.agg #[.bool q5r.b, .slice q5r.a q5r.n q5r.c]) _ (hJ.grow hLi (by simp) (by simp) (Below.refl _ _)) ⟨q5r, rfl, iq5r⟩ vnL_same
  ·
   obtain ⟨q5, q5r, z5, e5, iq5, iq5r⟩ := (show vnP (.num2 (q) (.int .i64 0)) (uu 5) ww from (hd 5 (by decide) (by kernel_rfl)).2)
   have x22 : aa.tmps[22]? = some (.tuple #[.agg #[.bool q5.b, .slice q5.a q5.n q5.c], .agg #[.bool q5r.b, .slice q5r.a q5r.n q5r.c], .int .i64 0]) := (hin 5 22 rfl).trans (congrArg some e5)
   clear hd hev hin
   simp only [List.getElem_cons_succ, List.getElem_cons_zero]
   clear hl
   refine .inr ⟨rfl, fun K' hK => ?_⟩
   have HK := Lib.hid hK
   clear hK
   go_simp
   exact HK.out (.int .i64 0) _ (hJ.grow hLi (by simp) (by simp) (Below.refl _ _)) rfl vnL_same
  ·
   clear hd hev hin
   simp only [List.getElem_cons_succ, List.getElem_cons_zero]
   clear hl
   refine .inr ⟨rfl, fun K' hK => ?_⟩
   have HK := Lib.hid hK
   clear hK
   refine wp_alloc 42 rfl (.agg #[.bool false, .slice none 0 0]) zv42 ?_
   exact HK.out _ _ (hJ.alloc hLi (n := 2) rfl (by kernel_rfl) (by simp) (by simp)) trivial (vnL_later ((Below.refl _ _).alloc (Nat.le_refl _) _))
  ·
   clear hd hev hin
   simp only [List.getElem_cons_succ, List.getElem_cons_zero]
   clear hl
   refine .inr ⟨rfl, fun K' hK => ?_⟩
   have HK := Lib.hid hK
   clear hK
   refine wp_alloc 42 rfl (.agg #[.bool false, .slice none 0 0]) zv42 ?_
   exact HK.out _ _ (hJ.alloc hLi (n := 2) rfl (by kernel_rfl) (by simp) (by simp)) trivial (vnL_later ((Below.refl _ _).alloc (Nat.le_refl _) _))
  ·
   have hLa := (hd 9 (by decide) (by kernel_rfl)).1
   obtain ⟨kb, kC, ke, kge, ksz, kno, kcl⟩ := hJ.bx (9, 2, 42) (by simp) hLa
   have x10 : aa.tmps[10]? = some (.pointer (some ⟨kb, 0, none⟩)) := (hin 9 10 rfl).trans (congrArg some ke)
   obtain ⟨q6, z6, e6, iq6⟩ := (show vnP (.num (q)) (uu 6) ww from (hd 6 (by decide) (by kernel_rfl)).2)
   have x28 : aa.tmps[28]? = some (.agg #[.bool q6.b, .slice q6.a q6.n q6.c]) := (hin 6 28 rfl).trans (congrArg some e6)
   have hLx := (hd 6 (by decide) (by kernel_rfl)).1
   clear hd hev hin
   simp only [List.getElem_cons_succ, List.getElem_cons_zero]
   clear hl
   refine .inr ⟨rfl, fun K' hK => ?_⟩
   have HK := Lib.hid hK
   clear hK
   refine wp_store 42 (.tmp 10) (.tmp 28) rfl 0 kb 0 kC 42 2 [.bool q6.b, .slice q6.a q6.n q6.c] (hJ.em.join kge kcl) rfl (eval_tmp x10) (by rw [eval_tmp x28]; rfl) sz42 rfl (by rw [ksz]; decide) (by kernel_rfl) (fun ww2 hE hk hz => ?_)
   rw [putC_full (show kC.size = ([.bool q6.b, .slice q6.a q6.n q6.c] : List Value).length from ksz)] at hE
   exact HK.out undef _ (hJ.store (a := 9) (x := 6) (n := 2) (T := 42) (Cn := #[.bool q6.b, .slice q6.a q6.n q6.c]) hLi (by simp) (by simp) (by simp) (by simp) (by simp) (by simp) hLa hLx ke kge rfl (by kernel_rfl) (by rw [e6]; rfl) kcl kno hE hk hz) trivial (vnL_store kcl kno hk hz)
  ·
   have hLa := (hd 10 (by decide) (by kernel_rfl)).1
   obtain ⟨kb, kC, ke, kge, ksz, kno, kcl⟩ := hJ.bx (10, 2, 42) (by simp) hLa
   have x11 : aa.tmps[11]? = some (.pointer (some ⟨kb, 0, none⟩)) := (hin 10 11 rfl).trans (congrArg some ke)
   obtain ⟨q7, e7, iq7⟩ := (show vnP (.numu) (uu 7) ww from (hd 7 (by decide) (by kernel_rfl)).2)
   have x29 : aa.tmps[29]? = some (.agg #[.bool q7.b, .slice q7.a q7.n q7.c]) := (hin 7 29 rfl).trans (congrArg some e7)
   have hLx := (hd 7 (by decide) (by kernel_rfl)).1
   clear hd hev hin
   simp only [List.getElem_cons_succ, List.getElem_cons_zero]
   clear hl
   refine .inr ⟨rfl, fun K' hK => ?_⟩
   have HK := Lib.hid hK
   clear hK
   refine wp_store 42 (.tmp 11) (.tmp 29) rfl 0 kb 0 kC 42 2 [.bool q7.b, .slice q7.a q7.n q7.c] (hJ.em.join kge kcl) rfl (eval_tmp x11) (by rw [eval_tmp x29]; rfl) sz42 rfl (by rw [ksz]; decide) (by kernel_rfl) (fun ww2 hE hk hz => ?_)
   rw [putC_full (show kC.size = ([.bool q7.b, .slice q7.a q7.n q7.c] : List Value).length from ksz)] at hE
   exact HK.out undef _ (hJ.store (a := 10) (x := 7) (n := 2) (T := 42) (Cn := #[.bool q7.b, .slice q7.a q7.n q7.c]) hLi (by simp) (by simp) (by simp) (by simp) (by simp) (by simp) hLa hLx ke kge rfl (by kernel_rfl) (by rw [e7]; rfl) kcl kno hE hk hz) trivial (vnL_store kcl kno hk hz)
  ·
   have x30 : aa.tmps[30]? = some (.int .i64 0) := (hin 8 30 rfl).trans (congrArg some (show uu 8 = .int .i64 0 from (hd 8 (by decide) (by kernel_rfl)).2))
   clear hd hev hin
   simp only [List.getElem_cons_succ, List.getElem_cons_zero]
   clear hl
   refine .inr ⟨rfl, fun K' hK => ?_⟩
   have HK := Lib.hid hK
   clear hK
   go_simp
   exact HK.out (.int .i64 0) _ (hJ.grow hLi (by simp) (by simp) (Below.refl _ _)) rfl vnL_same
 clear hM
 intro LL uu W6 hLL hJm hd
 have e_0 : uu 0 = .agg #[.bool pn1.b, .slice pn1.a pn1.n pn1.c] := hd 0 (by decide)
 obtain ⟨pn3, hz_pn3, e_1, hi_pn3⟩ := (show vnP (.num (1048576)) (uu 1) W6 from hd 1 (by decide))
 have Hz_pn3 := Lib.hid hz_pn3
 clear hz_pn3
 obtain ⟨pn4, hz_pn4, e_2, hi_pn4⟩ := (show vnP (.num (X * 1048576)) (uu 2) W6 from hd 2 (by decide))
 have Hz_pn4 := Lib.hid hz_pn4
 clear hz_pn4
 have e_3 : uu 3 = .agg #[.bool pn2.b, .slice pn2.a pn2.n pn2.c] := hd 3 (by decide)
 obtain ⟨pn5, pn6, hz_pn5, e_4, hi_pn5, hi_pn6⟩ := (show vnP (.num2 (q) (.int .i64 0)) (uu 4) W6 from hd 4 (by decide))
 have Hz_pn5 := Lib.hid hz_pn5
 clear hz_pn5
 obtain ⟨pn7, pn8, hz_pn7, e_5, hi_pn7, hi_pn8⟩ := (show vnP (.num2 (q) (.int .i64 0)) (uu 5) W6 from hd 5 (by decide))
 have Hz_pn7 := Lib.hid hz_pn7
 clear hz_pn7
 obtain ⟨pn9, hz_pn9, e_6, hi_pn9⟩ := (show vnP (.num (q)) (uu 6) W6 from hd 6 (by decide))
 have Hz_pn9 := Lib.hid hz_pn9
 clear hz_pn9
 obtain ⟨pn10, e_7, hi_pn10⟩ := (show vnP (.numu) (uu 7) W6 from hd 7 (by decide))
 have e_8 : uu 8 = .int .i64 0 := hd 8 (by decide)
 obtain ⟨bk3, kC9, e_9, nge9, ksz9, kno9, nB9⟩ := hJm.bx (9, 2, 42) (by simp) (hLL 9 (by decide))
 obtain ⟨bk4, kC10, e_10, nge10, ksz10, kno10, nB10⟩ := hJm.bx (10, 2, 42) (by simp) (hLL 10 (by decide))
 have e_13 : uu 13 = .int .i64 0 := hd 13 (by decide)
 obtain ⟨_, _, kb11, ke11, kl11⟩ := hJm.st (11, 9, 6, 42) (by simp) (hLL 11 (by decide))
 have kq11 : kb11 = bk3 := by
  have hq := ke11.symm.trans e_9
  injection hq with hq
  injection hq with hq
  injection hq with hq
 subst kq11
 clear ke11
 replace kl11 : Cl W6 (kb11, #[.bool pn9.b, .slice pn9.a pn9.n pn9.c], 42) := by
  rw [show (uu (11, 9, 6, 42).2.2.1) = _ from e_6] at kl11
  exact kl11
 obtain ⟨_, _, kb12, ke12, kl12⟩ := hJm.st (12, 10, 7, 42) (by simp) (hLL 12 (by decide))
 have kq12 : kb12 = bk4 := by
  have hq := ke12.symm.trans e_10
  injection hq with hq
  injection hq with hq
  injection hq with hq
 subst kq12
 clear ke12
 replace kl12 : Cl W6 (kb12, #[.bool pn10.b, .slice pn10.a pn10.n pn10.c], 42) := by
  rw [show (uu (12, 10, 7, 42).2.2.1) = _ from e_7] at kl12
  exact kl12
 have g9 := hJm.em.join nge9 kl11
 have g10 : Es w W6 _ := Es.join g9 (Nat.le_trans hJm.em.ge nge10) (by
  intro p hp
  rcases List.mem_cons.1 hp with rfl | hp
  ·
   intro hc
   refine hJm.ne (9, 2, 42) (10, 2, 42) (by simp) (by simp) (by decide) (hLL 9 (by decide)) (hLL 10 (by decide)) ?_
   rw [e_9, e_10]
   exact congrArg (fun k => Value.pointer (some ⟨k, 0, none⟩)) hc
  have h1 := hJm.em.lt p hp
  have h2 := nge10
  omega) kl12
 clear hd hLL
 simp only [layS, Act.put, List.setIfInBounds_toArray, List.set_cons_succ, List.set_cons_zero, Nat.zero_add, Nat.reduceAdd, List.drop_succ_cons, List.drop_zero, List.drop_nil, e_0, e_1, e_2, e_3, e_4, e_5, e_6, e_7, e_8, e_9, e_10, e_13]
 have hJ6 := (((((((((⟨g10, hJm.num⟩ : En w W6 [(kb12, #[.bool pn10.b, .slice pn10.a pn10.n pn10.c], 42), (kb11, #[.bool pn9.b, .slice pn9.a pn9.n pn9.c], 42), (bk2, #[.bool pn2.b, .slice pn2.a pn2.n pn2.c], 42), (bk1, #[.bool pn1.b, .slice pn1.a pn1.n pn1.c], 42)] [pn2, pn1])).more hi_pn3).more hi_pn4).more hi_pn5).more hi_pn6).more hi_pn7).more hi_pn8).more hi_pn9).more hi_pn10
 clear hJm e_0 e_1 e_2 e_3 e_4 e_5 e_6 e_7 e_8 e_9 e_10 e_13 nge9 nB9 ksz9 kno9 g9 nge10 nB10 ksz10 kno10 g10 hi_pn3 hi_pn4 hi_pn5 hi_pn6 hi_pn7 hi_pn8 hi_pn9 hi_pn10
 have f0 : W6.cell? ⟨kb11, 0, none⟩ = some (.bool pn9.b) := hJ6.cell 1 rfl 0 rfl
 have f1 : W6.cell? ⟨kb11, 1, none⟩ = some (.slice pn9.a pn9.n pn9.c) := hJ6.cell 1 rfl 1 rfl
 go_wp2_with fail
 refine (Hc.out pn9 _ Hz_pn9.out (hJ6.num pn9 (by simp))).mono ?_
 rintro zz W7 ⟨rfl, hB⟩
 have hJ7 := hJ6.later hB
 clear hB
 clear f0 f1
 clear hJ6
 go_wp2
 exact bodyPost_ret (v := .tuple #[.int .i64 n, .bool c, .int .i64 0]) (by simp [results, Tryz.results14, go_sem]) rfl ⟨rfl, hJ7.below⟩
set_option maxRecDepth 100000 in
set_option maxHeartbeats 12800000 in
theorem rfDiv_z (a b X Y q : Int) (p : Bool) (hH2 : ∀ (W : World), Calls Tryz.prog 24 #[.int .i64 a, .int .i64 b] W (PN3 (X) (Y) (.bool p) W)) (hH1 : ∀ (W : World), Calls Tryz.prog 31 #[] W (PN (1048576) W)) (hHm : ∀ (p0 p1 : NR) (W : World), p0.z = X → p1.z = 1048576 → p0.is W → p1.is W → Calls Tryz.prog 29 #[.agg #[.bool p0.b, .slice p0.a p0.n p0.c], .agg #[.bool p1.b, .slice p1.a p1.n p1.c]] W (PN (X * 1048576) W)) (hHq : ∀ (p0 p1 : NR) (W : World), p0.z = X * 1048576 → p1.z = Y → p0.is W → p1.is W → Calls Tryz.prog 30 #[.agg #[.bool p0.b, .slice p0.a p0.n p0.c], .agg #[.bool p1.b, .slice p1.a p1.n p1.c]] W (PNQ (q) 11 W))   (w : World) : Calls Tryz.prog 14 #[.int .i64 a, .int .i64 b] w (PVal (.tuple #[.int .i64 0, .bool false, .int .i64 11]) w) := by
 have H2 := Lib.hid hH2
 have H1 := Lib.hid hH1
 have Hm := Lib.hid hHm
 have Hq := Lib.hid hHq
 clear hH2 hH1 hHm hHq
 have hJ0 := en_nil w
 go_enter Tryz.func14, Tryz.ntmps14
 go_wp2_with fail
 refine (H2.out _).mono ?_
 rintro zz W1 ⟨pn1, pn2, hz_pn1, hz_pn2, rfl, hi_pn1, hi_pn2, hB⟩
 have hJ1 := ((hJ0.later hB).more hi_pn1).more hi_pn2
 have Hz_pn1 := Lib.hid hz_pn1
 clear hz_pn1
 clear hi_pn1
 have Hz_pn2 := Lib.hid hz_pn2
 clear hz_pn2
 clear hi_pn2
 clear hB
 clear hJ0
 go_wp2_with (refine stopn_alloc 42 #[.bool false, .slice none 0 0] (.agg #[.bool false, .slice none 0 0]) rfl rfl zv42 rfl hJ1 (fun bk1 W2 hJ2 => ?_))
 clear hJ1
 unfold Stop
 try simp only [Act.put, List.setIfInBounds_toArray, List.set_cons_succ, List.set_cons_zero]
 go_wp2_with (refine stopn_alloc 42 #[.bool false, .slice none 0 0] (.agg #[.bool false, .slice none 0 0]) rfl rfl zv42 rfl hJ2 (fun bk2 W3 hJ3 => ?_))
 clear hJ2
 unfold Stop
 try simp only [Act.put, List.setIfInBounds_toArray, List.set_cons_succ, List.set_cons_zero]
 go_wp2_with (refine stopn_store 42 (.tmp 7) (.tmp 19) 1 bk1 0 #[.bool false, .slice none 0 0] 42 2 [.bool pn1.b, .slice pn1.a pn1.n pn1.c] #[.bool pn1.b, .slice pn1.a pn1.n pn1.c] [(bk2, #[.bool false, .slice none 0 0], 42), (bk1, #[.bool pn1.b, .slice pn1.a pn1.n pn1.c], 42)] (by kernel_rfl) rfl rfl rfl rfl sz42 hJ3 rfl rfl (Nat.le_of_ble_eq_true (by kernel_rfl)) (by kernel_rfl) (by kernel_rfl) (by kernel_rfl) (fun W4 hJ4 => ?_))
 clear hJ3
 unfold Stop
 try simp only [Act.put, List.setIfInBounds_toArray, List.set_cons_succ, List.set_cons_zero]
 go_wp2_with (refine stopn_store 42 (.tmp 8) (.tmp 20) 0 bk2 0 #[.bool false, .slice none 0 0] 42 2 [.bool pn2.b, .slice pn2.a pn2.n pn2.c] #[.bool pn2.b, .slice pn2.a pn2.n pn2.c] [(bk2, #[.bool pn2.b, .slice pn2.a pn2.n pn2.c], 42), (bk1, #[.bool pn1.b, .slice pn1.a pn1.n pn1.c], 42)] (by kernel_rfl) rfl rfl rfl rfl sz42 hJ4 rfl rfl (Nat.le_of_ble_eq_true (by kernel_rfl)) (by kernel_rfl) (by kernel_rfl) (by kernel_rfl) (fun W5 hJ5 => ?_))
 clear hJ4
 unfold Stop
 try simp only [Act.put, List.setIfInBounds_toArray, List.set_cons_succ, List.set_cons_zero]
 go_wp2
 obtain ⟨m2_5, hm⟩ : ∃ m, m = W5.heap.size := ⟨_, rfl⟩
 have hM : ∀ uu, Jn w m2_5 [(bk2, #[.bool pn2.b, .slice pn2.a pn2.n pn2.c], 42), (bk1, #[.bool pn1.b, .slice pn1.a pn1.n pn1.c], 42)] [pn2, pn1] [(9, 2, 42), (10, 2, 42)] [(11, 9, 6, 42), (12, 10, 7, 42)] (fun _ => false) uu W5.drew := fun uu => by rw [hm]; exact Jn.start hJ5 uu
 clear hm hJ5
 refine wp_region_y 14 [some 23, some 24, some 25, some 26, some 27, some 22, some 28, some 29, some 30, some 10, some 11, none, none, some 12] (vnL [.eq (.agg #[.bool pn1.b, .slice pn1.a pn1.n pn1.c]), .num (1048576), .num (X * 1048576), .eq (.agg #[.bool pn2.b, .slice pn2.a pn2.n pn2.c]), .num2 (q) (.int .i64 11), .num2 (q) (.int .i64 11), .num (q), .numu, .eq (.int .i64 11), .any, .any, .any, .any, .eq (.int .i64 11)]) (Jn w m2_5 [(bk2, #[.bool pn2.b, .slice pn2.a pn2.n pn2.c], 42), (bk1, #[.bool pn1.b, .slice pn1.a pn1.n pn1.c], 42)] [pn2, pn1] [(9, 2, 42), (10, 2, 42)] [(11, 9, 6, 42), (12, 10, 7, 42)]) (by kernel_rfl) (by kernel_rfl) (by rfl) (by decide) (by rfl) hM ?_ ?_
 ·
  intro i hl hi LL uu ww aa hLi hJ hd hev hin
  clear hM
  obtain rfl | rfl | rfl | rfl | rfl | rfl | rfl | rfl | rfl | rfl | rfl | rfl | rfl | rfl : i = 0 ∨ i = 1 ∨ i = 2 ∨ i = 3 ∨ i = 4 ∨ i = 5 ∨ i = 6 ∨ i = 7 ∨ i = 8 ∨ i = 9 ∨ i = 10 ∨ i = 11 ∨ i = 12 ∨ i = 13 := by omega
  ·
   have x7 : aa.tmps[7]? = some (.pointer (some ⟨bk1, 0, none⟩)) := (hev 7 (by decide)).trans rfl
   clear hd hev hin
   simp only [List.getElem_cons_succ, List.getElem_cons_zero]
   clear hl
   refine .inr ⟨rfl, fun K' hK => ?_⟩
   have HK := Lib.hid hK
   clear hK
   have f0 : ww.cell? ⟨bk1, 0, none⟩ = some (.bool pn1.b) := hJ.em.es.cell 1 rfl 0 rfl
   have f1 : ww.cell? ⟨bk1, 1, none⟩ = some (.slice pn1.a pn1.n pn1.c) := hJ.em.es.cell 1 rfl 1 rfl
   go_simp
   exact HK.out (.agg #[.bool pn1.b, .slice pn1.a pn1.n pn1.c]) _ (hJ.grow hLi (by simp) (by simp) (Below.refl _ _)) rfl vnL_same
  ·
   clear hd hev hin
   simp only [List.getElem_cons_succ, List.getElem_cons_zero]
   clear hl
   refine .inr ⟨rfl, fun K' hK => ?_⟩
   have HK := Lib.hid hK
   clear hK
   go_simp
   refine (H1.out ww).mono ?_
   rintro zz W' ⟨py0, hzy0, rfl, ipy0, hB⟩
   exact HK.out (.agg #[.bool py0.b, .slice py0.a py0.n py0.c]) _ (hJ.grow hLi (by simp) (by simp) hB) ⟨py0, hzy0, rfl, ipy0⟩ (vnL_later hB)
  ·
   have x23 : aa.tmps[23]? = some (.agg #[.bool pn1.b, .slice pn1.a pn1.n pn1.c]) := (hin 0 23 rfl).trans (congrArg some (show uu 0 = .agg #[.bool pn1.b, .slice pn1.a pn1.n pn1.c] from (hd 0 (by decide) (by kernel_rfl)).2))
   obtain ⟨q1, z1, e1, iq1⟩ := (show vnP (.num (1048576)) (uu 1) ww from (hd 1 (by decide) (by kernel_rfl)).2)
   have x24 : aa.tmps[24]? = some (.agg #[.bool q1.b, .slice q1.a q1.n q1.c]) := (hin 1 24 rfl).trans (congrArg some e1)
   clear hd hev hin
   simp only [List.getElem_cons_succ, List.getElem_cons_zero]
   clear hl
   refine .inr ⟨rfl, fun K' hK => ?_⟩
   have HK := Lib.hid hK
   clear hK
   go_simp
   refine (Hm.out pn1 q1 ww Hz_pn1.out z1 (hJ.num pn1 (by simp)) iq1).mono ?_
   rintro zz W' ⟨py0, hzy0, rfl, ipy0, hB⟩
   exact HK.out (.agg #[.bool py0.b, .slice py0.a py0.n py0.c]) _ (hJ.grow hLi (by simp) (by simp) hB) ⟨py0, hzy0, rfl, ipy0⟩ (vnL_later hB)
  ·
   have x8 : aa.tmps[8]? = some (.pointer (some ⟨bk2, 0, none⟩)) := (hev 8 (by decide)).trans rfl
   clear hd hev hin
   simp only [List.getElem_cons_succ, List.getElem_cons_zero]
   clear hl
   refine .inr ⟨rfl, fun K' hK => ?_⟩
   have HK := Lib.hid hK
   clear hK
   have f0 : ww.cell? ⟨bk2, 0, none⟩ = some (.bool pn2.b) := hJ.em.es.cell 0 rfl 0 rfl
   have f1 : ww.cell? ⟨bk2, 1, none⟩ = some (.slice pn2.a pn2.n pn2.c) := hJ.em.es.cell 0 rfl 1 rfl
   go_simp
   exact HK.out (.agg #[.bool pn2.b, .slice pn2.a pn2.n pn2.c]) _ (hJ.grow hLi (by simp) (by simp) (Below.refl _ _)) rfl vnL_same
  ·
   obtain ⟨q2, z2, e2, iq2⟩ := (show vnP (.num (X * 1048576)) (uu 2) ww from (hd 2 (by decide) (by kernel_rfl)).2)
   have x25 : aa.tmps[25]? = some (.agg #[.bool q2.b, .slice q2.a q2.n q2.c]) := (hin 2 25 rfl).trans (congrArg some e2)
   have x26 : aa.tmps[26]? = some (.agg #[.bool pn2.b, .slice pn2.a pn2.n pn2.c]) := (hin 3 26 rfl).trans (congrArg some (show uu 3 = .agg #[.bool pn2.b, .slice pn2.a pn2.n pn2.c] from (hd 3 (by decide) (by kernel_rfl)).2))
   clear hd hev hin
   simp only [List.getElem_cons_succ, List.getElem_cons_zero]
   clear hl
   refine .inr ⟨rfl, fun K' hK => ?_⟩
   have HK := Lib.hid hK
   clear hK
   go_simp
   refine (Hq.out q2 pn2 ww z2 Hz_pn2.out iq2 (hJ.num pn2 (by simp))).mono ?_
   rintro zz W' ⟨py0, py1, hzy0, rfl, ipy0, ipy1, hB⟩
   exact HK.out (.tuple #[.agg #[.bool py0.b, .slice py0.a py0.n py0.c], .agg #[.bool py1.b, .slice py1.a py1.n py1.c], .int .i64 11]) _ (hJ.grow hLi (by simp) (by simp) hB) ⟨py0, py1, hzy0, rfl, ipy0, ipy1⟩ (vnL_later hB)
  ·
   obtain ⟨q4, q4r, z4, e4, iq4, iq4r⟩ := (show vnP (.num2 (q) (.int .i64 11)) (uu 4) ww from (hd 4 (by decide) (by kernel_rfl)).2)
   have x27 : aa.tmps[27]? = some (.tuple #[.agg #[.bool q4.b, .slice q4.a q4.n q4.c], .agg #[.bool q4r.b, .slice q4r.a q4r.n q4r.c], .int .i64 11]) := (hin 4 27 rfl).trans (congrArg some e4)
   clear hd hev hin
   simp only [List.getElem_cons_succ, List.getElem_cons_zero]
   clear hl
   refine .inr ⟨rfl, fun K' hK => ?_⟩
   have HK := Lib.hid hK
   clear hK
   go_simp
   exact HK.out (.tuple #[.agg #[.bool q4.b, .slice q4.a q4.n q4.c], .agg #[.bool q4r.b, .slice q4r.a q4r.n q4r.c], .int .i64 11]) _ (hJ.grow hLi (by simp) (by simp) (Below.refl _ _)) ⟨q4, q4r, z4, rfl, iq4, iq4r⟩ vnL_same
  ·
   obtain ⟨q5, q5r, z5, e5, iq5, iq5r⟩ := (show vnP (.num2 (q) (.int .i64 11)) (uu 5) ww from (hd 5 (by decide) (by kernel_rfl)).2)
   have x22 : aa.tmps[22]? = some (.tuple #[.agg #[.bool q5.b, .slice q5.a q5.n q5.c], .agg #[.bool q5r.b, .slice q5r.a q5r.n q5r.c], .int .i64 11]) := (hin 5 22 rfl).trans (congrArg some e5)
   clear hd hev hin
   simp only [List.getElem_cons_succ, List.getElem_cons_zero]
   clear hl
   refine .inr ⟨rfl, fun K' hK => ?_⟩
   have HK := Lib.hid hK
   clear hK
   go_simp
   exact HK.out (.agg #[.bool q5.b, .slice q5.a q5.n q5.c]) _ (hJ.grow hLi (by simp) (by simp) (Below.refl _ _)) ⟨q5, z5, rfl, iq5⟩ vnL_same
  ·
   obtain ⟨q5, q5r, z5, e5, iq5, iq5r⟩ := (show vnP (.num2 (q) (.int .i64 11)) (uu 5) ww from (hd 5 (by decide) (by kernel_rfl)).2)
   have x22 : aa.tmps[22]? = some (.tuple #[.agg #[.bool q5.b, .slice q5.a q5.n q5.c], .agg #[.bool q5r.b, .slice q5r.a q5r.n q5r.c], .int .i64 11]) := (hin 5 22 rfl).trans (congrArg some e5)
   clear hd hev hin
   simp only [List.getElem_cons_succ, List.getElem_cons_zero]
   clear hl
   refine .inr ⟨rfl, fun K' hK => ?_⟩
   have HK := Lib.hid hK
   clear hK
   go_simp
   exact HK.out (.agg #[.bool q5r.b, .slice q5r.a q5r.n q5r.c]) _ (hJ.grow hLi (by simp) (by simp) (Below.refl _ _)) ⟨q5r, rfl, iq5r⟩ vnL_same
  ·
   obtain ⟨q5, q5r, z5, e5, iq5, iq5r⟩ := (show vnP (.num2 (q) (.int .i64 11)) (uu 5) ww from (hd 5 (by decide) (by kernel_rfl)).2)
   have x22 : aa.tmps[22]? = some (.tuple #[.agg #[.bool q5.b, .slice q5.a q5.n q5.c], .agg #[.bool q5r.b, .slice q5r.a q5r.n q5r.c], .int .i64 11]) := (hin 5 22 rfl).trans (congrArg some e5)
   clear hd hev hin
   simp only [List.getElem_cons_succ, List.getElem_cons_zero]
   clear hl
   refine .inr ⟨rfl, fun K' hK => ?_⟩
   have HK := Lib.hid hK
   clear hK
   go_simp
   exact HK.out (.int .i64 11) _ (hJ.grow hLi (by simp) (by simp) (Below.refl _ _)) rfl vnL_same
  ·
   clear hd hev hin
   simp only [List.getElem_cons_succ, List.getElem_cons_zero]
   clear hl
   refine .inr ⟨rfl, fun K' hK => ?_⟩
   have HK := Lib.hid hK
   clear hK
   refine wp_alloc 42 rfl (.agg #[.bool false, .slice none 0 0]) zv42 ?_
   exact HK.out _ _ (hJ.alloc hLi (n := 2) rfl (by kernel_rfl) (by simp) (by simp)) trivial (vnL_later ((Below.refl _ _).alloc (Nat.le_refl _) _))
  ·
   clear hd hev hin
   simp only [List.getElem_cons_succ, List.getElem_cons_zero]
   clear hl
   refine .inr ⟨rfl, fun K' hK => ?_⟩
   have HK := Lib.hid hK
   clear hK
   refine wp_alloc 42 rfl (.agg #[.bool false, .slice none 0 0]) zv42 ?_
   exact HK.out _ _ (hJ.alloc hLi (n := 2) rfl (by kernel_rfl) (by simp) (by simp)) trivial (vnL_later ((Below.refl _ _).alloc (Nat.le_refl _) _))
  ·
   have hLa := (hd 9 (by decide) (by kernel_rfl)).1
   obtain ⟨kb, kC, ke, kge, ksz, kno, kcl⟩ := hJ.bx (9, 2, 42) (by simp) hLa
   have x10 : aa.tmps[10]? = some (.pointer (some ⟨kb, 0, none⟩)) := (hin 9 10 rfl).trans (congrArg some ke)
   obtain ⟨q6, z6, e6, iq6⟩ := (show vnP (.num (q)) (uu 6) ww from (hd 6 (by decide) (by kernel_rfl)).2)
   have x28 : aa.tmps[28]? = some (.agg #[.bool q6.b, .slice q6.a q6.n q6.c]) := (hin 6 28 rfl).trans (congrArg some e6)
   have hLx := (hd 6 (by decide) (by kernel_rfl)).1
   clear hd hev hin
   simp only [List.getElem_cons_succ, List.getElem_cons_zero]
   clear hl
   refine .inr ⟨rfl, fun K' hK => ?_⟩
   have HK := Lib.hid hK
   clear hK
   refine wp_store 42 (.tmp 10) (.tmp 28) rfl 0 kb 0 kC 42 2 [.bool q6.b, .slice q6.a q6.n q6.c] (hJ.em.join kge kcl) rfl (eval_tmp x10) (by rw [eval_tmp x28]; rfl) sz42 rfl (by rw [ksz]; decide) (by kernel_rfl) (fun ww2 hE hk hz => ?_)
   rw [putC_full (show kC.size = ([.bool q6.b, .slice q6.a q6.n q6.c] : List Value).length from ksz)] at hE
   exact HK.out undef _ (hJ.store (a := 9) (x := 6) (n := 2) (T := 42) (Cn := #[.bool q6.b, .slice q6.a q6.n q6.c]) hLi (by simp) (by simp) (by simp) (by simp) (by simp) (by simp) hLa hLx ke kge rfl (by kernel_rfl) (by rw [e6]; rfl) kcl kno hE hk hz) trivial (vnL_store kcl kno hk hz)
  ·
   have hLa := (hd 10 (by decide) (by kernel_rfl)).1
   obtain ⟨kb, kC, ke, kge, ksz, kno, kcl⟩ := hJ.bx (10, 2, 42) (by simp) hLa
   have x11 : aa.tmps[11]? = some (.pointer (some ⟨kb, 0, none⟩)) := (hin 10 11 rfl).trans (congrArg some ke)
   obtain ⟨q7, e7, iq7⟩ := (show vnP (.numu) (uu 7) ww from (hd 7 (by decide) (by kernel_rfl)).2)
   have x29 : aa.tmps[29]? = some (.agg #[.bool q7.b, .slice q7.a q7.n q7.c]) := (hin 7 29 rfl).trans (congrArg some e7)
   have hLx := (hd 7 (by decide) (by kernel_rfl)).1
   clear hd hev hin
   simp only [List.getElem_cons_succ, List.getElem_cons_zero]
   clear hl
   refine .inr ⟨rfl, fun K' hK => ?_⟩
   have HK := Lib.hid hK
   clear hK
   refine wp_store 42 (.tmp 11) (.tmp 29) rfl 0 kb 0 kC 42 2 [.bool q7.b, .slice q7.a q7.n q7.c] (hJ.em.join kge kcl) rfl (eval_tmp x11) (by rw [eval_tmp x29]; rfl) sz42 rfl (by rw [ksz]; decide) (by kernel_rfl) (fun ww2 hE hk hz => ?_)
   rw [putC_full (show kC.size = ([.bool q7.b, .slice q7.a q7.n q7.c] : List Value).length from ksz)] at hE
   exact HK.out undef _ (hJ.store (a := 10) (x := 7) (n := 2) (T := 42) (Cn := #[.bool q7.b, .slice q7.a q7.n q7.c]) hLi (by simp) (by simp) (by simp) (by simp) (by simp) (by simp) hLa hLx ke kge rfl (by kernel_rfl) (by rw [e7]; rfl) kcl kno hE hk hz) trivial (vnL_store kcl kno hk hz)
  ·
   have x30 : aa.tmps[30]? = some (.int .i64 11) := (hin 8 30 rfl).trans (congrArg some (show uu 8 = .int .i64 11 from (hd 8 (by decide) (by kernel_rfl)).2))
   clear hd hev hin
   simp only [List.getElem_cons_succ, List.getElem_cons_zero]
   clear hl
   refine .inr ⟨rfl, fun K' hK => ?_⟩
   have HK := Lib.hid hK
   clear hK
   go_simp
   exact HK.out (.int .i64 11) _ (hJ.grow hLi (by simp) (by simp) (Below.refl _ _)) rfl vnL_same
 clear hM
 intro LL uu W6 hLL hJm hd
 have e_0 : uu 0 = .agg #[.bool pn1.b, .slice pn1.a pn1.n pn1.c] := hd 0 (by decide)
 obtain ⟨pn3, hz_pn3, e_1, hi_pn3⟩ := (show vnP (.num (1048576)) (uu 1) W6 from hd 1 (by decide))
 have Hz_pn3 := Lib.hid hz_pn3
 clear hz_pn3
 obtain ⟨pn4, hz_pn4, e_2, hi_pn4⟩ := (show vnP (.num (X * 1048576)) (uu 2) W6 from hd 2 (by decide))
 have Hz_pn4 := Lib.hid hz_pn4
 clear hz_pn4
 have e_3 : uu 3 = .agg #[.bool pn2.b, .slice pn2.a pn2.n pn2.c] := hd 3 (by decide)
 obtain ⟨pn5, pn6, hz_pn5, e_4, hi_pn5, hi_pn6⟩ := (show vnP (.num2 (q) (.int .i64 11)) (uu 4) W6 from hd 4 (by decide))
 have Hz_pn5 := Lib.hid hz_pn5
 clear hz_pn5
 obtain ⟨pn7, pn8, hz_pn7, e_5, hi_pn7, hi_pn8⟩ := (show vnP (.num2 (q) (.int .i64 11)) (uu 5) W6 from hd 5 (by decide))
 have Hz_pn7 := Lib.hid hz_pn7
 clear hz_pn7
 obtain ⟨pn9, hz_pn9, e_6, hi_pn9⟩ := (show vnP (.num (q)) (uu 6) W6 from hd 6 (by decide))
 have Hz_pn9 := Lib.hid hz_pn9
 clear hz_pn9
 obtain ⟨pn10, e_7, hi_pn10⟩ := (show vnP (.numu) (uu 7) W6 from hd 7 (by decide))
 have e_8 : uu 8 = .int .i64 11 := hd 8 (by decide)
 obtain ⟨bk3, kC9, e_9, nge9, ksz9, kno9, nB9⟩ := hJm.bx (9, 2, 42) (by simp) (hLL 9 (by decide))
 obtain ⟨bk4, kC10, e_10, nge10, ksz10, kno10, nB10⟩ := hJm.bx (10, 2, 42) (by simp) (hLL 10 (by decide))
 have e_13 : uu 13 = .int .i64 11 := hd 13 (by decide)
 obtain ⟨_, _, kb11, ke11, kl11⟩ := hJm.st (11, 9, 6, 42) (by simp) (hLL 11 (by decide))
 have kq11 : kb11 = bk3 := by
  have hq := ke11.symm.trans e_9
  injection hq with hq
  injection hq with hq
  injection hq with hq
 subst kq11
 clear ke11
 replace kl11 : Cl W6 (kb11, #[.bool pn9.b, .slice pn9.a pn9.n pn9.c], 42) := by
  rw [show (uu (11, 9, 6, 42).2.2.1) = _ from e_6] at kl11
  exact kl11
 obtain ⟨_, _, kb12, ke12, kl12⟩ := hJm.st (12, 10, 7, 42) (by simp) (hLL 12 (by decide))
 have kq12 : kb12 = bk4 := by
  have hq := ke12.symm.trans e_10
  injection hq with hq
  injection hq with hq
  injection hq with hq
 subst kq12
 clear ke12
 replace kl12 : Cl W6 (kb12, #[.bool pn10.b, .slice pn10.a pn10.n pn10.c], 42) := by
  rw [show (uu (12, 10, 7, 42).2.2.1) = _ from e_7] at kl12
  exact kl12
 have g9 := hJm.em.join nge9 kl11
 have g10 : Es w W6 _ := Es.join g9 (Nat.le_trans hJm.em.ge nge10) (by
  intro p hp
  rcases List.mem_cons.1 hp with rfl | hp
  ·
   intro hc
   refine hJm.ne (9, 2, 42) (10, 2, 42) (by simp) (by simp) (by decide) (hLL 9 (by decide)) (hLL 10 (by decide)) ?_
   rw [e_9, e_10]
   exact congrArg (fun k => Value.pointer (some ⟨k, 0, none⟩)) hc
  have h1 := hJm.em.lt p hp
  have h2 := nge10
  omega) kl12
 clear hd hLL
 simp only [layS, Act.put, List.setIfInBounds_toArray, List.set_cons_succ, List.set_cons_zero, Nat.zero_add, Nat.reduceAdd, List.drop_succ_cons, List.drop_zero, List.drop_nil, e_0, e_1, e_2, e_3, e_4, e_5, e_6, e_7, e_8, e_9, e_10, e_13]
 have hJ6 := (((((((((⟨g10, hJm.num⟩ : En w W6 [(kb12, #[.bool pn10.b, .slice pn10.a pn10.n pn10.c], 42), (kb11, #[.bool pn9.b, .slice pn9.a pn9.n pn9.c], 42), (bk2, #[.bool pn2.b, .slice pn2.a pn2.n pn2.c], 42), (bk1, #[.bool pn1.b, .slice pn1.a pn1.n pn1.c], 42)] [pn2, pn1])).more hi_pn3).more hi_pn4).more hi_pn5).more hi_pn6).more hi_pn7).more hi_pn8).more hi_pn9).more hi_pn10
 clear hJm e_0 e_1 e_2 e_3 e_4 e_5 e_6 e_7 e_8 e_9 e_10 e_13 nge9 nB9 ksz9 kno9 g9 nge10 nB10 ksz10 kno10 g10 hi_pn3 hi_pn4 hi_pn5 hi_pn6 hi_pn7 hi_pn8 hi_pn9 hi_pn10
 go_wp2
 exact bodyPost_ret (v := .tuple #[.int .i64 0, .bool false, .int .i64 11]) (by simp [results, Tryz.results14, go_sem]) rfl ⟨rfl, hJ6.below⟩
set_option maxRecDepth 100000 in
set_option maxHeartbeats 12800000 in
theorem rfSqrt_t (a X Y q n : Int) (c : Bool) (hH2 : ∀ (W : World), Calls Tryz.prog 24 #[.int .i64 a, .int .i64 0] W (PN3 (X) (Y) (.bool true) W)) (hH1 : ∀ (W : World), Calls Tryz.prog 31 #[] W (PN (1048576) W)) (hHm : ∀ (p0 p1 : NR) (W : World), p0.z = X → p1.z = 1048576 → p0.is W → p1.is W → Calls Tryz.prog 29 #[.agg #[.bool p0.b, .slice p0.a p0.n p0.c], .agg #[.bool p1.b, .slice p1.a p1.n p1.c]] W (PN (X * 1048576) W)) (hHq : ∀ (p0 : NR) (W : World), p0.z = X * 1048576 → p0.is W → Calls Tryz.prog 35 #[.agg #[.bool p0.b, .slice p0.a p0.n p0.c]] W (PN1 (q) (.int .i64 0) W)) (hHc : ∀ (p0 : NR) (W : World), p0.z = q → p0.is W → Calls Tryz.prog 25 #[.agg #[.bool p0.b, .slice p0.a p0.n p0.c]] W (PVal (.tuple #[.int .i64 n, .bool c]) W))   (w : World) : Calls Tryz.prog 16 #[.int .i64 a] w (PVal (.tuple #[.int .i64 n, .bool true, .int .i64 0]) w) := by
 have H2 := Lib.hid hH2
 have H1 := Lib.hid hH1
 have Hm := Lib.hid hHm
 have Hq := Lib.hid hHq
 have Hc := Lib.hid hHc
 clear hH2 hH1 hHm hHq hHc
 have hJ0 := en_nil w
 go_enter Tryz.func16, Tryz.ntmps16
 go_wp2_with fail
 refine (H2.out _).mono ?_
 rintro zz W1 ⟨pn1, pn2, hz_pn1, hz_pn2, rfl, hi_pn1, hi_pn2, hB⟩
 have hJ1 := ((hJ0.later hB).more hi_pn1).more hi_pn2
 have Hz_pn1 := Lib.hid hz_pn1
 clear hz_pn1
 clear hi_pn1
 have Hz_pn2 := Lib.hid hz_pn2
 clear hz_pn2
 clear hi_pn2
 clear hB
 clear hJ0
 go_wp2_with (refine stopn_alloc 42 #[.bool false, .slice none 0 0] (.agg #[.bool false, .slice none 0 0]) rfl rfl zv42 rfl hJ1 (fun bk1 W2 hJ2 => ?_))
 clear hJ1
 unfold Stop
 try simp only [Act.put, List.setIfInBounds_toArray, List.set_cons_succ, List.set_cons_zero]
 go_wp2_with (refine stopn_alloc 42 #[.bool false, .slice none 0 0] (.agg #[.bool false, .slice none 0 0]) rfl rfl zv42 rfl hJ2 (fun bk2 W3 hJ3 => ?_))
 clear hJ2
 unfold Stop
 try simp only [Act.put, List.setIfInBounds_toArray, List.set_cons_succ, List.set_cons_zero]
 go_wp2_with (refine stopn_store 42 (.tmp 5) (.tmp 15) 1 bk1 0 #[.bool false, .slice none 0 0] 42 2 [.bool pn1.b, .slice pn1.a pn1.n pn1.c] #[.bool pn1.b, .slice pn1.a pn1.n pn1.c] [(bk2, #[.bool false, .slice none 0 0], 42), (bk1, #[.bool pn1.b, .slice pn1.a pn1.n pn1.c], 42)] (by kernel_rfl) rfl rfl rfl rfl sz42 hJ3 rfl rfl (Nat.le_of_ble_eq_true (by kernel_rfl)) (by kernel_rfl) (by kernel_rfl) (by kernel_rfl) (fun W4 hJ4 => ?_))
 clear hJ3
 unfold Stop
 try simp only [Act.put, List.setIfInBounds_toArray, List.set_cons_succ, List.set_cons_zero]
 go_wp2_with (refine stopn_store 42 (.tmp 6) (.tmp 16) 0 bk2 0 #[.bool false, .slice none 0 0] 42 2 [.bool pn2.b, .slice pn2.a pn2.n pn2.c] #[.bool pn2.b, .slice pn2.a pn2.n pn2.c] [(bk2, #[.bool pn2.b, .slice pn2.a pn2.n pn2.c], 42), (bk1, #[.bool pn1.b, .slice pn1.a pn1.n pn1.c], 42)] (by kernel_rfl) rfl rfl rfl rfl sz42 hJ4 rfl rfl (Nat.le_of_ble_eq_true (by kernel_rfl)) (by kernel_rfl) (by kernel_rfl) (by kernel_rfl) (fun W5 hJ5 => ?_))
 clear hJ4
 unfold Stop
 try simp only [Act.put, List.setIfInBounds_toArray, List.set_cons_succ, List.set_cons_zero]
 go_wp2
 obtain ⟨m2_5, hm⟩ : ∃ m, m = W5.heap.size := ⟨_, rfl⟩
 have hM : ∀ uu, Jn w m2_5 [(bk2, #[.bool pn2.b, .slice pn2.a pn2.n pn2.c], 42), (bk1, #[.bool pn1.b, .slice pn1.a pn1.n pn1.c], 42)] [pn2, pn1] [(7, 2, 42)] [(8, 7, 5, 42)] (fun _ => false) uu W5.drew := fun uu => by rw [hm]; exact Jn.start hJ5 uu
 clear hm hJ5
 refine wp_region_y 10 [some 19, some 20, some 21, some 22, some 18, some 23, some 24, some 8, none, some 9] (vnL [.eq (.agg #[.bool pn1.b, .slice pn1.a pn1.n pn1.c]), .num (1048576), .num (X * 1048576), .num1 (q) (.int .i64 0), .num1 (q) (.int .i64 0), .num (q), .eq (.int .i64 0), .any, .any, .eq (.int .i64 0)]) (Jn w m2_5 [(bk2, #[.bool pn2.b, .slice pn2.a pn2.n pn2.c], 42), (bk1, #[.bool pn1.b, .slice pn1.a pn1.n pn1.c], 42)] [pn2, pn1] [(7, 2, 42)] [(8, 7, 5, 42)]) (by kernel_rfl) (by kernel_rfl) (by rfl) (by decide) (by rfl) hM ?_ ?_
 ·
  intro i hl hi LL uu ww aa hLi hJ hd hev hin
  clear hM
  obtain rfl | rfl | rfl | rfl | rfl | rfl | rfl | rfl | rfl | rfl : i = 0 ∨ i = 1 ∨ i = 2 ∨ i = 3 ∨ i = 4 ∨ i = 5 ∨ i = 6 ∨ i = 7 ∨ i = 8 ∨ i = 9 := by omega
  ·
   have x5 : aa.tmps[5]? = some (.pointer (some ⟨bk1, 0, none⟩)) := (hev 5 (by decide)).trans rfl
   clear hd hev hin
   simp only [List.getElem_cons_succ, List.getElem_cons_zero]
   clear hl
   refine .inr ⟨rfl, fun K' hK => ?_⟩
   have HK := Lib.hid hK
   clear hK
   have f0 : ww.cell? ⟨bk1, 0, none⟩ = some (.bool pn1.b) := hJ.em.es.cell 1 rfl 0 rfl
   have f1 : ww.cell? ⟨bk1, 1, none⟩ = some (.slice pn1.a pn1.n pn1.c) := hJ.em.es.cell 1 rfl 1 rfl
   go_simp
   exact HK.out (.agg #[.bool pn1.b, .slice pn1.a pn1.n pn1.c]) _ (hJ.grow hLi (by simp) (by simp) (Below.refl _ _)) rfl vnL_same
  ·
   clear hd hev hin
   simp only [List.getElem_cons_succ, List.getElem_cons_zero]
   clear hl
   refine .inr ⟨rfl, fun K' hK => ?_⟩
   have HK := Lib.hid hK
   clear hK
   go_simp
   refine (H1.out ww).mono ?_
   rintro zz W' ⟨py0, hzy0, rfl, ipy0, hB⟩
   exact HK.out (.agg #[.bool py0.b, .slice py0.a py0.n py0.c]) _ (hJ.grow hLi (by simp) (by simp) hB) ⟨py0, hzy0, rfl, ipy0⟩ (vnL_later hB)
  ·
   have x19 : aa.tmps[19]? = some (.agg #[.bool pn1.b, .slice pn1.a pn1.n pn1.c]) := (hin 0 19 rfl).trans (congrArg some (show uu 0 = .agg #[.bool pn1.b, .slice pn1.a pn1.n pn1.c] from (hd 0 (by decide) (by kernel_rfl)).2))
   obtain ⟨q1, z1, e1, iq1⟩ := (show vnP (.num (1048576)) (uu 1) ww from (hd 1 (by decide) (by kernel_rfl)).2)
   have x20 : aa.tmps[20]? = some (.agg #[.bool q1.b, .slice q1.a q1.n q1.c]) := (hin 1 20 rfl).trans (congrArg some e1)
   clear hd hev hin
   simp only [List.getElem_cons_succ, List.getElem_cons_zero]
   clear hl
   refine .inr ⟨rfl, fun K' hK => ?_⟩
   have HK := Lib.hid hK
   clear hK
   go_simp
   refine (Hm.out pn1 q1 ww Hz_pn1.out z1 (hJ.num pn1 (by simp)) iq1).mono ?_
   rintro zz W' ⟨py0, hzy0, rfl, ipy0, hB⟩
   exact HK.out (.agg #[.bool py0.b, .slice py0.a py0.n py0.c]) _ (hJ.grow hLi (by simp) (by simp) hB) ⟨py0, hzy0, rfl, ipy0⟩ (vnL_later hB)
  ·
   obtain ⟨q2, z2, e2, iq2⟩ := (show vnP (.num (X * 1048576)) (uu 2) ww from (hd 2 (by decide) (by kernel_rfl)).2)
   have x21 : aa.tmps[21]? = some (.agg #[.bool q2.b, .slice q2.a q2.n q2.c]) := (hin 2 21 rfl).trans (congrArg some e2)
   clear hd hev hin
   simp only [List.getElem_cons_succ, List.getElem_cons_zero]
   clear hl
   refine .inr ⟨rfl, fun K' hK => ?_⟩
   have HK := Lib.hid hK
   clear hK
   go_simp
   refine (Hq.out q2 ww z2 iq2).mono ?_
   rintro zz W' ⟨py0, hzy0, rfl, ipy0, hB⟩
   exact HK.out (.tuple #[.agg #[.bool py0.b, .slice py0.a py0.n py0.c], .int .i64 0]) _ (hJ.grow hLi (by simp) (by simp) hB) ⟨py0, hzy0, rfl, ipy0⟩ (vnL_later hB)
  ·
   obtain ⟨q3, z3, e3, iq3⟩ := (show vnP (.num1 (q) (.int .i64 0)) (uu 3) ww from (hd 3 (by decide) (by kernel_rfl)).2)
   have x22 : aa.tmps[22]? = some (.tuple #[.agg #[.bool q3.b, .slice q3.a q3.n q3.c], .int .i64 0]) := (hin 3 22 rfl).trans (congrArg some e3)
   clear hd hev hin
   simp only [List.getElem_cons_succ, List.getElem_cons_zero]
   clear hl
   refine .inr ⟨rfl, fun K' hK => ?_⟩
   have HK := Lib.hid hK
   clear hK
   go_simp
   exact HK.out (.tuple #[.agg #[.bool q3.b, .slice q3.a q3.n q3.c], .int .i64 0]) _ (hJ.grow hLi (by simp) (by simp) (Below.refl _ _)) ⟨q3, z3, rfl, iq3⟩ vnL_same
  ·
   obtain ⟨q4, z4, e4, iq4⟩ := (show vnP (.num1 (q) (.int .i64 0)) (uu 4) ww from (hd 4 (by decide) (by kernel_rfl)).2)
   have x18 : aa.tmps[18]? = some (.tuple #[.agg #[.bool q4.b, .slice q4.a q4.n q4.c], .int .i64 0]) := (hin 4 18 rfl).trans (congrArg some e4)
   clear hd hev hin
   simp only [List.getElem_cons_succ, List.getElem_cons_zero]
   clear hl
   refine .inr ⟨rfl, fun K' hK => ?_⟩
   have HK := Lib.hid hK
   clear hK
   go_simp
   exact HK.out (.agg #[.bool q4.b, .slice q4.a q4.n q4.c]) _ (hJ.grow hLi (by simp) (by simp) (Below.refl _ _)) ⟨q4, z4, rfl, iq4⟩ vnL_same
  ·
   obtain ⟨q4, z4, e4, iq4⟩ := (show vnP (.num1 (q) (.int .i64 0)) (uu 4) ww from (hd 4 (by decide) (by kernel_rfl)).2)
   have x18 : aa.tmps[18]? = some (.tuple #[.agg #[.bool q4.b, .slice q4.a q4.n q4.c], .int .i64 0]) := (hin 4 18 rfl).trans (congrArg some e4)
   clear hd hev hin
   simp only [List.getElem_cons_succ, List.getElem_cons_zero]
   clear hl
   refine .inr ⟨rfl, fun K' hK => ?_⟩
   have HK := Lib.hid hK
   clear hK
   go_simp
   exact HK.out (.int .i64 0) _ (hJ.grow hLi (by simp) (by simp) (Below.refl _ _)) rfl vnL_same
  ·
   clear hd hev hin
   simp only [List.getElem_cons_succ, List.getElem_cons_zero]
   clear hl
   refine .inr ⟨rfl, fun K' hK => ?_⟩
   have HK := Lib.hid hK
   clear hK
   refine wp_alloc 42 rfl (.agg #[.bool false, .slice none 0 0]) zv42 ?_
   exact HK.out _ _ (hJ.alloc hLi (n := 2) rfl (by kernel_rfl) (by simp) (by simp)) trivial (vnL_later ((Below.refl _ _).alloc (Nat.le_refl _) _))
  ·
   have hLa := (hd 7 (by decide) (by kernel_rfl)).1
   obtain ⟨kb, kC, ke, kge, ksz, kno, kcl⟩ := hJ.bx (7, 2, 42) (by simp) hLa
   have x8 : aa.tmps[8]? = some (.pointer (some ⟨kb, 0, none⟩)) := (hin 7 8 rfl).trans (congrArg some ke)
   obtain ⟨q5, z5, e5, iq5⟩ := (show vnP (.num (q)) (uu 5) ww from (hd 5 (by decide) (by kernel_rfl)).2)
   have x23 : aa.tmps[23]? = some (.agg #[.bool q5.b, .slice q5.a q5.n q5.c]) := (hin 5 23 rfl).trans (congrArg some e5)
   have hLx := (hd 5 (by decide) (by kernel_rfl)).1
   clear hd hev hin
   simp only [List.getElem_cons_succ, List.getElem_cons_zero]
   clear hl
   refine .inr ⟨rfl, fun K' hK => ?_⟩
   have HK := Lib.hid hK
   clear hK
   refine wp_store 42 (.tmp 8) (.tmp 23) rfl 0 kb 0 kC 42 2 [.bool q5.b, .slice q5.a q5.n q5.c] (hJ.em.join kge kcl) rfl (eval_tmp x8) (by rw [eval_tmp x23]; rfl) sz42 rfl (by rw [ksz]; decide) (by kernel_rfl) (fun ww2 hE hk hz => ?_)
   rw [putC_full (show kC.size = ([.bool q5.b, .slice q5.a q5.n q5.c] : List Value).length from ksz)] at hE
   exact HK.out undef _ (hJ.store (a := 7) (x := 5) (n := 2) (T := 42) (Cn := #[.bool q5.b, .slice q5.a q5.n q5.c]) hLi (by simp) (by simp) (by simp) (by simp) (by simp) (by simp) hLa hLx ke kge rfl (by kernel_rfl) (by rw [e5]; rfl) kcl kno hE hk hz) trivial (vnL_store kcl kno hk hz)
  ·
   have x24 : aa.tmps[24]? = some (.int .i64 0) := (hin 6 24 rfl).trans (congrArg some (show uu 6 = .int .i64 0 from (hd 6 (by decide) (by kernel_rfl)).2))
   clear hd hev hin
   simp only [List.getElem_cons_succ, List.getElem_cons_zero]
   clear hl
   refine .inr ⟨rfl, fun K' hK => ?_⟩
   have HK := Lib.hid hK
   clear hK
   go_simp
   exact HK.out (.int .i64 0) _ (hJ.grow hLi (by simp) (by simp) (Below.refl _ _)) rfl vnL_same
 clear hM
 intro LL uu W6 hLL hJm hd
 have e_0 : uu 0 = .agg #[.bool pn1.b, .slice pn1.a pn1.n pn1.c] := hd 0 (by decide)
 obtain ⟨pn3, hz_pn3, e_1, hi_pn3⟩ := (show vnP (.num (1048576)) (uu 1) W6 from hd 1 (by decide))
 have Hz_pn3 := Lib.hid hz_pn3
 clear hz_pn3
 obtain ⟨pn4, hz_pn4, e_2, hi_pn4⟩ := (show vnP (.num (X * 1048576)) (uu 2) W6 from hd 2 (by decide))
 have Hz_pn4 := Lib.hid hz_pn4
 clear hz_pn4
 obtain ⟨pn5, hz_pn5, e_3, hi_pn5⟩ := (show vnP (.num1 (q) (.int .i64 0)) (uu 3) W6 from hd 3 (by decide))
 have Hz_pn5 := Lib.hid hz_pn5
 clear hz_pn5
 obtain ⟨pn6, hz_pn6, e_4, hi_pn6⟩ := (show vnP (.num1 (q) (.int .i64 0)) (uu 4) W6 from hd 4 (by decide))
 have Hz_pn6 := Lib.hid hz_pn6
 clear hz_pn6
 obtain ⟨pn7, hz_pn7, e_5, hi_pn7⟩ := (show vnP (.num (q)) (uu 5) W6 from hd 5 (by decide))
 have Hz_pn7 := Lib.hid hz_pn7
 clear hz_pn7
 have e_6 : uu 6 = .int .i64 0 := hd 6 (by decide)
 obtain ⟨bk3, kC7, e_7, nge7, ksz7, kno7, nB7⟩ := hJm.bx (7, 2, 42) (by simp) (hLL 7 (by decide))
 have e_9 : uu 9 = .int .i64 0 := hd 9 (by decide)
 obtain ⟨_, _, kb8, ke8, kl8⟩ := hJm.st (8, 7, 5, 42) (by simp) (hLL 8 (by decide))
 have kq8 : kb8 = bk3 := by
  have hq := ke8.symm.trans e_7
  injection hq with hq
  injection hq with hq
  injection hq with hq
 subst kq8
 clear ke8
 replace kl8 : Cl W6 (kb8, #[.bool pn7.b, .slice pn7.a pn7.n pn7.c], 42) := by
  rw [show (uu (8, 7, 5, 42).2.2.1) = _ from e_5] at kl8
  exact kl8
 have g7 := hJm.em.join nge7 kl8
 clear hd hLL
 simp only [layS, Act.put, List.setIfInBounds_toArray, List.set_cons_succ, List.set_cons_zero, Nat.zero_add, Nat.reduceAdd, List.drop_succ_cons, List.drop_zero, List.drop_nil, e_0, e_1, e_2, e_3, e_4, e_5, e_6, e_7, e_9]
 have hJ6 := ((((((⟨g7, hJm.num⟩ : En w W6 [(kb8, #[.bool pn7.b, .slice pn7.a pn7.n pn7.c], 42), (bk2, #[.bool pn2.b, .slice pn2.a pn2.n pn2.c], 42), (bk1, #[.bool pn1.b, .slice pn1.a pn1.n pn1.c], 42)] [pn2, pn1])).more hi_pn3).more hi_pn4).more hi_pn5).more hi_pn6).more hi_pn7
 clear hJm e_0 e_1 e_2 e_3 e_4 e_5 e_6 e_7 e_9 nge7 nB7 ksz7 kno7 g7 hi_pn3 hi_pn4 hi_pn5 hi_pn6 hi_pn7
 have f0 : W6.cell? ⟨kb8, 0, none⟩ = some (.bool pn7.b) := hJ6.cell 0 rfl 0 rfl
 have f1 : W6.cell? ⟨kb8, 1, none⟩ = some (.slice pn7.a pn7.n pn7.c) := hJ6.cell 0 rfl 1 rfl
 go_wp2_with fail
 refine (Hc.out pn7 _ Hz_pn7.out (hJ6.num pn7 (by simp))).mono ?_
 rintro zz W7 ⟨rfl, hB⟩
 have hJ7 := hJ6.later hB
 clear hB
 clear f0 f1
 clear hJ6
 go_wp2
 exact bodyPost_ret (v := .tuple #[.int .i64 n, .bool true, .int .i64 0]) (by simp [results, Tryz.results16, go_sem]) rfl ⟨rfl, hJ7.below⟩
set_option maxRecDepth 100000 in
set_option maxHeartbeats 12800000 in
theorem rfSqrt_f (a X Y q n : Int) (c : Bool) (hH2 : ∀ (W : World), Calls Tryz.prog 24 #[.int .i64 a, .int .i64 0] W (PN3 (X) (Y) (.bool false) W)) (hH1 : ∀ (W : World), Calls Tryz.prog 31 #[] W (PN (1048576) W)) (hHm : ∀ (p0 p1 : NR) (W : World), p0.z = X → p1.z = 1048576 → p0.is W → p1.is W → Calls Tryz.prog 29 #[.agg #[.bool p0.b, .slice p0.a p0.n p0.c], .agg #[.bool p1.b, .slice p1.a p1.n p1.c]] W (PN (X * 1048576) W)) (hHq : ∀ (p0 : NR) (W : World), p0.z = X * 1048576 → p0.is W → Calls Tryz.prog 35 #[.agg #[.bool p0.b, .slice p0.a p0.n p0.c]] W (PN1 (q) (.int .i64 0) W)) (hHc : ∀ (p0 : NR) (W : World), p0.z = q → p0.is W → Calls Tryz.prog 25 #[.agg #[.bool p0.b, .slice p0.a p0.n p0.c]] W (PVal (.tuple #[.int .i64 n, .bool c]) W))   (w : World) : Calls Tryz.prog 16 #[.int .i64 a] w (PVal (.tuple #[.int .i64 n, .bool c, .int .i64 0]) w) := by
 have H2 := Lib.hid hH2
 have H1 := Lib.hid hH1
 have Hm := Lib.hid hHm
 have Hq := Lib.hid hHq
 have Hc := Lib.hid hHc
 clear hH2 hH1 hHm hHq hHc
 have hJ0 := en_nil w
 go_enter Tryz.func16, Tryz.ntmps16
 go_wp2_with fail
 refine (H2.out _).mono ?_
 rintro zz W1 ⟨pn1, pn2, hz_pn1, hz_pn2, rfl, hi_pn1, hi_pn2, hB⟩
 have hJ1 := ((hJ0.later hB).more hi_pn1).more hi_pn2
 have Hz_pn1 := Lib.hid hz_pn1
 clear hz_pn1
 clear hi_pn1
 have Hz_pn2 := Lib.hid hz_pn2
 clear hz_pn2
 clear hi_pn2
 clear hB
 clear hJ0
 go_wp2_with (refine stopn_alloc 42 #[.bool false, .slice none 0 0] (.agg #[.bool false, .slice none 0 0]) rfl rfl zv42 rfl hJ1 (fun bk1 W2 hJ2 => ?_))
 clear hJ1
 unfold Stop
 try simp only [Act.put, List.setIfInBounds_toArray, List.set_cons_succ, List.set_cons_zero]
 go_wp2_with (refine stopn_alloc 42 #[.bool false, .slice none 0 0] (.agg #[.bool false, .slice none 0 0]) rfl rfl zv42 rfl hJ2 (fun bk2 W3 hJ3 => ?_))
 clear hJ2
 unfold Stop
 try simp only [Act.put, List.setIfInBounds_toArray, List.set_cons_succ, List.set_cons_zero]
 go_wp2_with (refine stopn_store 42 (.tmp 5) (.tmp 15) 1 bk1 0 #[.bool false, .slice none 0 0] 42 2 [.bool pn1.b, .slice pn1.a pn1.n pn1.c] #[.bool pn1.b, .slice pn1.a pn1.n pn1.c] [(bk2, #[.bool false, .slice none 0 0], 42), (bk1, #[.bool pn1.b, .slice pn1.a pn1.n pn1.c], 42)] (by kernel_rfl) rfl rfl rfl rfl sz42 hJ3 rfl rfl (Nat.le_of_ble_eq_true (by kernel_rfl)) (by kernel_rfl) (by kernel_rfl) (by kernel_rfl) (fun W4 hJ4 => ?_))
 clear hJ3
 unfold Stop
 try simp only [Act.put, List.setIfInBounds_toArray, List.set_cons_succ, List.set_cons_zero]
 go_wp2_with (refine stopn_store 42 (.tmp 6) (.tmp 16) 0 bk2 0 #[.bool false, .slice none 0 0] 42 2 [.bool pn2.b, .slice pn2.a pn2.n pn2.c] #[.bool pn2.b, .slice pn2.a pn2.n pn2.c] [(bk2, #[.bool pn2.b, .slice pn2.a pn2.n pn2.c], 42), (bk1, #[.bool pn1.b, .slice pn1.a pn1.n pn1.c], 42)] (by kernel_rfl) rfl rfl rfl rfl sz42 hJ4 rfl rfl (Nat.le_of_ble_eq_true (by kernel_rfl)) (by kernel_rfl) (by kernel_rfl) (by kernel_rfl) (fun W5 hJ5 => ?_))
 clear hJ4
 unfold Stop
 try simp only [Act.put, List.setIfInBounds_toArray, List.set_cons_succ, List.set_cons_zero]
 go_wp2
 obtain ⟨m2_5, hm⟩ : ∃ m, m = W5.heap.size := ⟨_, rfl⟩
 have hM : ∀ uu, Jn w m2_5 [(bk2, #[.bool pn2.b, .slice pn2.a pn2.n pn2.c], 42), (bk1, #[.bool pn1.b, .slice pn1.a pn1.n pn1.c], 42)] [pn2, pn1] [(7, 2, 42)] [(8, 7, 5, 42)] (fun _ => false) uu W5.drew := fun uu => by rw [hm]; exact Jn.start hJ5 uu
 clear hm hJ5
 refine wp_region_y 10 [some 19, some 20, some 21, some 22, some 18, some 23, some 24, some 8, none, some 9] (vnL [.eq (.agg #[.bool pn1.b, .slice pn1.a pn1.n pn1.c]), .num (1048576), .num (X * 1048576), .num1 (q) (.int .i64 0), .num1 (q) (.int .i64 0), .num (q), .eq (.int .i64 0), .any, .any, .eq (.int .i64 0)]) (Jn w m2_5 [(bk2, #[.bool pn2.b, .slice pn2.a pn2.n pn2.c], 42), (bk1, #[.bool pn1.b, .slice pn1.a pn1.n pn1.c], 42)] [pn2, pn1] [(7, 2, 42)] [(8, 7, 5, 42)]) (by kernel_rfl) (by kernel_rfl) (by rfl) (by decide) (by rfl) hM ?_ ?_
 ·
  intro i hl hi LL uu ww aa hLi hJ hd hev hin
  clear hM
  obtain rfl | rfl | rfl | rfl | rfl | rfl | rfl | rfl | rfl | rfl : i = 0 ∨ i = 1 ∨ i = 2 ∨ i = 3 ∨ i = 4 ∨ i = 5 ∨ i = 6 ∨ i = 7 ∨ i = 8 ∨ i = 9 := by omega
  ·
   have x5 : aa.tmps[5]? = some (.pointer (some ⟨bk1, 0, none⟩)) := (hev 5 (by decide)).trans rfl
   clear hd hev hin
   simp only [List.getElem_cons_succ, List.getElem_cons_zero]
   clear hl
   refine .inr ⟨rfl, fun K' hK => ?_⟩
   have HK := Lib.hid hK
   clear hK
   have f0 : ww.cell? ⟨bk1, 0, none⟩ = some (.bool pn1.b) := hJ.em.es.cell 1 rfl 0 rfl
   have f1 : ww.cell? ⟨bk1, 1, none⟩ = some (.slice pn1.a pn1.n pn1.c) := hJ.em.es.cell 1 rfl 1 rfl
   go_simp
   exact HK.out (.agg #[.bool pn1.b, .slice pn1.a pn1.n pn1.c]) _ (hJ.grow hLi (by simp) (by simp) (Below.refl _ _)) rfl vnL_same
  ·
   clear hd hev hin
   simp only [List.getElem_cons_succ, List.getElem_cons_zero]
   clear hl
   refine .inr ⟨rfl, fun K' hK => ?_⟩
   have HK := Lib.hid hK
   clear hK
   go_simp
   refine (H1.out ww).mono ?_
   rintro zz W' ⟨py0, hzy0, rfl, ipy0, hB⟩
   exact HK.out (.agg #[.bool py0.b, .slice py0.a py0.n py0.c]) _ (hJ.grow hLi (by simp) (by simp) hB) ⟨py0, hzy0, rfl, ipy0⟩ (vnL_later hB)
  ·
   have x19 : aa.tmps[19]? = some (.agg #[.bool pn1.b, .slice pn1.a pn1.n pn1.c]) := (hin 0 19 rfl).trans (congrArg some (show uu 0 = .agg #[.bool pn1.b, .slice pn1.a pn1.n pn1.c] from (hd 0 (by decide) (by kernel_rfl)).2))
   obtain ⟨q1, z1, e1, iq1⟩ := (show vnP (.num (1048576)) (uu 1) ww from (hd 1 (by decide) (by kernel_rfl)).2)
   have x20 : aa.tmps[20]? = some (.agg #[.bool q1.b, .slice q1.a q1.n q1.c]) := (hin 1 20 rfl).trans (congrArg some e1)
   clear hd hev hin
   simp only [List.getElem_cons_succ, List.getElem_cons_zero]
   clear hl
   refine .inr ⟨rfl, fun K' hK => ?_⟩
   have HK := Lib.hid hK
   clear hK
   go_simp
   refine (Hm.out pn1 q1 ww Hz_pn1.out z1 (hJ.num pn1 (by simp)) iq1).mono ?_
   rintro zz W' ⟨py0, hzy0, rfl, ipy0, hB⟩
   exact HK.out (.agg #[.bool py0.b, .slice py0.a py0.n py0.c]) _ (hJ.grow hLi (by simp) (by simp) hB) ⟨py0, hzy0, rfl, ipy0⟩ (vnL_later hB)
  ·
   obtain ⟨q2, z2, e2, iq2⟩ := (show vnP (.num (X * 1048576)) (uu 2) ww from (hd 2 (by decide) (by kernel_rfl)).2)
   have x21 : aa.tmps[21]? = some (.agg #[.bool q2.b, .slice q2.a q2.n q2.c]) := (hin 2 21 rfl).trans (congrArg some e2)
   clear hd hev hin
   simp only [List.getElem_cons_succ, List.getElem_cons_zero]
   clear hl
   refine .inr ⟨rfl, fun K' hK => ?_⟩
   have HK := Lib.hid hK
   clear hK
   go_simp
   refine (Hq.out q2 ww z2 iq2).mono ?_
   rintro zz W' ⟨py0, hzy0, rfl, ipy0, hB⟩
   exact HK.out (.tuple #[.agg #[.bool py0.b, .slice py0.a py0.n py0.c], .int .i64 0]) _ (hJ.grow hLi (by simp) (by simp) hB) ⟨py0, hzy0, rfl, ipy0⟩ (vnL_later hB)
  ·
   obtain ⟨q3, z3, e3, iq3⟩ := (show vnP (.num1 (q) (.int .i64 0)) (uu 3) ww from (hd 3 (by decide) (by kernel_rfl)).2)
   have x22 : aa.tmps[22]? = some (.tuple #[.agg #[.bool q3.b, .slice q3.a q3.n q3.c], .int .i64 0]) := (hin 3 22 rfl).trans (congrArg some e3)
   clear hd hev hin
   simp only [List.getElem_cons_succ, List.getElem_cons_zero]
   clear hl
   refine .inr ⟨rfl, fun K' hK => ?_⟩
   have HK := Lib.hid hK
   clear hK
   go_simp
   exact HK.out (.tuple #[.agg #[.bool q3.b, .slice q3.a q3.n q3.c], .int .i64 0]) _ (hJ.grow hLi (by simp) (by simp) (Below.refl _ _)) ⟨q3, z3, rfl, iq3⟩ vnL_same
  ·
   obtain ⟨q4, z4, e4, iq4⟩ := (show vnP (.num1 (q) (.int .i64 0)) (uu 4) ww from (hd 4 (by decide) (by kernel_rfl)).2)
   have x18 : aa.tmps[18]? = some (.tuple #[.agg #[.bool q4.b, .slice q4.a q4.n q4.c], .int .i64 0]) := (hin 4 18 rfl).trans (congrArg some e4)
   clear hd hev hin
   simp only [List.getElem_cons_succ, List.getElem_cons_zero]
   clear hl
   refine .inr ⟨rfl, fun K' hK => ?_⟩
   have HK := Lib.hid hK
   clear hK
   go_simp
   exact HK.out (.agg #[.bool q4.b, .slice q4.a q4.n q4.c]) _ (hJ.grow hLi (by simp) (by simp) (Below.refl _ _)) ⟨q4, z4, rfl, iq4⟩ vnL_same
  ·
   obtain ⟨q4, z4, e4, iq4⟩ := (show vnP (.num1 (q) (.int .i64 0)) (uu 4) ww from (hd 4 (by decide) (by kernel_rfl)).2)
   have x18 : aa.tmps[18]? = some (.tuple #[.agg #[.bool q4.b, .slice q4.a q4.n q4.c], .int .i64 0]) := (hin 4 18 rfl).trans (congrArg some e4)
   clear hd hev hin
   simp only [List.getElem_cons_succ, List.getElem_cons_zero]
   clear hl
   refine .inr ⟨rfl, fun K' hK => ?_⟩
   have HK := Lib.hid hK
   clear hK
   go_simp
   exact HK.out (.int .i64 0) _ (hJ.grow hLi (by simp) (by simp) (Below.refl _ _)) rfl vnL_same
  ·
   clear hd hev hin
   simp only [List.getElem_cons_succ, List.getElem_cons_zero]
   clear hl
   refine .inr ⟨rfl, fun K' hK => ?_⟩
   have HK := Lib.hid hK
   clear hK
   refine wp_alloc 42 rfl (.agg #[.bool false, .slice none 0 0]) zv42 ?_
   exact HK.out _ _ (hJ.alloc hLi (n := 2) rfl (by kernel_rfl) (by simp) (by simp)) trivial (vnL_later ((Below.refl _ _).alloc (Nat.le_refl _) _))
  ·
   have hLa := (hd 7 (by decide) (by kernel_rfl)).1
   obtain ⟨kb, kC, ke, kge, ksz, kno, kcl⟩ := hJ.bx (7, 2, 42) (by simp) hLa
   have x8 : aa.tmps[8]? = some (.pointer (some ⟨kb, 0, none⟩)) := (hin 7 8 rfl).trans (congrArg some ke)
   obtain ⟨q5, z5, e5, iq5⟩ := (show vnP (.num (q)) (uu 5) ww from (hd 5 (by decide) (by kernel_rfl)).2)
   have x23 : aa.tmps[23]? = some (.agg #[.bool q5.b, .slice q5.a q5.n q5.c]) := (hin 5 23 rfl).trans (congrArg some e5)
   have hLx := (hd 5 (by decide) (by kernel_rfl)).1
   clear hd hev hin
   simp only [List.getElem_cons_succ, List.getElem_cons_zero]
   clear hl
   refine .inr ⟨rfl, fun K' hK => ?_⟩
   have HK := Lib.hid hK
   clear hK
   refine wp_store 42 (.tmp 8) (.tmp 23) rfl 0 kb 0 kC 42 2 [.bool q5.b, .slice q5.a q5.n q5.c] (hJ.em.join kge kcl) rfl (eval_tmp x8) (by rw [eval_tmp x23]; rfl) sz42 rfl (by rw [ksz]; decide) (by kernel_rfl) (fun ww2 hE hk hz => ?_)
   rw [putC_full (show kC.size = ([.bool q5.b, .slice q5.a q5.n q5.c] : List Value).length from ksz)] at hE
   exact HK.out undef _ (hJ.store (a := 7) (x := 5) (n := 2) (T := 42) (Cn := #[.bool q5.b, .slice q5.a q5.n q5.c]) hLi (by simp) (by simp) (by simp) (by simp) (by simp) (by simp) hLa hLx ke kge rfl (by kernel_rfl) (by rw [e5]; rfl) kcl kno hE hk hz) trivial (vnL_store kcl kno hk hz)
  ·
   have x24 : aa.tmps[24]? = some (.int .i64 0) := (hin 6 24 rfl).trans (congrArg some (show uu 6 = .int .i64 0 from (hd 6 (by decide) (by kernel_rfl)).2))
   clear hd hev hin
   simp only [List.getElem_cons_succ, List.getElem_cons_zero]
   clear hl
   refine .inr ⟨rfl, fun K' hK => ?_⟩
   have HK := Lib.hid hK
   clear hK
   go_simp
   exact HK.out (.int .i64 0) _ (hJ.grow hLi (by simp) (by simp) (Below.refl _ _)) rfl vnL_same
 clear hM
 intro LL uu W6 hLL hJm hd
 have e_0 : uu 0 = .agg #[.bool pn1.b, .slice pn1.a pn1.n pn1.c] := hd 0 (by decide)
 obtain ⟨pn3, hz_pn3, e_1, hi_pn3⟩ := (show vnP (.num (1048576)) (uu 1) W6 from hd 1 (by decide))
 have Hz_pn3 := Lib.hid hz_pn3
 clear hz_pn3
 obtain ⟨pn4, hz_pn4, e_2, hi_pn4⟩ := (show vnP (.num (X * 1048576)) (uu 2) W6 from hd 2 (by decide))
 have Hz_pn4 := Lib.hid hz_pn4
 clear hz_pn4
 obtain ⟨pn5, hz_pn5, e_3, hi_pn5⟩ := (show vnP (.num1 (q) (.int .i64 0)) (uu 3) W6 from hd 3 (by decide))
 have Hz_pn5 := Lib.hid hz_pn5
 clear hz_pn5
 obtain ⟨pn6, hz_pn6, e_4, hi_pn6⟩ := (show vnP (.num1 (q) (.int .i64 0)) (uu 4) W6 from hd 4 (by decide))
 have Hz_pn6 := Lib.hid hz_pn6
 clear hz_pn6
 obtain ⟨pn7, hz_pn7, e_5, hi_pn7⟩ := (show vnP (.num (q)) (uu 5) W6 from hd 5 (by decide))
 have Hz_pn7 := Lib.hid hz_pn7
 clear hz_pn7
 have e_6 : uu 6 = .int .i64 0 := hd 6 (by decide)
 obtain ⟨bk3, kC7, e_7, nge7, ksz7, kno7, nB7⟩ := hJm.bx (7, 2, 42) (by simp) (hLL 7 (by decide))
 have e_9 : uu 9 = .int .i64 0 := hd 9 (by decide)
 obtain ⟨_, _, kb8, ke8, kl8⟩ := hJm.st (8, 7, 5, 42) (by simp) (hLL 8 (by decide))
 have kq8 : kb8 = bk3 := by
  have hq := ke8.symm.trans e_7
  injection hq with hq
  injection hq with hq
  injection hq with hq
 subst kq8
 clear ke8
 replace kl8 : Cl W6 (kb8, #[.bool pn7.b, .slice pn7.a pn7.n pn7.c], 42) := by
  rw [show (uu (8, 7, 5, 42).2.2.1) = _ from e_5] at kl8
  exact kl8
 have g7 := hJm.em.join nge7 kl8
 clear hd hLL
 simp only [layS, Act.put, List.setIfInBounds_toArray, List.set_cons_succ, List.set_cons_zero, Nat.zero_add, Nat.reduceAdd, List.drop_succ_cons, List.drop_zero, List.drop_nil, e_0, e_1, e_2, e_3, e_4, e_5, e_6, e_7, e_9]
 have hJ6 := ((((((⟨g7, hJm.num⟩ : En w W6 [(kb8, #[.bool pn7.b, .slice pn7.a pn7.n pn7.c], 42), (bk2, #[.bool pn2.b, .slice pn2.a pn2.n pn2.c], 42), (bk1, #[.bool pn1.b, .slice pn1.a pn1.n pn1.c], 42)] [pn2, pn1])).more hi_pn3).more hi_pn4).more hi_pn5).more hi_pn6).more hi_pn7
 clear hJm e_0 e_1 e_2 e_3 e_4 e_5 e_6 e_7 e_9 nge7 nB7 ksz7 kno7 g7 hi_pn3 hi_pn4 hi_pn5 hi_pn6 hi_pn7
 have f0 : W6.cell? ⟨kb8, 0, none⟩ = some (.bool pn7.b) := hJ6.cell 0 rfl 0 rfl
 have f1 : W6.cell? ⟨kb8, 1, none⟩ = some (.slice pn7.a pn7.n pn7.c) := hJ6.cell 0 rfl 1 rfl
 go_wp2_with fail
 refine (Hc.out pn7 _ Hz_pn7.out (hJ6.num pn7 (by simp))).mono ?_
 rintro zz W7 ⟨rfl, hB⟩
 have hJ7 := hJ6.later hB
 clear hB
 clear f0 f1
 clear hJ6
 go_wp2
 exact bodyPost_ret (v := .tuple #[.int .i64 n, .bool c, .int .i64 0]) (by simp [results, Tryz.results16, go_sem]) rfl ⟨rfl, hJ7.below⟩
set_option maxRecDepth 100000 in
set_option maxHeartbeats 12800000 in
theorem rfSqrt_z (a X Y q : Int) (p : Bool) (hH2 : ∀ (W : World), Calls Tryz.prog 24 #[.int .i64 a, .int .i64 0] W (PN3 (X) (Y) (.bool p) W)) (hH1 : ∀ (W : World), Calls Tryz.prog 31 #[] W (PN (1048576) W)) (hHm : ∀ (p0 p1 : NR) (W : World), p0.z = X → p1.z = 1048576 → p0.is W → p1.is W → Calls Tryz.prog 29 #[.agg #[.bool p0.b, .slice p0.a p0.n p0.c], .agg #[.bool p1.b, .slice p1.a p1.n p1.c]] W (PN (X * 1048576) W)) (hHq : ∀ (p0 : NR) (W : World), p0.z = X * 1048576 → p0.is W → Calls Tryz.prog 35 #[.agg #[.bool p0.b, .slice p0.a p0.n p0.c]] W (PN1 (q) (.int .i64 12) W))   (w : World) : Calls Tryz.prog 16 #[.int .i64 a] w (PVal (.tuple #[.int .i64 0, .bool false, .int .i64 12]) w) := by
 have H2 := Lib.hid hH2
 have H1 := Lib.hid hH1
 have Hm := Lib.hid hHm
 have Hq := Lib.hid hHq
 clear hH2 hH1 hHm hHq
 have hJ0 := en_nil w
 go_enter Tryz.func16, Tryz.ntmps16
 go_wp2_with fail
 refine (H2.out _).mono ?_
 rintro zz W1 ⟨pn1, pn2, hz_pn1, hz_pn2, rfl, hi_pn1, hi_pn2, hB⟩
 have hJ1 := ((hJ0.later hB).more hi_pn1).more hi_pn2
 have Hz_pn1 := Lib.hid hz_pn1
 clear hz_pn1
 clear hi_pn1
 have Hz_pn2 := Lib.hid hz_pn2
 clear hz_pn2
 clear hi_pn2
 clear hB
 clear hJ0
 go_wp2_with (refine stopn_alloc 42 #[.bool false, .slice none 0 0] (.agg #[.bool false, .slice none 0 0]) rfl rfl zv42 rfl hJ1 (fun bk1 W2 hJ2 => ?_))
 clear hJ1
 unfold Stop
 try simp only [Act.put, List.setIfInBounds_toArray, List.set_cons_succ, List.set_cons_zero]
 go_wp2_with (refine stopn_alloc 42 #[.bool false, .slice none 0 0] (.agg #[.bool false, .slice none 0 0]) rfl rfl zv42 rfl hJ2 (fun bk2 W3 hJ3 => ?_))
 clear hJ2
 unfold Stop
 try simp only [Act.put, List.setIfInBounds_toArray, List.set_cons_succ, List.set_cons_zero]
 go_wp2_with (refine stopn_store 42 (.tmp 5) (.tmp 15) 1 bk1 0 #[.bool false, .slice none 0 0] 42 2 [.bool pn1.b, .slice pn1.a pn1.n pn1.c] #[.bool pn1.b, .slice pn1.a pn1.n pn1.c] [(bk2, #[.bool false, .slice none 0 0], 42), (bk1, #[.bool pn1.b, .slice pn1.a pn1.n pn1.c], 42)] (by kernel_rfl) rfl rfl rfl rfl sz42 hJ3 rfl rfl (Nat.le_of_ble_eq_true (by kernel_rfl)) (by kernel_rfl) (by kernel_rfl) (by kernel_rfl) (fun W4 hJ4 => ?_))
 clear hJ3
 unfold Stop
 try simp only [Act.put, List.setIfInBounds_toArray, List.set_cons_succ, List.set_cons_zero]
 go_wp2_with (refine stopn_store 42 (.tmp 6) (.tmp 16) 0 bk2 0 #[.bool false, .slice none 0 0] 42 2 [.bool pn2.b, .slice pn2.a pn2.n pn2.c] #[.bool pn2.b, .slice pn2.a pn2.n pn2.c] [(bk2, #[.bool pn2.b, .slice pn2.a pn2.n pn2.c], 42), (bk1, #[.bool pn1.b, .slice pn1.a pn1.n pn1.c], 42)] (by kernel_rfl) rfl rfl rfl rfl sz42 hJ4 rfl rfl (Nat.le_of_ble_eq_true (by kernel_rfl)) (by kernel_rfl) (by kernel_rfl) (by kernel_rfl) (fun W5 hJ5 => ?_))
 clear hJ4
 unfold Stop
 try simp only [Act.put, List.setIfInBounds_toArray, List.set_cons_succ, List.set_cons_zero]
 go_wp2
 obtain ⟨m2_5, hm⟩ : ∃ m, m = W5.heap.size := ⟨_, rfl⟩
 have hM : ∀ uu, Jn w m2_5 [(bk2, #[.bool pn2.b, .slice pn2.a pn2.n pn2.c], 42), (bk1, #[.bool pn1.b, .slice pn1.a pn1.n pn1.c], 42)] [pn2, pn1] [(7, 2, 42)] [(8, 7, 5, 42)] (fun _ => false) uu W5.drew := fun uu => by rw [hm]; exact Jn.start hJ5 uu
 clear hm hJ5
 refine wp_region_y 10 [some 19, some 20, some 21, some 22, some 18, some 23, some 24, some 8, none, some 9] (vnL [.eq (.agg #[.bool pn1.b, .slice pn1.a pn1.n pn1.c]), .num (1048576), .num (X * 1048576), .num1 (q) (.int .i64 12), .num1 (q) (.int .i64 12), .num (q), .eq (.int .i64 12), .any, .any, .eq (.int .i64 12)]) (Jn w m2_5 [(bk2, #[.bool pn2.b, .slice pn2.a pn2.n pn2.c], 42), (bk1, #[.bool pn1.b, .slice pn1.a pn1.n pn1.c], 42)] [pn2, pn1] [(7, 2, 42)] [(8, 7, 5, 42)]) (by kernel_rfl) (by kernel_rfl) (by rfl) (by decide) (by rfl) hM ?_ ?_
 ·
  intro i hl hi LL uu ww aa hLi hJ hd hev hin
  clear hM
  obtain rfl | rfl | rfl | rfl | rfl | rfl | rfl | rfl | rfl | rfl : i = 0 ∨ i = 1 ∨ i = 2 ∨ i = 3 ∨ i = 4 ∨ i = 5 ∨ i = 6 ∨ i = 7 ∨ i = 8 ∨ i = 9 := by omega
  ·
   have x5 : aa.tmps[5]? = some (.pointer (some ⟨bk1, 0, none⟩)) := (hev 5 (by decide)).trans rfl
   clear hd hev hin
   simp only [List.getElem_cons_succ, List.getElem_cons_zero]
   clear hl
   refine .inr ⟨rfl, fun K' hK => ?_⟩
   have HK := Lib.hid hK
   clear hK
   have f0 : ww.cell? ⟨bk1, 0, none⟩ = some (.bool pn1.b) := hJ.em.es.cell 1 rfl 0 rfl
   have f1 : ww.cell? ⟨bk1, 1, none⟩ = some (.slice pn1.a pn1.n pn1.c) := hJ.em.es.cell 1 rfl 1 rfl
   go_simp
   exact HK.out (.agg #[.bool pn1.b, .slice pn1.a pn1.n pn1.c]) _ (hJ.grow hLi (by simp) (by simp) (Below.refl _ _)) rfl vnL_same
  ·
   clear hd hev hin
   simp only [List.getElem_cons_succ, List.getElem_cons_zero]
   clear hl
   refine .inr ⟨rfl, fun K' hK => ?_⟩
   have HK := Lib.hid hK
   clear hK
   go_simp
   refine (H1.out ww).mono ?_
   rintro zz W' ⟨py0, hzy0, rfl, ipy0, hB⟩
   exact HK.out (.agg #[.bool py0.b, .slice py0.a py0.n py0.c]) _ (hJ.grow hLi (by simp) (by simp) hB) ⟨py0, hzy0, rfl, ipy0⟩ (vnL_later hB)
  ·
   have x19 : aa.tmps[19]? = some (.agg #[.bool pn1.b, .slice pn1.a pn1.n pn1.c]) := (hin 0 19 rfl).trans (congrArg some (show uu 0 = .agg #[.bool pn1.b, .slice pn1.a pn1.n pn1.c] from (hd 0 (by decide) (by kernel_rfl)).2))
   obtain ⟨q1, z1, e1, iq1⟩ := (show vnP (.num (1048576)) (uu 1) ww from (hd 1 (by decide) (by kernel_rfl)).2)
   have x20 : aa.tmps[20]? = some (.agg #[.bool q1.b, .slice q1.a q1.n q1.c]) := (hin 1 20 rfl).trans (congrArg some e1)
   clear hd hev hin
   simp only [List.getElem_cons_succ, List.getElem_cons_zero]
   clear hl
   refine .inr ⟨rfl, fun K' hK => ?_⟩
   have HK := Lib.hid hK
   clear hK
   go_simp
   refine (Hm.out pn1 q1 ww Hz_pn1.out z1 (hJ.num pn1 (by simp)) iq1).mono ?_
   rintro zz W' ⟨py0, hzy0, rfl, ipy0, hB⟩
   exact HK.out (.agg #[.bool py0.b, .slice py0.a py0.n py0.c]) _ (hJ.grow hLi (by simp) (by simp) hB) ⟨py0, hzy0, rfl, ipy0⟩ (vnL_later hB)
  ·
   obtain ⟨q2, z2, e2, iq2⟩ := (show vnP (.num (X * 1048576)) (uu 2) ww from (hd 2 (by decide) (by kernel_rfl)).2)
   have x21 : aa.tmps[21]? = some (.agg #[.bool q2.b, .slice q2.a q2.n q2.c]) := (hin 2 21 rfl).trans (congrArg some e2)
   clear hd hev hin
   simp only [List.getElem_cons_succ, List.getElem_cons_zero]
   clear hl
   refine .inr ⟨rfl, fun K' hK => ?_⟩
   have HK := Lib.hid hK
   clear hK
   go_simp
   refine (Hq.out q2 ww z2 iq2).mono ?_
   rintro zz W' ⟨py0, hzy0, rfl, ipy0, hB⟩
   exact HK.out (.tuple #[.agg #[.bool py0.b, .slice py0.a py0.n py0.c], .int .i64 12]) _ (hJ.grow hLi (by simp) (by simp) hB) ⟨py0, hzy0, rfl, ipy0⟩ (vnL_later hB)
  ·
   obtain ⟨q3, z3, e3, iq3⟩ := (show vnP (.num1 (q) (.int .i64 12)) (uu 3) ww from (hd 3 (by decide) (by kernel_rfl)).2)
   have x22 : aa.tmps[22]? = some (.tuple #[.agg #[.bool q3.b, .slice q3.a q3.n q3.c], .int .i64 12]) := (hin 3 22 rfl).trans (congrArg some e3)
   clear hd hev hin
   simp only [List.getElem_cons_succ, List.getElem_cons_zero]
   clear hl
   refine .inr ⟨rfl, fun K' hK => ?_⟩
   have HK := Lib.hid hK
   clear hK
   go_simp
   exact HK.out (.tuple #[.agg #[.bool q3.b, .slice q3.a q3.n q3.c], .int .i64 12]) _ (hJ.grow hLi (by simp) (by simp) (Below.refl _ _)) ⟨q3, z3, rfl, iq3⟩ vnL_same
  ·
   obtain ⟨q4, z4, e4, iq4⟩ := (show vnP (.num1 (q) (.int .i64 12)) (uu 4) ww from (hd 4 (by decide) (by kernel_rfl)).2)
   have x18 : aa.tmps[18]? = some (.tuple #[.agg #[.bool q4.b, .slice q4.a q4.n q4.c], .int .i64 12]) := (hin 4 18 rfl).trans (congrArg some e4)
   clear hd hev hin
   simp only [List.getElem_cons_succ, List.getElem_cons_zero]
   clear hl
   refine .inr ⟨rfl, fun K' hK => ?_⟩
   have HK := Lib.hid hK
   clear hK
   go_simp
   exact HK.out (.agg #[.bool q4.b, .slice q4.a q4.n q4.c]) _ (hJ.grow hLi (by simp) (by simp) (Below.refl _ _)) ⟨q4, z4, rfl, iq4⟩ vnL_same
  ·
   obtain ⟨q4, z4, e4, iq4⟩ := (show vnP (.num1 (q) (.int .i64 12)) (uu 4) ww from (hd 4 (by decide) (by kernel_rfl)).2)
   have x18 : aa.tmps[18]? = some (.tuple #[.agg #[.bool q4.b, .slice q4.a q4.n q4.c], .int .i64 12]) := (hin 4 18 rfl).trans (congrArg some e4)
   clear hd hev hin
   simp only [List.getElem_cons_succ, List.getElem_cons_zero]
   clear hl
   refine .inr ⟨rfl, fun K' hK => ?_⟩
   have HK := Lib.hid hK
   clear hK
   go_simp
   exact HK.out (.int .i64 12) _ (hJ.grow hLi (by simp) (by simp) (Below.refl _ _)) rfl vnL_same
  ·
   clear hd hev hin
   simp only [List.getElem_cons_succ, List.getElem_cons_zero]
   clear hl
   refine .inr ⟨rfl, fun K' hK => ?_⟩
   have HK := Lib.hid hK
   clear hK
   refine wp_alloc 42 rfl (.agg #[.bool false, .slice none 0 0]) zv42 ?_
   exact HK.out _ _ (hJ.alloc hLi (n := 2) rfl (by kernel_rfl) (by simp) (by simp)) trivial (vnL_later ((Below.refl _ _).alloc (Nat.le_refl _) _))
  ·
   have hLa := (hd 7 (by decide) (by kernel_rfl)).1
   obtain ⟨kb, kC, ke, kge, ksz, kno, kcl⟩ := hJ.bx (7, 2, 42) (by simp) hLa
   have x8 : aa.tmps[8]? = some (.pointer (some ⟨kb, 0, none⟩)) := (hin 7 8 rfl).trans (congrArg some ke)
   obtain ⟨q5, z5, e5, iq5⟩ := (show vnP (.num (q)) (uu 5) ww from (hd 5 (by decide) (by kernel_rfl)).2)
   have x23 : aa.tmps[23]? = some (.agg #[.bool q5.b, .slice q5.a q5.n q5.c]) := (hin 5 23 rfl).trans (congrArg some e5)
   have hLx := (hd 5 (by decide) (by kernel_rfl)).1
   clear hd hev hin
   simp only [List.getElem_cons_succ, List.getElem_cons_zero]
   clear hl
   refine .inr ⟨rfl, fun K' hK => ?_⟩
   have HK := Lib.hid hK
   clear hK
   refine wp_store 42 (.tmp 8) (.tmp 23) rfl 0 kb 0 kC 42 2 [.bool q5.b, .slice q5.a q5.n q5.c] (hJ.em.join kge kcl) rfl (eval_tmp x8) (by rw [eval_tmp x23]; rfl) sz42 rfl (by rw [ksz]; decide) (by kernel_rfl) (fun ww2 hE hk hz => ?_)
   rw [putC_full (show kC.size = ([.bool q5.b, .slice q5.a q5.n q5.c] : List Value).length from ksz)] at hE
   exact HK.out undef _ (hJ.store (a := 7) (x := 5) (n := 2) (T := 42) (Cn := #[.bool q5.b, .slice q5.a q5.n q5.c]) hLi (by simp) (by simp) (by simp) (by simp) (by simp) (by simp) hLa hLx ke kge rfl (by kernel_rfl) (by rw [e5]; rfl) kcl kno hE hk hz) trivial (vnL_store kcl kno hk hz)
  ·
   have x24 : aa.tmps[24]? = some (.int .i64 12) := (hin 6 24 rfl).trans (congrArg some (show uu 6 = .int .i64 12 from (hd 6 (by decide) (by kernel_rfl)).2))
   clear hd hev hin
   simp only [List.getElem_cons_succ, List.getElem_cons_zero]
   clear hl
   refine .inr ⟨rfl, fun K' hK => ?_⟩
   have HK := Lib.hid hK
   clear hK
   go_simp
   exact HK.out (.int .i64 12) _ (hJ.grow hLi (by simp) (by simp) (Below.refl _ _)) rfl vnL_same
 clear hM
 intro LL uu W6 hLL hJm hd
 have e_0 : uu 0 = .agg #[.bool pn1.b, .slice pn1.a pn1.n pn1.c] := hd 0 (by decide)
 obtain ⟨pn3, hz_pn3, e_1, hi_pn3⟩ := (show vnP (.num (1048576)) (uu 1) W6 from hd 1 (by decide))
 have Hz_pn3 := Lib.hid hz_pn3
 clear hz_pn3
 obtain ⟨pn4, hz_pn4, e_2, hi_pn4⟩ := (show vnP (.num (X * 1048576)) (uu 2) W6 from hd 2 (by decide))
 have Hz_pn4 := Lib.hid hz_pn4
 clear hz_pn4
 obtain ⟨pn5, hz_pn5, e_3, hi_pn5⟩ := (show vnP (.num1 (q) (.int .i64 12)) (uu 3) W6 from hd 3 (by decide))
 have Hz_pn5 := Lib.hid hz_pn5
 clear hz_pn5
 obtain ⟨pn6, hz_pn6, e_4, hi_pn6⟩ := (show vnP (.num1 (q) (.int .i64 12)) (uu 4) W6 from hd 4 (by decide))
 have Hz_pn6 := Lib.hid hz_pn6
 clear hz_pn6
 obtain ⟨pn7, hz_pn7, e_5, hi_pn7⟩ := (show vnP (.num (q)) (uu 5) W6 from hd 5 (by decide))
 have Hz_pn7 := Lib.hid hz_pn7
 clear hz_pn7
 have e_6 : uu 6 = .int .i64 12 := hd 6 (by decide)
 obtain ⟨bk3, kC7, e_7, nge7, ksz7, kno7, nB7⟩ := hJm.bx (7, 2, 42) (by simp) (hLL 7 (by decide))
 have e_9 : uu 9 = .int .i64 12 := hd 9 (by decide)
 obtain ⟨_, _, kb8, ke8, kl8⟩ := hJm.st (8, 7, 5, 42) (by simp) (hLL 8 (by decide))
 have kq8 : kb8 = bk3 := by
  have hq := ke8.symm.trans e_7
  injection hq with hq
  injection hq with hq
  injection hq with hq
 subst kq8
 clear ke8
 replace kl8 : Cl W6 (kb8, #[.bool pn7.b, .slice pn7.a pn7.n pn7.c], 42) := by
  rw [show (uu (8, 7, 5, 42).2.2.1) = _ from e_5] at kl8
  exact kl8
 have g7 := hJm.em.join nge7 kl8
 clear hd hLL
 simp only [layS, Act.put, List.setIfInBounds_toArray, List.set_cons_succ, List.set_cons_zero, Nat.zero_add, Nat.reduceAdd, List.drop_succ_cons, List.drop_zero, List.drop_nil, e_0, e_1, e_2, e_3, e_4, e_5, e_6, e_7, e_9]
 have hJ6 := ((((((⟨g7, hJm.num⟩ : En w W6 [(kb8, #[.bool pn7.b, .slice pn7.a pn7.n pn7.c], 42), (bk2, #[.bool pn2.b, .slice pn2.a pn2.n pn2.c], 42), (bk1, #[.bool pn1.b, .slice pn1.a pn1.n pn1.c], 42)] [pn2, pn1])).more hi_pn3).more hi_pn4).more hi_pn5).more hi_pn6).more hi_pn7
 clear hJm e_0 e_1 e_2 e_3 e_4 e_5 e_6 e_7 e_9 nge7 nB7 ksz7 kno7 g7 hi_pn3 hi_pn4 hi_pn5 hi_pn6 hi_pn7
 go_wp2
 exact bodyPost_ret (v := .tuple #[.int .i64 0, .bool false, .int .i64 12]) (by simp [results, Tryz.results16, go_sem]) rfl ⟨rfl, hJ6.below⟩
end Go.Proofs.YtpahkpcoinbgcaaGreatDoor
