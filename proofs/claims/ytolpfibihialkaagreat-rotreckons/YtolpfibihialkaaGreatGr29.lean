/- Parts of the proof. -/
import Derived.Test.YtolpfibihialkaaGreatGr0
import Derived.Test.YtolpfibihialkaaGreatGr23
import Derived.Test.YtolpfibihialkaaGreatGr28
import Derived.Test.YtolpfibihialkaaGreatGr24
import Derived.Test.YtolpfibihialkaaGreatGr22
import Derived.LoopN
/- The document's spans: the walks of Neg, Add, Sub. No statement of the seat is proved here. -/
namespace Go.Proofs.YtolpfibihialkaaGreat
open Go Go.RowKit
set_option maxHeartbeats 1600000 in
theorem rdNeg_no (x y : Sp) (hr : ∀ W : World, Calls Tryz.prog 74 #[.agg #[.int .i64 x.lo, .int .i64 x.hi, .bool x.all]] W (PDp ⟨0, 0, true⟩ W)) (w : World) : Calls Tryz.prog 78 #[.agg #[.int .i64 x.lo, .int .i64 x.hi, .bool x.all]] w (PDp lineS w) := by
 have HR := Lib.hid hr
 clear hr
 go_enter Tryz.func78, Tryz.ntmps78
 go_wp2_with fail
 have hC := ((cs_nil w).new #[.int .i64 x.lo, .int .i64 x.hi, .bool x.all] 29).new #[.int .i64 0, .int .i64 0, .bool false] 29
 rw [show (w.alloc (.cells #[.int .i64 x.lo, .int .i64 x.hi, .bool x.all] 29)).heap.size = w.heap.size + 1 by simp] at hC
 generalize (w.alloc (.cells #[.int .i64 x.lo, .int .i64 x.hi, .bool x.all] 29)).alloc (.cells #[.int .i64 0, .int .i64 0, .bool false] 29) = w1 at *
 refine (HR.out _).mono ?_
 rintro e w2 ⟨rfl, hB⟩
 replace hC := hC.later hB
 have hD : D3 w2 (w.heap.size + 1) ⟨0, 0, false⟩ := hC.at' _ (.head _)
 have hlt := hC.lt _ (.head _)
 replace hlt : w.heap.size + 1 < w2.heap.size := hlt
 have hb := hC.below
 have c1 := hD.cells.1
 have c2 := hD.cells.2.1
 have c3 := hD.cells.2.2.1
 have c4 := hD.cells.2.2.2.1
 have c5 := hD.cells.2.2.2.2.1
 have c6 := hD.cells.2.2.2.2.2
 have h1 : Below w.heap.size w (((w2.setCell ⟨w.heap.size + 1, 0, none⟩ (.int .i64 0)).setCell ⟨w.heap.size + 1, 1, none⟩ (.int .i64 0)).setCell ⟨w.heap.size + 1, 2, none⟩ (.bool true)) := fin3 hb 1 ⟨0, 0, true⟩
 have hf : Below w.heap.size w ((((w2.setCell ⟨w.heap.size + 1, 0, none⟩ (.int .i64 0)).setCell ⟨w.heap.size + 1, 1, none⟩ (.int .i64 0)).setCell ⟨w.heap.size + 1, 2, none⟩ (.bool true)).alloc (.cells #[.int .i64 0, .int .i64 0, .bool true] 29)) := h1.alloc h1.size _
 have hd : D3 ((((w2.setCell ⟨w.heap.size + 1, 0, none⟩ (.int .i64 0)).setCell ⟨w.heap.size + 1, 1, none⟩ (.int .i64 0)).setCell ⟨w.heap.size + 1, 2, none⟩ (.bool true)).alloc (.cells #[.int .i64 0, .int .i64 0, .bool true] 29)) (w.heap.size + 1) ⟨0, 0, true⟩ := (hD.self ⟨0, 0, true⟩).below ((Below.refl _ _).alloc (Nat.le_refl _) _)
 have k1 := hd.cells.1
 have k2 := hd.cells.2.1
 have k3 := hd.cells.2.2.1
 clear hC hB hD h1 hd
 go_wp2
 exact bodyPost_ret (v := .agg #[.int .i64 lineS.lo, .int .i64 lineS.hi, .bool lineS.all]) (by simp [results, Tryz.results78, go_sem, k1, k2, k3, lineS]) rfl ⟨rfl, hf⟩
set_option maxHeartbeats 1600000 in
theorem rdNeg_ok (l u2 : Int) (w : World) (h1 : -2147483647 ≤ l) (h2 : l ≤ u2) (h3 : u2 ≤ 2147483647) : Calls Tryz.prog 78 #[.agg #[.int .i64 l, .int .i64 u2, .bool false]] w (PDp ⟨-u2, -l, false⟩ w) := by
 have HR : Hid (∀ W : World, Calls Tryz.prog 74 #[.agg #[.int .i64 l, .int .i64 u2, .bool false]] W (PDp ⟨l, u2, false⟩ W)) := show ∀ W : World, _ from fun W => by
  have hk : okB ⟨l, u2, false⟩ = true := ok_mk h1 h2 h3 rfl
  have := rRight_any ⟨l, u2, false⟩ W
  rwa [mkS_ok hk] at this
 have hw1 : IntKind.i64.wrap (-u2) = -u2 := IntWalk.i64_in _ (by omega)
 have hw2 : IntKind.i64.wrap (-l) = -l := IntWalk.i64_in _ (by omega)
 clear h1 h2 h3
 go_enter Tryz.func78, Tryz.ntmps78
 go_wp2_with fail
 have hC := ((cs_nil w).new #[.int .i64 l, .int .i64 u2, .bool false] 29).new #[.int .i64 0, .int .i64 0, .bool false] 29
 rw [show (w.alloc (.cells #[.int .i64 l, .int .i64 u2, .bool false] 29)).heap.size = w.heap.size + 1 by simp] at hC
 generalize (w.alloc (.cells #[.int .i64 l, .int .i64 u2, .bool false] 29)).alloc (.cells #[.int .i64 0, .int .i64 0, .bool false] 29) = w1 at *
 refine (HR.out _).mono ?_
 rintro e w2 ⟨rfl, hB⟩
 replace hC := hC.later hB
 have hD : D3 w2 (w.heap.size + 1) ⟨0, 0, false⟩ := hC.at' _ (.head _)
 have hlt : w.heap.size + 1 < w2.heap.size := hC.lt _ (.head _)
 have hb := hC.below
 have c1 := hD.cells.1
 have c2 := hD.cells.2.1
 have c3 := hD.cells.2.2.1
 have c4 := hD.cells.2.2.2.1
 have c5 := hD.cells.2.2.2.2.1
 have c6 := hD.cells.2.2.2.2.2
 have h1 := fin3 hb 1 ⟨-u2, -l, false⟩
 have hf : Below w.heap.size w ((((w2.setCell ⟨w.heap.size + 1, 0, none⟩ (.int .i64 (-u2))).setCell ⟨w.heap.size + 1, 1, none⟩ (.int .i64 (-l))).setCell ⟨w.heap.size + 1, 2, none⟩ (.bool false)).alloc (.cells #[.int .i64 l, .int .i64 u2, .bool false] 29)) := h1.alloc h1.size _
 have hd : D3 ((((w2.setCell ⟨w.heap.size + 1, 0, none⟩ (.int .i64 (-u2))).setCell ⟨w.heap.size + 1, 1, none⟩ (.int .i64 (-l))).setCell ⟨w.heap.size + 1, 2, none⟩ (.bool false)).alloc (.cells #[.int .i64 l, .int .i64 u2, .bool false] 29)) (w.heap.size + 1) ⟨-u2, -l, false⟩ := (hD.self ⟨-u2, -l, false⟩).below ((Below.refl _ _).alloc (Nat.le_refl _) _)
 have k1 := hd.cells.1
 have k2 := hd.cells.2.1
 have k3 := hd.cells.2.2.1
 clear hC hB hD h1 hd
 go_wp2
 exact bodyPost_ret (v := .agg #[.int .i64 (-u2), .int .i64 (-l), .bool false]) (by simp [results, Tryz.results78, go_sem, k1, k2, k3]) rfl ⟨rfl, hf⟩
theorem rdNeg_any (x : Sp) (w : World) : Calls Tryz.prog 78 #[.agg #[.int .i64 x.lo, .int .i64 x.hi, .bool x.all]] w (PDp (negS x) w) := by
 cases hk : okB x
 ·
  have e : negS x = lineS := by unfold negS; rw [hk]; rfl
  rw [e]
  exact rdNeg_no x lineS (fun W => by have := rRight_any x W; rwa [mkS_no hk] at this) w
 ·
  obtain ⟨l, u2, a⟩ := x
  have k := ok_of hk
  have h4 : a = false := k.2.2.2
  subst h4
  have e : negS ⟨l, u2, false⟩ = ⟨-u2, -l, false⟩ := by unfold negS; rw [hk]; rfl
  rw [e]
  exact rdNeg_ok l u2 w k.1 k.2.1 k.2.2.1
set_option maxHeartbeats 1600000 in
theorem rdAdd_noa (x y q : Sp) (hx : ∀ W : World, Calls Tryz.prog 74 #[.agg #[.int .i64 x.lo, .int .i64 x.hi, .bool x.all]] W (PDp ⟨0, 0, true⟩ W)) (hy : ∀ W : World, Calls Tryz.prog 74 #[.agg #[.int .i64 y.lo, .int .i64 y.hi, .bool y.all]] W (PDp q W)) (w : World) : Calls Tryz.prog 55 #[.agg #[.int .i64 x.lo, .int .i64 x.hi, .bool x.all], .agg #[.int .i64 y.lo, .int .i64 y.hi, .bool y.all]] w (PDp lineS w) := by
 have HX := Lib.hid hx
 have HY := Lib.hid hy
 clear hx hy
 go_enter Tryz.func55, Tryz.ntmps55
 go_wp2_with fail
 have hC := (((cs_nil w).new #[.int .i64 x.lo, .int .i64 x.hi, .bool x.all] 29).new #[.int .i64 y.lo, .int .i64 y.hi, .bool y.all] 29).new #[.int .i64 0, .int .i64 0, .bool false] 29
 rw [show ((w.alloc (.cells #[.int .i64 x.lo, .int .i64 x.hi, .bool x.all] 29)).alloc (.cells #[.int .i64 y.lo, .int .i64 y.hi, .bool y.all] 29)).heap.size = w.heap.size + 2 by simp, show (w.alloc (.cells #[.int .i64 x.lo, .int .i64 x.hi, .bool x.all] 29)).heap.size = w.heap.size + 1 by simp] at hC
 generalize ((w.alloc (.cells #[.int .i64 x.lo, .int .i64 x.hi, .bool x.all] 29)).alloc (.cells #[.int .i64 y.lo, .int .i64 y.hi, .bool y.all] 29)).alloc (.cells #[.int .i64 0, .int .i64 0, .bool false] 29) = w1 at *
 refine (HX.out _).mono ?_
 rintro e w2 ⟨rfl, hB⟩
 replace hC := hC.later hB
 clear hB
 replace hC := hC.new #[.int .i64 0, .int .i64 0, .bool true] 29
 have f0 := cl3 (hC.at' (w.heap.size + 1, #[.int .i64 y.lo, .int .i64 y.hi, .bool y.all], 29) (.tail _ (.tail _ (.head _))))
 have f5 := f0.1
 have f6 := f0.2.1
 have f7 := f0.2.2.1
 clear f0
 go_wp2_with fail
 generalize w2.alloc (.cells #[.int .i64 0, .int .i64 0, .bool true] 29) = w2' at *
 generalize w2.heap.size = ka at *
 clear f5 f6 f7
 refine (HY.out _).mono ?_
 rintro e w3 ⟨rfl, hB⟩
 replace hC := hC.later hB
 have hD : D3 w3 (w.heap.size + 2) ⟨0, 0, false⟩ := hC.at' _ (.tail _ (.head _))
 have hlt : w.heap.size + 2 < w3.heap.size := hC.lt _ (.tail _ (.head _))
 have hltk : ka < w3.heap.size := hC.lt _ (.head _)
 have hA := cl3 (hC.at' (ka, #[.int .i64 0, .int .i64 0, .bool true], 29) (.head _))
 have a3 := hA.2.2.1
 have hb := hC.below
 have c1 := hD.cells.1
 have c2 := hD.cells.2.1
 have c3 := hD.cells.2.2.1
 have c4 := hD.cells.2.2.2.1
 have c5 := hD.cells.2.2.2.2.1
 have c6 := hD.cells.2.2.2.2.2
 have h1 : Below w.heap.size w (((w3.setCell ⟨w.heap.size + 2, 0, none⟩ (.int .i64 0)).setCell ⟨w.heap.size + 2, 1, none⟩ (.int .i64 0)).setCell ⟨w.heap.size + 2, 2, none⟩ (.bool true)) := fin3 hb 2 ⟨0, 0, true⟩
 have hf : Below w.heap.size w (((((w3.setCell ⟨w.heap.size + 2, 0, none⟩ (.int .i64 0)).setCell ⟨w.heap.size + 2, 1, none⟩ (.int .i64 0)).setCell ⟨w.heap.size + 2, 2, none⟩ (.bool true))).alloc (.cells #[.int .i64 q.lo, .int .i64 q.hi, .bool q.all] 29)) := h1.alloc h1.size _
 have hd : D3 (((((w3.setCell ⟨w.heap.size + 2, 0, none⟩ (.int .i64 0)).setCell ⟨w.heap.size + 2, 1, none⟩ (.int .i64 0)).setCell ⟨w.heap.size + 2, 2, none⟩ (.bool true))).alloc (.cells #[.int .i64 q.lo, .int .i64 q.hi, .bool q.all] 29)) (w.heap.size + 2) ⟨0, 0, true⟩ := (hD.self ⟨0, 0, true⟩).below ((Below.refl _ _).alloc (Nat.le_refl _) _)
 have k1 := hd.cells.1
 have k2 := hd.cells.2.1
 have k3 := hd.cells.2.2.1
 clear hC hB hD h1 hd hA
 go_wp2
 exact bodyPost_ret (v := .agg #[.int .i64 lineS.lo, .int .i64 lineS.hi, .bool lineS.all]) (by simp [results, Tryz.results55, go_sem, k1, k2, k3, lineS]) rfl ⟨rfl, hf⟩
set_option maxHeartbeats 1600000 in
theorem rdAdd_nob (x y : Sp) (l1 l2 : Int) (hx : ∀ W : World, Calls Tryz.prog 74 #[.agg #[.int .i64 x.lo, .int .i64 x.hi, .bool x.all]] W (PDp ⟨l1, l2, false⟩ W)) (hy : ∀ W : World, Calls Tryz.prog 74 #[.agg #[.int .i64 y.lo, .int .i64 y.hi, .bool y.all]] W (PDp ⟨0, 0, true⟩ W)) (w : World) : Calls Tryz.prog 55 #[.agg #[.int .i64 x.lo, .int .i64 x.hi, .bool x.all], .agg #[.int .i64 y.lo, .int .i64 y.hi, .bool y.all]] w (PDp lineS w) := by
 have HX := Lib.hid hx
 have HY := Lib.hid hy
 clear hx hy
 go_enter Tryz.func55, Tryz.ntmps55
 go_wp2_with fail
 have hC := (((cs_nil w).new #[.int .i64 x.lo, .int .i64 x.hi, .bool x.all] 29).new #[.int .i64 y.lo, .int .i64 y.hi, .bool y.all] 29).new #[.int .i64 0, .int .i64 0, .bool false] 29
 rw [show ((w.alloc (.cells #[.int .i64 x.lo, .int .i64 x.hi, .bool x.all] 29)).alloc (.cells #[.int .i64 y.lo, .int .i64 y.hi, .bool y.all] 29)).heap.size = w.heap.size + 2 by simp, show (w.alloc (.cells #[.int .i64 x.lo, .int .i64 x.hi, .bool x.all] 29)).heap.size = w.heap.size + 1 by simp] at hC
 generalize ((w.alloc (.cells #[.int .i64 x.lo, .int .i64 x.hi, .bool x.all] 29)).alloc (.cells #[.int .i64 y.lo, .int .i64 y.hi, .bool y.all] 29)).alloc (.cells #[.int .i64 0, .int .i64 0, .bool false] 29) = w1 at *
 refine (HX.out _).mono ?_
 rintro e w2 ⟨rfl, hB⟩
 replace hC := hC.later hB
 clear hB
 replace hC := hC.new #[.int .i64 l1, .int .i64 l2, .bool false] 29
 have f0 := cl3 (hC.at' (w.heap.size + 1, #[.int .i64 y.lo, .int .i64 y.hi, .bool y.all], 29) (.tail _ (.tail _ (.head _))))
 have f5 := f0.1
 have f6 := f0.2.1
 have f7 := f0.2.2.1
 clear f0
 go_wp2_with fail
 generalize w2.alloc (.cells #[.int .i64 l1, .int .i64 l2, .bool false] 29) = w2' at *
 generalize w2.heap.size = ka at *
 clear f5 f6 f7
 refine (HY.out _).mono ?_
 rintro e w3 ⟨rfl, hB⟩
 replace hC := hC.later hB
 have hD : D3 w3 (w.heap.size + 2) ⟨0, 0, false⟩ := hC.at' _ (.tail _ (.head _))
 have hlt : w.heap.size + 2 < w3.heap.size := hC.lt _ (.tail _ (.head _))
 have hltk : ka < w3.heap.size := hC.lt _ (.head _)
 have hA := cl3 (hC.at' (ka, #[.int .i64 l1, .int .i64 l2, .bool false], 29) (.head _))
 have a3 := hA.2.2.1
 have hb := hC.below
 have c1 := hD.cells.1
 have c2 := hD.cells.2.1
 have c3 := hD.cells.2.2.1
 have c4 := hD.cells.2.2.2.1
 have c5 := hD.cells.2.2.2.2.1
 have c6 := hD.cells.2.2.2.2.2
 have h1 : Below w.heap.size w (((w3.setCell ⟨w.heap.size + 2, 0, none⟩ (.int .i64 0)).setCell ⟨w.heap.size + 2, 1, none⟩ (.int .i64 0)).setCell ⟨w.heap.size + 2, 2, none⟩ (.bool true)) := fin3 hb 2 ⟨0, 0, true⟩
 have hf : Below w.heap.size w (((((w3.setCell ⟨w.heap.size + 2, 0, none⟩ (.int .i64 0)).setCell ⟨w.heap.size + 2, 1, none⟩ (.int .i64 0)).setCell ⟨w.heap.size + 2, 2, none⟩ (.bool true))).alloc (.cells #[.int .i64 0, .int .i64 0, .bool true] 29)) := h1.alloc h1.size _
 have hd : D3 (((((w3.setCell ⟨w.heap.size + 2, 0, none⟩ (.int .i64 0)).setCell ⟨w.heap.size + 2, 1, none⟩ (.int .i64 0)).setCell ⟨w.heap.size + 2, 2, none⟩ (.bool true))).alloc (.cells #[.int .i64 0, .int .i64 0, .bool true] 29)) (w.heap.size + 2) ⟨0, 0, true⟩ := (hD.self ⟨0, 0, true⟩).below ((Below.refl _ _).alloc (Nat.le_refl _) _)
 have k1 := hd.cells.1
 have k2 := hd.cells.2.1
 have k3 := hd.cells.2.2.1
 clear hC hB hD h1 hd hA
 go_wp2
 exact bodyPost_ret (v := .agg #[.int .i64 lineS.lo, .int .i64 lineS.hi, .bool lineS.all]) (by simp [results, Tryz.results55, go_sem, k1, k2, k3, lineS]) rfl ⟨rfl, hf⟩
theorem add_tight {x y : Sp} (hx : okB x = true) (hy : okB y = true) : addS x y = tightS (x.lo + y.lo) (x.hi + y.hi) 1 := by
 have kx := ok_of hx
 have ky := ok_of hy
 unfold tightS
 rw [Int.ediv_one, Int.ediv_one, Int.neg_neg]
 rcases add_cases x y with e | ⟨h, _, _, e⟩
 ·
  rw [e]
  by_cases g : x.lo + y.lo < -2147483647 ∨ -(x.hi + y.hi) < -2147483647 ∨ 2147483647 < x.lo + y.lo ∨ 2147483647 < -(x.hi + y.hi)
  ·
   rw [if_pos g]
  ·
   exfalso
   have c : ∀ a b : Int, -2147483647 ≤ a + b → a + b ≤ 2147483647 → okB (addR a b) = true := by
    intro a b q1 q2
    unfold addR
    rw [okB_mk]
    exact ok_mk q1 (Int.le_refl _) q2 rfl
   have := ends_ok (R := addR) hx hy (c _ _ (by omega) (by omega)) (c _ _ (by omega) (by omega)) (c _ _ (by omega) (by omega)) (c _ _ (by omega) (by omega))
   rw [show endsS addR x y = lineS from e] at this
   cases congrArg Sp.all this
 ·
  have k := ok_of h
  rw [e] at k
  replace k : -2147483647 ≤ x.lo + y.lo ∧ x.lo + y.lo ≤ x.hi + y.hi ∧ x.hi + y.hi ≤ 2147483647 := ⟨k.1, k.2.1, k.2.2.1⟩
  rw [e, if_neg (by omega)]
set_option maxRecDepth 100000 in
set_option maxHeartbeats 3200000 in
theorem rdAdd_ok (l1 l2 r1 r2 : Int) (hx : okB ⟨l1, l2, false⟩ = true) (hy : okB ⟨r1, r2, false⟩ = true) (w : World) : Calls Tryz.prog 55 #[.agg #[.int .i64 l1, .int .i64 l2, .bool false], .agg #[.int .i64 r1, .int .i64 r2, .bool false]] w (PDp (addS ⟨l1, l2, false⟩ ⟨r1, r2, false⟩) w) := by
 have HX : Hid (∀ W : World, Calls Tryz.prog 74 #[.agg #[.int .i64 l1, .int .i64 l2, .bool false]] W (PDp ⟨l1, l2, false⟩ W)) := show ∀ W : World, _ from fun W => by have := rRight_any ⟨l1, l2, false⟩ W; rwa [mkS_ok hx] at this
 have HY : Hid (∀ W : World, Calls Tryz.prog 74 #[.agg #[.int .i64 r1, .int .i64 r2, .bool false]] W (PDp ⟨r1, r2, false⟩ W)) := show ∀ W : World, _ from fun W => by have := rRight_any ⟨r1, r2, false⟩ W; rwa [mkS_ok hy] at this
 have kx := ok_of hx
 have ky := ok_of hy
 replace kx : -2147483647 ≤ l1 ∧ l1 ≤ l2 ∧ l2 ≤ 2147483647 := ⟨kx.1, kx.2.1, kx.2.2.1⟩
 replace ky : -2147483647 ≤ r1 ∧ r1 ≤ r2 ∧ r2 ≤ 2147483647 := ⟨ky.1, ky.2.1, ky.2.2.1⟩
 have HT : Hid (∀ (p q : NR) (W : World), p.is W → q.is W → p.z = l1 + r1 → q.z = l2 + r2 → Calls Tryz.prog 76 #[.agg #[.bool p.b, .slice p.a p.n p.c], .agg #[.bool q.b, .slice q.a q.n q.c], .int .i64 1] W (PDp (addS ⟨l1, l2, false⟩ ⟨r1, r2, false⟩) W)) := show ∀ (p q : NR) (W : World), _ from fun p q W hp hq zp zq => by
  have := tight_any p q 1 W hp hq (.inl rfl) (by rw [zp]; omega) (by rw [zp]; omega) (by rw [zq]; omega) (by rw [zq]; omega)
  rwa [zp, zq, ← add_tight hx hy] at this
 have HO1 : Hid (∀ W : World, Calls Tryz.prog 77 #[.int .i64 (l1 + r1)] W (PN (l1 + r1) W)) := show ∀ W : World, _ from fun W => nOf _ (by omega) (by omega) W
 have HO2 : Hid (∀ W : World, Calls Tryz.prog 77 #[.int .i64 (l2 + r2)] W (PN (l2 + r2) W)) := show ∀ W : World, _ from fun W => nOf _ (by omega) (by omega) W
 have hw1 : IntKind.i64.wrap (l1 + r1) = l1 + r1 := IntWalk.i64_in _ (by omega)
 have hw2 : IntKind.i64.wrap (l2 + r2) = l2 + r2 := IntWalk.i64_in _ (by omega)
 generalize addS ⟨l1, l2, false⟩ ⟨r1, r2, false⟩ = zz at *
 clear kx ky hx hy
 go_enter Tryz.func55, Tryz.ntmps55
 go_wp2_with fail
 have hC := (((cs_nil w).new #[.int .i64 l1, .int .i64 l2, .bool false] 29).new #[.int .i64 r1, .int .i64 r2, .bool false] 29).new #[.int .i64 0, .int .i64 0, .bool false] 29
 rw [show ((w.alloc (.cells #[.int .i64 l1, .int .i64 l2, .bool false] 29)).alloc (.cells #[.int .i64 r1, .int .i64 r2, .bool false] 29)).heap.size = w.heap.size + 2 by simp, show (w.alloc (.cells #[.int .i64 l1, .int .i64 l2, .bool false] 29)).heap.size = w.heap.size + 1 by simp] at hC
 generalize ((w.alloc (.cells #[.int .i64 l1, .int .i64 l2, .bool false] 29)).alloc (.cells #[.int .i64 r1, .int .i64 r2, .bool false] 29)).alloc (.cells #[.int .i64 0, .int .i64 0, .bool false] 29) = w1 at *
 refine (HX.out _).mono ?_
 rintro e w2 ⟨rfl, hB⟩
 replace hC := (hC.later hB).new #[.int .i64 l1, .int .i64 l2, .bool false] 29
 clear hB
 have f0 := cl3 (hC.at' (w.heap.size + 1, #[.int .i64 r1, .int .i64 r2, .bool false], 29) (.tail _ (.tail _ (.head _))))
 have f5 := f0.1
 have f6 := f0.2.1
 have f7 := f0.2.2.1
 clear f0
 go_wp2_with fail
 generalize w2.alloc (.cells #[.int .i64 l1, .int .i64 l2, .bool false] 29) = w2' at *
 generalize w2.heap.size = ka at *
 clear f5 f6 f7
 refine (HY.out _).mono ?_
 rintro e w3 ⟨rfl, hB⟩
 replace hC := (hC.later hB).new #[.int .i64 r1, .int .i64 r2, .bool false] 29
 clear hB
 have f0 := cl3 (hC.at' (ka, #[.int .i64 l1, .int .i64 l2, .bool false], 29) (.tail _ (.head _)))
 have f5 := f0.1
 have f6 := f0.2.1
 have f7 := f0.2.2.1
 clear f0
 go_wp2
 generalize w3.alloc (.cells #[.int .i64 r1, .int .i64 r2, .bool false] 29) = w4 at *
 generalize w3.heap.size = kb at *
 clear f5 f6 f7
 obtain ⟨m5, hm5⟩ : ∃ m, m = w4.heap.size := ⟨_, rfl⟩
 have hJ0 : ∀ u, Jy w m5 [(kb, #[.int .i64 r1, .int .i64 r2, .bool false], 29), (ka, #[.int .i64 l1, .int .i64 l2, .bool false], 29), (w.heap.size + 2, #[.int .i64 0, .int .i64 0, .bool false], 29), (w.heap.size + 1, #[.int .i64 r1, .int .i64 r2, .bool false], 29), (w.heap.size, #[.int .i64 l1, .int .i64 l2, .bool false], 29)] [] 82 [] [] (fun _ => false) u w4.drew := fun u => by rw [hm5]; exact Jy.start (hC) u
 refine wp_region_y 13 [some 18, some 19, some 20, some 21, some 22, some 23, some 24, some 25, some 26, some 27, some 28, some 29, some 30] (vyL [.eq (.pointer (some ⟨ka, 0, none⟩)), .eq (.int .i64 l1), .eq (.pointer (some ⟨kb, 0, none⟩)), .eq (.int .i64 r1), .eq (.int .i64 (l1 + r1)), .num (l1 + r1), .eq (.pointer (some ⟨ka, 1, none⟩)), .eq (.int .i64 l2), .eq (.pointer (some ⟨kb, 1, none⟩)), .eq (.int .i64 r2), .eq (.int .i64 (l2 + r2)), .num (l2 + r2), .eq (.agg #[.int .i64 zz.lo, .int .i64 zz.hi, .bool zz.all])]) (Jy w m5 [(kb, #[.int .i64 r1, .int .i64 r2, .bool false], 29), (ka, #[.int .i64 l1, .int .i64 l2, .bool false], 29), (w.heap.size + 2, #[.int .i64 0, .int .i64 0, .bool false], 29), (w.heap.size + 1, #[.int .i64 r1, .int .i64 r2, .bool false], 29), (w.heap.size, #[.int .i64 l1, .int .i64 l2, .bool false], 29)] [] 82 [] []) (by kernel_rfl) (by kernel_rfl) (by rfl) (by decide) (by rfl) hJ0 ?_ ?_
 ·
  intro i hl hi L u W A hLi hJ hd hev hin
  obtain rfl | rfl | rfl | rfl | rfl | rfl | rfl | rfl | rfl | rfl | rfl | rfl | rfl : i = 0 ∨ i = 1 ∨ i = 2 ∨ i = 3 ∨ i = 4 ∨ i = 5 ∨ i = 6 ∨ i = 7 ∨ i = 8 ∨ i = 9 ∨ i = 10 ∨ i = 11 ∨ i = 12 := by omega
  ·
   have x5 : A.tmps[5]? = some (.pointer (some ⟨ka, 0, none⟩)) := (hev 5 (by decide)).trans rfl
   clear hd hev hin
   simp only [zzA, zzB]
   clear hl
   refine .inr ⟨rfl, fun K' hK => ?_⟩
   have HK := Lib.hid hK
   clear hK
   go_simp
   exact HK.out (.pointer (some ⟨ka, 0, none⟩)) _ (hJ.grow hLi (by decide) (by decide) (Below.refl _ _)) (rfl) vyL_same
  ·
   have e0 : u 0 = .pointer (some ⟨ka, 0, none⟩) := (hd 0 (by decide) (by kernel_rfl)).2
   have x18 : A.tmps[18]? = some (.pointer (some ⟨ka, 0, none⟩)) := (hin 0 18 rfl).trans (congrArg some e0)
   clear hd hev hin
   simp only [zzA, zzB]
   clear hl
   refine .inr ⟨rfl, fun K' hK => ?_⟩
   have HK := Lib.hid hK
   clear hK
   have f0 := cl3 (hJ.cm.cs.at' (ka, #[.int .i64 l1, .int .i64 l2, .bool false], 29) (.tail _ (.head _)))
   have f5 := f0.1
   clear f0
   go_simp
   exact HK.out (.int .i64 l1) _ (hJ.grow hLi (by decide) (by decide) (Below.refl _ _)) (rfl) vyL_same
  ·
   have x6 : A.tmps[6]? = some (.pointer (some ⟨kb, 0, none⟩)) := (hev 6 (by decide)).trans rfl
   clear hd hev hin
   simp only [zzA, zzB]
   clear hl
   refine .inr ⟨rfl, fun K' hK => ?_⟩
   have HK := Lib.hid hK
   clear hK
   go_simp
   exact HK.out (.pointer (some ⟨kb, 0, none⟩)) _ (hJ.grow hLi (by decide) (by decide) (Below.refl _ _)) (rfl) vyL_same
  ·
   have e2 : u 2 = .pointer (some ⟨kb, 0, none⟩) := (hd 2 (by decide) (by kernel_rfl)).2
   have x20 : A.tmps[20]? = some (.pointer (some ⟨kb, 0, none⟩)) := (hin 2 20 rfl).trans (congrArg some e2)
   clear hd hev hin
   simp only [zzA, zzB]
   clear hl
   refine .inr ⟨rfl, fun K' hK => ?_⟩
   have HK := Lib.hid hK
   clear hK
   have f0 := cl3 (hJ.cm.cs.at' (kb, #[.int .i64 r1, .int .i64 r2, .bool false], 29) (.head _))
   have f5 := f0.1
   clear f0
   go_simp
   exact HK.out (.int .i64 r1) _ (hJ.grow hLi (by decide) (by decide) (Below.refl _ _)) (rfl) vyL_same
  ·
   have e1 : u 1 = .int .i64 l1 := (hd 1 (by decide) (by kernel_rfl)).2
   have x19 : A.tmps[19]? = some (.int .i64 l1) := (hin 1 19 rfl).trans (congrArg some e1)
   have e3 : u 3 = .int .i64 r1 := (hd 3 (by decide) (by kernel_rfl)).2
   have x21 : A.tmps[21]? = some (.int .i64 r1) := (hin 3 21 rfl).trans (congrArg some e3)
   clear hd hev hin
   simp only [zzA, zzB]
   clear hl
   refine .inr ⟨rfl, fun K' hK => ?_⟩
   have HK := Lib.hid hK
   clear hK
   go_simp
   exact HK.out (.int .i64 (l1 + r1)) _ (hJ.grow hLi (by decide) (by decide) (Below.refl _ _)) (rfl) vyL_same
  ·
   have e4 : u 4 = .int .i64 (l1 + r1) := (hd 4 (by decide) (by kernel_rfl)).2
   have x22 : A.tmps[22]? = some (.int .i64 (l1 + r1)) := (hin 4 22 rfl).trans (congrArg some e4)
   clear hd hev hin
   simp only [zzA, zzB]
   clear hl
   refine .inr ⟨rfl, fun K' hK => ?_⟩
   have HK := Lib.hid hK
   clear hK
   go_simp
   refine (HO1.out W).mono ?_
   rintro e W' ⟨y, hyz, rfl, hy, hB⟩
   exact HK.out (.agg #[.bool y.b, .slice y.a y.n y.c]) _ (hJ.grow hLi (by decide) (by decide) hB) (⟨y.b, y.a, y.n, y.c, rfl, by rw [← hyz]; exact hy⟩) (vyL_later hB)
  ·
   have x5 : A.tmps[5]? = some (.pointer (some ⟨ka, 0, none⟩)) := (hev 5 (by decide)).trans rfl
   clear hd hev hin
   simp only [zzA, zzB]
   clear hl
   refine .inr ⟨rfl, fun K' hK => ?_⟩
   have HK := Lib.hid hK
   clear hK
   go_simp
   exact HK.out (.pointer (some ⟨ka, 1, none⟩)) _ (hJ.grow hLi (by decide) (by decide) (Below.refl _ _)) (rfl) vyL_same
  ·
   have e6 : u 6 = .pointer (some ⟨ka, 1, none⟩) := (hd 6 (by decide) (by kernel_rfl)).2
   have x24 : A.tmps[24]? = some (.pointer (some ⟨ka, 1, none⟩)) := (hin 6 24 rfl).trans (congrArg some e6)
   clear hd hev hin
   simp only [zzA, zzB]
   clear hl
   refine .inr ⟨rfl, fun K' hK => ?_⟩
   have HK := Lib.hid hK
   clear hK
   have f0 := cl3 (hJ.cm.cs.at' (ka, #[.int .i64 l1, .int .i64 l2, .bool false], 29) (.tail _ (.head _)))
   have f5 := f0.2.1
   clear f0
   go_simp
   exact HK.out (.int .i64 l2) _ (hJ.grow hLi (by decide) (by decide) (Below.refl _ _)) (rfl) vyL_same
  ·
   have x6 : A.tmps[6]? = some (.pointer (some ⟨kb, 0, none⟩)) := (hev 6 (by decide)).trans rfl
   clear hd hev hin
   simp only [zzA, zzB]
   clear hl
   refine .inr ⟨rfl, fun K' hK => ?_⟩
   have HK := Lib.hid hK
   clear hK
   go_simp
   exact HK.out (.pointer (some ⟨kb, 1, none⟩)) _ (hJ.grow hLi (by decide) (by decide) (Below.refl _ _)) (rfl) vyL_same
  ·
   have e8 : u 8 = .pointer (some ⟨kb, 1, none⟩) := (hd 8 (by decide) (by kernel_rfl)).2
   have x26 : A.tmps[26]? = some (.pointer (some ⟨kb, 1, none⟩)) := (hin 8 26 rfl).trans (congrArg some e8)
   clear hd hev hin
   simp only [zzA, zzB]
   clear hl
   refine .inr ⟨rfl, fun K' hK => ?_⟩
   have HK := Lib.hid hK
   clear hK
   have f0 := cl3 (hJ.cm.cs.at' (kb, #[.int .i64 r1, .int .i64 r2, .bool false], 29) (.head _))
   have f5 := f0.2.1
   clear f0
   go_simp
   exact HK.out (.int .i64 r2) _ (hJ.grow hLi (by decide) (by decide) (Below.refl _ _)) (rfl) vyL_same
  ·
   have e7 : u 7 = .int .i64 l2 := (hd 7 (by decide) (by kernel_rfl)).2
   have x25 : A.tmps[25]? = some (.int .i64 l2) := (hin 7 25 rfl).trans (congrArg some e7)
   have e9 : u 9 = .int .i64 r2 := (hd 9 (by decide) (by kernel_rfl)).2
   have x27 : A.tmps[27]? = some (.int .i64 r2) := (hin 9 27 rfl).trans (congrArg some e9)
   clear hd hev hin
   simp only [zzA, zzB]
   clear hl
   refine .inr ⟨rfl, fun K' hK => ?_⟩
   have HK := Lib.hid hK
   clear hK
   go_simp
   exact HK.out (.int .i64 (l2 + r2)) _ (hJ.grow hLi (by decide) (by decide) (Below.refl _ _)) (rfl) vyL_same
  ·
   have e10 : u 10 = .int .i64 (l2 + r2) := (hd 10 (by decide) (by kernel_rfl)).2
   have x28 : A.tmps[28]? = some (.int .i64 (l2 + r2)) := (hin 10 28 rfl).trans (congrArg some e10)
   clear hd hev hin
   simp only [zzA, zzB]
   clear hl
   refine .inr ⟨rfl, fun K' hK => ?_⟩
   have HK := Lib.hid hK
   clear hK
   go_simp
   refine (HO2.out W).mono ?_
   rintro e W' ⟨y, hyz, rfl, hy, hB⟩
   exact HK.out (.agg #[.bool y.b, .slice y.a y.n y.c]) _ (hJ.grow hLi (by decide) (by decide) hB) (⟨y.b, y.a, y.n, y.c, rfl, by rw [← hyz]; exact hy⟩) (vyL_later hB)
  ·
   obtain ⟨b5, a5, n5, c5, e5, g5⟩ := (show VR (l1 + r1) (u 5) W from (hd 5 (by decide) (by kernel_rfl)).2)
   have x23 : A.tmps[23]? = some (.agg #[.bool b5, .slice a5 n5 c5]) := (hin 5 23 rfl).trans (congrArg some e5)
   obtain ⟨b11, a11, n11, c11, e11, g11⟩ := (show VR (l2 + r2) (u 11) W from (hd 11 (by decide) (by kernel_rfl)).2)
   have x29 : A.tmps[29]? = some (.agg #[.bool b11, .slice a11 n11 c11]) := (hin 11 29 rfl).trans (congrArg some e11)
   clear hd hev hin
   simp only [zzA, zzB]
   clear hl
   refine .inr ⟨rfl, fun K' hK => ?_⟩
   have HK := Lib.hid hK
   clear hK
   go_simp
   refine (HT.out ⟨b5, a5, n5, c5, l1 + r1⟩ ⟨b11, a11, n11, c11, l2 + r2⟩ W g5 g11 rfl rfl).mono ?_
   rintro e W' ⟨rfl, hB⟩
   exact HK.out (.agg #[.int .i64 zz.lo, .int .i64 zz.hi, .bool zz.all]) _ (hJ.grow hLi (by decide) (by decide) hB) (rfl) (vyL_later hB)
 intro L u W hL hJ hd
 have e0 : u 0 = .pointer (some ⟨ka, 0, none⟩) := hd 0 (by decide)
 have e1 : u 1 = .int .i64 l1 := hd 1 (by decide)
 have e2 : u 2 = .pointer (some ⟨kb, 0, none⟩) := hd 2 (by decide)
 have e3 : u 3 = .int .i64 r1 := hd 3 (by decide)
 have e4 : u 4 = .int .i64 (l1 + r1) := hd 4 (by decide)
 obtain ⟨b5, a5, n5, c5, e5, g5⟩ := (show VR (l1 + r1) (u 5) W from hd 5 (by decide))
 have e6 : u 6 = .pointer (some ⟨ka, 1, none⟩) := hd 6 (by decide)
 have e7 : u 7 = .int .i64 l2 := hd 7 (by decide)
 have e8 : u 8 = .pointer (some ⟨kb, 1, none⟩) := hd 8 (by decide)
 have e9 : u 9 = .int .i64 r2 := hd 9 (by decide)
 have e10 : u 10 = .int .i64 (l2 + r2) := hd 10 (by decide)
 obtain ⟨b11, a11, n11, c11, e11, g11⟩ := (show VR (l2 + r2) (u 11) W from hd 11 (by decide))
 have e12 : u 12 = .agg #[.int .i64 zz.lo, .int .i64 zz.hi, .bool zz.all] := hd 12 (by decide)
 simp only [layS, Act.put, zzC, zzD, zzE, Nat.zero_add, Nat.reduceAdd, List.drop_succ_cons, List.drop_zero, List.drop_nil, e0, e1, e2, e3, e4, e5, e6, e7, e8, e9, e10, e11, e12]
 have hC2 := hJ.cm.cs
 have hR := cl3 (hC2.at' (w.heap.size + 2, #[.int .i64 0, .int .i64 0, .bool false], 29) (.tail _ (.tail _ (.head _))))
 have c1 := hR.1
 have c2 := hR.2.1
 have c3 := hR.2.2.1
 have c4 := hR.2.2.2.1
 have c5' := hR.2.2.2.2.1
 have c6 := hR.2.2.2.2.2
 have hf := fin3 hC2.below 2 zz
 clear hR hC2 hJ hL hJ0 hd hC g5 g11 e0 e1 e2 e3 e4 e5 e6 e7 e8 e9 e10 e11 e12
 go_wp2
 exact bodyPost_ret (v := .agg #[.int .i64 zz.lo, .int .i64 zz.hi, .bool zz.all]) (by simp [results, Tryz.results55, go_sem, c1, c2, c3]) rfl ⟨rfl, hf⟩
theorem rdAdd_any (x y : Sp) (w : World) : Calls Tryz.prog 55 #[.agg #[.int .i64 x.lo, .int .i64 x.hi, .bool x.all], .agg #[.int .i64 y.lo, .int .i64 y.hi, .bool y.all]] w (PDp (addS x y) w) := by
 cases hx : okB x
 ·
  rw [(line_no (y := y) hx).2]
  exact rdAdd_noa x y (mkS y) (fun W => by have := rRight_any x W; rwa [mkS_no hx] at this) (rRight_any y) w
 ·
  cases hy : okB y
  ·
   have e : addS x y = lineS := by
    rcases add_cases x y with e | ⟨_, _, h2, _⟩
    ·
     exact e
    ·
     rw [hy] at h2; cases h2
   rw [e]
   obtain ⟨l1, l2, a⟩ := x
   have h4 : a = false := (ok_of hx).2.2.2
   subst h4
   exact rdAdd_nob ⟨l1, l2, false⟩ y l1 l2 (fun W => by have := rRight_any ⟨l1, l2, false⟩ W; rwa [mkS_ok hx] at this) (fun W => by have := rRight_any y W; rwa [mkS_no hy] at this) w
  ·
   obtain ⟨l1, l2, a⟩ := x
   obtain ⟨r1, r2, b⟩ := y
   have h4 : a = false := (ok_of hx).2.2.2
   have h5 : b = false := (ok_of hy).2.2.2
   subst h4
   subst h5
   exact rdAdd_ok l1 l2 r1 r2 hx hy w
end Go.Proofs.YtolpfibihialkaaGreat

/- The document's spans: the walk of Mul. No statement of the seat is proved here. -/
namespace Go.Proofs.YtolpfibihialkaaGreat
open Go Go.RowKit
theorem mul_tight {x y : Sp} (hx : okB x = true) (hy : okB y = true) : mulS x y = tightS (min4 x y) (max4 x y) 1048576 := by
 have corner : ∀ a b : Int, min4 x y ≤ a * b → a * b ≤ max4 x y → ¬ (min4 x y / 1048576 < -2147483647 ∨ -max4 x y / 1048576 < -2147483647 ∨ 2147483647 < min4 x y / 1048576 ∨ 2147483647 < -max4 x y / 1048576) → okB (mulR a b) = true := by
  intro a b h1 h2 h3
  unfold mulR
  rw [okB_mk]
  generalize a * b = P at *
  generalize min4 x y = m at *
  generalize max4 x y = M at *
  exact ok_mk (by show _ ≤ P / 1048576; omega) (by show P / 1048576 ≤ -(-P / 1048576); omega) (by show -(-P / 1048576) ≤ _; omega) rfl
 unfold tightS
 rcases mul_cases x y with e | ⟨h, _, _, e⟩
 ·
  rw [e]
  by_cases g : min4 x y / 1048576 < -2147483647 ∨ -max4 x y / 1048576 < -2147483647 ∨ 2147483647 < min4 x y / 1048576 ∨ 2147483647 < -max4 x y / 1048576
  ·
   rw [if_pos g]
  ·
   exfalso
   have c : ∀ a b : Int, min4 x y ≤ a * b ∧ a * b ≤ max4 x y → okB (mulR a b) = true := fun a b h => corner a b h.1 h.2 g
   have k1 := (ok_of hx).2.1
   have k2 := (ok_of hy).2.1
   have := ends_ok (R := mulR) hx hy (c _ _ (bil (Int.le_refl _) k1 (Int.le_refl _) k2)) (c _ _ (bil (Int.le_refl _) k1 k2 (Int.le_refl _))) (c _ _ (bil k1 (Int.le_refl _) (Int.le_refl _) k2)) (c _ _ (bil k1 (Int.le_refl _) k2 (Int.le_refl _)))
   rw [show endsS mulR x y = lineS from e] at this
   cases congrArg Sp.all this
 ·
  have k := ok_of h
  rw [e] at k
  replace k : -2147483647 ≤ min4 x y / 1048576 ∧ min4 x y / 1048576 ≤ -(-max4 x y / 1048576) ∧ -(-max4 x y / 1048576) ≤ 2147483647 := ⟨k.1, k.2.1, k.2.2.1⟩
  rw [e, if_neg (by omega)]
theorem min4_bd {x y : Sp} (hx : okB x = true) (hy : okB y = true) : -9223372036854775807 ≤ min4 x y ∧ min4 x y ≤ 9223372036854775807 ∧ -9223372036854775807 ≤ max4 x y ∧ max4 x y ≤ 9223372036854775807 := by
 obtain ⟨a1, a2, a3, _⟩ := ok_of hx
 obtain ⟨b1, b2, b3, _⟩ := ok_of hy
 have m1 := mul_bd (x := x.lo) (y := y.lo) (by omega) (by omega) (by omega) (by omega)
 have m2 := mul_bd (x := x.lo) (y := y.hi) (by omega) (by omega) (by omega) (by omega)
 have m3 := mul_bd (x := x.hi) (y := y.lo) (by omega) (by omega) (by omega) (by omega)
 have m4 := mul_bd (x := x.hi) (y := y.hi) (by omega) (by omega) (by omega) (by omega)
 unfold min4 max4
 omega
set_option maxHeartbeats 1600000 in
theorem rdMul_noa (x y q : Sp) (hx : ∀ W : World, Calls Tryz.prog 74 #[.agg #[.int .i64 x.lo, .int .i64 x.hi, .bool x.all]] W (PDp ⟨0, 0, true⟩ W)) (hy : ∀ W : World, Calls Tryz.prog 74 #[.agg #[.int .i64 y.lo, .int .i64 y.hi, .bool y.all]] W (PDp q W)) (w : World) : Calls Tryz.prog 54 #[.agg #[.int .i64 x.lo, .int .i64 x.hi, .bool x.all], .agg #[.int .i64 y.lo, .int .i64 y.hi, .bool y.all]] w (PDp lineS w) := by
 have HX := Lib.hid hx
 have HY := Lib.hid hy
 clear hx hy
 go_enter Tryz.func54, Tryz.ntmps54
 go_wp2_with fail
 have hC := (((cs_nil w).new #[.int .i64 x.lo, .int .i64 x.hi, .bool x.all] 29).new #[.int .i64 y.lo, .int .i64 y.hi, .bool y.all] 29).new #[.int .i64 0, .int .i64 0, .bool false] 29
 rw [show ((w.alloc (.cells #[.int .i64 x.lo, .int .i64 x.hi, .bool x.all] 29)).alloc (.cells #[.int .i64 y.lo, .int .i64 y.hi, .bool y.all] 29)).heap.size = w.heap.size + 2 by simp, show (w.alloc (.cells #[.int .i64 x.lo, .int .i64 x.hi, .bool x.all] 29)).heap.size = w.heap.size + 1 by simp] at hC
 generalize ((w.alloc (.cells #[.int .i64 x.lo, .int .i64 x.hi, .bool x.all] 29)).alloc (.cells #[.int .i64 y.lo, .int .i64 y.hi, .bool y.all] 29)).alloc (.cells #[.int .i64 0, .int .i64 0, .bool false] 29) = w1 at *
 refine (HX.out _).mono ?_
 rintro e w2 ⟨rfl, hB⟩
 replace hC := hC.later hB
 clear hB
 replace hC := hC.new #[.int .i64 0, .int .i64 0, .bool true] 29
 have f0 := cl3 (hC.at' (w.heap.size + 1, #[.int .i64 y.lo, .int .i64 y.hi, .bool y.all], 29) (.tail _ (.tail _ (.head _))))
 have f5 := f0.1
 have f6 := f0.2.1
 have f7 := f0.2.2.1
 clear f0
 go_wp2_with fail
 generalize w2.alloc (.cells #[.int .i64 0, .int .i64 0, .bool true] 29) = w2' at *
 generalize w2.heap.size = ka at *
 clear f5 f6 f7
 refine (HY.out _).mono ?_
 rintro e w3 ⟨rfl, hB⟩
 replace hC := hC.later hB
 have hD : D3 w3 (w.heap.size + 2) ⟨0, 0, false⟩ := hC.at' _ (.tail _ (.head _))
 have hlt : w.heap.size + 2 < w3.heap.size := hC.lt _ (.tail _ (.head _))
 have hltk : ka < w3.heap.size := hC.lt _ (.head _)
 have hA := cl3 (hC.at' (ka, #[.int .i64 0, .int .i64 0, .bool true], 29) (.head _))
 have a3 := hA.2.2.1
 have hb := hC.below
 have c1 := hD.cells.1
 have c2 := hD.cells.2.1
 have c3 := hD.cells.2.2.1
 have c4 := hD.cells.2.2.2.1
 have c5 := hD.cells.2.2.2.2.1
 have c6 := hD.cells.2.2.2.2.2
 have h1 : Below w.heap.size w (((w3.setCell ⟨w.heap.size + 2, 0, none⟩ (.int .i64 0)).setCell ⟨w.heap.size + 2, 1, none⟩ (.int .i64 0)).setCell ⟨w.heap.size + 2, 2, none⟩ (.bool true)) := fin3 hb 2 ⟨0, 0, true⟩
 have hf : Below w.heap.size w (((((w3.setCell ⟨w.heap.size + 2, 0, none⟩ (.int .i64 0)).setCell ⟨w.heap.size + 2, 1, none⟩ (.int .i64 0)).setCell ⟨w.heap.size + 2, 2, none⟩ (.bool true))).alloc (.cells #[.int .i64 q.lo, .int .i64 q.hi, .bool q.all] 29)) := h1.alloc h1.size _
 have hd : D3 (((((w3.setCell ⟨w.heap.size + 2, 0, none⟩ (.int .i64 0)).setCell ⟨w.heap.size + 2, 1, none⟩ (.int .i64 0)).setCell ⟨w.heap.size + 2, 2, none⟩ (.bool true))).alloc (.cells #[.int .i64 q.lo, .int .i64 q.hi, .bool q.all] 29)) (w.heap.size + 2) ⟨0, 0, true⟩ := (hD.self ⟨0, 0, true⟩).below ((Below.refl _ _).alloc (Nat.le_refl _) _)
 have k1 := hd.cells.1
 have k2 := hd.cells.2.1
 have k3 := hd.cells.2.2.1
 clear hC hB hD h1 hd hA
 go_wp2
 exact bodyPost_ret (v := .agg #[.int .i64 lineS.lo, .int .i64 lineS.hi, .bool lineS.all]) (by simp [results, Tryz.results54, go_sem, k1, k2, k3, lineS]) rfl ⟨rfl, hf⟩
set_option maxHeartbeats 1600000 in
theorem rdMul_nob (x y : Sp) (l1 l2 : Int) (hx : ∀ W : World, Calls Tryz.prog 74 #[.agg #[.int .i64 x.lo, .int .i64 x.hi, .bool x.all]] W (PDp ⟨l1, l2, false⟩ W)) (hy : ∀ W : World, Calls Tryz.prog 74 #[.agg #[.int .i64 y.lo, .int .i64 y.hi, .bool y.all]] W (PDp ⟨0, 0, true⟩ W)) (w : World) : Calls Tryz.prog 54 #[.agg #[.int .i64 x.lo, .int .i64 x.hi, .bool x.all], .agg #[.int .i64 y.lo, .int .i64 y.hi, .bool y.all]] w (PDp lineS w) := by
 have HX := Lib.hid hx
 have HY := Lib.hid hy
 clear hx hy
 go_enter Tryz.func54, Tryz.ntmps54
 go_wp2_with fail
 have hC := (((cs_nil w).new #[.int .i64 x.lo, .int .i64 x.hi, .bool x.all] 29).new #[.int .i64 y.lo, .int .i64 y.hi, .bool y.all] 29).new #[.int .i64 0, .int .i64 0, .bool false] 29
 rw [show ((w.alloc (.cells #[.int .i64 x.lo, .int .i64 x.hi, .bool x.all] 29)).alloc (.cells #[.int .i64 y.lo, .int .i64 y.hi, .bool y.all] 29)).heap.size = w.heap.size + 2 by simp, show (w.alloc (.cells #[.int .i64 x.lo, .int .i64 x.hi, .bool x.all] 29)).heap.size = w.heap.size + 1 by simp] at hC
 generalize ((w.alloc (.cells #[.int .i64 x.lo, .int .i64 x.hi, .bool x.all] 29)).alloc (.cells #[.int .i64 y.lo, .int .i64 y.hi, .bool y.all] 29)).alloc (.cells #[.int .i64 0, .int .i64 0, .bool false] 29) = w1 at *
 refine (HX.out _).mono ?_
 rintro e w2 ⟨rfl, hB⟩
 replace hC := hC.later hB
 clear hB
 replace hC := hC.new #[.int .i64 l1, .int .i64 l2, .bool false] 29
 have f0 := cl3 (hC.at' (w.heap.size + 1, #[.int .i64 y.lo, .int .i64 y.hi, .bool y.all], 29) (.tail _ (.tail _ (.head _))))
 have f5 := f0.1
 have f6 := f0.2.1
 have f7 := f0.2.2.1
 clear f0
 go_wp2_with fail
 generalize w2.alloc (.cells #[.int .i64 l1, .int .i64 l2, .bool false] 29) = w2' at *
 generalize w2.heap.size = ka at *
 clear f5 f6 f7
 refine (HY.out _).mono ?_
 rintro e w3 ⟨rfl, hB⟩
 replace hC := hC.later hB
 have hD : D3 w3 (w.heap.size + 2) ⟨0, 0, false⟩ := hC.at' _ (.tail _ (.head _))
 have hlt : w.heap.size + 2 < w3.heap.size := hC.lt _ (.tail _ (.head _))
 have hltk : ka < w3.heap.size := hC.lt _ (.head _)
 have hA := cl3 (hC.at' (ka, #[.int .i64 l1, .int .i64 l2, .bool false], 29) (.head _))
 have a3 := hA.2.2.1
 have hb := hC.below
 have c1 := hD.cells.1
 have c2 := hD.cells.2.1
 have c3 := hD.cells.2.2.1
 have c4 := hD.cells.2.2.2.1
 have c5 := hD.cells.2.2.2.2.1
 have c6 := hD.cells.2.2.2.2.2
 have h1 : Below w.heap.size w (((w3.setCell ⟨w.heap.size + 2, 0, none⟩ (.int .i64 0)).setCell ⟨w.heap.size + 2, 1, none⟩ (.int .i64 0)).setCell ⟨w.heap.size + 2, 2, none⟩ (.bool true)) := fin3 hb 2 ⟨0, 0, true⟩
 have hf : Below w.heap.size w (((((w3.setCell ⟨w.heap.size + 2, 0, none⟩ (.int .i64 0)).setCell ⟨w.heap.size + 2, 1, none⟩ (.int .i64 0)).setCell ⟨w.heap.size + 2, 2, none⟩ (.bool true))).alloc (.cells #[.int .i64 0, .int .i64 0, .bool true] 29)) := h1.alloc h1.size _
 have hd : D3 (((((w3.setCell ⟨w.heap.size + 2, 0, none⟩ (.int .i64 0)).setCell ⟨w.heap.size + 2, 1, none⟩ (.int .i64 0)).setCell ⟨w.heap.size + 2, 2, none⟩ (.bool true))).alloc (.cells #[.int .i64 0, .int .i64 0, .bool true] 29)) (w.heap.size + 2) ⟨0, 0, true⟩ := (hD.self ⟨0, 0, true⟩).below ((Below.refl _ _).alloc (Nat.le_refl _) _)
 have k1 := hd.cells.1
 have k2 := hd.cells.2.1
 have k3 := hd.cells.2.2.1
 clear hC hB hD h1 hd hA
 go_wp2
 exact bodyPost_ret (v := .agg #[.int .i64 lineS.lo, .int .i64 lineS.hi, .bool lineS.all]) (by simp [results, Tryz.results54, go_sem, k1, k2, k3, lineS]) rfl ⟨rfl, hf⟩
set_option maxRecDepth 100000 in
set_option maxHeartbeats 3200000 in
theorem rdMul_ok (l1 l2 r1 r2 : Int) (hx : okB ⟨l1, l2, false⟩ = true) (hy : okB ⟨r1, r2, false⟩ = true) (w : World) : Calls Tryz.prog 54 #[.agg #[.int .i64 l1, .int .i64 l2, .bool false], .agg #[.int .i64 r1, .int .i64 r2, .bool false]] w (PDp (mulS ⟨l1, l2, false⟩ ⟨r1, r2, false⟩) w) := by
 have HX : Hid (∀ W : World, Calls Tryz.prog 74 #[.agg #[.int .i64 l1, .int .i64 l2, .bool false]] W (PDp ⟨l1, l2, false⟩ W)) := show ∀ W : World, _ from fun W => by have := rRight_any ⟨l1, l2, false⟩ W; rwa [mkS_ok hx] at this
 have HY : Hid (∀ W : World, Calls Tryz.prog 74 #[.agg #[.int .i64 r1, .int .i64 r2, .bool false]] W (PDp ⟨r1, r2, false⟩ W)) := show ∀ W : World, _ from fun W => by have := rRight_any ⟨r1, r2, false⟩ W; rwa [mkS_ok hy] at this
 have HM := Lib.hid (mul_tight hx hy)
 have HBd := Lib.hid (min4_bd hx hy)
 have kx := ok_of hx
 have ky := ok_of hy
 have HF := Lib.hid (fun W => four_any ⟨l1, l2, false⟩ ⟨r1, r2, false⟩ W kx.1 (Int.le_trans kx.2.1 kx.2.2.1) (Int.le_trans kx.1 kx.2.1) kx.2.2.1 ky.1 (Int.le_trans ky.2.1 ky.2.2.1) (Int.le_trans ky.1 ky.2.1) ky.2.2.1)
 generalize mulS ⟨l1, l2, false⟩ ⟨r1, r2, false⟩ = zz at *
 generalize min4 ⟨l1, l2, false⟩ ⟨r1, r2, false⟩ = mn at *
 generalize max4 ⟨l1, l2, false⟩ ⟨r1, r2, false⟩ = mx at *
 clear kx ky hx hy
 go_enter Tryz.func54, Tryz.ntmps54
 go_wp2_with fail
 have hC := (((cs_nil w).new #[.int .i64 l1, .int .i64 l2, .bool false] 29).new #[.int .i64 r1, .int .i64 r2, .bool false] 29).new #[.int .i64 0, .int .i64 0, .bool false] 29
 rw [show ((w.alloc (.cells #[.int .i64 l1, .int .i64 l2, .bool false] 29)).alloc (.cells #[.int .i64 r1, .int .i64 r2, .bool false] 29)).heap.size = w.heap.size + 2 by simp, show (w.alloc (.cells #[.int .i64 l1, .int .i64 l2, .bool false] 29)).heap.size = w.heap.size + 1 by simp] at hC
 generalize ((w.alloc (.cells #[.int .i64 l1, .int .i64 l2, .bool false] 29)).alloc (.cells #[.int .i64 r1, .int .i64 r2, .bool false] 29)).alloc (.cells #[.int .i64 0, .int .i64 0, .bool false] 29) = w1 at *
 refine (HX.out _).mono ?_
 rintro e w2 ⟨rfl, hB⟩
 replace hC := hC.later hB
 clear hB
 replace hC := hC.new #[.int .i64 l1, .int .i64 l2, .bool false] 29
 have f0 := cl3 (hC.at' (w.heap.size + 1, #[.int .i64 r1, .int .i64 r2, .bool false], 29) (.tail _ (.tail _ (.head _))))
 have f5 := f0.1
 have f6 := f0.2.1
 have f7 := f0.2.2.1
 clear f0
 go_wp2_with fail
 generalize w2.alloc (.cells #[.int .i64 l1, .int .i64 l2, .bool false] 29) = w2' at *
 generalize w2.heap.size = ka at *
 clear f5 f6 f7
 refine (HY.out _).mono ?_
 rintro e w3 ⟨rfl, hB⟩
 replace hC := (hC.later hB).new #[.int .i64 r1, .int .i64 r2, .bool false] 29
 clear hB
 have f0 := cl3 (hC.at' (ka, #[.int .i64 l1, .int .i64 l2, .bool false], 29) (.tail _ (.head _)))
 have f5 := f0.1
 have f6 := f0.2.1
 have f7 := f0.2.2.1
 clear f0
 go_wp2_with fail
 generalize w3.alloc (.cells #[.int .i64 r1, .int .i64 r2, .bool false] 29) = w4 at *
 generalize w3.heap.size = kb at *
 clear f5 f6 f7
 refine (HF.out _).mono ?_
 rintro e w5 ⟨p, q, zp, zq, rfl, hp, hq, hB⟩
 replace hC := ((((hC.later hB).more hq).more hp).new #[.bool p.b, .slice p.a p.n p.c] 82).new #[.bool q.b, .slice q.a q.n q.c] 82
 rw [show (w5.alloc (.cells #[.bool p.b, .slice p.a p.n p.c] 82)).heap.size = w5.heap.size + 1 by simp] at hC
 clear hB hp hq
 go_wp2_with fail
 generalize (w5.alloc (.cells #[.bool p.b, .slice p.a p.n p.c] 82)).alloc (.cells #[.bool q.b, .slice q.a q.n q.c] 82) = w6 at *
 have gp := hC.num p (.head _)
 have gq := hC.num q (.tail _ (.head _))
 refine (show Calls Tryz.prog 76 _ w6 (PDp zz w6) by have := tight_any p q 1048576 w6 gp gq (.inr rfl) (by rw [zp]; exact HBd.out.1) (by rw [zp]; exact HBd.out.2.1) (by rw [zq]; exact HBd.out.2.2.1) (by rw [zq]; exact HBd.out.2.2.2); rwa [zp, zq, ← HM.out] at this).mono ?_
 rintro e w9 ⟨rfl, hB⟩
 replace hC := hC.later hB
 have hR := cl3 (hC.at' (w.heap.size + 2, #[.int .i64 0, .int .i64 0, .bool false], 29) (.tail _ (.tail _ (.tail _ (.tail _ (.head _))))))
 have c1 := hR.1
 have c2 := hR.2.1
 have c3 := hR.2.2.1
 have c4 := hR.2.2.2.1
 have c5 := hR.2.2.2.2.1
 have c6 := hR.2.2.2.2.2
 have hf := fin3 hC.below 2 zz
 clear hR hB hC gp gq
 go_wp2
 exact bodyPost_ret (v := .agg #[.int .i64 zz.lo, .int .i64 zz.hi, .bool zz.all]) (by simp [results, Tryz.results54, go_sem, c1, c2, c3]) rfl ⟨rfl, hf⟩
theorem rdMul_any (x y : Sp) (w : World) : Calls Tryz.prog 54 #[.agg #[.int .i64 x.lo, .int .i64 x.hi, .bool x.all], .agg #[.int .i64 y.lo, .int .i64 y.hi, .bool y.all]] w (PDp (mulS x y) w) := by
 cases hx : okB x
 ·
  rw [(line_no (y := y) hx).1]
  exact rdMul_noa x y (mkS y) (fun W => by have := rRight_any x W; rwa [mkS_no hx] at this) (rRight_any y) w
 ·
  cases hy : okB y
  ·
   have e : mulS x y = lineS := by
    rcases mul_cases x y with e | ⟨_, _, h2, _⟩
    ·
     exact e
    ·
     rw [hy] at h2; cases h2
   rw [e]
   obtain ⟨l1, l2, a⟩ := x
   have h4 : a = false := (ok_of hx).2.2.2
   subst h4
   exact rdMul_nob ⟨l1, l2, false⟩ y l1 l2 (fun W => by have := rRight_any ⟨l1, l2, false⟩ W; rwa [mkS_ok hx] at this) (fun W => by have := rRight_any y W; rwa [mkS_no hy] at this) w
  ·
   obtain ⟨l1, l2, a⟩ := x
   obtain ⟨r1, r2, b⟩ := y
   have h4 : a = false := (ok_of hx).2.2.2
   have h5 : b = false := (ok_of hy).2.2.2
   subst h4
   subst h5
   exact rdMul_ok l1 l2 r1 r2 hx hy w
end Go.Proofs.YtolpfibihialkaaGreat

/- Vectors of three spans, as numbers (no walk). No statement of the seat is proved here. -/
namespace Go.Proofs.YtolpfibihialkaaGreat
open Go.RowKit
/-- A vector, by its parts. -/
structure Vc where
 x : Sp
 y : Sp
 z : Sp
def sumV (v : Vc) : Sp := addS (addS v.x v.y) v.z
def mulV (v w : Vc) : Vc := ⟨mulS v.x w.x, mulS v.y w.y, mulS v.z w.z⟩
def dotV (v w : Vc) : Sp := sumV (mulV v w)
def crossV (v w : Vc) : Vc := ⟨subS (mulS v.y w.z) (mulS v.z w.y), subS (mulS v.z w.x) (mulS v.x w.z), subS (mulS v.x w.y) (mulS v.y w.x)⟩
def sqrV (v : Vc) : Vc := ⟨sqrS v.x, sqrS v.y, sqrS v.z⟩
def normV (v : Vc) : Sp := sumV (sqrV v)
def inV (v w : Vc) : Bool := inB v.x w.x && (inB v.y w.y && inB v.z w.z)
def radV (v : Vc) : Int := max (max (radS v.x) (radS v.y)) (radS v.z)
def ofV (a b c : Int) : Vc := ⟨ofS a a, ofS b b, ofS c c⟩
def oneS : Sp := ⟨1048576, 1048576, false⟩
theorem mul_one (x : Sp) : mulS x oneS = mkS x := by
 cases hx : okB x
 ·
  rw [mkS_no hx]; exact ends_no (by rw [hx]; rfl)
 ·
  have k := ok_of hx
  rw [mkS_ok hx, mul_tight hx rfl]
  unfold tightS min4 max4 oneS
  have e : ∀ a b : Int, min a a = a ∧ max a a = a := fun a b => by omega
  rw [if_neg (by dsimp only; omega)]
  obtain ⟨l, h, a⟩ := x
  dsimp only at *
  rw [k.2.2.2]
  congr 1 <;> omega
end Go.Proofs.YtolpfibihialkaaGreat

/- Turns, as numbers (no walk): the true turn is in what is enclosed. No statement of the seat is proved here. -/
namespace Go.Proofs.YtolpfibihialkaaGreat
open Go.RowKit
/-- A turn, by its rows. -/
structure Tu where
 a : Vc
 b : Vc
 c : Vc
def idT : Tu := ⟨⟨ofS 1048576 1048576, ofS 0 0, ofS 0 0⟩, ⟨ofS 0 0, ofS 1048576 1048576, ofS 0 0⟩, ⟨ofS 0 0, ofS 0 0, ofS 1048576 1048576⟩⟩
def turnT (r : Tu) : Tu := ⟨⟨r.a.x, r.b.x, r.c.x⟩, ⟨r.a.y, r.b.y, r.c.y⟩, ⟨r.a.z, r.b.z, r.c.z⟩⟩
def appT (r : Tu) (v : Vc) : Vc := ⟨dotV r.a v, dotV r.b v, dotV r.c v⟩
def mulT (r q : Tu) : Tu := ⟨⟨dotV r.a (turnT q).a, dotV r.a (turnT q).b, dotV r.a (turnT q).c⟩, ⟨dotV r.b (turnT q).a, dotV r.b (turnT q).b, dotV r.b (turnT q).c⟩, ⟨dotV r.c (turnT q).a, dotV r.c (turnT q).b, dotV r.c (turnT q).c⟩⟩
def detT (r : Tu) : Sp := dotV r.a (crossV r.b r.c)
def inT (r q : Tu) : Bool := inV r.a q.a && (inV r.b q.b && inV r.c q.c)
def radT (r : Tu) : Int := max (max (radV r.a) (radV r.b)) (radV r.c)
def acrT (w : Vc) : Tu := ⟨⟨ofS 0 0, negS w.z, w.y⟩, ⟨w.z, ofS 0 0, negS w.x⟩, ⟨negS w.y, w.x, ofS 0 0⟩⟩
def twiT (w : Vc) : Tu := ⟨⟨negS (addS (sqrS w.y) (sqrS w.z)), mulS w.x w.y, mulS w.x w.z⟩, ⟨mulS w.x w.y, negS (addS (sqrS w.x) (sqrS w.z)), mulS w.y w.z⟩, ⟨mulS w.x w.z, mulS w.y w.z, negS (addS (sqrS w.x) (sqrS w.y))⟩⟩
def plcS (i a k b l : Sp) : Sp := addS (addS i (mulS a k)) (mulS b l)
def plcV (i : Vc) (a : Sp) (k : Vc) (b : Sp) (l : Vc) : Vc := ⟨plcS i.x a k.x b l.x, plcS i.y a k.y b l.y, plcS i.z a k.z b l.z⟩
def plcT (i : Tu) (a : Sp) (k : Tu) (b : Sp) (l : Tu) : Tu := ⟨plcV i.a a k.a b l.a, plcV i.b a k.b b l.b, plcV i.c a k.c b l.c⟩
def expT (w : Vc) : Tu := plcT idT (encS 1 (normV w)) (acrT w) (encS 2 (normV w)) (twiT w)
/-- Numbers at the places. -/
structure V3 where
 x : Int
 y : Int
 z : Int
structure M3 where
 a : V3
 b : V3
 c : V3
end Go.Proofs.YtolpfibihialkaaGreat

/- Turns in memory: cells told by names. No statement of the seat is proved here. -/
namespace Go.Proofs.YtolpfibihialkaaGreat
open Go Go.RowKit
def cS (x : Sp) : Array Value := #[.int .i64 x.lo, .int .i64 x.hi, .bool x.all]
def cV (v : Vc) : Array Value := #[.int .i64 v.x.lo, .int .i64 v.x.hi, .bool v.x.all, .int .i64 v.y.lo, .int .i64 v.y.hi, .bool v.y.all, .int .i64 v.z.lo, .int .i64 v.z.hi, .bool v.z.all]
def cT (r : Tu) : Array Value := #[.int .i64 r.a.x.lo, .int .i64 r.a.x.hi, .bool r.a.x.all, .int .i64 r.a.y.lo, .int .i64 r.a.y.hi, .bool r.a.y.all, .int .i64 r.a.z.lo, .int .i64 r.a.z.hi, .bool r.a.z.all,
 .int .i64 r.b.x.lo, .int .i64 r.b.x.hi, .bool r.b.x.all, .int .i64 r.b.y.lo, .int .i64 r.b.y.hi, .bool r.b.y.all, .int .i64 r.b.z.lo, .int .i64 r.b.z.hi, .bool r.b.z.all,
 .int .i64 r.c.x.lo, .int .i64 r.c.x.hi, .bool r.c.x.all, .int .i64 r.c.y.lo, .int .i64 r.c.y.hi, .bool r.c.y.all, .int .i64 r.c.z.lo, .int .i64 r.c.z.hi, .bool r.c.z.all]
def zS : Sp := ⟨0, 0, false⟩
def zV : Vc := ⟨zS, zS, zS⟩
def zT : Tu := ⟨zV, zV, zV⟩
def atV (v : Vc) : Nat → Sp
 | 0 => v.x
 | 1 => v.y
 | _ => v.z
def rowT (r : Tu) : Nat → Vc
 | 0 => r.a
 | 1 => r.b
 | _ => r.c
def atT (r : Tu) (i j : Nat) : Sp := atV (rowT r i) j
theorem cT_row (r : Tu) {i : Nat} (hi : i < 3) : (cT r).extract (i * 9) (i * 9 + 9) = cV (rowT r i) := by
 rcases (by omega : i = 0 ∨ i = 1 ∨ i = 2) with rfl | rfl | rfl <;> kernel_rfl
theorem cT_at (r : Tu) {i j : Nat} (hi : i < 3) (hj : j < 3) : (cT r).extract (i * 9 + j * 3) (i * 9 + j * 3 + 3) = cS (atT r i j) := by
 rcases (by omega : i = 0 ∨ i = 1 ∨ i = 2) with rfl | rfl | rfl <;> rcases (by omega : j = 0 ∨ j = 1 ∨ j = 2) with rfl | rfl | rfl <;> kernel_rfl
theorem cT_le (r : Tu) {i j : Nat} (hi : i < 3) (hj : j < 3) : i * 9 + j * 3 + 3 ≤ (cT r).size := by show _ ≤ 27; omega
theorem cT_le9 (r : Tu) {i : Nat} (hi : i < 3) : i * 9 + 9 ≤ (cT r).size := by show _ ≤ 27; omega
theorem run_ixT (b : Nat) {i : Nat} (hi : i < 3) (W : World) : (Instr.indexAt 27 (.pointer (some ⟨b, 0, none⟩)) (.int .i64 (i : Int))).run Tryz.prog W = .ok (.pointer (some ⟨b, i * 9, none⟩)) W := by
 rcases (by omega : i = 0 ∨ i = 1 ∨ i = 2) with rfl | rfl | rfl <;> kernel_rfl
theorem run_ixV (b off : Nat) {j : Nat} (hj : j < 3) (W : World) : (Instr.indexAt 25 (.pointer (some ⟨b, off, none⟩)) (.int .i64 (j : Int))).run Tryz.prog W = .ok (.pointer (some ⟨b, off + j * 3, none⟩)) W := by
 rcases (by omega : j = 0 ∨ j = 1 ∨ j = 2) with rfl | rfl | rfl <;> kernel_rfl
theorem zv27 (W : World) : (zeroValue 27).run Tryz.prog W = .ok (.agg (cT zT)) W := by kernel_rfl
theorem sz27 (W : World) : (sizeOf 27).run Tryz.prog W = .ok 27 W := by kernel_rfl
theorem ag27 (W : World) : (isAgg 27).run Tryz.prog W = .ok true W := by kernel_rfl
theorem ag25 (W : World) : (isAgg 25).run Tryz.prog W = .ok true W := by kernel_rfl
theorem ag23 (W : World) : (isAgg 23).run Tryz.prog W = .ok true W := by kernel_rfl
theorem ag4 (W : World) : (isAgg 4).run Tryz.prog W = .ok false W := by kernel_rfl
theorem ag2 (W : World) : (isAgg 2).run Tryz.prog W = .ok false W := by kernel_rfl
end Go.Proofs.YtolpfibihialkaaGreat

/- Arrays of three in memory. No statement of the seat is proved here. -/
namespace Go.Proofs.YtolpfibihialkaaGreat
open Go Go.RowKit
theorem ag24 (W : World) : (isAgg 24).run Tryz.prog W = .ok true W := by kernel_rfl
theorem ag64 (W : World) : (isAgg 64).run Tryz.prog W = .ok true W := by kernel_rfl
theorem ag68 (W : World) : (isAgg 68).run Tryz.prog W = .ok true W := by kernel_rfl
end Go.Proofs.YtolpfibihialkaaGreat

/- The document's vectors in memory. No statement of the seat is proved here. -/
namespace Go.Proofs.YtolpfibihialkaaGreat
open Go Go.RowKit
theorem ag31 (W : World) : (isAgg 31).run Tryz.prog W = .ok true W := by kernel_rfl
theorem ag29 (W : World) : (isAgg 29).run Tryz.prog W = .ok true W := by kernel_rfl
end Go.Proofs.YtolpfibihialkaaGreat

/- Package vec: the walks of both, each, sum, from. No statement of the seat is proved here. -/
namespace Go.Proofs.YtolpfibihialkaaGreat
open Go Go.RowKit
theorem run_vix0 (a0 b0 : Int) (c0 : Bool) (a1 b1 : Int) (c1 : Bool) (a2 b2 : Int) (c2 : Bool) (W : World) : Sem.run Tryz.prog (Instr.index 25 (.agg #[.int .i64 a0, .int .i64 b0, .bool c0, .int .i64 a1, .int .i64 b1, .bool c1, .int .i64 a2, .int .i64 b2, .bool c2]) (.int .i64 0)) W = .ok (.agg #[.int .i64 a0, .int .i64 b0, .bool c0]) W := by kernel_rfl
theorem run_vix1 (a0 b0 : Int) (c0 : Bool) (a1 b1 : Int) (c1 : Bool) (a2 b2 : Int) (c2 : Bool) (W : World) : Sem.run Tryz.prog (Instr.index 25 (.agg #[.int .i64 a0, .int .i64 b0, .bool c0, .int .i64 a1, .int .i64 b1, .bool c1, .int .i64 a2, .int .i64 b2, .bool c2]) (.int .i64 1)) W = .ok (.agg #[.int .i64 a1, .int .i64 b1, .bool c1]) W := by kernel_rfl
theorem run_vix2 (a0 b0 : Int) (c0 : Bool) (a1 b1 : Int) (c1 : Bool) (a2 b2 : Int) (c2 : Bool) (W : World) : Sem.run Tryz.prog (Instr.index 25 (.agg #[.int .i64 a0, .int .i64 b0, .bool c0, .int .i64 a1, .int .i64 b1, .bool c1, .int .i64 a2, .int .i64 b2, .bool c2]) (.int .i64 2)) W = .ok (.agg #[.int .i64 a2, .int .i64 b2, .bool c2]) W := by kernel_rfl
attribute [local go_sem] run_vix0 run_vix1 run_vix2
theorem run_vbuild (a0 b0 : Int) (c0 : Bool) (a1 b1 : Int) (c1 : Bool) (a2 b2 : Int) (c2 : Bool) (W : World) : Sem.run Tryz.prog (Instr.build 25 #[(0, .agg #[.int .i64 a0, .int .i64 b0, .bool c0]), (1, .agg #[.int .i64 a1, .int .i64 b1, .bool c1]), (2, .agg #[.int .i64 a2, .int .i64 b2, .bool c2])]) W = .ok (.agg #[.int .i64 a0, .int .i64 b0, .bool c0, .int .i64 a1, .int .i64 b1, .bool c1, .int .i64 a2, .int .i64 b2, .bool c2]) W := by kernel_rfl
theorem run_dbuild (a0 b0 : Int) (c0 : Bool) (a1 b1 : Int) (c1 : Bool) (a2 b2 : Int) (c2 : Bool) (W : World) : Sem.run Tryz.prog (Instr.build 31 #[(0, .agg #[.int .i64 a0, .int .i64 b0, .bool c0]), (1, .agg #[.int .i64 a1, .int .i64 b1, .bool c1]), (2, .agg #[.int .i64 a2, .int .i64 b2, .bool c2])]) W = .ok (.agg #[.int .i64 a0, .int .i64 b0, .bool c0, .int .i64 a1, .int .i64 b1, .bool c1, .int .i64 a2, .int .i64 b2, .bool c2]) W := by kernel_rfl
attribute [local go_sem ↓] run_vbuild run_dbuild
end Go.Proofs.YtolpfibihialkaaGreat
