/- The document's spans: the walk of Div. No statement of the seat is proved here. -/
import Derived.Test.YtpahkpcoinbgcaaKdq
import Derived.Test.YtpahkpcoinbgcaaKmu
namespace Go.Proofs.Ytpahkpcoinbgcaa
open Go Go.RowKit

theorem run_mn4 {P : Program} (w : World) (ts : Array TypeId) (t : TypeId) (a b c d : Int) : (Builtin.min_ ts t #[.int .i64 a, .int .i64 b, .int .i64 c, .int .i64 d]).run P w = .ok (.int .i64 (min (min (min a b) c) d)) w := by
  have e : ∀ x y : Int, (if y < x then y else x) = min x y := fun x y => by
    rw [Int.min_def]
    split <;> split <;> omega
  simp [Builtin.min_, Builtin.min2, e]
theorem run_mx4 {P : Program} (w : World) (ts : Array TypeId) (t : TypeId) (a b c d : Int) : (Builtin.max_ ts t #[.int .i64 a, .int .i64 b, .int .i64 c, .int .i64 d]).run P w = .ok (.int .i64 (max (max (max a b) c) d)) w := by
  have e : ∀ x y : Int, (if y > x then y else x) = max x y := fun x y => by
    rw [Int.max_def]
    split <;> split <;> omega
  simp [Builtin.max_, Builtin.max2, e]
theorem flo_le {a b : Int} (hb : b ≠ 0) : flo a b ≤ -flo (-a) b := by
  rcases Int.lt_or_gt_of_ne hb with h | h
  · rw [flo_neg h, flo_neg h]
    have h1 := Int.ediv_mul_le (-a) (b := -b) (by omega)
    have h2 := Int.ediv_mul_le (- -a) (b := -b) (by omega)
    refine le_of_mul (u := -b) ?_ (by omega)
    rw [Int.neg_mul]
    omega
  · rw [flo_pos h, flo_pos h]
    have h1 := Int.ediv_mul_le a (b := b) (by omega)
    have h2 := Int.ediv_mul_le (-a) (b := b) (by omega)
    refine le_of_mul (u := b) ?_ h
    rw [Int.neg_mul]
    omega
theorem div_tight {x y : Sp} (hx : okB x = true) (hy : okB y = true) (hz : ¬ (y.lo ≤ 0 ∧ 0 ≤ y.hi)) : divS x y = tightS (min (min (min (flo (x.lo * 1048576) y.lo) (flo (x.lo * 1048576) y.hi)) (flo (x.hi * 1048576) y.lo)) (flo (x.hi * 1048576) y.hi)) (max (max (max (-flo (-(x.lo * 1048576)) y.lo) (-flo (-(x.lo * 1048576)) y.hi)) (-flo (-(x.hi * 1048576)) y.lo)) (-flo (-(x.hi * 1048576)) y.hi)) 1 := by
  have e0 : divS x y = endsS divR x y := by
    unfold divS
    rw [if_neg]
    unfold hasB
    rw [hy]
    simpa using hz
  have ky := (ok_of hy).2.1
  have n1 : y.lo ≠ 0 := by omega
  have n2 : y.hi ≠ 0 := by omega
  have f1 := flo_le (a := x.lo * 1048576) n1
  have f2 := flo_le (a := x.lo * 1048576) n2
  have f3 := flo_le (a := x.hi * 1048576) n1
  have f4 := flo_le (a := x.hi * 1048576) n2
  rw [e0]
  unfold tightS
  rw [Int.ediv_one, Int.ediv_one, Int.neg_neg]
  rcases ends_cases divR x y with e | ⟨h, _, _, o1, o2, o3, o4, e⟩
  · rw [e]
    by_cases g : min (min (min (flo (x.lo * 1048576) y.lo) (flo (x.lo * 1048576) y.hi)) (flo (x.hi * 1048576) y.lo)) (flo (x.hi * 1048576) y.hi) < -2147483647 ∨ -(max (max (max (-flo (-(x.lo * 1048576)) y.lo) (-flo (-(x.lo * 1048576)) y.hi)) (-flo (-(x.hi * 1048576)) y.lo)) (-flo (-(x.hi * 1048576)) y.hi)) < -2147483647 ∨ 2147483647 < min (min (min (flo (x.lo * 1048576) y.lo) (flo (x.lo * 1048576) y.hi)) (flo (x.hi * 1048576) y.lo)) (flo (x.hi * 1048576) y.hi) ∨ 2147483647 < -(max (max (max (-flo (-(x.lo * 1048576)) y.lo) (-flo (-(x.lo * 1048576)) y.hi)) (-flo (-(x.hi * 1048576)) y.lo)) (-flo (-(x.hi * 1048576)) y.hi))
    · rw [if_pos g]
    · exfalso
      have c : ∀ a b : Int, -2147483647 ≤ flo (a * 1048576) b → flo (a * 1048576) b ≤ -flo (-(a * 1048576)) b → -flo (-(a * 1048576)) b ≤ 2147483647 → okB (divR a b) = true := by
        intro a b q1 q2 q3
        unfold divR
        rw [okB_mk]
        exact ok_mk q1 q2 q3 rfl
      have := ends_ok (R := divR) hx hy (c _ _ (by omega) f1 (by omega)) (c _ _ (by omega) f2 (by omega)) (c _ _ (by omega) f3 (by omega)) (c _ _ (by omega) f4 (by omega))
      rw [e] at this
      cases congrArg Sp.all this
  · rw [e]
    have v1 := divR_of o1
    rw [v1] at o1 ⊢
    have v2 := divR_of o2
    rw [v2] at o2 ⊢
    have v3 := divR_of o3
    rw [v3] at o3 ⊢
    have v4 := divR_of o4
    rw [v4] at o4 ⊢
    have k1 := ok_of o1
    have k2 := ok_of o2
    have k3 := ok_of o3
    have k4 := ok_of o4
    replace k1 : -2147483647 ≤ flo (x.lo * 1048576) y.lo ∧ -flo (-(x.lo * 1048576)) y.lo ≤ 2147483647 := ⟨k1.1, k1.2.2.1⟩
    replace k2 : -2147483647 ≤ flo (x.lo * 1048576) y.hi ∧ -flo (-(x.lo * 1048576)) y.hi ≤ 2147483647 := ⟨k2.1, k2.2.2.1⟩
    replace k3 : -2147483647 ≤ flo (x.hi * 1048576) y.lo ∧ -flo (-(x.hi * 1048576)) y.lo ≤ 2147483647 := ⟨k3.1, k3.2.2.1⟩
    replace k4 : -2147483647 ≤ flo (x.hi * 1048576) y.hi ∧ -flo (-(x.hi * 1048576)) y.hi ≤ 2147483647 := ⟨k4.1, k4.2.2.1⟩
    rw [if_neg (by omega)]
set_option maxHeartbeats 1600000 in
theorem rdDiv_noa (x y q : Sp) (hx : ∀ W : World, Calls Try.prog 78 #[.agg #[.int .i64 x.lo, .int .i64 x.hi, .bool x.all]] W (PDp ⟨0, 0, true⟩ W)) (hy : ∀ W : World, Calls Try.prog 78 #[.agg #[.int .i64 y.lo, .int .i64 y.hi, .bool y.all]] W (PDp q W)) (w : World) : Calls Try.prog 21 #[.agg #[.int .i64 x.lo, .int .i64 x.hi, .bool x.all], .agg #[.int .i64 y.lo, .int .i64 y.hi, .bool y.all]] w (PDp lineS w) := by
  have HX := Lib.hid hx
  have HY := Lib.hid hy
  clear hx hy
  go_enter Try.func21, Try.ntmps21
  go_wp2_with fail
  have hC := (((cs_nil w).new #[.int .i64 x.lo, .int .i64 x.hi, .bool x.all] 25).new #[.int .i64 y.lo, .int .i64 y.hi, .bool y.all] 25).new #[.int .i64 0, .int .i64 0, .bool false] 25
  rw [show ((w.alloc (.cells #[.int .i64 x.lo, .int .i64 x.hi, .bool x.all] 25)).alloc (.cells #[.int .i64 y.lo, .int .i64 y.hi, .bool y.all] 25)).heap.size = w.heap.size + 2 by simp, show (w.alloc (.cells #[.int .i64 x.lo, .int .i64 x.hi, .bool x.all] 25)).heap.size = w.heap.size + 1 by simp] at hC
  generalize ((w.alloc (.cells #[.int .i64 x.lo, .int .i64 x.hi, .bool x.all] 25)).alloc (.cells #[.int .i64 y.lo, .int .i64 y.hi, .bool y.all] 25)).alloc (.cells #[.int .i64 0, .int .i64 0, .bool false] 25) = w1 at *
  refine (HX.out _).mono ?_
  rintro e w2 ⟨rfl, hB⟩
  replace hC := hC.later hB
  clear hB
  replace hC := hC.new #[.int .i64 0, .int .i64 0, .bool true] 25
  have f0 := cl3 (hC.at' (w.heap.size + 1, #[.int .i64 y.lo, .int .i64 y.hi, .bool y.all], 25) (.tail _ (.tail _ (.head _))))
  have f5 := f0.1
  have f6 := f0.2.1
  have f7 := f0.2.2.1
  clear f0
  go_wp2_with fail
  generalize w2.alloc (.cells #[.int .i64 0, .int .i64 0, .bool true] 25) = w2' at *
  generalize w2.heap.size = ka at *
  clear f5 f6 f7
  refine (HY.out _).mono ?_
  rintro e w3 ⟨rfl, hB⟩
  replace hC := hC.later hB
  have hD : D3 w3 (w.heap.size + 2) ⟨0, 0, false⟩ := hC.at' _ (.tail _ (.head _))
  have hlt : w.heap.size + 2 < w3.heap.size := hC.lt _ (.tail _ (.head _))
  have hltk : ka < w3.heap.size := hC.lt _ (.head _)
  have hA := cl3 (hC.at' (ka, #[.int .i64 0, .int .i64 0, .bool true], 25) (.head _))
  have a3 := hA.2.2.1
  have hb := hC.below
  have c1 := hD.cells.1
  have c2 := hD.cells.2.1
  have c3 := hD.cells.2.2.1
  have c4 := hD.cells.2.2.2.1
  have c5 := hD.cells.2.2.2.2.1
  have c6 := hD.cells.2.2.2.2.2
  have h1 : Below w.heap.size w (((w3.setCell ⟨w.heap.size + 2, 0, none⟩ (.int .i64 0)).setCell ⟨w.heap.size + 2, 1, none⟩ (.int .i64 0)).setCell ⟨w.heap.size + 2, 2, none⟩ (.bool true)) := fin3 hb 2 ⟨0, 0, true⟩
  have hf : Below w.heap.size w (((((w3.setCell ⟨w.heap.size + 2, 0, none⟩ (.int .i64 0)).setCell ⟨w.heap.size + 2, 1, none⟩ (.int .i64 0)).setCell ⟨w.heap.size + 2, 2, none⟩ (.bool true))).alloc (.cells #[.int .i64 q.lo, .int .i64 q.hi, .bool q.all] 25)) := h1.alloc h1.size _
  have hd : D3 (((((w3.setCell ⟨w.heap.size + 2, 0, none⟩ (.int .i64 0)).setCell ⟨w.heap.size + 2, 1, none⟩ (.int .i64 0)).setCell ⟨w.heap.size + 2, 2, none⟩ (.bool true))).alloc (.cells #[.int .i64 q.lo, .int .i64 q.hi, .bool q.all] 25)) (w.heap.size + 2) ⟨0, 0, true⟩ := (hD.self ⟨0, 0, true⟩).below ((Below.refl _ _).alloc (Nat.le_refl _) _)
  have k1 := hd.cells.1
  have k2 := hd.cells.2.1
  have k3 := hd.cells.2.2.1
  clear hC hB hD h1 hd hA
  go_wp2
  exact bodyPost_ret (v := .agg #[.int .i64 lineS.lo, .int .i64 lineS.hi, .bool lineS.all]) (by simp [results, Try.results21, go_sem, k1, k2, k3, lineS]) rfl ⟨rfl, hf⟩
set_option maxHeartbeats 1600000 in
theorem rdDiv_nob (x y : Sp) (l1 l2 : Int) (hx : ∀ W : World, Calls Try.prog 78 #[.agg #[.int .i64 x.lo, .int .i64 x.hi, .bool x.all]] W (PDp ⟨l1, l2, false⟩ W)) (hy : ∀ W : World, Calls Try.prog 78 #[.agg #[.int .i64 y.lo, .int .i64 y.hi, .bool y.all]] W (PDp ⟨0, 0, true⟩ W)) (w : World) : Calls Try.prog 21 #[.agg #[.int .i64 x.lo, .int .i64 x.hi, .bool x.all], .agg #[.int .i64 y.lo, .int .i64 y.hi, .bool y.all]] w (PDp lineS w) := by
  have HX := Lib.hid hx
  have HY := Lib.hid hy
  clear hx hy
  go_enter Try.func21, Try.ntmps21
  go_wp2_with fail
  have hC := (((cs_nil w).new #[.int .i64 x.lo, .int .i64 x.hi, .bool x.all] 25).new #[.int .i64 y.lo, .int .i64 y.hi, .bool y.all] 25).new #[.int .i64 0, .int .i64 0, .bool false] 25
  rw [show ((w.alloc (.cells #[.int .i64 x.lo, .int .i64 x.hi, .bool x.all] 25)).alloc (.cells #[.int .i64 y.lo, .int .i64 y.hi, .bool y.all] 25)).heap.size = w.heap.size + 2 by simp, show (w.alloc (.cells #[.int .i64 x.lo, .int .i64 x.hi, .bool x.all] 25)).heap.size = w.heap.size + 1 by simp] at hC
  generalize ((w.alloc (.cells #[.int .i64 x.lo, .int .i64 x.hi, .bool x.all] 25)).alloc (.cells #[.int .i64 y.lo, .int .i64 y.hi, .bool y.all] 25)).alloc (.cells #[.int .i64 0, .int .i64 0, .bool false] 25) = w1 at *
  refine (HX.out _).mono ?_
  rintro e w2 ⟨rfl, hB⟩
  replace hC := hC.later hB
  clear hB
  replace hC := hC.new #[.int .i64 l1, .int .i64 l2, .bool false] 25
  have f0 := cl3 (hC.at' (w.heap.size + 1, #[.int .i64 y.lo, .int .i64 y.hi, .bool y.all], 25) (.tail _ (.tail _ (.head _))))
  have f5 := f0.1
  have f6 := f0.2.1
  have f7 := f0.2.2.1
  clear f0
  go_wp2_with fail
  generalize w2.alloc (.cells #[.int .i64 l1, .int .i64 l2, .bool false] 25) = w2' at *
  generalize w2.heap.size = ka at *
  clear f5 f6 f7
  refine (HY.out _).mono ?_
  rintro e w3 ⟨rfl, hB⟩
  replace hC := hC.later hB
  have hD : D3 w3 (w.heap.size + 2) ⟨0, 0, false⟩ := hC.at' _ (.tail _ (.head _))
  have hlt : w.heap.size + 2 < w3.heap.size := hC.lt _ (.tail _ (.head _))
  have hltk : ka < w3.heap.size := hC.lt _ (.head _)
  have hA := cl3 (hC.at' (ka, #[.int .i64 l1, .int .i64 l2, .bool false], 25) (.head _))
  have a3 := hA.2.2.1
  have hb := hC.below
  have c1 := hD.cells.1
  have c2 := hD.cells.2.1
  have c3 := hD.cells.2.2.1
  have c4 := hD.cells.2.2.2.1
  have c5 := hD.cells.2.2.2.2.1
  have c6 := hD.cells.2.2.2.2.2
  have h1 : Below w.heap.size w (((w3.setCell ⟨w.heap.size + 2, 0, none⟩ (.int .i64 0)).setCell ⟨w.heap.size + 2, 1, none⟩ (.int .i64 0)).setCell ⟨w.heap.size + 2, 2, none⟩ (.bool true)) := fin3 hb 2 ⟨0, 0, true⟩
  have hf : Below w.heap.size w (((((w3.setCell ⟨w.heap.size + 2, 0, none⟩ (.int .i64 0)).setCell ⟨w.heap.size + 2, 1, none⟩ (.int .i64 0)).setCell ⟨w.heap.size + 2, 2, none⟩ (.bool true))).alloc (.cells #[.int .i64 0, .int .i64 0, .bool true] 25)) := h1.alloc h1.size _
  have hd : D3 (((((w3.setCell ⟨w.heap.size + 2, 0, none⟩ (.int .i64 0)).setCell ⟨w.heap.size + 2, 1, none⟩ (.int .i64 0)).setCell ⟨w.heap.size + 2, 2, none⟩ (.bool true))).alloc (.cells #[.int .i64 0, .int .i64 0, .bool true] 25)) (w.heap.size + 2) ⟨0, 0, true⟩ := (hD.self ⟨0, 0, true⟩).below ((Below.refl _ _).alloc (Nat.le_refl _) _)
  have k1 := hd.cells.1
  have k2 := hd.cells.2.1
  have k3 := hd.cells.2.2.1
  clear hC hB hD h1 hd hA
  go_wp2
  exact bodyPost_ret (v := .agg #[.int .i64 lineS.lo, .int .i64 lineS.hi, .bool lineS.all]) (by simp [results, Try.results21, go_sem, k1, k2, k3, lineS]) rfl ⟨rfl, hf⟩
set_option maxHeartbeats 1600000 in
theorem rdDiv_noc (x y : Sp) (l1 l2 r1 r2 : Int) (z1 : r1 ≤ 0) (z2 : 0 ≤ r2) (hx : ∀ W : World, Calls Try.prog 78 #[.agg #[.int .i64 x.lo, .int .i64 x.hi, .bool x.all]] W (PDp ⟨l1, l2, false⟩ W)) (hy : ∀ W : World, Calls Try.prog 78 #[.agg #[.int .i64 y.lo, .int .i64 y.hi, .bool y.all]] W (PDp ⟨r1, r2, false⟩ W)) (w : World) : Calls Try.prog 21 #[.agg #[.int .i64 x.lo, .int .i64 x.hi, .bool x.all], .agg #[.int .i64 y.lo, .int .i64 y.hi, .bool y.all]] w (PDp lineS w) := by
  have HX := Lib.hid hx
  have HY := Lib.hid hy
  clear hx hy
  have d1 : decide (r1 ≤ 0) = true := decide_eq_true z1
  have d2 : decide (0 ≤ r2) = true := decide_eq_true z2
  clear z1 z2
  go_enter Try.func21, Try.ntmps21
  go_wp2_with fail
  have hC := (((cs_nil w).new #[.int .i64 x.lo, .int .i64 x.hi, .bool x.all] 25).new #[.int .i64 y.lo, .int .i64 y.hi, .bool y.all] 25).new #[.int .i64 0, .int .i64 0, .bool false] 25
  rw [show ((w.alloc (.cells #[.int .i64 x.lo, .int .i64 x.hi, .bool x.all] 25)).alloc (.cells #[.int .i64 y.lo, .int .i64 y.hi, .bool y.all] 25)).heap.size = w.heap.size + 2 by simp, show (w.alloc (.cells #[.int .i64 x.lo, .int .i64 x.hi, .bool x.all] 25)).heap.size = w.heap.size + 1 by simp] at hC
  generalize ((w.alloc (.cells #[.int .i64 x.lo, .int .i64 x.hi, .bool x.all] 25)).alloc (.cells #[.int .i64 y.lo, .int .i64 y.hi, .bool y.all] 25)).alloc (.cells #[.int .i64 0, .int .i64 0, .bool false] 25) = w1 at *
  refine (HX.out _).mono ?_
  rintro e w2 ⟨rfl, hB⟩
  replace hC := hC.later hB
  clear hB
  replace hC := hC.new #[.int .i64 l1, .int .i64 l2, .bool false] 25
  have f0 := cl3 (hC.at' (w.heap.size + 1, #[.int .i64 y.lo, .int .i64 y.hi, .bool y.all], 25) (.tail _ (.tail _ (.head _))))
  have f5 := f0.1
  have f6 := f0.2.1
  have f7 := f0.2.2.1
  clear f0
  go_wp2_with fail
  generalize w2.alloc (.cells #[.int .i64 l1, .int .i64 l2, .bool false] 25) = w2' at *
  generalize w2.heap.size = ka at *
  clear f5 f6 f7
  refine (HY.out _).mono ?_
  rintro e w3 ⟨rfl, hB⟩
  replace hC := hC.later hB
  have hD : D3 w3 (w.heap.size + 2) ⟨0, 0, false⟩ := hC.at' _ (.tail _ (.head _))
  have hlt : w.heap.size + 2 < w3.heap.size := hC.lt _ (.tail _ (.head _))
  have hltk : ka < w3.heap.size := hC.lt _ (.head _)
  have hA := cl3 (hC.at' (ka, #[.int .i64 l1, .int .i64 l2, .bool false], 25) (.head _))
  have a3 := hA.2.2.1
  have hb := hC.below
  have c1 := hD.cells.1
  have c2 := hD.cells.2.1
  have c3 := hD.cells.2.2.1
  have c4 := hD.cells.2.2.2.1
  have c5 := hD.cells.2.2.2.2.1
  have c6 := hD.cells.2.2.2.2.2
  have h1 : Below w.heap.size w (((w3.setCell ⟨w.heap.size + 2, 0, none⟩ (.int .i64 0)).setCell ⟨w.heap.size + 2, 1, none⟩ (.int .i64 0)).setCell ⟨w.heap.size + 2, 2, none⟩ (.bool true)) := fin3 hb 2 ⟨0, 0, true⟩
  have hf : Below w.heap.size w (((((w3.setCell ⟨w.heap.size + 2, 0, none⟩ (.int .i64 0)).setCell ⟨w.heap.size + 2, 1, none⟩ (.int .i64 0)).setCell ⟨w.heap.size + 2, 2, none⟩ (.bool true))).alloc (.cells #[.int .i64 r1, .int .i64 r2, .bool false] 25)) := h1.alloc h1.size _
  have hd : D3 (((((w3.setCell ⟨w.heap.size + 2, 0, none⟩ (.int .i64 0)).setCell ⟨w.heap.size + 2, 1, none⟩ (.int .i64 0)).setCell ⟨w.heap.size + 2, 2, none⟩ (.bool true))).alloc (.cells #[.int .i64 r1, .int .i64 r2, .bool false] 25)) (w.heap.size + 2) ⟨0, 0, true⟩ := (hD.self ⟨0, 0, true⟩).below ((Below.refl _ _).alloc (Nat.le_refl _) _)
  have k1 := hd.cells.1
  have k2 := hd.cells.2.1
  have k3 := hd.cells.2.2.1
  clear hC hB hD h1 hd hA
  go_wp2
  exact bodyPost_ret (v := .agg #[.int .i64 lineS.lo, .int .i64 lineS.hi, .bool lineS.all]) (by simp [results, Try.results21, go_sem, k1, k2, k3, lineS]) rfl ⟨rfl, hf⟩
section
attribute [local go_sem high] run_mn4 run_mx4
set_option maxRecDepth 100000 in
set_option maxHeartbeats 12800000 in
theorem rdDiv_ok (l1 l2 r1 r2 : Int) (hx : okB ⟨l1, l2, false⟩ = true) (hy : okB ⟨r1, r2, false⟩ = true) (hz : ¬ (r1 ≤ 0 ∧ 0 ≤ r2)) (w : World) : Calls Try.prog 21 #[.agg #[.int .i64 l1, .int .i64 l2, .bool false], .agg #[.int .i64 r1, .int .i64 r2, .bool false]] w (PDp (divS ⟨l1, l2, false⟩ ⟨r1, r2, false⟩) w) := by
  have HX : Hid (∀ W : World, Calls Try.prog 78 #[.agg #[.int .i64 l1, .int .i64 l2, .bool false]] W (PDp ⟨l1, l2, false⟩ W)) := show ∀ W : World, _ from fun W => by have := rRight_any ⟨l1, l2, false⟩ W; rwa [mkS_ok hx] at this
  have HY : Hid (∀ W : World, Calls Try.prog 78 #[.agg #[.int .i64 r1, .int .i64 r2, .bool false]] W (PDp ⟨r1, r2, false⟩ W)) := show ∀ W : World, _ from fun W => by have := rRight_any ⟨r1, r2, false⟩ W; rwa [mkS_ok hy] at this
  have hT := div_tight hx hy hz
  replace hT : divS ⟨l1, l2, false⟩ ⟨r1, r2, false⟩ = tightS (min (min (min (flo (l1 * 1048576) r1) (flo (l1 * 1048576) r2)) (flo (l2 * 1048576) r1)) (flo (l2 * 1048576) r2)) (max (max (max (-flo (-(l1 * 1048576)) r1) (-flo (-(l1 * 1048576)) r2)) (-flo (-(l2 * 1048576)) r1)) (-flo (-(l2 * 1048576)) r2)) 1 := hT
  have kx := ok_of hx
  have ky := ok_of hy
  replace kx : -2147483647 ≤ l1 ∧ l1 ≤ l2 ∧ l2 ≤ 2147483647 := ⟨kx.1, kx.2.1, kx.2.2.1⟩
  replace ky : -2147483647 ≤ r1 ∧ r1 ≤ r2 ∧ r2 ≤ 2147483647 := ⟨ky.1, ky.2.1, ky.2.2.1⟩
  have HD00 := Lib.hid (fun W => quo_dn l1 r1 W (by omega) (by omega) (by omega) (by omega) (by omega))
  have fD00 := flo_bd (a := l1 * 1048576) (b := r1) (by omega) (by omega) (by omega)
  have HD01 := Lib.hid (fun W => quo_dn l1 r2 W (by omega) (by omega) (by omega) (by omega) (by omega))
  have fD01 := flo_bd (a := l1 * 1048576) (b := r2) (by omega) (by omega) (by omega)
  have HD10 := Lib.hid (fun W => quo_dn l2 r1 W (by omega) (by omega) (by omega) (by omega) (by omega))
  have fD10 := flo_bd (a := l2 * 1048576) (b := r1) (by omega) (by omega) (by omega)
  have HD11 := Lib.hid (fun W => quo_dn l2 r2 W (by omega) (by omega) (by omega) (by omega) (by omega))
  have fD11 := flo_bd (a := l2 * 1048576) (b := r2) (by omega) (by omega) (by omega)
  have HU00 := Lib.hid (fun W => quo_up l1 r1 W (by omega) (by omega) (by omega) (by omega) (by omega))
  have fU00 := flo_bd (a := -(l1 * 1048576)) (b := r1) (by omega) (by omega) (by omega)
  have HU01 := Lib.hid (fun W => quo_up l1 r2 W (by omega) (by omega) (by omega) (by omega) (by omega))
  have fU01 := flo_bd (a := -(l1 * 1048576)) (b := r2) (by omega) (by omega) (by omega)
  have HU10 := Lib.hid (fun W => quo_up l2 r1 W (by omega) (by omega) (by omega) (by omega) (by omega))
  have fU10 := flo_bd (a := -(l2 * 1048576)) (b := r1) (by omega) (by omega) (by omega)
  have HU11 := Lib.hid (fun W => quo_up l2 r2 W (by omega) (by omega) (by omega) (by omega) (by omega))
  have fU11 := flo_bd (a := -(l2 * 1048576)) (b := r2) (by omega) (by omega) (by omega)
  have HTT := Lib.hid hT
  clear hT
  generalize divS ⟨l1, l2, false⟩ ⟨r1, r2, false⟩ = zz at *
  generalize flo (l1 * 1048576) r1 = D00 at *
  generalize flo (l1 * 1048576) r2 = D01 at *
  generalize flo (l2 * 1048576) r1 = D10 at *
  generalize flo (l2 * 1048576) r2 = D11 at *
  have bU00 : -2251799812636673 ≤ -flo (-(l1 * 1048576)) r1 ∧ -flo (-(l1 * 1048576)) r1 ≤ 2251799812636673 := by omega
  clear fU00
  generalize -flo (-(l1 * 1048576)) r1 = U00 at *
  have bU01 : -2251799812636673 ≤ -flo (-(l1 * 1048576)) r2 ∧ -flo (-(l1 * 1048576)) r2 ≤ 2251799812636673 := by omega
  clear fU01
  generalize -flo (-(l1 * 1048576)) r2 = U01 at *
  have bU10 : -2251799812636673 ≤ -flo (-(l2 * 1048576)) r1 ∧ -flo (-(l2 * 1048576)) r1 ≤ 2251799812636673 := by omega
  clear fU10
  generalize -flo (-(l2 * 1048576)) r1 = U10 at *
  have bU11 : -2251799812636673 ≤ -flo (-(l2 * 1048576)) r2 ∧ -flo (-(l2 * 1048576)) r2 ≤ 2251799812636673 := by omega
  clear fU11
  generalize -flo (-(l2 * 1048576)) r2 = U11 at *
  have HO1 : Hid (∀ W : World, Calls Try.prog 80 #[.int .i64 (min D00 (min D01 (min D10 D11)))] W (PN (min D00 (min D01 (min D10 D11))) W)) := show ∀ W : World, _ from fun W => nOf _ (by omega) (by omega) W
  have HO2 : Hid (∀ W : World, Calls Try.prog 80 #[.int .i64 (max U00 (max U01 (max U10 U11)))] W (PN (max U00 (max U01 (max U10 U11))) W)) := show ∀ W : World, _ from fun W => nOf _ (by omega) (by omega) W
  have HT : Hid (∀ (p q : NR) (W : World), p.is W → q.is W → p.z = min D00 (min D01 (min D10 D11)) → q.z = max U00 (max U01 (max U10 U11)) → Calls Try.prog 79 #[.agg #[.bool p.b, .slice p.a p.n p.c], .agg #[.bool q.b, .slice q.a q.n q.c], .int .i64 1] W (PDp zz W)) := show ∀ (p q : NR) (W : World), _ from fun p q W hp hq zp zq => by
    have := tight_any p q 1 W hp hq (.inl rfl) (by rw [zp]; omega) (by rw [zp]; omega) (by rw [zq]; omega) (by rw [zq]; omega)
    rwa [zp, zq, show min D00 (min D01 (min D10 D11)) = min (min (min D00 D01) D10) D11 by omega, show max U00 (max U01 (max U10 U11)) = max (max (max U00 U01) U10) U11 by omega, ← HTT.out] at this
  clear hx hy HTT fD00 fD01 fD10 fD11 bU00 bU01 bU10 bU11
  go_enter Try.func21, Try.ntmps21
  go_wp2_with fail
  have hC := (((cs_nil w).new #[.int .i64 l1, .int .i64 l2, .bool false] 25).new #[.int .i64 r1, .int .i64 r2, .bool false] 25).new #[.int .i64 0, .int .i64 0, .bool false] 25
  rw [show ((w.alloc (.cells #[.int .i64 l1, .int .i64 l2, .bool false] 25)).alloc (.cells #[.int .i64 r1, .int .i64 r2, .bool false] 25)).heap.size = w.heap.size + 2 by simp, show (w.alloc (.cells #[.int .i64 l1, .int .i64 l2, .bool false] 25)).heap.size = w.heap.size + 1 by simp] at hC
  generalize ((w.alloc (.cells #[.int .i64 l1, .int .i64 l2, .bool false] 25)).alloc (.cells #[.int .i64 r1, .int .i64 r2, .bool false] 25)).alloc (.cells #[.int .i64 0, .int .i64 0, .bool false] 25) = w1 at *
  refine (HX.out _).mono ?_
  rintro e w2 ⟨rfl, hB⟩
  replace hC := (hC.later hB).new #[.int .i64 l1, .int .i64 l2, .bool false] 25
  clear hB
  have f0 := cl3 (hC.at' (w.heap.size + 1, #[.int .i64 r1, .int .i64 r2, .bool false], 25) (.tail _ (.tail _ (.head _))))
  have f5 := f0.1
  have f6 := f0.2.1
  have f7 := f0.2.2.1
  clear f0
  go_wp2_with fail
  generalize w2.alloc (.cells #[.int .i64 l1, .int .i64 l2, .bool false] 25) = w2' at *
  generalize w2.heap.size = ka at *
  clear f5 f6 f7
  refine (HY.out _).mono ?_
  rintro e w3 ⟨rfl, hB⟩
  replace hC := (hC.later hB).new #[.int .i64 r1, .int .i64 r2, .bool false] 25
  clear hB
  have f0 := cl3 (hC.at' (ka, #[.int .i64 l1, .int .i64 l2, .bool false], 25) (.tail _ (.head _)))
  have f5 := f0.1
  have f6 := f0.2.1
  have f7 := f0.2.2.1
  clear f0
  have HZ := Lib.hid hz
  clear hz kx ky
  by_cases q1 : r1 ≤ 0
  · have d1 : decide (r1 ≤ 0) = true := decide_eq_true q1
    have d2 : decide (0 ≤ r2) = false := decide_eq_false (fun h => HZ.out ⟨q1, h⟩)
    clear q1 HZ
    go_wp2
    generalize w3.alloc (.cells #[.int .i64 r1, .int .i64 r2, .bool false] 25) = w4 at *
    generalize w3.heap.size = kb at *
    clear f5 f6 f7
    obtain ⟨m5, hm5⟩ : ∃ m, m = w4.heap.size := ⟨_, rfl⟩
    have hJ0 : ∀ u, Jy w m5 [(kb, #[.int .i64 r1, .int .i64 r2, .bool false], 25), (ka, #[.int .i64 l1, .int .i64 l2, .bool false], 25), (w.heap.size + 2, #[.int .i64 0, .int .i64 0, .bool false], 25), (w.heap.size + 1, #[.int .i64 r1, .int .i64 r2, .bool false], 25), (w.heap.size, #[.int .i64 l1, .int .i64 l2, .bool false], 25)] [] 71 [] [] (fun _ => false) u w4.drew := fun u => by rw [hm5]; exact Jy.start (hC) u
    refine wp_region_y 22 [some 30, some 31, some 32, some 33, some 34, some 35, some 36, some 37, some 38, some 39, some 40, some 41, some 42, some 43, some 44, some 45, some 46, some 47, some 48, some 49, some 50, some 7] (vyL [.eq (.pointer (some ⟨ka, 0, none⟩)), .eq (.int .i64 l1), .eq (.pointer (some ⟨kb, 0, none⟩)), .eq (.int .i64 r1), .eq (.int .i64 D00), .eq (.pointer (some ⟨ka, 0, none⟩)), .eq (.int .i64 l1), .eq (.pointer (some ⟨kb, 1, none⟩)), .eq (.int .i64 r2), .eq (.int .i64 D01), .eq (.pointer (some ⟨ka, 1, none⟩)), .eq (.int .i64 l2), .eq (.pointer (some ⟨kb, 0, none⟩)), .eq (.int .i64 r1), .eq (.int .i64 D10), .eq (.pointer (some ⟨ka, 1, none⟩)), .eq (.int .i64 l2), .eq (.pointer (some ⟨kb, 1, none⟩)), .eq (.int .i64 r2), .eq (.int .i64 D11), .eq (.int .i64 (min D00 (min D01 (min D10 D11)))), .eq (.int .i64 (min D00 (min D01 (min D10 D11))))]) (Jy w m5 [(kb, #[.int .i64 r1, .int .i64 r2, .bool false], 25), (ka, #[.int .i64 l1, .int .i64 l2, .bool false], 25), (w.heap.size + 2, #[.int .i64 0, .int .i64 0, .bool false], 25), (w.heap.size + 1, #[.int .i64 r1, .int .i64 r2, .bool false], 25), (w.heap.size, #[.int .i64 l1, .int .i64 l2, .bool false], 25)] [] 71 [] []) (by kernel_rfl) (by kernel_rfl) (by rfl) (by decide) (by rfl) hJ0 ?_ ?_
    · intro i hl hi L u W A hLi hJ hd hev hin
      obtain rfl | rfl | rfl | rfl | rfl | rfl | rfl | rfl | rfl | rfl | rfl | rfl | rfl | rfl | rfl | rfl | rfl | rfl | rfl | rfl | rfl | rfl : i = 0 ∨ i = 1 ∨ i = 2 ∨ i = 3 ∨ i = 4 ∨ i = 5 ∨ i = 6 ∨ i = 7 ∨ i = 8 ∨ i = 9 ∨ i = 10 ∨ i = 11 ∨ i = 12 ∨ i = 13 ∨ i = 14 ∨ i = 15 ∨ i = 16 ∨ i = 17 ∨ i = 18 ∨ i = 19 ∨ i = 20 ∨ i = 21 := by omega
      · skip
        have x5 : A.tmps[5]? = some (.pointer (some ⟨ka, 0, none⟩)) := (hev 5 (by decide)).trans rfl
        clear hd hev hin
        simp only [List.getElem_cons_succ, List.getElem_cons_zero]
        clear hl
        refine .inr ⟨rfl, fun K' hK => ?_⟩
        have HK := Lib.hid hK
        clear hK
        go_simp
        exact HK.out (.pointer (some ⟨ka, 0, none⟩)) _ (hJ.grow hLi (by decide) (by decide) (Below.refl _ _)) (rfl) vyL_same
      · skip
        have e0 : u 0 = .pointer (some ⟨ka, 0, none⟩) := (hd 0 (by decide) (by kernel_rfl)).2
        have x30 : A.tmps[30]? = some (.pointer (some ⟨ka, 0, none⟩)) := (hin 0 30 rfl).trans (congrArg some e0)
        clear hd hev hin
        simp only [List.getElem_cons_succ, List.getElem_cons_zero]
        clear hl
        refine .inr ⟨rfl, fun K' hK => ?_⟩
        have HK := Lib.hid hK
        clear hK
        have f0 := cl3 (hJ.cm.cs.at' (ka, #[.int .i64 l1, .int .i64 l2, .bool false], 25) (.tail _ (.head _)))
        have f5 := f0.1
        clear f0
        go_simp
        exact HK.out (.int .i64 l1) _ (hJ.grow hLi (by decide) (by decide) (Below.refl _ _)) (rfl) vyL_same
      · skip
        have x6 : A.tmps[6]? = some (.pointer (some ⟨kb, 0, none⟩)) := (hev 6 (by decide)).trans rfl
        clear hd hev hin
        simp only [List.getElem_cons_succ, List.getElem_cons_zero]
        clear hl
        refine .inr ⟨rfl, fun K' hK => ?_⟩
        have HK := Lib.hid hK
        clear hK
        go_simp
        exact HK.out (.pointer (some ⟨kb, 0, none⟩)) _ (hJ.grow hLi (by decide) (by decide) (Below.refl _ _)) (rfl) vyL_same
      · skip
        have e2 : u 2 = .pointer (some ⟨kb, 0, none⟩) := (hd 2 (by decide) (by kernel_rfl)).2
        have x32 : A.tmps[32]? = some (.pointer (some ⟨kb, 0, none⟩)) := (hin 2 32 rfl).trans (congrArg some e2)
        clear hd hev hin
        simp only [List.getElem_cons_succ, List.getElem_cons_zero]
        clear hl
        refine .inr ⟨rfl, fun K' hK => ?_⟩
        have HK := Lib.hid hK
        clear hK
        have f0 := cl3 (hJ.cm.cs.at' (kb, #[.int .i64 r1, .int .i64 r2, .bool false], 25) (.head _))
        have f5 := f0.1
        clear f0
        go_simp
        exact HK.out (.int .i64 r1) _ (hJ.grow hLi (by decide) (by decide) (Below.refl _ _)) (rfl) vyL_same
      · skip
        have e1 : u 1 = .int .i64 l1 := (hd 1 (by decide) (by kernel_rfl)).2
        have x31 : A.tmps[31]? = some (.int .i64 l1) := (hin 1 31 rfl).trans (congrArg some e1)
        have e3 : u 3 = .int .i64 r1 := (hd 3 (by decide) (by kernel_rfl)).2
        have x33 : A.tmps[33]? = some (.int .i64 r1) := (hin 3 33 rfl).trans (congrArg some e3)
        clear hd hev hin
        simp only [List.getElem_cons_succ, List.getElem_cons_zero]
        clear hl
        refine .inr ⟨rfl, fun K' hK => ?_⟩
        have HK := Lib.hid hK
        clear hK
        go_simp
        refine (HD00.out W).mono ?_
        rintro e W' ⟨rfl, hB⟩
        exact HK.out (.int .i64 D00) _ (hJ.grow hLi (by decide) (by decide) hB) (rfl) (vyL_later hB)
      · skip
        have x5 : A.tmps[5]? = some (.pointer (some ⟨ka, 0, none⟩)) := (hev 5 (by decide)).trans rfl
        clear hd hev hin
        simp only [List.getElem_cons_succ, List.getElem_cons_zero]
        clear hl
        refine .inr ⟨rfl, fun K' hK => ?_⟩
        have HK := Lib.hid hK
        clear hK
        go_simp
        exact HK.out (.pointer (some ⟨ka, 0, none⟩)) _ (hJ.grow hLi (by decide) (by decide) (Below.refl _ _)) (rfl) vyL_same
      · skip
        have e5 : u 5 = .pointer (some ⟨ka, 0, none⟩) := (hd 5 (by decide) (by kernel_rfl)).2
        have x35 : A.tmps[35]? = some (.pointer (some ⟨ka, 0, none⟩)) := (hin 5 35 rfl).trans (congrArg some e5)
        clear hd hev hin
        simp only [List.getElem_cons_succ, List.getElem_cons_zero]
        clear hl
        refine .inr ⟨rfl, fun K' hK => ?_⟩
        have HK := Lib.hid hK
        clear hK
        have f0 := cl3 (hJ.cm.cs.at' (ka, #[.int .i64 l1, .int .i64 l2, .bool false], 25) (.tail _ (.head _)))
        have f5 := f0.1
        clear f0
        go_simp
        exact HK.out (.int .i64 l1) _ (hJ.grow hLi (by decide) (by decide) (Below.refl _ _)) (rfl) vyL_same
      · skip
        have x6 : A.tmps[6]? = some (.pointer (some ⟨kb, 0, none⟩)) := (hev 6 (by decide)).trans rfl
        clear hd hev hin
        simp only [List.getElem_cons_succ, List.getElem_cons_zero]
        clear hl
        refine .inr ⟨rfl, fun K' hK => ?_⟩
        have HK := Lib.hid hK
        clear hK
        go_simp
        exact HK.out (.pointer (some ⟨kb, 1, none⟩)) _ (hJ.grow hLi (by decide) (by decide) (Below.refl _ _)) (rfl) vyL_same
      · skip
        have e7 : u 7 = .pointer (some ⟨kb, 1, none⟩) := (hd 7 (by decide) (by kernel_rfl)).2
        have x37 : A.tmps[37]? = some (.pointer (some ⟨kb, 1, none⟩)) := (hin 7 37 rfl).trans (congrArg some e7)
        clear hd hev hin
        simp only [List.getElem_cons_succ, List.getElem_cons_zero]
        clear hl
        refine .inr ⟨rfl, fun K' hK => ?_⟩
        have HK := Lib.hid hK
        clear hK
        have f0 := cl3 (hJ.cm.cs.at' (kb, #[.int .i64 r1, .int .i64 r2, .bool false], 25) (.head _))
        have f5 := f0.2.1
        clear f0
        go_simp
        exact HK.out (.int .i64 r2) _ (hJ.grow hLi (by decide) (by decide) (Below.refl _ _)) (rfl) vyL_same
      · skip
        have e6 : u 6 = .int .i64 l1 := (hd 6 (by decide) (by kernel_rfl)).2
        have x36 : A.tmps[36]? = some (.int .i64 l1) := (hin 6 36 rfl).trans (congrArg some e6)
        have e8 : u 8 = .int .i64 r2 := (hd 8 (by decide) (by kernel_rfl)).2
        have x38 : A.tmps[38]? = some (.int .i64 r2) := (hin 8 38 rfl).trans (congrArg some e8)
        clear hd hev hin
        simp only [List.getElem_cons_succ, List.getElem_cons_zero]
        clear hl
        refine .inr ⟨rfl, fun K' hK => ?_⟩
        have HK := Lib.hid hK
        clear hK
        go_simp
        refine (HD01.out W).mono ?_
        rintro e W' ⟨rfl, hB⟩
        exact HK.out (.int .i64 D01) _ (hJ.grow hLi (by decide) (by decide) hB) (rfl) (vyL_later hB)
      · skip
        have x5 : A.tmps[5]? = some (.pointer (some ⟨ka, 0, none⟩)) := (hev 5 (by decide)).trans rfl
        clear hd hev hin
        simp only [List.getElem_cons_succ, List.getElem_cons_zero]
        clear hl
        refine .inr ⟨rfl, fun K' hK => ?_⟩
        have HK := Lib.hid hK
        clear hK
        go_simp
        exact HK.out (.pointer (some ⟨ka, 1, none⟩)) _ (hJ.grow hLi (by decide) (by decide) (Below.refl _ _)) (rfl) vyL_same
      · skip
        have e10 : u 10 = .pointer (some ⟨ka, 1, none⟩) := (hd 10 (by decide) (by kernel_rfl)).2
        have x40 : A.tmps[40]? = some (.pointer (some ⟨ka, 1, none⟩)) := (hin 10 40 rfl).trans (congrArg some e10)
        clear hd hev hin
        simp only [List.getElem_cons_succ, List.getElem_cons_zero]
        clear hl
        refine .inr ⟨rfl, fun K' hK => ?_⟩
        have HK := Lib.hid hK
        clear hK
        have f0 := cl3 (hJ.cm.cs.at' (ka, #[.int .i64 l1, .int .i64 l2, .bool false], 25) (.tail _ (.head _)))
        have f5 := f0.2.1
        clear f0
        go_simp
        exact HK.out (.int .i64 l2) _ (hJ.grow hLi (by decide) (by decide) (Below.refl _ _)) (rfl) vyL_same
      · skip
        have x6 : A.tmps[6]? = some (.pointer (some ⟨kb, 0, none⟩)) := (hev 6 (by decide)).trans rfl
        clear hd hev hin
        simp only [List.getElem_cons_succ, List.getElem_cons_zero]
        clear hl
        refine .inr ⟨rfl, fun K' hK => ?_⟩
        have HK := Lib.hid hK
        clear hK
        go_simp
        exact HK.out (.pointer (some ⟨kb, 0, none⟩)) _ (hJ.grow hLi (by decide) (by decide) (Below.refl _ _)) (rfl) vyL_same
      · skip
        have e12 : u 12 = .pointer (some ⟨kb, 0, none⟩) := (hd 12 (by decide) (by kernel_rfl)).2
        have x42 : A.tmps[42]? = some (.pointer (some ⟨kb, 0, none⟩)) := (hin 12 42 rfl).trans (congrArg some e12)
        clear hd hev hin
        simp only [List.getElem_cons_succ, List.getElem_cons_zero]
        clear hl
        refine .inr ⟨rfl, fun K' hK => ?_⟩
        have HK := Lib.hid hK
        clear hK
        have f0 := cl3 (hJ.cm.cs.at' (kb, #[.int .i64 r1, .int .i64 r2, .bool false], 25) (.head _))
        have f5 := f0.1
        clear f0
        go_simp
        exact HK.out (.int .i64 r1) _ (hJ.grow hLi (by decide) (by decide) (Below.refl _ _)) (rfl) vyL_same
      · skip
        have e11 : u 11 = .int .i64 l2 := (hd 11 (by decide) (by kernel_rfl)).2
        have x41 : A.tmps[41]? = some (.int .i64 l2) := (hin 11 41 rfl).trans (congrArg some e11)
        have e13 : u 13 = .int .i64 r1 := (hd 13 (by decide) (by kernel_rfl)).2
        have x43 : A.tmps[43]? = some (.int .i64 r1) := (hin 13 43 rfl).trans (congrArg some e13)
        clear hd hev hin
        simp only [List.getElem_cons_succ, List.getElem_cons_zero]
        clear hl
        refine .inr ⟨rfl, fun K' hK => ?_⟩
        have HK := Lib.hid hK
        clear hK
        go_simp
        refine (HD10.out W).mono ?_
        rintro e W' ⟨rfl, hB⟩
        exact HK.out (.int .i64 D10) _ (hJ.grow hLi (by decide) (by decide) hB) (rfl) (vyL_later hB)
      · skip
        have x5 : A.tmps[5]? = some (.pointer (some ⟨ka, 0, none⟩)) := (hev 5 (by decide)).trans rfl
        clear hd hev hin
        simp only [List.getElem_cons_succ, List.getElem_cons_zero]
        clear hl
        refine .inr ⟨rfl, fun K' hK => ?_⟩
        have HK := Lib.hid hK
        clear hK
        go_simp
        exact HK.out (.pointer (some ⟨ka, 1, none⟩)) _ (hJ.grow hLi (by decide) (by decide) (Below.refl _ _)) (rfl) vyL_same
      · skip
        have e15 : u 15 = .pointer (some ⟨ka, 1, none⟩) := (hd 15 (by decide) (by kernel_rfl)).2
        have x45 : A.tmps[45]? = some (.pointer (some ⟨ka, 1, none⟩)) := (hin 15 45 rfl).trans (congrArg some e15)
        clear hd hev hin
        simp only [List.getElem_cons_succ, List.getElem_cons_zero]
        clear hl
        refine .inr ⟨rfl, fun K' hK => ?_⟩
        have HK := Lib.hid hK
        clear hK
        have f0 := cl3 (hJ.cm.cs.at' (ka, #[.int .i64 l1, .int .i64 l2, .bool false], 25) (.tail _ (.head _)))
        have f5 := f0.2.1
        clear f0
        go_simp
        exact HK.out (.int .i64 l2) _ (hJ.grow hLi (by decide) (by decide) (Below.refl _ _)) (rfl) vyL_same
      · skip
        have x6 : A.tmps[6]? = some (.pointer (some ⟨kb, 0, none⟩)) := (hev 6 (by decide)).trans rfl
        clear hd hev hin
        simp only [List.getElem_cons_succ, List.getElem_cons_zero]
        clear hl
        refine .inr ⟨rfl, fun K' hK => ?_⟩
        have HK := Lib.hid hK
        clear hK
        go_simp
        exact HK.out (.pointer (some ⟨kb, 1, none⟩)) _ (hJ.grow hLi (by decide) (by decide) (Below.refl _ _)) (rfl) vyL_same
      · skip
        have e17 : u 17 = .pointer (some ⟨kb, 1, none⟩) := (hd 17 (by decide) (by kernel_rfl)).2
        have x47 : A.tmps[47]? = some (.pointer (some ⟨kb, 1, none⟩)) := (hin 17 47 rfl).trans (congrArg some e17)
        clear hd hev hin
        simp only [List.getElem_cons_succ, List.getElem_cons_zero]
        clear hl
        refine .inr ⟨rfl, fun K' hK => ?_⟩
        have HK := Lib.hid hK
        clear hK
        have f0 := cl3 (hJ.cm.cs.at' (kb, #[.int .i64 r1, .int .i64 r2, .bool false], 25) (.head _))
        have f5 := f0.2.1
        clear f0
        go_simp
        exact HK.out (.int .i64 r2) _ (hJ.grow hLi (by decide) (by decide) (Below.refl _ _)) (rfl) vyL_same
      · skip
        have e16 : u 16 = .int .i64 l2 := (hd 16 (by decide) (by kernel_rfl)).2
        have x46 : A.tmps[46]? = some (.int .i64 l2) := (hin 16 46 rfl).trans (congrArg some e16)
        have e18 : u 18 = .int .i64 r2 := (hd 18 (by decide) (by kernel_rfl)).2
        have x48 : A.tmps[48]? = some (.int .i64 r2) := (hin 18 48 rfl).trans (congrArg some e18)
        clear hd hev hin
        simp only [List.getElem_cons_succ, List.getElem_cons_zero]
        clear hl
        refine .inr ⟨rfl, fun K' hK => ?_⟩
        have HK := Lib.hid hK
        clear hK
        go_simp
        refine (HD11.out W).mono ?_
        rintro e W' ⟨rfl, hB⟩
        exact HK.out (.int .i64 D11) _ (hJ.grow hLi (by decide) (by decide) hB) (rfl) (vyL_later hB)
      · skip
        have e4 : u 4 = .int .i64 D00 := (hd 4 (by decide) (by kernel_rfl)).2
        have x34 : A.tmps[34]? = some (.int .i64 D00) := (hin 4 34 rfl).trans (congrArg some e4)
        have e9 : u 9 = .int .i64 D01 := (hd 9 (by decide) (by kernel_rfl)).2
        have x39 : A.tmps[39]? = some (.int .i64 D01) := (hin 9 39 rfl).trans (congrArg some e9)
        have e14 : u 14 = .int .i64 D10 := (hd 14 (by decide) (by kernel_rfl)).2
        have x44 : A.tmps[44]? = some (.int .i64 D10) := (hin 14 44 rfl).trans (congrArg some e14)
        have e19 : u 19 = .int .i64 D11 := (hd 19 (by decide) (by kernel_rfl)).2
        have x49 : A.tmps[49]? = some (.int .i64 D11) := (hin 19 49 rfl).trans (congrArg some e19)
        clear hd hev hin
        simp only [List.getElem_cons_succ, List.getElem_cons_zero]
        clear hl
        refine .inr ⟨rfl, fun K' hK => ?_⟩
        have HK := Lib.hid hK
        clear hK
        go_simp
        exact HK.out (.int .i64 (min D00 (min D01 (min D10 D11)))) _ (hJ.grow hLi (by decide) (by decide) (Below.refl _ _)) (rfl) vyL_same
      · skip
        have e20 : u 20 = .int .i64 (min D00 (min D01 (min D10 D11))) := (hd 20 (by decide) (by kernel_rfl)).2
        have x50 : A.tmps[50]? = some (.int .i64 (min D00 (min D01 (min D10 D11)))) := (hin 20 50 rfl).trans (congrArg some e20)
        clear hd hev hin
        simp only [List.getElem_cons_succ, List.getElem_cons_zero]
        clear hl
        refine .inr ⟨rfl, fun K' hK => ?_⟩
        have HK := Lib.hid hK
        clear hK
        go_simp
        exact HK.out (.int .i64 (min D00 (min D01 (min D10 D11)))) _ (hJ.grow hLi (by decide) (by decide) (Below.refl _ _)) (rfl) vyL_same
    intro L u W hL hJ hd
    have e0 : u 0 = .pointer (some ⟨ka, 0, none⟩) := hd 0 (by decide)
    have e1 : u 1 = .int .i64 l1 := hd 1 (by decide)
    have e2 : u 2 = .pointer (some ⟨kb, 0, none⟩) := hd 2 (by decide)
    have e3 : u 3 = .int .i64 r1 := hd 3 (by decide)
    have e4 : u 4 = .int .i64 D00 := hd 4 (by decide)
    have e5 : u 5 = .pointer (some ⟨ka, 0, none⟩) := hd 5 (by decide)
    have e6 : u 6 = .int .i64 l1 := hd 6 (by decide)
    have e7 : u 7 = .pointer (some ⟨kb, 1, none⟩) := hd 7 (by decide)
    have e8 : u 8 = .int .i64 r2 := hd 8 (by decide)
    have e9 : u 9 = .int .i64 D01 := hd 9 (by decide)
    have e10 : u 10 = .pointer (some ⟨ka, 1, none⟩) := hd 10 (by decide)
    have e11 : u 11 = .int .i64 l2 := hd 11 (by decide)
    have e12 : u 12 = .pointer (some ⟨kb, 0, none⟩) := hd 12 (by decide)
    have e13 : u 13 = .int .i64 r1 := hd 13 (by decide)
    have e14 : u 14 = .int .i64 D10 := hd 14 (by decide)
    have e15 : u 15 = .pointer (some ⟨ka, 1, none⟩) := hd 15 (by decide)
    have e16 : u 16 = .int .i64 l2 := hd 16 (by decide)
    have e17 : u 17 = .pointer (some ⟨kb, 1, none⟩) := hd 17 (by decide)
    have e18 : u 18 = .int .i64 r2 := hd 18 (by decide)
    have e19 : u 19 = .int .i64 D11 := hd 19 (by decide)
    have e20 : u 20 = .int .i64 (min D00 (min D01 (min D10 D11))) := hd 20 (by decide)
    have e21 : u 21 = .int .i64 (min D00 (min D01 (min D10 D11))) := hd 21 (by decide)
    simp only [layS, Act.put, List.setIfInBounds_toArray, List.set_cons_succ, List.set_cons_zero, Nat.zero_add, Nat.reduceAdd, List.drop_succ_cons, List.drop_zero, List.drop_nil, e0, e1, e2, e3, e4, e5, e6, e7, e8, e9, e10, e11, e12, e13, e14, e15, e16, e17, e18, e19, e20, e21]
    replace hC := hJ.cm.cs
    clear hJ hL hJ0 hd e0 e1 e2 e3 e4 e5 e6 e7 e8 e9 e10 e11 e12 e13 e14 e15 e16 e17 e18 e19 e20 e21
    go_wp2
    generalize hW6 : W = w6 at *
    clear hW6
    obtain ⟨m6, hm6⟩ : ∃ m, m = w6.heap.size := ⟨_, rfl⟩
    have hJ0 : ∀ u, Jy w m6 [(kb, #[.int .i64 r1, .int .i64 r2, .bool false], 25), (ka, #[.int .i64 l1, .int .i64 l2, .bool false], 25), (w.heap.size + 2, #[.int .i64 0, .int .i64 0, .bool false], 25), (w.heap.size + 1, #[.int .i64 r1, .int .i64 r2, .bool false], 25), (w.heap.size, #[.int .i64 l1, .int .i64 l2, .bool false], 25)] [] 71 [] [] (fun _ => false) u w6.drew := fun u => by rw [hm6]; exact Jy.start (hC) u
    refine wp_region_y 22 [some 51, some 52, some 53, some 54, some 55, some 56, some 57, some 58, some 59, some 60, some 61, some 62, some 63, some 64, some 65, some 66, some 67, some 68, some 69, some 70, some 71, some 8] (vyL [.eq (.pointer (some ⟨ka, 0, none⟩)), .eq (.int .i64 l1), .eq (.pointer (some ⟨kb, 0, none⟩)), .eq (.int .i64 r1), .eq (.int .i64 U00), .eq (.pointer (some ⟨ka, 0, none⟩)), .eq (.int .i64 l1), .eq (.pointer (some ⟨kb, 1, none⟩)), .eq (.int .i64 r2), .eq (.int .i64 U01), .eq (.pointer (some ⟨ka, 1, none⟩)), .eq (.int .i64 l2), .eq (.pointer (some ⟨kb, 0, none⟩)), .eq (.int .i64 r1), .eq (.int .i64 U10), .eq (.pointer (some ⟨ka, 1, none⟩)), .eq (.int .i64 l2), .eq (.pointer (some ⟨kb, 1, none⟩)), .eq (.int .i64 r2), .eq (.int .i64 U11), .eq (.int .i64 (max U00 (max U01 (max U10 U11)))), .eq (.int .i64 (max U00 (max U01 (max U10 U11))))]) (Jy w m6 [(kb, #[.int .i64 r1, .int .i64 r2, .bool false], 25), (ka, #[.int .i64 l1, .int .i64 l2, .bool false], 25), (w.heap.size + 2, #[.int .i64 0, .int .i64 0, .bool false], 25), (w.heap.size + 1, #[.int .i64 r1, .int .i64 r2, .bool false], 25), (w.heap.size, #[.int .i64 l1, .int .i64 l2, .bool false], 25)] [] 71 [] []) (by kernel_rfl) (by kernel_rfl) (by rfl) (by decide) (by rfl) hJ0 ?_ ?_
    · intro i hl hi L u W A hLi hJ hd hev hin
      obtain rfl | rfl | rfl | rfl | rfl | rfl | rfl | rfl | rfl | rfl | rfl | rfl | rfl | rfl | rfl | rfl | rfl | rfl | rfl | rfl | rfl | rfl : i = 0 ∨ i = 1 ∨ i = 2 ∨ i = 3 ∨ i = 4 ∨ i = 5 ∨ i = 6 ∨ i = 7 ∨ i = 8 ∨ i = 9 ∨ i = 10 ∨ i = 11 ∨ i = 12 ∨ i = 13 ∨ i = 14 ∨ i = 15 ∨ i = 16 ∨ i = 17 ∨ i = 18 ∨ i = 19 ∨ i = 20 ∨ i = 21 := by omega
      · skip
        have x5 : A.tmps[5]? = some (.pointer (some ⟨ka, 0, none⟩)) := (hev 5 (by decide)).trans rfl
        clear hd hev hin
        simp only [List.getElem_cons_succ, List.getElem_cons_zero]
        clear hl
        refine .inr ⟨rfl, fun K' hK => ?_⟩
        have HK := Lib.hid hK
        clear hK
        go_simp
        exact HK.out (.pointer (some ⟨ka, 0, none⟩)) _ (hJ.grow hLi (by decide) (by decide) (Below.refl _ _)) (rfl) vyL_same
      · skip
        have e0 : u 0 = .pointer (some ⟨ka, 0, none⟩) := (hd 0 (by decide) (by kernel_rfl)).2
        have x51 : A.tmps[51]? = some (.pointer (some ⟨ka, 0, none⟩)) := (hin 0 51 rfl).trans (congrArg some e0)
        clear hd hev hin
        simp only [List.getElem_cons_succ, List.getElem_cons_zero]
        clear hl
        refine .inr ⟨rfl, fun K' hK => ?_⟩
        have HK := Lib.hid hK
        clear hK
        have f0 := cl3 (hJ.cm.cs.at' (ka, #[.int .i64 l1, .int .i64 l2, .bool false], 25) (.tail _ (.head _)))
        have f5 := f0.1
        clear f0
        go_simp
        exact HK.out (.int .i64 l1) _ (hJ.grow hLi (by decide) (by decide) (Below.refl _ _)) (rfl) vyL_same
      · skip
        have x6 : A.tmps[6]? = some (.pointer (some ⟨kb, 0, none⟩)) := (hev 6 (by decide)).trans rfl
        clear hd hev hin
        simp only [List.getElem_cons_succ, List.getElem_cons_zero]
        clear hl
        refine .inr ⟨rfl, fun K' hK => ?_⟩
        have HK := Lib.hid hK
        clear hK
        go_simp
        exact HK.out (.pointer (some ⟨kb, 0, none⟩)) _ (hJ.grow hLi (by decide) (by decide) (Below.refl _ _)) (rfl) vyL_same
      · skip
        have e2 : u 2 = .pointer (some ⟨kb, 0, none⟩) := (hd 2 (by decide) (by kernel_rfl)).2
        have x53 : A.tmps[53]? = some (.pointer (some ⟨kb, 0, none⟩)) := (hin 2 53 rfl).trans (congrArg some e2)
        clear hd hev hin
        simp only [List.getElem_cons_succ, List.getElem_cons_zero]
        clear hl
        refine .inr ⟨rfl, fun K' hK => ?_⟩
        have HK := Lib.hid hK
        clear hK
        have f0 := cl3 (hJ.cm.cs.at' (kb, #[.int .i64 r1, .int .i64 r2, .bool false], 25) (.head _))
        have f5 := f0.1
        clear f0
        go_simp
        exact HK.out (.int .i64 r1) _ (hJ.grow hLi (by decide) (by decide) (Below.refl _ _)) (rfl) vyL_same
      · skip
        have e1 : u 1 = .int .i64 l1 := (hd 1 (by decide) (by kernel_rfl)).2
        have x52 : A.tmps[52]? = some (.int .i64 l1) := (hin 1 52 rfl).trans (congrArg some e1)
        have e3 : u 3 = .int .i64 r1 := (hd 3 (by decide) (by kernel_rfl)).2
        have x54 : A.tmps[54]? = some (.int .i64 r1) := (hin 3 54 rfl).trans (congrArg some e3)
        clear hd hev hin
        simp only [List.getElem_cons_succ, List.getElem_cons_zero]
        clear hl
        refine .inr ⟨rfl, fun K' hK => ?_⟩
        have HK := Lib.hid hK
        clear hK
        go_simp
        refine (HU00.out W).mono ?_
        rintro e W' ⟨rfl, hB⟩
        exact HK.out (.int .i64 U00) _ (hJ.grow hLi (by decide) (by decide) hB) (rfl) (vyL_later hB)
      · skip
        have x5 : A.tmps[5]? = some (.pointer (some ⟨ka, 0, none⟩)) := (hev 5 (by decide)).trans rfl
        clear hd hev hin
        simp only [List.getElem_cons_succ, List.getElem_cons_zero]
        clear hl
        refine .inr ⟨rfl, fun K' hK => ?_⟩
        have HK := Lib.hid hK
        clear hK
        go_simp
        exact HK.out (.pointer (some ⟨ka, 0, none⟩)) _ (hJ.grow hLi (by decide) (by decide) (Below.refl _ _)) (rfl) vyL_same
      · skip
        have e5 : u 5 = .pointer (some ⟨ka, 0, none⟩) := (hd 5 (by decide) (by kernel_rfl)).2
        have x56 : A.tmps[56]? = some (.pointer (some ⟨ka, 0, none⟩)) := (hin 5 56 rfl).trans (congrArg some e5)
        clear hd hev hin
        simp only [List.getElem_cons_succ, List.getElem_cons_zero]
        clear hl
        refine .inr ⟨rfl, fun K' hK => ?_⟩
        have HK := Lib.hid hK
        clear hK
        have f0 := cl3 (hJ.cm.cs.at' (ka, #[.int .i64 l1, .int .i64 l2, .bool false], 25) (.tail _ (.head _)))
        have f5 := f0.1
        clear f0
        go_simp
        exact HK.out (.int .i64 l1) _ (hJ.grow hLi (by decide) (by decide) (Below.refl _ _)) (rfl) vyL_same
      · skip
        have x6 : A.tmps[6]? = some (.pointer (some ⟨kb, 0, none⟩)) := (hev 6 (by decide)).trans rfl
        clear hd hev hin
        simp only [List.getElem_cons_succ, List.getElem_cons_zero]
        clear hl
        refine .inr ⟨rfl, fun K' hK => ?_⟩
        have HK := Lib.hid hK
        clear hK
        go_simp
        exact HK.out (.pointer (some ⟨kb, 1, none⟩)) _ (hJ.grow hLi (by decide) (by decide) (Below.refl _ _)) (rfl) vyL_same
      · skip
        have e7 : u 7 = .pointer (some ⟨kb, 1, none⟩) := (hd 7 (by decide) (by kernel_rfl)).2
        have x58 : A.tmps[58]? = some (.pointer (some ⟨kb, 1, none⟩)) := (hin 7 58 rfl).trans (congrArg some e7)
        clear hd hev hin
        simp only [List.getElem_cons_succ, List.getElem_cons_zero]
        clear hl
        refine .inr ⟨rfl, fun K' hK => ?_⟩
        have HK := Lib.hid hK
        clear hK
        have f0 := cl3 (hJ.cm.cs.at' (kb, #[.int .i64 r1, .int .i64 r2, .bool false], 25) (.head _))
        have f5 := f0.2.1
        clear f0
        go_simp
        exact HK.out (.int .i64 r2) _ (hJ.grow hLi (by decide) (by decide) (Below.refl _ _)) (rfl) vyL_same
      · skip
        have e6 : u 6 = .int .i64 l1 := (hd 6 (by decide) (by kernel_rfl)).2
        have x57 : A.tmps[57]? = some (.int .i64 l1) := (hin 6 57 rfl).trans (congrArg some e6)
        have e8 : u 8 = .int .i64 r2 := (hd 8 (by decide) (by kernel_rfl)).2
        have x59 : A.tmps[59]? = some (.int .i64 r2) := (hin 8 59 rfl).trans (congrArg some e8)
        clear hd hev hin
        simp only [List.getElem_cons_succ, List.getElem_cons_zero]
        clear hl
        refine .inr ⟨rfl, fun K' hK => ?_⟩
        have HK := Lib.hid hK
        clear hK
        go_simp
        refine (HU01.out W).mono ?_
        rintro e W' ⟨rfl, hB⟩
        exact HK.out (.int .i64 U01) _ (hJ.grow hLi (by decide) (by decide) hB) (rfl) (vyL_later hB)
      · skip
        have x5 : A.tmps[5]? = some (.pointer (some ⟨ka, 0, none⟩)) := (hev 5 (by decide)).trans rfl
        clear hd hev hin
        simp only [List.getElem_cons_succ, List.getElem_cons_zero]
        clear hl
        refine .inr ⟨rfl, fun K' hK => ?_⟩
        have HK := Lib.hid hK
        clear hK
        go_simp
        exact HK.out (.pointer (some ⟨ka, 1, none⟩)) _ (hJ.grow hLi (by decide) (by decide) (Below.refl _ _)) (rfl) vyL_same
      · skip
        have e10 : u 10 = .pointer (some ⟨ka, 1, none⟩) := (hd 10 (by decide) (by kernel_rfl)).2
        have x61 : A.tmps[61]? = some (.pointer (some ⟨ka, 1, none⟩)) := (hin 10 61 rfl).trans (congrArg some e10)
        clear hd hev hin
        simp only [List.getElem_cons_succ, List.getElem_cons_zero]
        clear hl
        refine .inr ⟨rfl, fun K' hK => ?_⟩
        have HK := Lib.hid hK
        clear hK
        have f0 := cl3 (hJ.cm.cs.at' (ka, #[.int .i64 l1, .int .i64 l2, .bool false], 25) (.tail _ (.head _)))
        have f5 := f0.2.1
        clear f0
        go_simp
        exact HK.out (.int .i64 l2) _ (hJ.grow hLi (by decide) (by decide) (Below.refl _ _)) (rfl) vyL_same
      · skip
        have x6 : A.tmps[6]? = some (.pointer (some ⟨kb, 0, none⟩)) := (hev 6 (by decide)).trans rfl
        clear hd hev hin
        simp only [List.getElem_cons_succ, List.getElem_cons_zero]
        clear hl
        refine .inr ⟨rfl, fun K' hK => ?_⟩
        have HK := Lib.hid hK
        clear hK
        go_simp
        exact HK.out (.pointer (some ⟨kb, 0, none⟩)) _ (hJ.grow hLi (by decide) (by decide) (Below.refl _ _)) (rfl) vyL_same
      · skip
        have e12 : u 12 = .pointer (some ⟨kb, 0, none⟩) := (hd 12 (by decide) (by kernel_rfl)).2
        have x63 : A.tmps[63]? = some (.pointer (some ⟨kb, 0, none⟩)) := (hin 12 63 rfl).trans (congrArg some e12)
        clear hd hev hin
        simp only [List.getElem_cons_succ, List.getElem_cons_zero]
        clear hl
        refine .inr ⟨rfl, fun K' hK => ?_⟩
        have HK := Lib.hid hK
        clear hK
        have f0 := cl3 (hJ.cm.cs.at' (kb, #[.int .i64 r1, .int .i64 r2, .bool false], 25) (.head _))
        have f5 := f0.1
        clear f0
        go_simp
        exact HK.out (.int .i64 r1) _ (hJ.grow hLi (by decide) (by decide) (Below.refl _ _)) (rfl) vyL_same
      · skip
        have e11 : u 11 = .int .i64 l2 := (hd 11 (by decide) (by kernel_rfl)).2
        have x62 : A.tmps[62]? = some (.int .i64 l2) := (hin 11 62 rfl).trans (congrArg some e11)
        have e13 : u 13 = .int .i64 r1 := (hd 13 (by decide) (by kernel_rfl)).2
        have x64 : A.tmps[64]? = some (.int .i64 r1) := (hin 13 64 rfl).trans (congrArg some e13)
        clear hd hev hin
        simp only [List.getElem_cons_succ, List.getElem_cons_zero]
        clear hl
        refine .inr ⟨rfl, fun K' hK => ?_⟩
        have HK := Lib.hid hK
        clear hK
        go_simp
        refine (HU10.out W).mono ?_
        rintro e W' ⟨rfl, hB⟩
        exact HK.out (.int .i64 U10) _ (hJ.grow hLi (by decide) (by decide) hB) (rfl) (vyL_later hB)
      · skip
        have x5 : A.tmps[5]? = some (.pointer (some ⟨ka, 0, none⟩)) := (hev 5 (by decide)).trans rfl
        clear hd hev hin
        simp only [List.getElem_cons_succ, List.getElem_cons_zero]
        clear hl
        refine .inr ⟨rfl, fun K' hK => ?_⟩
        have HK := Lib.hid hK
        clear hK
        go_simp
        exact HK.out (.pointer (some ⟨ka, 1, none⟩)) _ (hJ.grow hLi (by decide) (by decide) (Below.refl _ _)) (rfl) vyL_same
      · skip
        have e15 : u 15 = .pointer (some ⟨ka, 1, none⟩) := (hd 15 (by decide) (by kernel_rfl)).2
        have x66 : A.tmps[66]? = some (.pointer (some ⟨ka, 1, none⟩)) := (hin 15 66 rfl).trans (congrArg some e15)
        clear hd hev hin
        simp only [List.getElem_cons_succ, List.getElem_cons_zero]
        clear hl
        refine .inr ⟨rfl, fun K' hK => ?_⟩
        have HK := Lib.hid hK
        clear hK
        have f0 := cl3 (hJ.cm.cs.at' (ka, #[.int .i64 l1, .int .i64 l2, .bool false], 25) (.tail _ (.head _)))
        have f5 := f0.2.1
        clear f0
        go_simp
        exact HK.out (.int .i64 l2) _ (hJ.grow hLi (by decide) (by decide) (Below.refl _ _)) (rfl) vyL_same
      · skip
        have x6 : A.tmps[6]? = some (.pointer (some ⟨kb, 0, none⟩)) := (hev 6 (by decide)).trans rfl
        clear hd hev hin
        simp only [List.getElem_cons_succ, List.getElem_cons_zero]
        clear hl
        refine .inr ⟨rfl, fun K' hK => ?_⟩
        have HK := Lib.hid hK
        clear hK
        go_simp
        exact HK.out (.pointer (some ⟨kb, 1, none⟩)) _ (hJ.grow hLi (by decide) (by decide) (Below.refl _ _)) (rfl) vyL_same
      · skip
        have e17 : u 17 = .pointer (some ⟨kb, 1, none⟩) := (hd 17 (by decide) (by kernel_rfl)).2
        have x68 : A.tmps[68]? = some (.pointer (some ⟨kb, 1, none⟩)) := (hin 17 68 rfl).trans (congrArg some e17)
        clear hd hev hin
        simp only [List.getElem_cons_succ, List.getElem_cons_zero]
        clear hl
        refine .inr ⟨rfl, fun K' hK => ?_⟩
        have HK := Lib.hid hK
        clear hK
        have f0 := cl3 (hJ.cm.cs.at' (kb, #[.int .i64 r1, .int .i64 r2, .bool false], 25) (.head _))
        have f5 := f0.2.1
        clear f0
        go_simp
        exact HK.out (.int .i64 r2) _ (hJ.grow hLi (by decide) (by decide) (Below.refl _ _)) (rfl) vyL_same
      · skip
        have e16 : u 16 = .int .i64 l2 := (hd 16 (by decide) (by kernel_rfl)).2
        have x67 : A.tmps[67]? = some (.int .i64 l2) := (hin 16 67 rfl).trans (congrArg some e16)
        have e18 : u 18 = .int .i64 r2 := (hd 18 (by decide) (by kernel_rfl)).2
        have x69 : A.tmps[69]? = some (.int .i64 r2) := (hin 18 69 rfl).trans (congrArg some e18)
        clear hd hev hin
        simp only [List.getElem_cons_succ, List.getElem_cons_zero]
        clear hl
        refine .inr ⟨rfl, fun K' hK => ?_⟩
        have HK := Lib.hid hK
        clear hK
        go_simp
        refine (HU11.out W).mono ?_
        rintro e W' ⟨rfl, hB⟩
        exact HK.out (.int .i64 U11) _ (hJ.grow hLi (by decide) (by decide) hB) (rfl) (vyL_later hB)
      · skip
        have e4 : u 4 = .int .i64 U00 := (hd 4 (by decide) (by kernel_rfl)).2
        have x55 : A.tmps[55]? = some (.int .i64 U00) := (hin 4 55 rfl).trans (congrArg some e4)
        have e9 : u 9 = .int .i64 U01 := (hd 9 (by decide) (by kernel_rfl)).2
        have x60 : A.tmps[60]? = some (.int .i64 U01) := (hin 9 60 rfl).trans (congrArg some e9)
        have e14 : u 14 = .int .i64 U10 := (hd 14 (by decide) (by kernel_rfl)).2
        have x65 : A.tmps[65]? = some (.int .i64 U10) := (hin 14 65 rfl).trans (congrArg some e14)
        have e19 : u 19 = .int .i64 U11 := (hd 19 (by decide) (by kernel_rfl)).2
        have x70 : A.tmps[70]? = some (.int .i64 U11) := (hin 19 70 rfl).trans (congrArg some e19)
        clear hd hev hin
        simp only [List.getElem_cons_succ, List.getElem_cons_zero]
        clear hl
        refine .inr ⟨rfl, fun K' hK => ?_⟩
        have HK := Lib.hid hK
        clear hK
        go_simp
        exact HK.out (.int .i64 (max U00 (max U01 (max U10 U11)))) _ (hJ.grow hLi (by decide) (by decide) (Below.refl _ _)) (rfl) vyL_same
      · skip
        have e20 : u 20 = .int .i64 (max U00 (max U01 (max U10 U11))) := (hd 20 (by decide) (by kernel_rfl)).2
        have x71 : A.tmps[71]? = some (.int .i64 (max U00 (max U01 (max U10 U11)))) := (hin 20 71 rfl).trans (congrArg some e20)
        clear hd hev hin
        simp only [List.getElem_cons_succ, List.getElem_cons_zero]
        clear hl
        refine .inr ⟨rfl, fun K' hK => ?_⟩
        have HK := Lib.hid hK
        clear hK
        go_simp
        exact HK.out (.int .i64 (max U00 (max U01 (max U10 U11)))) _ (hJ.grow hLi (by decide) (by decide) (Below.refl _ _)) (rfl) vyL_same
    intro L u W hL hJ hd
    have e0 : u 0 = .pointer (some ⟨ka, 0, none⟩) := hd 0 (by decide)
    have e1 : u 1 = .int .i64 l1 := hd 1 (by decide)
    have e2 : u 2 = .pointer (some ⟨kb, 0, none⟩) := hd 2 (by decide)
    have e3 : u 3 = .int .i64 r1 := hd 3 (by decide)
    have e4 : u 4 = .int .i64 U00 := hd 4 (by decide)
    have e5 : u 5 = .pointer (some ⟨ka, 0, none⟩) := hd 5 (by decide)
    have e6 : u 6 = .int .i64 l1 := hd 6 (by decide)
    have e7 : u 7 = .pointer (some ⟨kb, 1, none⟩) := hd 7 (by decide)
    have e8 : u 8 = .int .i64 r2 := hd 8 (by decide)
    have e9 : u 9 = .int .i64 U01 := hd 9 (by decide)
    have e10 : u 10 = .pointer (some ⟨ka, 1, none⟩) := hd 10 (by decide)
    have e11 : u 11 = .int .i64 l2 := hd 11 (by decide)
    have e12 : u 12 = .pointer (some ⟨kb, 0, none⟩) := hd 12 (by decide)
    have e13 : u 13 = .int .i64 r1 := hd 13 (by decide)
    have e14 : u 14 = .int .i64 U10 := hd 14 (by decide)
    have e15 : u 15 = .pointer (some ⟨ka, 1, none⟩) := hd 15 (by decide)
    have e16 : u 16 = .int .i64 l2 := hd 16 (by decide)
    have e17 : u 17 = .pointer (some ⟨kb, 1, none⟩) := hd 17 (by decide)
    have e18 : u 18 = .int .i64 r2 := hd 18 (by decide)
    have e19 : u 19 = .int .i64 U11 := hd 19 (by decide)
    have e20 : u 20 = .int .i64 (max U00 (max U01 (max U10 U11))) := hd 20 (by decide)
    have e21 : u 21 = .int .i64 (max U00 (max U01 (max U10 U11))) := hd 21 (by decide)
    simp only [layS, Act.put, List.setIfInBounds_toArray, List.set_cons_succ, List.set_cons_zero, Nat.zero_add, Nat.reduceAdd, List.drop_succ_cons, List.drop_zero, List.drop_nil, e0, e1, e2, e3, e4, e5, e6, e7, e8, e9, e10, e11, e12, e13, e14, e15, e16, e17, e18, e19, e20, e21]
    replace hC := hJ.cm.cs
    clear hJ hL hJ0 hd e0 e1 e2 e3 e4 e5 e6 e7 e8 e9 e10 e11 e12 e13 e14 e15 e16 e17 e18 e19 e20 e21
    go_wp2_with fail
    refine (HO1.out _).mono ?_
    rintro e w7 ⟨p, zp, rfl, hp, hB⟩
    replace hC := (hC.later hB).more hp
    clear hB hp
    go_wp2_with fail
    refine (HO2.out _).mono ?_
    rintro e w8 ⟨q, zq, rfl, hq, hB⟩
    replace hC := (hC.later hB).more hq
    clear hB hq
    go_wp2_with fail
    refine (HT.out p q _ (hC.num p (.tail _ (.head _))) (hC.num q (.head _)) zp zq).mono ?_
    rintro e w9 ⟨rfl, hB⟩
    replace hC := hC.later hB
    have hR := cl3 (hC.at' (w.heap.size + 2, #[.int .i64 0, .int .i64 0, .bool false], 25) (.tail _ (.tail _ (.head _))))
    have c1 := hR.1
    have c2 := hR.2.1
    have c3 := hR.2.2.1
    have c4 := hR.2.2.2.1
    have c5 := hR.2.2.2.2.1
    have c6 := hR.2.2.2.2.2
    have hf := fin3 hC.below 2 zz
    clear hR hB hC
    go_wp2
    exact bodyPost_ret (v := .agg #[.int .i64 zz.lo, .int .i64 zz.hi, .bool zz.all]) (by simp [results, Try.results21, go_sem, c1, c2, c3]) rfl ⟨rfl, hf⟩
  · have d1 : decide (r1 ≤ 0) = false := decide_eq_false q1
    clear q1 HZ
    go_wp2
    generalize w3.alloc (.cells #[.int .i64 r1, .int .i64 r2, .bool false] 25) = w4 at *
    generalize w3.heap.size = kb at *
    clear f5 f6 f7
    obtain ⟨m5, hm5⟩ : ∃ m, m = w4.heap.size := ⟨_, rfl⟩
    have hJ0 : ∀ u, Jy w m5 [(kb, #[.int .i64 r1, .int .i64 r2, .bool false], 25), (ka, #[.int .i64 l1, .int .i64 l2, .bool false], 25), (w.heap.size + 2, #[.int .i64 0, .int .i64 0, .bool false], 25), (w.heap.size + 1, #[.int .i64 r1, .int .i64 r2, .bool false], 25), (w.heap.size, #[.int .i64 l1, .int .i64 l2, .bool false], 25)] [] 71 [] [] (fun _ => false) u w4.drew := fun u => by rw [hm5]; exact Jy.start (hC) u
    refine wp_region_y 22 [some 30, some 31, some 32, some 33, some 34, some 35, some 36, some 37, some 38, some 39, some 40, some 41, some 42, some 43, some 44, some 45, some 46, some 47, some 48, some 49, some 50, some 7] (vyL [.eq (.pointer (some ⟨ka, 0, none⟩)), .eq (.int .i64 l1), .eq (.pointer (some ⟨kb, 0, none⟩)), .eq (.int .i64 r1), .eq (.int .i64 D00), .eq (.pointer (some ⟨ka, 0, none⟩)), .eq (.int .i64 l1), .eq (.pointer (some ⟨kb, 1, none⟩)), .eq (.int .i64 r2), .eq (.int .i64 D01), .eq (.pointer (some ⟨ka, 1, none⟩)), .eq (.int .i64 l2), .eq (.pointer (some ⟨kb, 0, none⟩)), .eq (.int .i64 r1), .eq (.int .i64 D10), .eq (.pointer (some ⟨ka, 1, none⟩)), .eq (.int .i64 l2), .eq (.pointer (some ⟨kb, 1, none⟩)), .eq (.int .i64 r2), .eq (.int .i64 D11), .eq (.int .i64 (min D00 (min D01 (min D10 D11)))), .eq (.int .i64 (min D00 (min D01 (min D10 D11))))]) (Jy w m5 [(kb, #[.int .i64 r1, .int .i64 r2, .bool false], 25), (ka, #[.int .i64 l1, .int .i64 l2, .bool false], 25), (w.heap.size + 2, #[.int .i64 0, .int .i64 0, .bool false], 25), (w.heap.size + 1, #[.int .i64 r1, .int .i64 r2, .bool false], 25), (w.heap.size, #[.int .i64 l1, .int .i64 l2, .bool false], 25)] [] 71 [] []) (by kernel_rfl) (by kernel_rfl) (by rfl) (by decide) (by rfl) hJ0 ?_ ?_
    · intro i hl hi L u W A hLi hJ hd hev hin
      obtain rfl | rfl | rfl | rfl | rfl | rfl | rfl | rfl | rfl | rfl | rfl | rfl | rfl | rfl | rfl | rfl | rfl | rfl | rfl | rfl | rfl | rfl : i = 0 ∨ i = 1 ∨ i = 2 ∨ i = 3 ∨ i = 4 ∨ i = 5 ∨ i = 6 ∨ i = 7 ∨ i = 8 ∨ i = 9 ∨ i = 10 ∨ i = 11 ∨ i = 12 ∨ i = 13 ∨ i = 14 ∨ i = 15 ∨ i = 16 ∨ i = 17 ∨ i = 18 ∨ i = 19 ∨ i = 20 ∨ i = 21 := by omega
      · skip
        have x5 : A.tmps[5]? = some (.pointer (some ⟨ka, 0, none⟩)) := (hev 5 (by decide)).trans rfl
        clear hd hev hin
        simp only [List.getElem_cons_succ, List.getElem_cons_zero]
        clear hl
        refine .inr ⟨rfl, fun K' hK => ?_⟩
        have HK := Lib.hid hK
        clear hK
        go_simp
        exact HK.out (.pointer (some ⟨ka, 0, none⟩)) _ (hJ.grow hLi (by decide) (by decide) (Below.refl _ _)) (rfl) vyL_same
      · skip
        have e0 : u 0 = .pointer (some ⟨ka, 0, none⟩) := (hd 0 (by decide) (by kernel_rfl)).2
        have x30 : A.tmps[30]? = some (.pointer (some ⟨ka, 0, none⟩)) := (hin 0 30 rfl).trans (congrArg some e0)
        clear hd hev hin
        simp only [List.getElem_cons_succ, List.getElem_cons_zero]
        clear hl
        refine .inr ⟨rfl, fun K' hK => ?_⟩
        have HK := Lib.hid hK
        clear hK
        have f0 := cl3 (hJ.cm.cs.at' (ka, #[.int .i64 l1, .int .i64 l2, .bool false], 25) (.tail _ (.head _)))
        have f5 := f0.1
        clear f0
        go_simp
        exact HK.out (.int .i64 l1) _ (hJ.grow hLi (by decide) (by decide) (Below.refl _ _)) (rfl) vyL_same
      · skip
        have x6 : A.tmps[6]? = some (.pointer (some ⟨kb, 0, none⟩)) := (hev 6 (by decide)).trans rfl
        clear hd hev hin
        simp only [List.getElem_cons_succ, List.getElem_cons_zero]
        clear hl
        refine .inr ⟨rfl, fun K' hK => ?_⟩
        have HK := Lib.hid hK
        clear hK
        go_simp
        exact HK.out (.pointer (some ⟨kb, 0, none⟩)) _ (hJ.grow hLi (by decide) (by decide) (Below.refl _ _)) (rfl) vyL_same
      · skip
        have e2 : u 2 = .pointer (some ⟨kb, 0, none⟩) := (hd 2 (by decide) (by kernel_rfl)).2
        have x32 : A.tmps[32]? = some (.pointer (some ⟨kb, 0, none⟩)) := (hin 2 32 rfl).trans (congrArg some e2)
        clear hd hev hin
        simp only [List.getElem_cons_succ, List.getElem_cons_zero]
        clear hl
        refine .inr ⟨rfl, fun K' hK => ?_⟩
        have HK := Lib.hid hK
        clear hK
        have f0 := cl3 (hJ.cm.cs.at' (kb, #[.int .i64 r1, .int .i64 r2, .bool false], 25) (.head _))
        have f5 := f0.1
        clear f0
        go_simp
        exact HK.out (.int .i64 r1) _ (hJ.grow hLi (by decide) (by decide) (Below.refl _ _)) (rfl) vyL_same
      · skip
        have e1 : u 1 = .int .i64 l1 := (hd 1 (by decide) (by kernel_rfl)).2
        have x31 : A.tmps[31]? = some (.int .i64 l1) := (hin 1 31 rfl).trans (congrArg some e1)
        have e3 : u 3 = .int .i64 r1 := (hd 3 (by decide) (by kernel_rfl)).2
        have x33 : A.tmps[33]? = some (.int .i64 r1) := (hin 3 33 rfl).trans (congrArg some e3)
        clear hd hev hin
        simp only [List.getElem_cons_succ, List.getElem_cons_zero]
        clear hl
        refine .inr ⟨rfl, fun K' hK => ?_⟩
        have HK := Lib.hid hK
        clear hK
        go_simp
        refine (HD00.out W).mono ?_
        rintro e W' ⟨rfl, hB⟩
        exact HK.out (.int .i64 D00) _ (hJ.grow hLi (by decide) (by decide) hB) (rfl) (vyL_later hB)
      · skip
        have x5 : A.tmps[5]? = some (.pointer (some ⟨ka, 0, none⟩)) := (hev 5 (by decide)).trans rfl
        clear hd hev hin
        simp only [List.getElem_cons_succ, List.getElem_cons_zero]
        clear hl
        refine .inr ⟨rfl, fun K' hK => ?_⟩
        have HK := Lib.hid hK
        clear hK
        go_simp
        exact HK.out (.pointer (some ⟨ka, 0, none⟩)) _ (hJ.grow hLi (by decide) (by decide) (Below.refl _ _)) (rfl) vyL_same
      · skip
        have e5 : u 5 = .pointer (some ⟨ka, 0, none⟩) := (hd 5 (by decide) (by kernel_rfl)).2
        have x35 : A.tmps[35]? = some (.pointer (some ⟨ka, 0, none⟩)) := (hin 5 35 rfl).trans (congrArg some e5)
        clear hd hev hin
        simp only [List.getElem_cons_succ, List.getElem_cons_zero]
        clear hl
        refine .inr ⟨rfl, fun K' hK => ?_⟩
        have HK := Lib.hid hK
        clear hK
        have f0 := cl3 (hJ.cm.cs.at' (ka, #[.int .i64 l1, .int .i64 l2, .bool false], 25) (.tail _ (.head _)))
        have f5 := f0.1
        clear f0
        go_simp
        exact HK.out (.int .i64 l1) _ (hJ.grow hLi (by decide) (by decide) (Below.refl _ _)) (rfl) vyL_same
      · skip
        have x6 : A.tmps[6]? = some (.pointer (some ⟨kb, 0, none⟩)) := (hev 6 (by decide)).trans rfl
        clear hd hev hin
        simp only [List.getElem_cons_succ, List.getElem_cons_zero]
        clear hl
        refine .inr ⟨rfl, fun K' hK => ?_⟩
        have HK := Lib.hid hK
        clear hK
        go_simp
        exact HK.out (.pointer (some ⟨kb, 1, none⟩)) _ (hJ.grow hLi (by decide) (by decide) (Below.refl _ _)) (rfl) vyL_same
      · skip
        have e7 : u 7 = .pointer (some ⟨kb, 1, none⟩) := (hd 7 (by decide) (by kernel_rfl)).2
        have x37 : A.tmps[37]? = some (.pointer (some ⟨kb, 1, none⟩)) := (hin 7 37 rfl).trans (congrArg some e7)
        clear hd hev hin
        simp only [List.getElem_cons_succ, List.getElem_cons_zero]
        clear hl
        refine .inr ⟨rfl, fun K' hK => ?_⟩
        have HK := Lib.hid hK
        clear hK
        have f0 := cl3 (hJ.cm.cs.at' (kb, #[.int .i64 r1, .int .i64 r2, .bool false], 25) (.head _))
        have f5 := f0.2.1
        clear f0
        go_simp
        exact HK.out (.int .i64 r2) _ (hJ.grow hLi (by decide) (by decide) (Below.refl _ _)) (rfl) vyL_same
      · skip
        have e6 : u 6 = .int .i64 l1 := (hd 6 (by decide) (by kernel_rfl)).2
        have x36 : A.tmps[36]? = some (.int .i64 l1) := (hin 6 36 rfl).trans (congrArg some e6)
        have e8 : u 8 = .int .i64 r2 := (hd 8 (by decide) (by kernel_rfl)).2
        have x38 : A.tmps[38]? = some (.int .i64 r2) := (hin 8 38 rfl).trans (congrArg some e8)
        clear hd hev hin
        simp only [List.getElem_cons_succ, List.getElem_cons_zero]
        clear hl
        refine .inr ⟨rfl, fun K' hK => ?_⟩
        have HK := Lib.hid hK
        clear hK
        go_simp
        refine (HD01.out W).mono ?_
        rintro e W' ⟨rfl, hB⟩
        exact HK.out (.int .i64 D01) _ (hJ.grow hLi (by decide) (by decide) hB) (rfl) (vyL_later hB)
      · skip
        have x5 : A.tmps[5]? = some (.pointer (some ⟨ka, 0, none⟩)) := (hev 5 (by decide)).trans rfl
        clear hd hev hin
        simp only [List.getElem_cons_succ, List.getElem_cons_zero]
        clear hl
        refine .inr ⟨rfl, fun K' hK => ?_⟩
        have HK := Lib.hid hK
        clear hK
        go_simp
        exact HK.out (.pointer (some ⟨ka, 1, none⟩)) _ (hJ.grow hLi (by decide) (by decide) (Below.refl _ _)) (rfl) vyL_same
      · skip
        have e10 : u 10 = .pointer (some ⟨ka, 1, none⟩) := (hd 10 (by decide) (by kernel_rfl)).2
        have x40 : A.tmps[40]? = some (.pointer (some ⟨ka, 1, none⟩)) := (hin 10 40 rfl).trans (congrArg some e10)
        clear hd hev hin
        simp only [List.getElem_cons_succ, List.getElem_cons_zero]
        clear hl
        refine .inr ⟨rfl, fun K' hK => ?_⟩
        have HK := Lib.hid hK
        clear hK
        have f0 := cl3 (hJ.cm.cs.at' (ka, #[.int .i64 l1, .int .i64 l2, .bool false], 25) (.tail _ (.head _)))
        have f5 := f0.2.1
        clear f0
        go_simp
        exact HK.out (.int .i64 l2) _ (hJ.grow hLi (by decide) (by decide) (Below.refl _ _)) (rfl) vyL_same
      · skip
        have x6 : A.tmps[6]? = some (.pointer (some ⟨kb, 0, none⟩)) := (hev 6 (by decide)).trans rfl
        clear hd hev hin
        simp only [List.getElem_cons_succ, List.getElem_cons_zero]
        clear hl
        refine .inr ⟨rfl, fun K' hK => ?_⟩
        have HK := Lib.hid hK
        clear hK
        go_simp
        exact HK.out (.pointer (some ⟨kb, 0, none⟩)) _ (hJ.grow hLi (by decide) (by decide) (Below.refl _ _)) (rfl) vyL_same
      · skip
        have e12 : u 12 = .pointer (some ⟨kb, 0, none⟩) := (hd 12 (by decide) (by kernel_rfl)).2
        have x42 : A.tmps[42]? = some (.pointer (some ⟨kb, 0, none⟩)) := (hin 12 42 rfl).trans (congrArg some e12)
        clear hd hev hin
        simp only [List.getElem_cons_succ, List.getElem_cons_zero]
        clear hl
        refine .inr ⟨rfl, fun K' hK => ?_⟩
        have HK := Lib.hid hK
        clear hK
        have f0 := cl3 (hJ.cm.cs.at' (kb, #[.int .i64 r1, .int .i64 r2, .bool false], 25) (.head _))
        have f5 := f0.1
        clear f0
        go_simp
        exact HK.out (.int .i64 r1) _ (hJ.grow hLi (by decide) (by decide) (Below.refl _ _)) (rfl) vyL_same
      · skip
        have e11 : u 11 = .int .i64 l2 := (hd 11 (by decide) (by kernel_rfl)).2
        have x41 : A.tmps[41]? = some (.int .i64 l2) := (hin 11 41 rfl).trans (congrArg some e11)
        have e13 : u 13 = .int .i64 r1 := (hd 13 (by decide) (by kernel_rfl)).2
        have x43 : A.tmps[43]? = some (.int .i64 r1) := (hin 13 43 rfl).trans (congrArg some e13)
        clear hd hev hin
        simp only [List.getElem_cons_succ, List.getElem_cons_zero]
        clear hl
        refine .inr ⟨rfl, fun K' hK => ?_⟩
        have HK := Lib.hid hK
        clear hK
        go_simp
        refine (HD10.out W).mono ?_
        rintro e W' ⟨rfl, hB⟩
        exact HK.out (.int .i64 D10) _ (hJ.grow hLi (by decide) (by decide) hB) (rfl) (vyL_later hB)
      · skip
        have x5 : A.tmps[5]? = some (.pointer (some ⟨ka, 0, none⟩)) := (hev 5 (by decide)).trans rfl
        clear hd hev hin
        simp only [List.getElem_cons_succ, List.getElem_cons_zero]
        clear hl
        refine .inr ⟨rfl, fun K' hK => ?_⟩
        have HK := Lib.hid hK
        clear hK
        go_simp
        exact HK.out (.pointer (some ⟨ka, 1, none⟩)) _ (hJ.grow hLi (by decide) (by decide) (Below.refl _ _)) (rfl) vyL_same
      · skip
        have e15 : u 15 = .pointer (some ⟨ka, 1, none⟩) := (hd 15 (by decide) (by kernel_rfl)).2
        have x45 : A.tmps[45]? = some (.pointer (some ⟨ka, 1, none⟩)) := (hin 15 45 rfl).trans (congrArg some e15)
        clear hd hev hin
        simp only [List.getElem_cons_succ, List.getElem_cons_zero]
        clear hl
        refine .inr ⟨rfl, fun K' hK => ?_⟩
        have HK := Lib.hid hK
        clear hK
        have f0 := cl3 (hJ.cm.cs.at' (ka, #[.int .i64 l1, .int .i64 l2, .bool false], 25) (.tail _ (.head _)))
        have f5 := f0.2.1
        clear f0
        go_simp
        exact HK.out (.int .i64 l2) _ (hJ.grow hLi (by decide) (by decide) (Below.refl _ _)) (rfl) vyL_same
      · skip
        have x6 : A.tmps[6]? = some (.pointer (some ⟨kb, 0, none⟩)) := (hev 6 (by decide)).trans rfl
        clear hd hev hin
        simp only [List.getElem_cons_succ, List.getElem_cons_zero]
        clear hl
        refine .inr ⟨rfl, fun K' hK => ?_⟩
        have HK := Lib.hid hK
        clear hK
        go_simp
        exact HK.out (.pointer (some ⟨kb, 1, none⟩)) _ (hJ.grow hLi (by decide) (by decide) (Below.refl _ _)) (rfl) vyL_same
      · skip
        have e17 : u 17 = .pointer (some ⟨kb, 1, none⟩) := (hd 17 (by decide) (by kernel_rfl)).2
        have x47 : A.tmps[47]? = some (.pointer (some ⟨kb, 1, none⟩)) := (hin 17 47 rfl).trans (congrArg some e17)
        clear hd hev hin
        simp only [List.getElem_cons_succ, List.getElem_cons_zero]
        clear hl
        refine .inr ⟨rfl, fun K' hK => ?_⟩
        have HK := Lib.hid hK
        clear hK
        have f0 := cl3 (hJ.cm.cs.at' (kb, #[.int .i64 r1, .int .i64 r2, .bool false], 25) (.head _))
        have f5 := f0.2.1
        clear f0
        go_simp
        exact HK.out (.int .i64 r2) _ (hJ.grow hLi (by decide) (by decide) (Below.refl _ _)) (rfl) vyL_same
      · skip
        have e16 : u 16 = .int .i64 l2 := (hd 16 (by decide) (by kernel_rfl)).2
        have x46 : A.tmps[46]? = some (.int .i64 l2) := (hin 16 46 rfl).trans (congrArg some e16)
        have e18 : u 18 = .int .i64 r2 := (hd 18 (by decide) (by kernel_rfl)).2
        have x48 : A.tmps[48]? = some (.int .i64 r2) := (hin 18 48 rfl).trans (congrArg some e18)
        clear hd hev hin
        simp only [List.getElem_cons_succ, List.getElem_cons_zero]
        clear hl
        refine .inr ⟨rfl, fun K' hK => ?_⟩
        have HK := Lib.hid hK
        clear hK
        go_simp
        refine (HD11.out W).mono ?_
        rintro e W' ⟨rfl, hB⟩
        exact HK.out (.int .i64 D11) _ (hJ.grow hLi (by decide) (by decide) hB) (rfl) (vyL_later hB)
      · skip
        have e4 : u 4 = .int .i64 D00 := (hd 4 (by decide) (by kernel_rfl)).2
        have x34 : A.tmps[34]? = some (.int .i64 D00) := (hin 4 34 rfl).trans (congrArg some e4)
        have e9 : u 9 = .int .i64 D01 := (hd 9 (by decide) (by kernel_rfl)).2
        have x39 : A.tmps[39]? = some (.int .i64 D01) := (hin 9 39 rfl).trans (congrArg some e9)
        have e14 : u 14 = .int .i64 D10 := (hd 14 (by decide) (by kernel_rfl)).2
        have x44 : A.tmps[44]? = some (.int .i64 D10) := (hin 14 44 rfl).trans (congrArg some e14)
        have e19 : u 19 = .int .i64 D11 := (hd 19 (by decide) (by kernel_rfl)).2
        have x49 : A.tmps[49]? = some (.int .i64 D11) := (hin 19 49 rfl).trans (congrArg some e19)
        clear hd hev hin
        simp only [List.getElem_cons_succ, List.getElem_cons_zero]
        clear hl
        refine .inr ⟨rfl, fun K' hK => ?_⟩
        have HK := Lib.hid hK
        clear hK
        go_simp
        exact HK.out (.int .i64 (min D00 (min D01 (min D10 D11)))) _ (hJ.grow hLi (by decide) (by decide) (Below.refl _ _)) (rfl) vyL_same
      · skip
        have e20 : u 20 = .int .i64 (min D00 (min D01 (min D10 D11))) := (hd 20 (by decide) (by kernel_rfl)).2
        have x50 : A.tmps[50]? = some (.int .i64 (min D00 (min D01 (min D10 D11)))) := (hin 20 50 rfl).trans (congrArg some e20)
        clear hd hev hin
        simp only [List.getElem_cons_succ, List.getElem_cons_zero]
        clear hl
        refine .inr ⟨rfl, fun K' hK => ?_⟩
        have HK := Lib.hid hK
        clear hK
        go_simp
        exact HK.out (.int .i64 (min D00 (min D01 (min D10 D11)))) _ (hJ.grow hLi (by decide) (by decide) (Below.refl _ _)) (rfl) vyL_same
    intro L u W hL hJ hd
    have e0 : u 0 = .pointer (some ⟨ka, 0, none⟩) := hd 0 (by decide)
    have e1 : u 1 = .int .i64 l1 := hd 1 (by decide)
    have e2 : u 2 = .pointer (some ⟨kb, 0, none⟩) := hd 2 (by decide)
    have e3 : u 3 = .int .i64 r1 := hd 3 (by decide)
    have e4 : u 4 = .int .i64 D00 := hd 4 (by decide)
    have e5 : u 5 = .pointer (some ⟨ka, 0, none⟩) := hd 5 (by decide)
    have e6 : u 6 = .int .i64 l1 := hd 6 (by decide)
    have e7 : u 7 = .pointer (some ⟨kb, 1, none⟩) := hd 7 (by decide)
    have e8 : u 8 = .int .i64 r2 := hd 8 (by decide)
    have e9 : u 9 = .int .i64 D01 := hd 9 (by decide)
    have e10 : u 10 = .pointer (some ⟨ka, 1, none⟩) := hd 10 (by decide)
    have e11 : u 11 = .int .i64 l2 := hd 11 (by decide)
    have e12 : u 12 = .pointer (some ⟨kb, 0, none⟩) := hd 12 (by decide)
    have e13 : u 13 = .int .i64 r1 := hd 13 (by decide)
    have e14 : u 14 = .int .i64 D10 := hd 14 (by decide)
    have e15 : u 15 = .pointer (some ⟨ka, 1, none⟩) := hd 15 (by decide)
    have e16 : u 16 = .int .i64 l2 := hd 16 (by decide)
    have e17 : u 17 = .pointer (some ⟨kb, 1, none⟩) := hd 17 (by decide)
    have e18 : u 18 = .int .i64 r2 := hd 18 (by decide)
    have e19 : u 19 = .int .i64 D11 := hd 19 (by decide)
    have e20 : u 20 = .int .i64 (min D00 (min D01 (min D10 D11))) := hd 20 (by decide)
    have e21 : u 21 = .int .i64 (min D00 (min D01 (min D10 D11))) := hd 21 (by decide)
    simp only [layS, Act.put, List.setIfInBounds_toArray, List.set_cons_succ, List.set_cons_zero, Nat.zero_add, Nat.reduceAdd, List.drop_succ_cons, List.drop_zero, List.drop_nil, e0, e1, e2, e3, e4, e5, e6, e7, e8, e9, e10, e11, e12, e13, e14, e15, e16, e17, e18, e19, e20, e21]
    replace hC := hJ.cm.cs
    clear hJ hL hJ0 hd e0 e1 e2 e3 e4 e5 e6 e7 e8 e9 e10 e11 e12 e13 e14 e15 e16 e17 e18 e19 e20 e21
    go_wp2
    generalize hW6 : W = w6 at *
    clear hW6
    obtain ⟨m6, hm6⟩ : ∃ m, m = w6.heap.size := ⟨_, rfl⟩
    have hJ0 : ∀ u, Jy w m6 [(kb, #[.int .i64 r1, .int .i64 r2, .bool false], 25), (ka, #[.int .i64 l1, .int .i64 l2, .bool false], 25), (w.heap.size + 2, #[.int .i64 0, .int .i64 0, .bool false], 25), (w.heap.size + 1, #[.int .i64 r1, .int .i64 r2, .bool false], 25), (w.heap.size, #[.int .i64 l1, .int .i64 l2, .bool false], 25)] [] 71 [] [] (fun _ => false) u w6.drew := fun u => by rw [hm6]; exact Jy.start (hC) u
    refine wp_region_y 22 [some 51, some 52, some 53, some 54, some 55, some 56, some 57, some 58, some 59, some 60, some 61, some 62, some 63, some 64, some 65, some 66, some 67, some 68, some 69, some 70, some 71, some 8] (vyL [.eq (.pointer (some ⟨ka, 0, none⟩)), .eq (.int .i64 l1), .eq (.pointer (some ⟨kb, 0, none⟩)), .eq (.int .i64 r1), .eq (.int .i64 U00), .eq (.pointer (some ⟨ka, 0, none⟩)), .eq (.int .i64 l1), .eq (.pointer (some ⟨kb, 1, none⟩)), .eq (.int .i64 r2), .eq (.int .i64 U01), .eq (.pointer (some ⟨ka, 1, none⟩)), .eq (.int .i64 l2), .eq (.pointer (some ⟨kb, 0, none⟩)), .eq (.int .i64 r1), .eq (.int .i64 U10), .eq (.pointer (some ⟨ka, 1, none⟩)), .eq (.int .i64 l2), .eq (.pointer (some ⟨kb, 1, none⟩)), .eq (.int .i64 r2), .eq (.int .i64 U11), .eq (.int .i64 (max U00 (max U01 (max U10 U11)))), .eq (.int .i64 (max U00 (max U01 (max U10 U11))))]) (Jy w m6 [(kb, #[.int .i64 r1, .int .i64 r2, .bool false], 25), (ka, #[.int .i64 l1, .int .i64 l2, .bool false], 25), (w.heap.size + 2, #[.int .i64 0, .int .i64 0, .bool false], 25), (w.heap.size + 1, #[.int .i64 r1, .int .i64 r2, .bool false], 25), (w.heap.size, #[.int .i64 l1, .int .i64 l2, .bool false], 25)] [] 71 [] []) (by kernel_rfl) (by kernel_rfl) (by rfl) (by decide) (by rfl) hJ0 ?_ ?_
    · intro i hl hi L u W A hLi hJ hd hev hin
      obtain rfl | rfl | rfl | rfl | rfl | rfl | rfl | rfl | rfl | rfl | rfl | rfl | rfl | rfl | rfl | rfl | rfl | rfl | rfl | rfl | rfl | rfl : i = 0 ∨ i = 1 ∨ i = 2 ∨ i = 3 ∨ i = 4 ∨ i = 5 ∨ i = 6 ∨ i = 7 ∨ i = 8 ∨ i = 9 ∨ i = 10 ∨ i = 11 ∨ i = 12 ∨ i = 13 ∨ i = 14 ∨ i = 15 ∨ i = 16 ∨ i = 17 ∨ i = 18 ∨ i = 19 ∨ i = 20 ∨ i = 21 := by omega
      · skip
        have x5 : A.tmps[5]? = some (.pointer (some ⟨ka, 0, none⟩)) := (hev 5 (by decide)).trans rfl
        clear hd hev hin
        simp only [List.getElem_cons_succ, List.getElem_cons_zero]
        clear hl
        refine .inr ⟨rfl, fun K' hK => ?_⟩
        have HK := Lib.hid hK
        clear hK
        go_simp
        exact HK.out (.pointer (some ⟨ka, 0, none⟩)) _ (hJ.grow hLi (by decide) (by decide) (Below.refl _ _)) (rfl) vyL_same
      · skip
        have e0 : u 0 = .pointer (some ⟨ka, 0, none⟩) := (hd 0 (by decide) (by kernel_rfl)).2
        have x51 : A.tmps[51]? = some (.pointer (some ⟨ka, 0, none⟩)) := (hin 0 51 rfl).trans (congrArg some e0)
        clear hd hev hin
        simp only [List.getElem_cons_succ, List.getElem_cons_zero]
        clear hl
        refine .inr ⟨rfl, fun K' hK => ?_⟩
        have HK := Lib.hid hK
        clear hK
        have f0 := cl3 (hJ.cm.cs.at' (ka, #[.int .i64 l1, .int .i64 l2, .bool false], 25) (.tail _ (.head _)))
        have f5 := f0.1
        clear f0
        go_simp
        exact HK.out (.int .i64 l1) _ (hJ.grow hLi (by decide) (by decide) (Below.refl _ _)) (rfl) vyL_same
      · skip
        have x6 : A.tmps[6]? = some (.pointer (some ⟨kb, 0, none⟩)) := (hev 6 (by decide)).trans rfl
        clear hd hev hin
        simp only [List.getElem_cons_succ, List.getElem_cons_zero]
        clear hl
        refine .inr ⟨rfl, fun K' hK => ?_⟩
        have HK := Lib.hid hK
        clear hK
        go_simp
        exact HK.out (.pointer (some ⟨kb, 0, none⟩)) _ (hJ.grow hLi (by decide) (by decide) (Below.refl _ _)) (rfl) vyL_same
      · skip
        have e2 : u 2 = .pointer (some ⟨kb, 0, none⟩) := (hd 2 (by decide) (by kernel_rfl)).2
        have x53 : A.tmps[53]? = some (.pointer (some ⟨kb, 0, none⟩)) := (hin 2 53 rfl).trans (congrArg some e2)
        clear hd hev hin
        simp only [List.getElem_cons_succ, List.getElem_cons_zero]
        clear hl
        refine .inr ⟨rfl, fun K' hK => ?_⟩
        have HK := Lib.hid hK
        clear hK
        have f0 := cl3 (hJ.cm.cs.at' (kb, #[.int .i64 r1, .int .i64 r2, .bool false], 25) (.head _))
        have f5 := f0.1
        clear f0
        go_simp
        exact HK.out (.int .i64 r1) _ (hJ.grow hLi (by decide) (by decide) (Below.refl _ _)) (rfl) vyL_same
      · skip
        have e1 : u 1 = .int .i64 l1 := (hd 1 (by decide) (by kernel_rfl)).2
        have x52 : A.tmps[52]? = some (.int .i64 l1) := (hin 1 52 rfl).trans (congrArg some e1)
        have e3 : u 3 = .int .i64 r1 := (hd 3 (by decide) (by kernel_rfl)).2
        have x54 : A.tmps[54]? = some (.int .i64 r1) := (hin 3 54 rfl).trans (congrArg some e3)
        clear hd hev hin
        simp only [List.getElem_cons_succ, List.getElem_cons_zero]
        clear hl
        refine .inr ⟨rfl, fun K' hK => ?_⟩
        have HK := Lib.hid hK
        clear hK
        go_simp
        refine (HU00.out W).mono ?_
        rintro e W' ⟨rfl, hB⟩
        exact HK.out (.int .i64 U00) _ (hJ.grow hLi (by decide) (by decide) hB) (rfl) (vyL_later hB)
      · skip
        have x5 : A.tmps[5]? = some (.pointer (some ⟨ka, 0, none⟩)) := (hev 5 (by decide)).trans rfl
        clear hd hev hin
        simp only [List.getElem_cons_succ, List.getElem_cons_zero]
        clear hl
        refine .inr ⟨rfl, fun K' hK => ?_⟩
        have HK := Lib.hid hK
        clear hK
        go_simp
        exact HK.out (.pointer (some ⟨ka, 0, none⟩)) _ (hJ.grow hLi (by decide) (by decide) (Below.refl _ _)) (rfl) vyL_same
      · skip
        have e5 : u 5 = .pointer (some ⟨ka, 0, none⟩) := (hd 5 (by decide) (by kernel_rfl)).2
        have x56 : A.tmps[56]? = some (.pointer (some ⟨ka, 0, none⟩)) := (hin 5 56 rfl).trans (congrArg some e5)
        clear hd hev hin
        simp only [List.getElem_cons_succ, List.getElem_cons_zero]
        clear hl
        refine .inr ⟨rfl, fun K' hK => ?_⟩
        have HK := Lib.hid hK
        clear hK
        have f0 := cl3 (hJ.cm.cs.at' (ka, #[.int .i64 l1, .int .i64 l2, .bool false], 25) (.tail _ (.head _)))
        have f5 := f0.1
        clear f0
        go_simp
        exact HK.out (.int .i64 l1) _ (hJ.grow hLi (by decide) (by decide) (Below.refl _ _)) (rfl) vyL_same
      · skip
        have x6 : A.tmps[6]? = some (.pointer (some ⟨kb, 0, none⟩)) := (hev 6 (by decide)).trans rfl
        clear hd hev hin
        simp only [List.getElem_cons_succ, List.getElem_cons_zero]
        clear hl
        refine .inr ⟨rfl, fun K' hK => ?_⟩
        have HK := Lib.hid hK
        clear hK
        go_simp
        exact HK.out (.pointer (some ⟨kb, 1, none⟩)) _ (hJ.grow hLi (by decide) (by decide) (Below.refl _ _)) (rfl) vyL_same
      · skip
        have e7 : u 7 = .pointer (some ⟨kb, 1, none⟩) := (hd 7 (by decide) (by kernel_rfl)).2
        have x58 : A.tmps[58]? = some (.pointer (some ⟨kb, 1, none⟩)) := (hin 7 58 rfl).trans (congrArg some e7)
        clear hd hev hin
        simp only [List.getElem_cons_succ, List.getElem_cons_zero]
        clear hl
        refine .inr ⟨rfl, fun K' hK => ?_⟩
        have HK := Lib.hid hK
        clear hK
        have f0 := cl3 (hJ.cm.cs.at' (kb, #[.int .i64 r1, .int .i64 r2, .bool false], 25) (.head _))
        have f5 := f0.2.1
        clear f0
        go_simp
        exact HK.out (.int .i64 r2) _ (hJ.grow hLi (by decide) (by decide) (Below.refl _ _)) (rfl) vyL_same
      · skip
        have e6 : u 6 = .int .i64 l1 := (hd 6 (by decide) (by kernel_rfl)).2
        have x57 : A.tmps[57]? = some (.int .i64 l1) := (hin 6 57 rfl).trans (congrArg some e6)
        have e8 : u 8 = .int .i64 r2 := (hd 8 (by decide) (by kernel_rfl)).2
        have x59 : A.tmps[59]? = some (.int .i64 r2) := (hin 8 59 rfl).trans (congrArg some e8)
        clear hd hev hin
        simp only [List.getElem_cons_succ, List.getElem_cons_zero]
        clear hl
        refine .inr ⟨rfl, fun K' hK => ?_⟩
        have HK := Lib.hid hK
        clear hK
        go_simp
        refine (HU01.out W).mono ?_
        rintro e W' ⟨rfl, hB⟩
        exact HK.out (.int .i64 U01) _ (hJ.grow hLi (by decide) (by decide) hB) (rfl) (vyL_later hB)
      · skip
        have x5 : A.tmps[5]? = some (.pointer (some ⟨ka, 0, none⟩)) := (hev 5 (by decide)).trans rfl
        clear hd hev hin
        simp only [List.getElem_cons_succ, List.getElem_cons_zero]
        clear hl
        refine .inr ⟨rfl, fun K' hK => ?_⟩
        have HK := Lib.hid hK
        clear hK
        go_simp
        exact HK.out (.pointer (some ⟨ka, 1, none⟩)) _ (hJ.grow hLi (by decide) (by decide) (Below.refl _ _)) (rfl) vyL_same
      · skip
        have e10 : u 10 = .pointer (some ⟨ka, 1, none⟩) := (hd 10 (by decide) (by kernel_rfl)).2
        have x61 : A.tmps[61]? = some (.pointer (some ⟨ka, 1, none⟩)) := (hin 10 61 rfl).trans (congrArg some e10)
        clear hd hev hin
        simp only [List.getElem_cons_succ, List.getElem_cons_zero]
        clear hl
        refine .inr ⟨rfl, fun K' hK => ?_⟩
        have HK := Lib.hid hK
        clear hK
        have f0 := cl3 (hJ.cm.cs.at' (ka, #[.int .i64 l1, .int .i64 l2, .bool false], 25) (.tail _ (.head _)))
        have f5 := f0.2.1
        clear f0
        go_simp
        exact HK.out (.int .i64 l2) _ (hJ.grow hLi (by decide) (by decide) (Below.refl _ _)) (rfl) vyL_same
      · skip
        have x6 : A.tmps[6]? = some (.pointer (some ⟨kb, 0, none⟩)) := (hev 6 (by decide)).trans rfl
        clear hd hev hin
        simp only [List.getElem_cons_succ, List.getElem_cons_zero]
        clear hl
        refine .inr ⟨rfl, fun K' hK => ?_⟩
        have HK := Lib.hid hK
        clear hK
        go_simp
        exact HK.out (.pointer (some ⟨kb, 0, none⟩)) _ (hJ.grow hLi (by decide) (by decide) (Below.refl _ _)) (rfl) vyL_same
      · skip
        have e12 : u 12 = .pointer (some ⟨kb, 0, none⟩) := (hd 12 (by decide) (by kernel_rfl)).2
        have x63 : A.tmps[63]? = some (.pointer (some ⟨kb, 0, none⟩)) := (hin 12 63 rfl).trans (congrArg some e12)
        clear hd hev hin
        simp only [List.getElem_cons_succ, List.getElem_cons_zero]
        clear hl
        refine .inr ⟨rfl, fun K' hK => ?_⟩
        have HK := Lib.hid hK
        clear hK
        have f0 := cl3 (hJ.cm.cs.at' (kb, #[.int .i64 r1, .int .i64 r2, .bool false], 25) (.head _))
        have f5 := f0.1
        clear f0
        go_simp
        exact HK.out (.int .i64 r1) _ (hJ.grow hLi (by decide) (by decide) (Below.refl _ _)) (rfl) vyL_same
      · skip
        have e11 : u 11 = .int .i64 l2 := (hd 11 (by decide) (by kernel_rfl)).2
        have x62 : A.tmps[62]? = some (.int .i64 l2) := (hin 11 62 rfl).trans (congrArg some e11)
        have e13 : u 13 = .int .i64 r1 := (hd 13 (by decide) (by kernel_rfl)).2
        have x64 : A.tmps[64]? = some (.int .i64 r1) := (hin 13 64 rfl).trans (congrArg some e13)
        clear hd hev hin
        simp only [List.getElem_cons_succ, List.getElem_cons_zero]
        clear hl
        refine .inr ⟨rfl, fun K' hK => ?_⟩
        have HK := Lib.hid hK
        clear hK
        go_simp
        refine (HU10.out W).mono ?_
        rintro e W' ⟨rfl, hB⟩
        exact HK.out (.int .i64 U10) _ (hJ.grow hLi (by decide) (by decide) hB) (rfl) (vyL_later hB)
      · skip
        have x5 : A.tmps[5]? = some (.pointer (some ⟨ka, 0, none⟩)) := (hev 5 (by decide)).trans rfl
        clear hd hev hin
        simp only [List.getElem_cons_succ, List.getElem_cons_zero]
        clear hl
        refine .inr ⟨rfl, fun K' hK => ?_⟩
        have HK := Lib.hid hK
        clear hK
        go_simp
        exact HK.out (.pointer (some ⟨ka, 1, none⟩)) _ (hJ.grow hLi (by decide) (by decide) (Below.refl _ _)) (rfl) vyL_same
      · skip
        have e15 : u 15 = .pointer (some ⟨ka, 1, none⟩) := (hd 15 (by decide) (by kernel_rfl)).2
        have x66 : A.tmps[66]? = some (.pointer (some ⟨ka, 1, none⟩)) := (hin 15 66 rfl).trans (congrArg some e15)
        clear hd hev hin
        simp only [List.getElem_cons_succ, List.getElem_cons_zero]
        clear hl
        refine .inr ⟨rfl, fun K' hK => ?_⟩
        have HK := Lib.hid hK
        clear hK
        have f0 := cl3 (hJ.cm.cs.at' (ka, #[.int .i64 l1, .int .i64 l2, .bool false], 25) (.tail _ (.head _)))
        have f5 := f0.2.1
        clear f0
        go_simp
        exact HK.out (.int .i64 l2) _ (hJ.grow hLi (by decide) (by decide) (Below.refl _ _)) (rfl) vyL_same
      · skip
        have x6 : A.tmps[6]? = some (.pointer (some ⟨kb, 0, none⟩)) := (hev 6 (by decide)).trans rfl
        clear hd hev hin
        simp only [List.getElem_cons_succ, List.getElem_cons_zero]
        clear hl
        refine .inr ⟨rfl, fun K' hK => ?_⟩
        have HK := Lib.hid hK
        clear hK
        go_simp
        exact HK.out (.pointer (some ⟨kb, 1, none⟩)) _ (hJ.grow hLi (by decide) (by decide) (Below.refl _ _)) (rfl) vyL_same
      · skip
        have e17 : u 17 = .pointer (some ⟨kb, 1, none⟩) := (hd 17 (by decide) (by kernel_rfl)).2
        have x68 : A.tmps[68]? = some (.pointer (some ⟨kb, 1, none⟩)) := (hin 17 68 rfl).trans (congrArg some e17)
        clear hd hev hin
        simp only [List.getElem_cons_succ, List.getElem_cons_zero]
        clear hl
        refine .inr ⟨rfl, fun K' hK => ?_⟩
        have HK := Lib.hid hK
        clear hK
        have f0 := cl3 (hJ.cm.cs.at' (kb, #[.int .i64 r1, .int .i64 r2, .bool false], 25) (.head _))
        have f5 := f0.2.1
        clear f0
        go_simp
        exact HK.out (.int .i64 r2) _ (hJ.grow hLi (by decide) (by decide) (Below.refl _ _)) (rfl) vyL_same
      · skip
        have e16 : u 16 = .int .i64 l2 := (hd 16 (by decide) (by kernel_rfl)).2
        have x67 : A.tmps[67]? = some (.int .i64 l2) := (hin 16 67 rfl).trans (congrArg some e16)
        have e18 : u 18 = .int .i64 r2 := (hd 18 (by decide) (by kernel_rfl)).2
        have x69 : A.tmps[69]? = some (.int .i64 r2) := (hin 18 69 rfl).trans (congrArg some e18)
        clear hd hev hin
        simp only [List.getElem_cons_succ, List.getElem_cons_zero]
        clear hl
        refine .inr ⟨rfl, fun K' hK => ?_⟩
        have HK := Lib.hid hK
        clear hK
        go_simp
        refine (HU11.out W).mono ?_
        rintro e W' ⟨rfl, hB⟩
        exact HK.out (.int .i64 U11) _ (hJ.grow hLi (by decide) (by decide) hB) (rfl) (vyL_later hB)
      · skip
        have e4 : u 4 = .int .i64 U00 := (hd 4 (by decide) (by kernel_rfl)).2
        have x55 : A.tmps[55]? = some (.int .i64 U00) := (hin 4 55 rfl).trans (congrArg some e4)
        have e9 : u 9 = .int .i64 U01 := (hd 9 (by decide) (by kernel_rfl)).2
        have x60 : A.tmps[60]? = some (.int .i64 U01) := (hin 9 60 rfl).trans (congrArg some e9)
        have e14 : u 14 = .int .i64 U10 := (hd 14 (by decide) (by kernel_rfl)).2
        have x65 : A.tmps[65]? = some (.int .i64 U10) := (hin 14 65 rfl).trans (congrArg some e14)
        have e19 : u 19 = .int .i64 U11 := (hd 19 (by decide) (by kernel_rfl)).2
        have x70 : A.tmps[70]? = some (.int .i64 U11) := (hin 19 70 rfl).trans (congrArg some e19)
        clear hd hev hin
        simp only [List.getElem_cons_succ, List.getElem_cons_zero]
        clear hl
        refine .inr ⟨rfl, fun K' hK => ?_⟩
        have HK := Lib.hid hK
        clear hK
        go_simp
        exact HK.out (.int .i64 (max U00 (max U01 (max U10 U11)))) _ (hJ.grow hLi (by decide) (by decide) (Below.refl _ _)) (rfl) vyL_same
      · skip
        have e20 : u 20 = .int .i64 (max U00 (max U01 (max U10 U11))) := (hd 20 (by decide) (by kernel_rfl)).2
        have x71 : A.tmps[71]? = some (.int .i64 (max U00 (max U01 (max U10 U11)))) := (hin 20 71 rfl).trans (congrArg some e20)
        clear hd hev hin
        simp only [List.getElem_cons_succ, List.getElem_cons_zero]
        clear hl
        refine .inr ⟨rfl, fun K' hK => ?_⟩
        have HK := Lib.hid hK
        clear hK
        go_simp
        exact HK.out (.int .i64 (max U00 (max U01 (max U10 U11)))) _ (hJ.grow hLi (by decide) (by decide) (Below.refl _ _)) (rfl) vyL_same
    intro L u W hL hJ hd
    have e0 : u 0 = .pointer (some ⟨ka, 0, none⟩) := hd 0 (by decide)
    have e1 : u 1 = .int .i64 l1 := hd 1 (by decide)
    have e2 : u 2 = .pointer (some ⟨kb, 0, none⟩) := hd 2 (by decide)
    have e3 : u 3 = .int .i64 r1 := hd 3 (by decide)
    have e4 : u 4 = .int .i64 U00 := hd 4 (by decide)
    have e5 : u 5 = .pointer (some ⟨ka, 0, none⟩) := hd 5 (by decide)
    have e6 : u 6 = .int .i64 l1 := hd 6 (by decide)
    have e7 : u 7 = .pointer (some ⟨kb, 1, none⟩) := hd 7 (by decide)
    have e8 : u 8 = .int .i64 r2 := hd 8 (by decide)
    have e9 : u 9 = .int .i64 U01 := hd 9 (by decide)
    have e10 : u 10 = .pointer (some ⟨ka, 1, none⟩) := hd 10 (by decide)
    have e11 : u 11 = .int .i64 l2 := hd 11 (by decide)
    have e12 : u 12 = .pointer (some ⟨kb, 0, none⟩) := hd 12 (by decide)
    have e13 : u 13 = .int .i64 r1 := hd 13 (by decide)
    have e14 : u 14 = .int .i64 U10 := hd 14 (by decide)
    have e15 : u 15 = .pointer (some ⟨ka, 1, none⟩) := hd 15 (by decide)
    have e16 : u 16 = .int .i64 l2 := hd 16 (by decide)
    have e17 : u 17 = .pointer (some ⟨kb, 1, none⟩) := hd 17 (by decide)
    have e18 : u 18 = .int .i64 r2 := hd 18 (by decide)
    have e19 : u 19 = .int .i64 U11 := hd 19 (by decide)
    have e20 : u 20 = .int .i64 (max U00 (max U01 (max U10 U11))) := hd 20 (by decide)
    have e21 : u 21 = .int .i64 (max U00 (max U01 (max U10 U11))) := hd 21 (by decide)
    simp only [layS, Act.put, List.setIfInBounds_toArray, List.set_cons_succ, List.set_cons_zero, Nat.zero_add, Nat.reduceAdd, List.drop_succ_cons, List.drop_zero, List.drop_nil, e0, e1, e2, e3, e4, e5, e6, e7, e8, e9, e10, e11, e12, e13, e14, e15, e16, e17, e18, e19, e20, e21]
    replace hC := hJ.cm.cs
    clear hJ hL hJ0 hd e0 e1 e2 e3 e4 e5 e6 e7 e8 e9 e10 e11 e12 e13 e14 e15 e16 e17 e18 e19 e20 e21
    go_wp2_with fail
    refine (HO1.out _).mono ?_
    rintro e w7 ⟨p, zp, rfl, hp, hB⟩
    replace hC := (hC.later hB).more hp
    clear hB hp
    go_wp2_with fail
    refine (HO2.out _).mono ?_
    rintro e w8 ⟨q, zq, rfl, hq, hB⟩
    replace hC := (hC.later hB).more hq
    clear hB hq
    go_wp2_with fail
    refine (HT.out p q _ (hC.num p (.tail _ (.head _))) (hC.num q (.head _)) zp zq).mono ?_
    rintro e w9 ⟨rfl, hB⟩
    replace hC := hC.later hB
    have hR := cl3 (hC.at' (w.heap.size + 2, #[.int .i64 0, .int .i64 0, .bool false], 25) (.tail _ (.tail _ (.head _))))
    have c1 := hR.1
    have c2 := hR.2.1
    have c3 := hR.2.2.1
    have c4 := hR.2.2.2.1
    have c5 := hR.2.2.2.2.1
    have c6 := hR.2.2.2.2.2
    have hf := fin3 hC.below 2 zz
    clear hR hB hC
    go_wp2
    exact bodyPost_ret (v := .agg #[.int .i64 zz.lo, .int .i64 zz.hi, .bool zz.all]) (by simp [results, Try.results21, go_sem, c1, c2, c3]) rfl ⟨rfl, hf⟩
end
theorem rdDiv_any (x y : Sp) (w : World) : Calls Try.prog 21 #[.agg #[.int .i64 x.lo, .int .i64 x.hi, .bool x.all], .agg #[.int .i64 y.lo, .int .i64 y.hi, .bool y.all]] w (PDp (divS x y) w) := by
  have line : okB x = false ∨ okB y = false → divS x y = lineS := fun h => by
    rcases div_cases x y with e | ⟨_, h1, h2, _⟩
    · exact e
    · rcases h with h | h
      · rw [h] at h1; cases h1
      · rw [h] at h2; cases h2
  cases hx : okB x
  · rw [line (.inl hx)]
    exact rdDiv_noa x y (mkS y) (fun W => by have := rRight_any x W; rwa [mkS_no hx] at this) (rRight_any y) w
  · obtain ⟨l1, l2, a⟩ := x
    have h4 : a = false := (ok_of hx).2.2.2
    subst h4
    cases hy : okB y
    · rw [line (.inr hy)]
      exact rdDiv_nob ⟨l1, l2, false⟩ y l1 l2 (fun W => by have := rRight_any ⟨l1, l2, false⟩ W; rwa [mkS_ok hx] at this) (fun W => by have := rRight_any y W; rwa [mkS_no hy] at this) w
    · obtain ⟨r1, r2, b⟩ := y
      have h5 : b = false := (ok_of hy).2.2.2
      subst h5
      by_cases hz : r1 ≤ 0 ∧ 0 ≤ r2
      · have e : divS ⟨l1, l2, false⟩ ⟨r1, r2, false⟩ = lineS := by
          unfold divS
          rw [if_pos]
          unfold hasB
          rw [hy]
          simpa using hz
        rw [e]
        exact rdDiv_noc ⟨l1, l2, false⟩ ⟨r1, r2, false⟩ l1 l2 r1 r2 hz.1 hz.2 (fun W => by have := rRight_any ⟨l1, l2, false⟩ W; rwa [mkS_ok hx] at this) (fun W => by have := rRight_any ⟨r1, r2, false⟩ W; rwa [mkS_ok hy] at this) w
      · exact rdDiv_ok l1 l2 r1 r2 hx hy hz w
end Go.Proofs.Ytpahkpcoinbgcaa
