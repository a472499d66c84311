/- The document's spans: the walk of Mul. No statement of the seat is proved here. -/
import Derived.Test.YtpahkpcoinbgcaaKfo
import Derived.Test.YtpahkpcoinbgcaaKr
namespace Go.Proofs.Ytpahkpcoinbgcaa
open Go Go.RowKit

theorem mul_tight {x y : Sp} (hx : okB x = true) (hy : okB y = true) : mulS x y = tightS (min4 x y) (max4 x y) 1048576 := by
  have corner : ∀ a b : Int, min4 x y ≤ a * b → a * b ≤ max4 x y → ¬ (min4 x y / 1048576 < -2147483647 ∨ -max4 x y / 1048576 < -2147483647 ∨ 2147483647 < min4 x y / 1048576 ∨ 2147483647 < -max4 x y / 1048576) → okB (mulR a b) = true := by
    intro a b h1 h2 h3
    unfold mulR
    rw [okB_mk]
    generalize a * b = P at *
    generalize min4 x y = m at *
    generalize max4 x y = M at *
    exact ok_mk (by show _ ≤ P / 1048576; omega) (by show P / 1048576 ≤ -(-P / 1048576); omega) (by show -(-P / 1048576) ≤ _; omega) rfl
  unfold tightS
  rcases mul_cases x y with e | ⟨h, _, _, e⟩
  · rw [e]
    by_cases g : min4 x y / 1048576 < -2147483647 ∨ -max4 x y / 1048576 < -2147483647 ∨ 2147483647 < min4 x y / 1048576 ∨ 2147483647 < -max4 x y / 1048576
    · rw [if_pos g]
    · exfalso
      have c : ∀ a b : Int, min4 x y ≤ a * b ∧ a * b ≤ max4 x y → okB (mulR a b) = true := fun a b h => corner a b h.1 h.2 g
      have k1 := (ok_of hx).2.1
      have k2 := (ok_of hy).2.1
      have := ends_ok (R := mulR) hx hy (c _ _ (bil (Int.le_refl _) k1 (Int.le_refl _) k2)) (c _ _ (bil (Int.le_refl _) k1 k2 (Int.le_refl _))) (c _ _ (bil k1 (Int.le_refl _) (Int.le_refl _) k2)) (c _ _ (bil k1 (Int.le_refl _) k2 (Int.le_refl _)))
      rw [show endsS mulR x y = lineS from e] at this
      cases congrArg Sp.all this
  · have k := ok_of h
    rw [e] at k
    replace k : -2147483647 ≤ min4 x y / 1048576 ∧ min4 x y / 1048576 ≤ -(-max4 x y / 1048576) ∧ -(-max4 x y / 1048576) ≤ 2147483647 := ⟨k.1, k.2.1, k.2.2.1⟩
    rw [e, if_neg (by omega)]
theorem min4_bd {x y : Sp} (hx : okB x = true) (hy : okB y = true) : -9223372036854775807 ≤ min4 x y ∧ min4 x y ≤ 9223372036854775807 ∧ -9223372036854775807 ≤ max4 x y ∧ max4 x y ≤ 9223372036854775807 := by
  obtain ⟨a1, a2, a3, _⟩ := ok_of hx
  obtain ⟨b1, b2, b3, _⟩ := ok_of hy
  have m1 := mul_bd (x := x.lo) (y := y.lo) (by omega) (by omega) (by omega) (by omega)
  have m2 := mul_bd (x := x.lo) (y := y.hi) (by omega) (by omega) (by omega) (by omega)
  have m3 := mul_bd (x := x.hi) (y := y.lo) (by omega) (by omega) (by omega) (by omega)
  have m4 := mul_bd (x := x.hi) (y := y.hi) (by omega) (by omega) (by omega) (by omega)
  unfold min4 max4
  omega
set_option maxHeartbeats 1600000 in
theorem rdMul_noa (x y q : Sp) (hx : ∀ W : World, Calls Try.prog 78 #[.agg #[.int .i64 x.lo, .int .i64 x.hi, .bool x.all]] W (PDp ⟨0, 0, true⟩ W)) (hy : ∀ W : World, Calls Try.prog 78 #[.agg #[.int .i64 y.lo, .int .i64 y.hi, .bool y.all]] W (PDp q W)) (w : World) : Calls Try.prog 20 #[.agg #[.int .i64 x.lo, .int .i64 x.hi, .bool x.all], .agg #[.int .i64 y.lo, .int .i64 y.hi, .bool y.all]] w (PDp lineS w) := by
  have HX := Lib.hid hx
  have HY := Lib.hid hy
  clear hx hy
  go_enter Try.func20, Try.ntmps20
  go_wp2_with fail
  have hC := (((cs_nil w).new #[.int .i64 x.lo, .int .i64 x.hi, .bool x.all] 25).new #[.int .i64 y.lo, .int .i64 y.hi, .bool y.all] 25).new #[.int .i64 0, .int .i64 0, .bool false] 25
  rw [show ((w.alloc (.cells #[.int .i64 x.lo, .int .i64 x.hi, .bool x.all] 25)).alloc (.cells #[.int .i64 y.lo, .int .i64 y.hi, .bool y.all] 25)).heap.size = w.heap.size + 2 by simp, show (w.alloc (.cells #[.int .i64 x.lo, .int .i64 x.hi, .bool x.all] 25)).heap.size = w.heap.size + 1 by simp] at hC
  generalize ((w.alloc (.cells #[.int .i64 x.lo, .int .i64 x.hi, .bool x.all] 25)).alloc (.cells #[.int .i64 y.lo, .int .i64 y.hi, .bool y.all] 25)).alloc (.cells #[.int .i64 0, .int .i64 0, .bool false] 25) = w1 at *
  refine (HX.out _).mono ?_
  rintro e w2 ⟨rfl, hB⟩
  replace hC := hC.later hB
  clear hB
  replace hC := hC.new #[.int .i64 0, .int .i64 0, .bool true] 25
  have f0 := cl3 (hC.at' (w.heap.size + 1, #[.int .i64 y.lo, .int .i64 y.hi, .bool y.all], 25) (.tail _ (.tail _ (.head _))))
  have f5 := f0.1
  have f6 := f0.2.1
  have f7 := f0.2.2.1
  clear f0
  go_wp2_with fail
  generalize w2.alloc (.cells #[.int .i64 0, .int .i64 0, .bool true] 25) = w2' at *
  generalize w2.heap.size = ka at *
  clear f5 f6 f7
  refine (HY.out _).mono ?_
  rintro e w3 ⟨rfl, hB⟩
  replace hC := hC.later hB
  have hD : D3 w3 (w.heap.size + 2) ⟨0, 0, false⟩ := hC.at' _ (.tail _ (.head _))
  have hlt : w.heap.size + 2 < w3.heap.size := hC.lt _ (.tail _ (.head _))
  have hltk : ka < w3.heap.size := hC.lt _ (.head _)
  have hA := cl3 (hC.at' (ka, #[.int .i64 0, .int .i64 0, .bool true], 25) (.head _))
  have a3 := hA.2.2.1
  have hb := hC.below
  have c1 := hD.cells.1
  have c2 := hD.cells.2.1
  have c3 := hD.cells.2.2.1
  have c4 := hD.cells.2.2.2.1
  have c5 := hD.cells.2.2.2.2.1
  have c6 := hD.cells.2.2.2.2.2
  have h1 : Below w.heap.size w (((w3.setCell ⟨w.heap.size + 2, 0, none⟩ (.int .i64 0)).setCell ⟨w.heap.size + 2, 1, none⟩ (.int .i64 0)).setCell ⟨w.heap.size + 2, 2, none⟩ (.bool true)) := fin3 hb 2 ⟨0, 0, true⟩
  have hf : Below w.heap.size w (((((w3.setCell ⟨w.heap.size + 2, 0, none⟩ (.int .i64 0)).setCell ⟨w.heap.size + 2, 1, none⟩ (.int .i64 0)).setCell ⟨w.heap.size + 2, 2, none⟩ (.bool true))).alloc (.cells #[.int .i64 q.lo, .int .i64 q.hi, .bool q.all] 25)) := h1.alloc h1.size _
  have hd : D3 (((((w3.setCell ⟨w.heap.size + 2, 0, none⟩ (.int .i64 0)).setCell ⟨w.heap.size + 2, 1, none⟩ (.int .i64 0)).setCell ⟨w.heap.size + 2, 2, none⟩ (.bool true))).alloc (.cells #[.int .i64 q.lo, .int .i64 q.hi, .bool q.all] 25)) (w.heap.size + 2) ⟨0, 0, true⟩ := (hD.self ⟨0, 0, true⟩).below ((Below.refl _ _).alloc (Nat.le_refl _) _)
  have k1 := hd.cells.1
  have k2 := hd.cells.2.1
  have k3 := hd.cells.2.2.1
  clear hC hB hD h1 hd hA
  go_wp2
  exact bodyPost_ret (v := .agg #[.int .i64 lineS.lo, .int .i64 lineS.hi, .bool lineS.all]) (by simp [results, Try.results20, go_sem, k1, k2, k3, lineS]) rfl ⟨rfl, hf⟩
set_option maxHeartbeats 1600000 in
theorem rdMul_nob (x y : Sp) (l1 l2 : Int) (hx : ∀ W : World, Calls Try.prog 78 #[.agg #[.int .i64 x.lo, .int .i64 x.hi, .bool x.all]] W (PDp ⟨l1, l2, false⟩ W)) (hy : ∀ W : World, Calls Try.prog 78 #[.agg #[.int .i64 y.lo, .int .i64 y.hi, .bool y.all]] W (PDp ⟨0, 0, true⟩ W)) (w : World) : Calls Try.prog 20 #[.agg #[.int .i64 x.lo, .int .i64 x.hi, .bool x.all], .agg #[.int .i64 y.lo, .int .i64 y.hi, .bool y.all]] w (PDp lineS w) := by
  have HX := Lib.hid hx
  have HY := Lib.hid hy
  clear hx hy
  go_enter Try.func20, Try.ntmps20
  go_wp2_with fail
  have hC := (((cs_nil w).new #[.int .i64 x.lo, .int .i64 x.hi, .bool x.all] 25).new #[.int .i64 y.lo, .int .i64 y.hi, .bool y.all] 25).new #[.int .i64 0, .int .i64 0, .bool false] 25
  rw [show ((w.alloc (.cells #[.int .i64 x.lo, .int .i64 x.hi, .bool x.all] 25)).alloc (.cells #[.int .i64 y.lo, .int .i64 y.hi, .bool y.all] 25)).heap.size = w.heap.size + 2 by simp, show (w.alloc (.cells #[.int .i64 x.lo, .int .i64 x.hi, .bool x.all] 25)).heap.size = w.heap.size + 1 by simp] at hC
  generalize ((w.alloc (.cells #[.int .i64 x.lo, .int .i64 x.hi, .bool x.all] 25)).alloc (.cells #[.int .i64 y.lo, .int .i64 y.hi, .bool y.all] 25)).alloc (.cells #[.int .i64 0, .int .i64 0, .bool false] 25) = w1 at *
  refine (HX.out _).mono ?_
  rintro e w2 ⟨rfl, hB⟩
  replace hC := hC.later hB
  clear hB
  replace hC := hC.new #[.int .i64 l1, .int .i64 l2, .bool false] 25
  have f0 := cl3 (hC.at' (w.heap.size + 1, #[.int .i64 y.lo, .int .i64 y.hi, .bool y.all], 25) (.tail _ (.tail _ (.head _))))
  have f5 := f0.1
  have f6 := f0.2.1
  have f7 := f0.2.2.1
  clear f0
  go_wp2_with fail
  generalize w2.alloc (.cells #[.int .i64 l1, .int .i64 l2, .bool false] 25) = w2' at *
  generalize w2.heap.size = ka at *
  clear f5 f6 f7
  refine (HY.out _).mono ?_
  rintro e w3 ⟨rfl, hB⟩
  replace hC := hC.later hB
  have hD : D3 w3 (w.heap.size + 2) ⟨0, 0, false⟩ := hC.at' _ (.tail _ (.head _))
  have hlt : w.heap.size + 2 < w3.heap.size := hC.lt _ (.tail _ (.head _))
  have hltk : ka < w3.heap.size := hC.lt _ (.head _)
  have hA := cl3 (hC.at' (ka, #[.int .i64 l1, .int .i64 l2, .bool false], 25) (.head _))
  have a3 := hA.2.2.1
  have hb := hC.below
  have c1 := hD.cells.1
  have c2 := hD.cells.2.1
  have c3 := hD.cells.2.2.1
  have c4 := hD.cells.2.2.2.1
  have c5 := hD.cells.2.2.2.2.1
  have c6 := hD.cells.2.2.2.2.2
  have h1 : Below w.heap.size w (((w3.setCell ⟨w.heap.size + 2, 0, none⟩ (.int .i64 0)).setCell ⟨w.heap.size + 2, 1, none⟩ (.int .i64 0)).setCell ⟨w.heap.size + 2, 2, none⟩ (.bool true)) := fin3 hb 2 ⟨0, 0, true⟩
  have hf : Below w.heap.size w (((((w3.setCell ⟨w.heap.size + 2, 0, none⟩ (.int .i64 0)).setCell ⟨w.heap.size + 2, 1, none⟩ (.int .i64 0)).setCell ⟨w.heap.size + 2, 2, none⟩ (.bool true))).alloc (.cells #[.int .i64 0, .int .i64 0, .bool true] 25)) := h1.alloc h1.size _
  have hd : D3 (((((w3.setCell ⟨w.heap.size + 2, 0, none⟩ (.int .i64 0)).setCell ⟨w.heap.size + 2, 1, none⟩ (.int .i64 0)).setCell ⟨w.heap.size + 2, 2, none⟩ (.bool true))).alloc (.cells #[.int .i64 0, .int .i64 0, .bool true] 25)) (w.heap.size + 2) ⟨0, 0, true⟩ := (hD.self ⟨0, 0, true⟩).below ((Below.refl _ _).alloc (Nat.le_refl _) _)
  have k1 := hd.cells.1
  have k2 := hd.cells.2.1
  have k3 := hd.cells.2.2.1
  clear hC hB hD h1 hd hA
  go_wp2
  exact bodyPost_ret (v := .agg #[.int .i64 lineS.lo, .int .i64 lineS.hi, .bool lineS.all]) (by simp [results, Try.results20, go_sem, k1, k2, k3, lineS]) rfl ⟨rfl, hf⟩
set_option maxRecDepth 100000 in
set_option maxHeartbeats 3200000 in
theorem rdMul_ok (l1 l2 r1 r2 : Int) (hx : okB ⟨l1, l2, false⟩ = true) (hy : okB ⟨r1, r2, false⟩ = true) (w : World) : Calls Try.prog 20 #[.agg #[.int .i64 l1, .int .i64 l2, .bool false], .agg #[.int .i64 r1, .int .i64 r2, .bool false]] w (PDp (mulS ⟨l1, l2, false⟩ ⟨r1, r2, false⟩) w) := by
  have HX : Hid (∀ W : World, Calls Try.prog 78 #[.agg #[.int .i64 l1, .int .i64 l2, .bool false]] W (PDp ⟨l1, l2, false⟩ W)) := show ∀ W : World, _ from fun W => by have := rRight_any ⟨l1, l2, false⟩ W; rwa [mkS_ok hx] at this
  have HY : Hid (∀ W : World, Calls Try.prog 78 #[.agg #[.int .i64 r1, .int .i64 r2, .bool false]] W (PDp ⟨r1, r2, false⟩ W)) := show ∀ W : World, _ from fun W => by have := rRight_any ⟨r1, r2, false⟩ W; rwa [mkS_ok hy] at this
  have HM := Lib.hid (mul_tight hx hy)
  have HBd := Lib.hid (min4_bd hx hy)
  have kx := ok_of hx
  have ky := ok_of hy
  have HF := Lib.hid (fun W => four_any ⟨l1, l2, false⟩ ⟨r1, r2, false⟩ W kx.1 (Int.le_trans kx.2.1 kx.2.2.1) (Int.le_trans kx.1 kx.2.1) kx.2.2.1 ky.1 (Int.le_trans ky.2.1 ky.2.2.1) (Int.le_trans ky.1 ky.2.1) ky.2.2.1)
  generalize mulS ⟨l1, l2, false⟩ ⟨r1, r2, false⟩ = zz at *
  generalize min4 ⟨l1, l2, false⟩ ⟨r1, r2, false⟩ = mn at *
  generalize max4 ⟨l1, l2, false⟩ ⟨r1, r2, false⟩ = mx at *
  clear kx ky hx hy
  go_enter Try.func20, Try.ntmps20
  go_wp2_with fail
  have hC := (((cs_nil w).new #[.int .i64 l1, .int .i64 l2, .bool false] 25).new #[.int .i64 r1, .int .i64 r2, .bool false] 25).new #[.int .i64 0, .int .i64 0, .bool false] 25
  rw [show ((w.alloc (.cells #[.int .i64 l1, .int .i64 l2, .bool false] 25)).alloc (.cells #[.int .i64 r1, .int .i64 r2, .bool false] 25)).heap.size = w.heap.size + 2 by simp, show (w.alloc (.cells #[.int .i64 l1, .int .i64 l2, .bool false] 25)).heap.size = w.heap.size + 1 by simp] at hC
  generalize ((w.alloc (.cells #[.int .i64 l1, .int .i64 l2, .bool false] 25)).alloc (.cells #[.int .i64 r1, .int .i64 r2, .bool false] 25)).alloc (.cells #[.int .i64 0, .int .i64 0, .bool false] 25) = w1 at *
  refine (HX.out _).mono ?_
  rintro e w2 ⟨rfl, hB⟩
  replace hC := hC.later hB
  clear hB
  replace hC := hC.new #[.int .i64 l1, .int .i64 l2, .bool false] 25
  have f0 := cl3 (hC.at' (w.heap.size + 1, #[.int .i64 r1, .int .i64 r2, .bool false], 25) (.tail _ (.tail _ (.head _))))
  have f5 := f0.1
  have f6 := f0.2.1
  have f7 := f0.2.2.1
  clear f0
  go_wp2_with fail
  generalize w2.alloc (.cells #[.int .i64 l1, .int .i64 l2, .bool false] 25) = w2' at *
  generalize w2.heap.size = ka at *
  clear f5 f6 f7
  refine (HY.out _).mono ?_
  rintro e w3 ⟨rfl, hB⟩
  replace hC := (hC.later hB).new #[.int .i64 r1, .int .i64 r2, .bool false] 25
  clear hB
  have f0 := cl3 (hC.at' (ka, #[.int .i64 l1, .int .i64 l2, .bool false], 25) (.tail _ (.head _)))
  have f5 := f0.1
  have f6 := f0.2.1
  have f7 := f0.2.2.1
  clear f0
  go_wp2_with fail
  generalize w3.alloc (.cells #[.int .i64 r1, .int .i64 r2, .bool false] 25) = w4 at *
  generalize w3.heap.size = kb at *
  clear f5 f6 f7
  refine (HF.out _).mono ?_
  rintro e w5 ⟨p, q, zp, zq, rfl, hp, hq, hB⟩
  replace hC := ((((hC.later hB).more hq).more hp).new #[.bool p.b, .slice p.a p.n p.c] 71).new #[.bool q.b, .slice q.a q.n q.c] 71
  rw [show (w5.alloc (.cells #[.bool p.b, .slice p.a p.n p.c] 71)).heap.size = w5.heap.size + 1 by simp] at hC
  clear hB hp hq
  go_wp2_with fail
  generalize (w5.alloc (.cells #[.bool p.b, .slice p.a p.n p.c] 71)).alloc (.cells #[.bool q.b, .slice q.a q.n q.c] 71) = w6 at *
  have gp := hC.num p (.head _)
  have gq := hC.num q (.tail _ (.head _))
  refine (show Calls Try.prog 79 _ w6 (PDp zz w6) by have := tight_any p q 1048576 w6 gp gq (.inr rfl) (by rw [zp]; exact HBd.out.1) (by rw [zp]; exact HBd.out.2.1) (by rw [zq]; exact HBd.out.2.2.1) (by rw [zq]; exact HBd.out.2.2.2); rwa [zp, zq, ← HM.out] at this).mono ?_
  rintro e w9 ⟨rfl, hB⟩
  replace hC := hC.later hB
  have hR := cl3 (hC.at' (w.heap.size + 2, #[.int .i64 0, .int .i64 0, .bool false], 25) (.tail _ (.tail _ (.tail _ (.tail _ (.head _))))))
  have c1 := hR.1
  have c2 := hR.2.1
  have c3 := hR.2.2.1
  have c4 := hR.2.2.2.1
  have c5 := hR.2.2.2.2.1
  have c6 := hR.2.2.2.2.2
  have hf := fin3 hC.below 2 zz
  clear hR hB hC gp gq
  go_wp2
  exact bodyPost_ret (v := .agg #[.int .i64 zz.lo, .int .i64 zz.hi, .bool zz.all]) (by simp [results, Try.results20, go_sem, c1, c2, c3]) rfl ⟨rfl, hf⟩
theorem rdMul_any (x y : Sp) (w : World) : Calls Try.prog 20 #[.agg #[.int .i64 x.lo, .int .i64 x.hi, .bool x.all], .agg #[.int .i64 y.lo, .int .i64 y.hi, .bool y.all]] w (PDp (mulS x y) w) := by
  cases hx : okB x
  · rw [(line_no (y := y) hx).1]
    exact rdMul_noa x y (mkS y) (fun W => by have := rRight_any x W; rwa [mkS_no hx] at this) (rRight_any y) w
  · cases hy : okB y
    · have e : mulS x y = lineS := by
        rcases mul_cases x y with e | ⟨_, _, h2, _⟩
        · exact e
        · rw [hy] at h2; cases h2
      rw [e]
      obtain ⟨l1, l2, a⟩ := x
      have h4 : a = false := (ok_of hx).2.2.2
      subst h4
      exact rdMul_nob ⟨l1, l2, false⟩ y l1 l2 (fun W => by have := rRight_any ⟨l1, l2, false⟩ W; rwa [mkS_ok hx] at this) (fun W => by have := rRight_any y W; rwa [mkS_no hy] at this) w
    · obtain ⟨l1, l2, a⟩ := x
      obtain ⟨r1, r2, b⟩ := y
      have h4 : a = false := (ok_of hx).2.2.2
      have h5 : b = false := (ok_of hy).2.2.2
      subst h4
      subst h5
      exact rdMul_ok l1 l2 r1 r2 hx hy w
end Go.Proofs.Ytpahkpcoinbgcaa
