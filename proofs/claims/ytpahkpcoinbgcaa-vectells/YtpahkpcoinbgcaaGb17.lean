/- Parts of the proof. -/
import Derived.Test.YtpahkpcoinbgcaaGb16
import Derived.Test.YtpahkpcoinbgcaaGb11
import Derived.Test.YtpahkpcoinbgcaaGb15
import Derived.Test.YtpahkpcoinbgcaaGb5
import Derived.LoopN
import Derived.Test.YtpahkpcoinbgcaaGb4
import Derived.ChangeKeysEq
/- The document's spans: the walk of Mul. No statement of the seat is proved here. -/
namespace Go.Proofs.Ytpahkpcoinbgcaa
open Go Go.RowKit
theorem mul_tight {x y : Sp} (hx : okB x = true) (hy : okB y = true) : mulS x y = tightS (min4 x y) (max4 x y) 1048576 := by
 have corner : ∀ a b : Int, min4 x y ≤ a * b → a * b ≤ max4 x y → ¬ (min4 x y / 1048576 < -2147483647 ∨ -max4 x y / 1048576 < -2147483647 ∨ 2147483647 < min4 x y / 1048576 ∨ 2147483647 < -max4 x y / 1048576) → okB (mulR a b) = true := by
  intro a b h1 h2 h3
  unfold mulR
  rw [okB_mk]
  generalize a * b = P at *
  generalize min4 x y = m at *
  generalize max4 x y = M at *
  exact ok_mk (by show _ ≤ P / 1048576; omega) (by show P / 1048576 ≤ -(-P / 1048576); omega) (by show -(-P / 1048576) ≤ _; omega) rfl
 unfold tightS
 rcases mul_cases x y with e | ⟨h, _, _, e⟩
 ·
  rw [e]
  by_cases g : min4 x y / 1048576 < -2147483647 ∨ -max4 x y / 1048576 < -2147483647 ∨ 2147483647 < min4 x y / 1048576 ∨ 2147483647 < -max4 x y / 1048576
  ·
   rw [if_pos g]
  ·
   exfalso
   have c : ∀ a b : Int, min4 x y ≤ a * b ∧ a * b ≤ max4 x y → okB (mulR a b) = true := fun a b h => corner a b h.1 h.2 g
   have k1 := (ok_of hx).2.1
   have k2 := (ok_of hy).2.1
   have := ends_ok (R := mulR) hx hy (c _ _ (bil (Int.le_refl _) k1 (Int.le_refl _) k2)) (c _ _ (bil (Int.le_refl _) k1 k2 (Int.le_refl _))) (c _ _ (bil k1 (Int.le_refl _) (Int.le_refl _) k2)) (c _ _ (bil k1 (Int.le_refl _) k2 (Int.le_refl _)))
   rw [show endsS mulR x y = lineS from e] at this
   cases congrArg Sp.all this
 ·
  have k := ok_of h
  rw [e] at k
  replace k : -2147483647 ≤ min4 x y / 1048576 ∧ min4 x y / 1048576 ≤ -(-max4 x y / 1048576) ∧ -(-max4 x y / 1048576) ≤ 2147483647 := ⟨k.1, k.2.1, k.2.2.1⟩
  rw [e, if_neg (by omega)]
theorem min4_bd {x y : Sp} (hx : okB x = true) (hy : okB y = true) : -9223372036854775807 ≤ min4 x y ∧ min4 x y ≤ 9223372036854775807 ∧ -9223372036854775807 ≤ max4 x y ∧ max4 x y ≤ 9223372036854775807 := by
 obtain ⟨a1, a2, a3, _⟩ := ok_of hx
 obtain ⟨b1, b2, b3, _⟩ := ok_of hy
 have m1 := mul_bd (x := x.lo) (y := y.lo) (by omega) (by omega) (by omega) (by omega)
 have m2 := mul_bd (x := x.lo) (y := y.hi) (by omega) (by omega) (by omega) (by omega)
 have m3 := mul_bd (x := x.hi) (y := y.lo) (by omega) (by omega) (by omega) (by omega)
 have m4 := mul_bd (x := x.hi) (y := y.hi) (by omega) (by omega) (by omega) (by omega)
 unfold min4 max4
 omega
set_option maxHeartbeats 1600000 in
theorem rdMul_noa (x y q : Sp) (hx : ∀ W : World, Calls Try.prog 78 #[.agg #[.int .i64 x.lo, .int .i64 x.hi, .bool x.all]] W (PDp ⟨0, 0, true⟩ W)) (hy : ∀ W : World, Calls Try.prog 78 #[.agg #[.int .i64 y.lo, .int .i64 y.hi, .bool y.all]] W (PDp q W)) (w : World) : Calls Try.prog 20 #[.agg #[.int .i64 x.lo, .int .i64 x.hi, .bool x.all], .agg #[.int .i64 y.lo, .int .i64 y.hi, .bool y.all]] w (PDp lineS w) := by
 have HX := Lib.hid hx
 have HY := Lib.hid hy
 clear hx hy
 go_enter Try.func20, Try.ntmps20
 go_wp2_with fail
 have hC := (((cs_nil w).new #[.int .i64 x.lo, .int .i64 x.hi, .bool x.all] 25).new #[.int .i64 y.lo, .int .i64 y.hi, .bool y.all] 25).new #[.int .i64 0, .int .i64 0, .bool false] 25
 rw [show ((w.alloc (.cells #[.int .i64 x.lo, .int .i64 x.hi, .bool x.all] 25)).alloc (.cells #[.int .i64 y.lo, .int .i64 y.hi, .bool y.all] 25)).heap.size = w.heap.size + 2 by simp, show (w.alloc (.cells #[.int .i64 x.lo, .int .i64 x.hi, .bool x.all] 25)).heap.size = w.heap.size + 1 by simp] at hC
 generalize ((w.alloc (.cells #[.int .i64 x.lo, .int .i64 x.hi, .bool x.all] 25)).alloc (.cells #[.int .i64 y.lo, .int .i64 y.hi, .bool y.all] 25)).alloc (.cells #[.int .i64 0, .int .i64 0, .bool false] 25) = w1 at *
 refine (HX.out _).mono ?_
 rintro e w2 ⟨rfl, hB⟩
 replace hC := hC.later hB
 clear hB
 replace hC := hC.new #[.int .i64 0, .int .i64 0, .bool true] 25
 have f0 := cl3 (hC.at' (w.heap.size + 1, #[.int .i64 y.lo, .int .i64 y.hi, .bool y.all], 25) (.tail _ (.tail _ (.head _))))
 have f5 := f0.1
 have f6 := f0.2.1
 have f7 := f0.2.2.1
 clear f0
 go_wp2_with fail
 generalize w2.alloc (.cells #[.int .i64 0, .int .i64 0, .bool true] 25) = w2' at *
 generalize w2.heap.size = ka at *
 clear f5 f6 f7
 refine (HY.out _).mono ?_
 rintro e w3 ⟨rfl, hB⟩
 replace hC := hC.later hB
 have hD : D3 w3 (w.heap.size + 2) ⟨0, 0, false⟩ := hC.at' _ (.tail _ (.head _))
 have hlt : w.heap.size + 2 < w3.heap.size := hC.lt _ (.tail _ (.head _))
 have hltk : ka < w3.heap.size := hC.lt _ (.head _)
 have hA := cl3 (hC.at' (ka, #[.int .i64 0, .int .i64 0, .bool true], 25) (.head _))
 have a3 := hA.2.2.1
 have hb := hC.below
 have c1 := hD.cells.1
 have c2 := hD.cells.2.1
 have c3 := hD.cells.2.2.1
 have c4 := hD.cells.2.2.2.1
 have c5 := hD.cells.2.2.2.2.1
 have c6 := hD.cells.2.2.2.2.2
 have h1 : Below w.heap.size w (((w3.setCell ⟨w.heap.size + 2, 0, none⟩ (.int .i64 0)).setCell ⟨w.heap.size + 2, 1, none⟩ (.int .i64 0)).setCell ⟨w.heap.size + 2, 2, none⟩ (.bool true)) := fin3 hb 2 ⟨0, 0, true⟩
 have hf : Below w.heap.size w (((((w3.setCell ⟨w.heap.size + 2, 0, none⟩ (.int .i64 0)).setCell ⟨w.heap.size + 2, 1, none⟩ (.int .i64 0)).setCell ⟨w.heap.size + 2, 2, none⟩ (.bool true))).alloc (.cells #[.int .i64 q.lo, .int .i64 q.hi, .bool q.all] 25)) := h1.alloc h1.size _
 have hd : D3 (((((w3.setCell ⟨w.heap.size + 2, 0, none⟩ (.int .i64 0)).setCell ⟨w.heap.size + 2, 1, none⟩ (.int .i64 0)).setCell ⟨w.heap.size + 2, 2, none⟩ (.bool true))).alloc (.cells #[.int .i64 q.lo, .int .i64 q.hi, .bool q.all] 25)) (w.heap.size + 2) ⟨0, 0, true⟩ := (hD.self ⟨0, 0, true⟩).below ((Below.refl _ _).alloc (Nat.le_refl _) _)
 have k1 := hd.cells.1
 have k2 := hd.cells.2.1
 have k3 := hd.cells.2.2.1
 clear hC hB hD h1 hd hA
 go_wp2
 exact bodyPost_ret (v := .agg #[.int .i64 lineS.lo, .int .i64 lineS.hi, .bool lineS.all]) (by simp [results, Try.results20, go_sem, k1, k2, k3, lineS]) rfl ⟨rfl, hf⟩
set_option maxHeartbeats 1600000 in
theorem rdMul_nob (x y : Sp) (l1 l2 : Int) (hx : ∀ W : World, Calls Try.prog 78 #[.agg #[.int .i64 x.lo, .int .i64 x.hi, .bool x.all]] W (PDp ⟨l1, l2, false⟩ W)) (hy : ∀ W : World, Calls Try.prog 78 #[.agg #[.int .i64 y.lo, .int .i64 y.hi, .bool y.all]] W (PDp ⟨0, 0, true⟩ W)) (w : World) : Calls Try.prog 20 #[.agg #[.int .i64 x.lo, .int .i64 x.hi, .bool x.all], .agg #[.int .i64 y.lo, .int .i64 y.hi, .bool y.all]] w (PDp lineS w) := by
 have HX := Lib.hid hx
 have HY := Lib.hid hy
 clear hx hy
 go_enter Try.func20, Try.ntmps20
 go_wp2_with fail
 have hC := (((cs_nil w).new #[.int .i64 x.lo, .int .i64 x.hi, .bool x.all] 25).new #[.int .i64 y.lo, .int .i64 y.hi, .bool y.all] 25).new #[.int .i64 0, .int .i64 0, .bool false] 25
 rw [show ((w.alloc (.cells #[.int .i64 x.lo, .int .i64 x.hi, .bool x.all] 25)).alloc (.cells #[.int .i64 y.lo, .int .i64 y.hi, .bool y.all] 25)).heap.size = w.heap.size + 2 by simp, show (w.alloc (.cells #[.int .i64 x.lo, .int .i64 x.hi, .bool x.all] 25)).heap.size = w.heap.size + 1 by simp] at hC
 generalize ((w.alloc (.cells #[.int .i64 x.lo, .int .i64 x.hi, .bool x.all] 25)).alloc (.cells #[.int .i64 y.lo, .int .i64 y.hi, .bool y.all] 25)).alloc (.cells #[.int .i64 0, .int .i64 0, .bool false] 25) = w1 at *
 refine (HX.out _).mono ?_
 rintro e w2 ⟨rfl, hB⟩
 replace hC := hC.later hB
 clear hB
 replace hC := hC.new #[.int .i64 l1, .int .i64 l2, .bool false] 25
 have f0 := cl3 (hC.at' (w.heap.size + 1, #[.int .i64 y.lo, .int .i64 y.hi, .bool y.all], 25) (.tail _ (.tail _ (.head _))))
 have f5 := f0.1
 have f6 := f0.2.1
 have f7 := f0.2.2.1
 clear f0
 go_wp2_with fail
 generalize w2.alloc (.cells #[.int .i64 l1, .int .i64 l2, .bool false] 25) = w2' at *
 generalize w2.heap.size = ka at *
 clear f5 f6 f7
 refine (HY.out _).mono ?_
 rintro e w3 ⟨rfl, hB⟩
 replace hC := hC.later hB
 have hD : D3 w3 (w.heap.size + 2) ⟨0, 0, false⟩ := hC.at' _ (.tail _ (.head _))
 have hlt : w.heap.size + 2 < w3.heap.size := hC.lt _ (.tail _ (.head _))
 have hltk : ka < w3.heap.size := hC.lt _ (.head _)
 have hA := cl3 (hC.at' (ka, #[.int .i64 l1, .int .i64 l2, .bool false], 25) (.head _))
 have a3 := hA.2.2.1
 have hb := hC.below
 have c1 := hD.cells.1
 have c2 := hD.cells.2.1
 have c3 := hD.cells.2.2.1
 have c4 := hD.cells.2.2.2.1
 have c5 := hD.cells.2.2.2.2.1
 have c6 := hD.cells.2.2.2.2.2
 have h1 : Below w.heap.size w (((w3.setCell ⟨w.heap.size + 2, 0, none⟩ (.int .i64 0)).setCell ⟨w.heap.size + 2, 1, none⟩ (.int .i64 0)).setCell ⟨w.heap.size + 2, 2, none⟩ (.bool true)) := fin3 hb 2 ⟨0, 0, true⟩
 have hf : Below w.heap.size w (((((w3.setCell ⟨w.heap.size + 2, 0, none⟩ (.int .i64 0)).setCell ⟨w.heap.size + 2, 1, none⟩ (.int .i64 0)).setCell ⟨w.heap.size + 2, 2, none⟩ (.bool true))).alloc (.cells #[.int .i64 0, .int .i64 0, .bool true] 25)) := h1.alloc h1.size _
 have hd : D3 (((((w3.setCell ⟨w.heap.size + 2, 0, none⟩ (.int .i64 0)).setCell ⟨w.heap.size + 2, 1, none⟩ (.int .i64 0)).setCell ⟨w.heap.size + 2, 2, none⟩ (.bool true))).alloc (.cells #[.int .i64 0, .int .i64 0, .bool true] 25)) (w.heap.size + 2) ⟨0, 0, true⟩ := (hD.self ⟨0, 0, true⟩).below ((Below.refl _ _).alloc (Nat.le_refl _) _)
 have k1 := hd.cells.1
 have k2 := hd.cells.2.1
 have k3 := hd.cells.2.2.1
 clear hC hB hD h1 hd hA
 go_wp2
 exact bodyPost_ret (v := .agg #[.int .i64 lineS.lo, .int .i64 lineS.hi, .bool lineS.all]) (by simp [results, Try.results20, go_sem, k1, k2, k3, lineS]) rfl ⟨rfl, hf⟩
set_option maxRecDepth 100000 in
set_option maxHeartbeats 3200000 in
theorem rdMul_ok (l1 l2 r1 r2 : Int) (hx : okB ⟨l1, l2, false⟩ = true) (hy : okB ⟨r1, r2, false⟩ = true) (w : World) : Calls Try.prog 20 #[.agg #[.int .i64 l1, .int .i64 l2, .bool false], .agg #[.int .i64 r1, .int .i64 r2, .bool false]] w (PDp (mulS ⟨l1, l2, false⟩ ⟨r1, r2, false⟩) w) := by
 have HX : Hid (∀ W : World, Calls Try.prog 78 #[.agg #[.int .i64 l1, .int .i64 l2, .bool false]] W (PDp ⟨l1, l2, false⟩ W)) := show ∀ W : World, _ from fun W => by have := rRight_any ⟨l1, l2, false⟩ W; rwa [mkS_ok hx] at this
 have HY : Hid (∀ W : World, Calls Try.prog 78 #[.agg #[.int .i64 r1, .int .i64 r2, .bool false]] W (PDp ⟨r1, r2, false⟩ W)) := show ∀ W : World, _ from fun W => by have := rRight_any ⟨r1, r2, false⟩ W; rwa [mkS_ok hy] at this
 have HM := Lib.hid (mul_tight hx hy)
 have HBd := Lib.hid (min4_bd hx hy)
 have kx := ok_of hx
 have ky := ok_of hy
 have HF := Lib.hid (fun W => four_any ⟨l1, l2, false⟩ ⟨r1, r2, false⟩ W kx.1 (Int.le_trans kx.2.1 kx.2.2.1) (Int.le_trans kx.1 kx.2.1) kx.2.2.1 ky.1 (Int.le_trans ky.2.1 ky.2.2.1) (Int.le_trans ky.1 ky.2.1) ky.2.2.1)
 generalize mulS ⟨l1, l2, false⟩ ⟨r1, r2, false⟩ = zz at *
 generalize min4 ⟨l1, l2, false⟩ ⟨r1, r2, false⟩ = mn at *
 generalize max4 ⟨l1, l2, false⟩ ⟨r1, r2, false⟩ = mx at *
 clear kx ky hx hy
 go_enter Try.func20, Try.ntmps20
 go_wp2_with fail
 have hC := (((cs_nil w).new #[.int .i64 l1, .int .i64 l2, .bool false] 25).new #[.int .i64 r1, .int .i64 r2, .bool false] 25).new #[.int .i64 0, .int .i64 0, .bool false] 25
 rw [show ((w.alloc (.cells #[.int .i64 l1, .int .i64 l2, .bool false] 25)).alloc (.cells #[.int .i64 r1, .int .i64 r2, .bool false] 25)).heap.size = w.heap.size + 2 by simp, show (w.alloc (.cells #[.int .i64 l1, .int .i64 l2, .bool false] 25)).heap.size = w.heap.size + 1 by simp] at hC
 generalize ((w.alloc (.cells #[.int .i64 l1, .int .i64 l2, .bool false] 25)).alloc (.cells #[.int .i64 r1, .int .i64 r2, .bool false] 25)).alloc (.cells #[.int .i64 0, .int .i64 0, .bool false] 25) = w1 at *
 refine (HX.out _).mono ?_
 rintro e w2 ⟨rfl, hB⟩
 replace hC := hC.later hB
 clear hB
 replace hC := hC.new #[.int .i64 l1, .int .i64 l2, .bool false] 25
 have f0 := cl3 (hC.at' (w.heap.size + 1, #[.int .i64 r1, .int .i64 r2, .bool false], 25) (.tail _ (.tail _ (.head _))))
 have f5 := f0.1
 have f6 := f0.2.1
 have f7 := f0.2.2.1
 clear f0
 go_wp2_with fail
 generalize w2.alloc (.cells #[.int .i64 l1, .int .i64 l2, .bool false] 25) = w2' at *
 generalize w2.heap.size = ka at *
 clear f5 f6 f7
 refine (HY.out _).mono ?_
 rintro e w3 ⟨rfl, hB⟩
 replace hC := (hC.later hB).new #[.int .i64 r1, .int .i64 r2, .bool false] 25
 clear hB
 have f0 := cl3 (hC.at' (ka, #[.int .i64 l1, .int .i64 l2, .bool false], 25) (.tail _ (.head _)))
 have f5 := f0.1
 have f6 := f0.2.1
 have f7 := f0.2.2.1
 clear f0
 go_wp2_with fail
 generalize w3.alloc (.cells #[.int .i64 r1, .int .i64 r2, .bool false] 25) = w4 at *
 generalize w3.heap.size = kb at *
 clear f5 f6 f7
 refine (HF.out _).mono ?_
 rintro e w5 ⟨p, q, zp, zq, rfl, hp, hq, hB⟩
 replace hC := ((((hC.later hB).more hq).more hp).new #[.bool p.b, .slice p.a p.n p.c] 71).new #[.bool q.b, .slice q.a q.n q.c] 71
 rw [show (w5.alloc (.cells #[.bool p.b, .slice p.a p.n p.c] 71)).heap.size = w5.heap.size + 1 by simp] at hC
 clear hB hp hq
 go_wp2_with fail
 generalize (w5.alloc (.cells #[.bool p.b, .slice p.a p.n p.c] 71)).alloc (.cells #[.bool q.b, .slice q.a q.n q.c] 71) = w6 at *
 have gp := hC.num p (.head _)
 have gq := hC.num q (.tail _ (.head _))
 refine (show Calls Try.prog 79 _ w6 (PDp zz w6) by have := tight_any p q 1048576 w6 gp gq (.inr rfl) (by rw [zp]; exact HBd.out.1) (by rw [zp]; exact HBd.out.2.1) (by rw [zq]; exact HBd.out.2.2.1) (by rw [zq]; exact HBd.out.2.2.2); rwa [zp, zq, ← HM.out] at this).mono ?_
 rintro e w9 ⟨rfl, hB⟩
 replace hC := hC.later hB
 have hR := cl3 (hC.at' (w.heap.size + 2, #[.int .i64 0, .int .i64 0, .bool false], 25) (.tail _ (.tail _ (.tail _ (.tail _ (.head _))))))
 have c1 := hR.1
 have c2 := hR.2.1
 have c3 := hR.2.2.1
 have c4 := hR.2.2.2.1
 have c5 := hR.2.2.2.2.1
 have c6 := hR.2.2.2.2.2
 have hf := fin3 hC.below 2 zz
 clear hR hB hC gp gq
 go_wp2
 exact bodyPost_ret (v := .agg #[.int .i64 zz.lo, .int .i64 zz.hi, .bool zz.all]) (by simp [results, Try.results20, go_sem, c1, c2, c3]) rfl ⟨rfl, hf⟩
theorem rdMul_any (x y : Sp) (w : World) : Calls Try.prog 20 #[.agg #[.int .i64 x.lo, .int .i64 x.hi, .bool x.all], .agg #[.int .i64 y.lo, .int .i64 y.hi, .bool y.all]] w (PDp (mulS x y) w) := by
 cases hx : okB x
 ·
  rw [(line_no (y := y) hx).1]
  exact rdMul_noa x y (mkS y) (fun W => by have := rRight_any x W; rwa [mkS_no hx] at this) (rRight_any y) w
 ·
  cases hy : okB y
  ·
   have e : mulS x y = lineS := by
    rcases mul_cases x y with e | ⟨_, _, h2, _⟩
    ·
     exact e
    ·
     rw [hy] at h2; cases h2
   rw [e]
   obtain ⟨l1, l2, a⟩ := x
   have h4 : a = false := (ok_of hx).2.2.2
   subst h4
   exact rdMul_nob ⟨l1, l2, false⟩ y l1 l2 (fun W => by have := rRight_any ⟨l1, l2, false⟩ W; rwa [mkS_ok hx] at this) (fun W => by have := rRight_any y W; rwa [mkS_no hy] at this) w
  ·
   obtain ⟨l1, l2, a⟩ := x
   obtain ⟨r1, r2, b⟩ := y
   have h4 : a = false := (ok_of hx).2.2.2
   have h5 : b = false := (ok_of hy).2.2.2
   subst h4
   subst h5
   exact rdMul_ok l1 l2 r1 r2 hx hy w
end Go.Proofs.Ytpahkpcoinbgcaa

/- Vectors of three spans, as numbers (no walk). No statement of the seat is proved here. -/
namespace Go.Proofs.Ytpahkpcoinbgcaa
open Go.RowKit
/-- A vector, by its parts. -/
structure Vc where
 x : Sp
 y : Sp
 z : Sp
def addV (v w : Vc) : Vc := ⟨addS v.x w.x, addS v.y w.y, addS v.z w.z⟩
def subV (v w : Vc) : Vc := ⟨subS v.x w.x, subS v.y w.y, subS v.z w.z⟩
def scaV (v : Vc) (s : Sp) : Vc := ⟨mulS v.x s, mulS v.y s, mulS v.z s⟩
def sumV (v : Vc) : Sp := addS (addS v.x v.y) v.z
def mulV (v w : Vc) : Vc := ⟨mulS v.x w.x, mulS v.y w.y, mulS v.z w.z⟩
def dotV (v w : Vc) : Sp := sumV (mulV v w)
def crossV (v w : Vc) : Vc := ⟨subS (mulS v.y w.z) (mulS v.z w.y), subS (mulS v.z w.x) (mulS v.x w.z), subS (mulS v.x w.y) (mulS v.y w.x)⟩
def sqrV (v : Vc) : Vc := ⟨sqrS v.x, sqrS v.y, sqrS v.z⟩
def normV (v : Vc) : Sp := sumV (sqrV v)
def inV (v w : Vc) : Bool := inB v.x w.x && (inB v.y w.y && inB v.z w.z)
def radV (v : Vc) : Int := max (max (radS v.x) (radS v.y)) (radS v.z)
def ofV (a b c : Int) : Vc := ⟨ofS a a, ofS b b, ofS c c⟩
def oneS : Sp := ⟨1048576, 1048576, false⟩
theorem mul_one (x : Sp) : mulS x oneS = mkS x := by
 cases hx : okB x
 ·
  rw [mkS_no hx]; exact ends_no (by rw [hx]; rfl)
 ·
  have k := ok_of hx
  rw [mkS_ok hx, mul_tight hx rfl]
  unfold tightS min4 max4 oneS
  have e : ∀ a b : Int, min a a = a ∧ max a a = a := fun a b => by omega
  rw [if_neg (by dsimp only; omega)]
  obtain ⟨l, h, a⟩ := x
  dsimp only at *
  rw [k.2.2.2]
  congr 1 <;> omega
end Go.Proofs.Ytpahkpcoinbgcaa

/- Package vec: the walks of both, each, sum, from. No statement of the seat is proved here. -/
namespace Go.Proofs.Ytpahkpcoinbgcaa
open Go Go.RowKit
theorem run_vix0 (a0 b0 : Int) (c0 : Bool) (a1 b1 : Int) (c1 : Bool) (a2 b2 : Int) (c2 : Bool) (W : World) : Sem.run Try.prog (Instr.index 34 (.agg #[.int .i64 a0, .int .i64 b0, .bool c0, .int .i64 a1, .int .i64 b1, .bool c1, .int .i64 a2, .int .i64 b2, .bool c2]) (.int .i64 0)) W = .ok (.agg #[.int .i64 a0, .int .i64 b0, .bool c0]) W := by kernel_rfl
theorem run_vix1 (a0 b0 : Int) (c0 : Bool) (a1 b1 : Int) (c1 : Bool) (a2 b2 : Int) (c2 : Bool) (W : World) : Sem.run Try.prog (Instr.index 34 (.agg #[.int .i64 a0, .int .i64 b0, .bool c0, .int .i64 a1, .int .i64 b1, .bool c1, .int .i64 a2, .int .i64 b2, .bool c2]) (.int .i64 1)) W = .ok (.agg #[.int .i64 a1, .int .i64 b1, .bool c1]) W := by kernel_rfl
theorem run_vix2 (a0 b0 : Int) (c0 : Bool) (a1 b1 : Int) (c1 : Bool) (a2 b2 : Int) (c2 : Bool) (W : World) : Sem.run Try.prog (Instr.index 34 (.agg #[.int .i64 a0, .int .i64 b0, .bool c0, .int .i64 a1, .int .i64 b1, .bool c1, .int .i64 a2, .int .i64 b2, .bool c2]) (.int .i64 2)) W = .ok (.agg #[.int .i64 a2, .int .i64 b2, .bool c2]) W := by kernel_rfl
attribute [local go_sem] run_vix0 run_vix1 run_vix2
theorem run_vbuild (a0 b0 : Int) (c0 : Bool) (a1 b1 : Int) (c1 : Bool) (a2 b2 : Int) (c2 : Bool) (W : World) : Sem.run Try.prog (Instr.build 34 #[(0, .agg #[.int .i64 a0, .int .i64 b0, .bool c0]), (1, .agg #[.int .i64 a1, .int .i64 b1, .bool c1]), (2, .agg #[.int .i64 a2, .int .i64 b2, .bool c2])]) W = .ok (.agg #[.int .i64 a0, .int .i64 b0, .bool c0, .int .i64 a1, .int .i64 b1, .bool c1, .int .i64 a2, .int .i64 b2, .bool c2]) W := by kernel_rfl
theorem run_dbuild (a0 b0 : Int) (c0 : Bool) (a1 b1 : Int) (c1 : Bool) (a2 b2 : Int) (c2 : Bool) (W : World) : Sem.run Try.prog (Instr.build 36 #[(0, .agg #[.int .i64 a0, .int .i64 b0, .bool c0]), (1, .agg #[.int .i64 a1, .int .i64 b1, .bool c1]), (2, .agg #[.int .i64 a2, .int .i64 b2, .bool c2])]) W = .ok (.agg #[.int .i64 a0, .int .i64 b0, .bool c0, .int .i64 a1, .int .i64 b1, .bool c1, .int .i64 a2, .int .i64 b2, .bool c2]) W := by kernel_rfl
attribute [local go_sem ↓] run_vbuild run_dbuild
end Go.Proofs.Ytpahkpcoinbgcaa

/- Equality of vectors, of arrays. No statement of the seat is proved here. -/
namespace Go.Proofs.Ytpahkpcoinbgcaa
open Go Go.RowKit
theorem run_sameS (d : Nat) (a b : Int) (c : Bool) (w : World) : (Op.equalIn (d + 2) 23 (.agg #[.int .i64 a, .int .i64 b, .bool c]) (.agg #[.int .i64 a, .int .i64 b, .bool c])).run Try.prog w = .ok true w := by
 have ht : Try.prog.underlying 23 = some (.struct (Try.prog.fieldsOf 23)) := by kernel_rfl
 have hp : Try.prog.stoodInHeld 23 = false := by kernel_rfl
 have u1 := Try.underlying2
 have u2 := Try.underlying4
 have a1 := Try.isAgg2
 have a2 := Try.isAgg4
 have z1 := Try.sizeOf2
 have z2 := Try.sizeOf4
 rw [run_equalIn_struct w (d + 1) 23 _ _ ht hp]
 simp only [Program.fieldsOf, Try.underlying23]
 go_simp
theorem run_sameD (d : Nat) (a b : Int) (c : Bool) (w : World) : (Op.equalIn (d + 2) 25 (.agg #[.int .i64 a, .int .i64 b, .bool c]) (.agg #[.int .i64 a, .int .i64 b, .bool c])).run Try.prog w = .ok true w := by
 have ht : Try.prog.underlying 25 = some (.struct (Try.prog.fieldsOf 25)) := by kernel_rfl
 have hp : Try.prog.stoodInHeld 25 = false := by kernel_rfl
 have u1 := Try.underlying2
 have u2 := Try.underlying4
 have a1 := Try.isAgg2
 have a2 := Try.isAgg4
 have z1 := Try.sizeOf2
 have z2 := Try.sizeOf4
 rw [run_equalIn_struct w (d + 1) 25 _ _ ht hp]
 simp only [Program.fieldsOf, Try.underlying25]
 go_simp
section
variable (a0 b0 : Int) (c0 : Bool) (a1 b1 : Int) (c1 : Bool) (a2 b2 : Int) (c2 : Bool) (w : World)
theorem part_v0 : (part 23 #[.int .i64 a0, .int .i64 b0, .bool c0, .int .i64 a1, .int .i64 b1, .bool c1, .int .i64 a2, .int .i64 b2, .bool c2] 0).run Try.prog w = .ok (.agg #[.int .i64 a0, .int .i64 b0, .bool c0]) w := by kernel_rfl
theorem part_v1 : (part 23 #[.int .i64 a0, .int .i64 b0, .bool c0, .int .i64 a1, .int .i64 b1, .bool c1, .int .i64 a2, .int .i64 b2, .bool c2] 3).run Try.prog w = .ok (.agg #[.int .i64 a1, .int .i64 b1, .bool c1]) w := by kernel_rfl
theorem part_v2 : (part 23 #[.int .i64 a0, .int .i64 b0, .bool c0, .int .i64 a1, .int .i64 b1, .bool c1, .int .i64 a2, .int .i64 b2, .bool c2] 6).run Try.prog w = .ok (.agg #[.int .i64 a2, .int .i64 b2, .bool c2]) w := by kernel_rfl
theorem part_d0 : (part 25 #[.int .i64 a0, .int .i64 b0, .bool c0, .int .i64 a1, .int .i64 b1, .bool c1, .int .i64 a2, .int .i64 b2, .bool c2] 0).run Try.prog w = .ok (.agg #[.int .i64 a0, .int .i64 b0, .bool c0]) w := by kernel_rfl
theorem part_d1 : (part 25 #[.int .i64 a0, .int .i64 b0, .bool c0, .int .i64 a1, .int .i64 b1, .bool c1, .int .i64 a2, .int .i64 b2, .bool c2] 3).run Try.prog w = .ok (.agg #[.int .i64 a1, .int .i64 b1, .bool c1]) w := by kernel_rfl
theorem part_d2 : (part 25 #[.int .i64 a0, .int .i64 b0, .bool c0, .int .i64 a1, .int .i64 b1, .bool c1, .int .i64 a2, .int .i64 b2, .bool c2] 6).run Try.prog w = .ok (.agg #[.int .i64 a2, .int .i64 b2, .bool c2]) w := by kernel_rfl
theorem run_eqlV : (binOp .eql 34 (.agg #[.int .i64 a0, .int .i64 b0, .bool c0, .int .i64 a1, .int .i64 b1, .bool c1, .int .i64 a2, .int .i64 b2, .bool c2]) (.agg #[.int .i64 a0, .int .i64 b0, .bool c0, .int .i64 a1, .int .i64 b1, .bool c1, .int .i64 a2, .int .i64 b2, .bool c2])).run Try.prog w = .ok (.bool true) w := by
 have hu : Try.prog.underlying 34 = some (.array 3 23) := by kernel_rfl
 obtain ⟨i, hi⟩ := Option.isSome_iff_exists.1 (show (Try.prog.info? 23).isSome = true by kernel_rfl)
 have hc : Try.prog.cellsOf 23 = 3 := by kernel_rfl
 rw [run_eql_struct, show (10000 : Nat) = 9999 + 1 from rfl, run_equalIn_array w 9999 _ _ hu hi, hc]
 have hs : ∀ (a b : Int) (c : Bool) (w : World), (Op.equalIn 9999 23 (.agg #[.int .i64 a, .int .i64 b, .bool c]) (.agg #[.int .i64 a, .int .i64 b, .bool c])).run Try.prog w = .ok true w := run_sameS 9997
 rw [show List.range 3 = [0, 1, 2] from rfl]
 generalize 9999 = d at hs ⊢
 simp [Op.eqItems, part_v0, part_v1, part_v2, hs]
theorem run_eqlW : (binOp .eql 36 (.agg #[.int .i64 a0, .int .i64 b0, .bool c0, .int .i64 a1, .int .i64 b1, .bool c1, .int .i64 a2, .int .i64 b2, .bool c2]) (.agg #[.int .i64 a0, .int .i64 b0, .bool c0, .int .i64 a1, .int .i64 b1, .bool c1, .int .i64 a2, .int .i64 b2, .bool c2])).run Try.prog w = .ok (.bool true) w := by
 have ht : Try.prog.underlying 36 = some (.struct (Try.prog.fieldsOf 36)) := by kernel_rfl
 have hp : Try.prog.stoodInHeld 36 = false := by kernel_rfl
 rw [run_eql_struct, show (10000 : Nat) = 9999 + 1 from rfl, run_equalIn_struct w 9999 36 _ _ ht hp]
 simp only [Program.fieldsOf, Try.underlying36]
 simp [Op.eqFields, part_d0, part_d1, part_d2, run_sameD 9997]
theorem run_eqlI (a b c : Int) : (binOp .eql 46 (.agg #[.int .i64 a, .int .i64 b, .int .i64 c]) (.agg #[.int .i64 a, .int .i64 b, .int .i64 c])).run Try.prog w = .ok (.bool true) w := by
 have hu : Try.prog.underlying 46 = some (.array 3 2) := by kernel_rfl
 obtain ⟨i, hi⟩ := Option.isSome_iff_exists.1 (show (Try.prog.info? 2).isSome = true by kernel_rfl)
 have hc : Try.prog.cellsOf 2 = 1 := by kernel_rfl
 have u1 := Try.underlying2
 have p0 : ∀ w, (part 2 #[.int .i64 a, .int .i64 b, .int .i64 c] 0).run Try.prog w = .ok (.int .i64 a) w := fun w => by kernel_rfl
 have p1 : ∀ w, (part 2 #[.int .i64 a, .int .i64 b, .int .i64 c] 1).run Try.prog w = .ok (.int .i64 b) w := fun w => by kernel_rfl
 have p2 : ∀ w, (part 2 #[.int .i64 a, .int .i64 b, .int .i64 c] 2).run Try.prog w = .ok (.int .i64 c) w := fun w => by kernel_rfl
 rw [run_eql_struct, show (10000 : Nat) = 9999 + 1 from rfl, run_equalIn_array w 9999 _ _ hu hi, hc]
 have hs : ∀ (a : Int) (w : World), (Op.equalIn 9999 2 (.int .i64 a) (.int .i64 a)).run Try.prog w = .ok true w := fun a w => by rw [show (9999 : Nat) = 9998 + 1 from rfl, run_equalIn_int w 9998 2 .i64 .i64 _ _ u1, beq_self_eq_true]
 rw [show List.range 3 = [0, 1, 2] from rfl]
 generalize 9999 = d at hs ⊢
 simp [Op.eqItems, p0, p1, p2, hs]
theorem run_eqlSs (a b : Int) (c : Bool) : (binOp .eql 23 (.agg #[.int .i64 a, .int .i64 b, .bool c]) (.agg #[.int .i64 a, .int .i64 b, .bool c])).run Try.prog w = .ok (.bool true) w := by
 have hs : (Op.equalIn 10000 23 (.agg #[.int .i64 a, .int .i64 b, .bool c]) (.agg #[.int .i64 a, .int .i64 b, .bool c])).run Try.prog w = .ok true w := run_sameS 9998 a b c w
 rw [run_eql_struct, hs]
 rfl
theorem run_eqlDs (a b : Int) (c : Bool) : (binOp .eql 25 (.agg #[.int .i64 a, .int .i64 b, .bool c]) (.agg #[.int .i64 a, .int .i64 b, .bool c])).run Try.prog w = .ok (.bool true) w := by
 have hs : (Op.equalIn 10000 25 (.agg #[.int .i64 a, .int .i64 b, .bool c]) (.agg #[.int .i64 a, .int .i64 b, .bool c])).run Try.prog w = .ok true w := run_sameD 9998 a b c w
 rw [run_eql_struct, hs]
 rfl
theorem run_eqlB (a b c : Bool) : (binOp .eql 88 (.agg #[.bool a, .bool b, .bool c]) (.agg #[.bool true, .bool true, .bool true])).run Try.prog w = .ok (.bool (a && (b && c))) w := by
 cases a <;> cases b <;> cases c <;> kernel_rfl
end
end Go.Proofs.Ytpahkpcoinbgcaa

/- The document's spans: the walks of Sub, quotient. No statement of the seat is proved here. -/
namespace Go.Proofs.Ytpahkpcoinbgcaa
open Go Go.RowKit
set_option maxHeartbeats 1600000 in
theorem rdSub_any (x y : Sp) (w : World) : Calls Try.prog 19 #[.agg #[.int .i64 x.lo, .int .i64 x.hi, .bool x.all], .agg #[.int .i64 y.lo, .int .i64 y.hi, .bool y.all]] w (PDp (subS x y) w) := by
 have H1 := Lib.hid (rdNeg_any y)
 have H2 : Hid (∀ W : World, Calls Try.prog 18 #[.agg #[.int .i64 x.lo, .int .i64 x.hi, .bool x.all], .agg #[.int .i64 (negS y).lo, .int .i64 (negS y).hi, .bool (negS y).all]] W (PDp (subS x y) W)) := show ∀ W : World, _ from rdAdd_any x (negS y)
 generalize subS x y = z at *
 generalize negS y = v at *
 go_enter Try.func19, Try.ntmps19
 go_wp2
 have hC := (((cs_nil w).new #[.int .i64 x.lo, .int .i64 x.hi, .bool x.all] 25).new #[.int .i64 y.lo, .int .i64 y.hi, .bool y.all] 25).new #[.int .i64 0, .int .i64 0, .bool false] 25
 rw [show ((w.alloc (.cells #[.int .i64 x.lo, .int .i64 x.hi, .bool x.all] 25)).alloc (.cells #[.int .i64 y.lo, .int .i64 y.hi, .bool y.all] 25)).heap.size = w.heap.size + 2 by simp, show (w.alloc (.cells #[.int .i64 x.lo, .int .i64 x.hi, .bool x.all] 25)).heap.size = w.heap.size + 1 by simp] at hC
 generalize ((w.alloc (.cells #[.int .i64 x.lo, .int .i64 x.hi, .bool x.all] 25)).alloc (.cells #[.int .i64 y.lo, .int .i64 y.hi, .bool y.all] 25)).alloc (.cells #[.int .i64 0, .int .i64 0, .bool false] 25) = w1 at *
 obtain ⟨m1, hm1⟩ : ∃ m, m = w1.heap.size := ⟨_, rfl⟩
 have hJ0 : ∀ u, Jy w m1 [(w.heap.size + 2, #[.int .i64 0, .int .i64 0, .bool false], 25), (w.heap.size + 1, #[.int .i64 y.lo, .int .i64 y.hi, .bool y.all], 25), (w.heap.size, #[.int .i64 x.lo, .int .i64 x.hi, .bool x.all], 25)] [] 71 [] [] (fun _ => false) u w1.drew := fun u => by rw [hm1]; exact Jy.start (hC) u
 refine wp_region_y 4 [some 5, some 6, some 7, some 8] (vyL [.eq (.agg #[.int .i64 x.lo, .int .i64 x.hi, .bool x.all]), .eq (.agg #[.int .i64 y.lo, .int .i64 y.hi, .bool y.all]), .eq (.agg #[.int .i64 v.lo, .int .i64 v.hi, .bool v.all]), .eq (.agg #[.int .i64 z.lo, .int .i64 z.hi, .bool z.all])]) (Jy w m1 [(w.heap.size + 2, #[.int .i64 0, .int .i64 0, .bool false], 25), (w.heap.size + 1, #[.int .i64 y.lo, .int .i64 y.hi, .bool y.all], 25), (w.heap.size, #[.int .i64 x.lo, .int .i64 x.hi, .bool x.all], 25)] [] 71 [] []) (by kernel_rfl) (by kernel_rfl) (by rfl) (by decide) (by rfl) hJ0 ?_ ?_
 ·
  intro i hl hi L u W A hLi hJ hd hev hin
  obtain rfl | rfl | rfl | rfl : i = 0 ∨ i = 1 ∨ i = 2 ∨ i = 3 := by omega
  ·
   have x2 : A.tmps[2]? = some (.pointer (some ⟨w.heap.size, 0, none⟩)) := (hev 2 (by decide)).trans rfl
   clear hd hev hin
   simp only [List.getElem_cons_succ, List.getElem_cons_zero]
   clear hl
   refine .inr ⟨rfl, fun K' hK => ?_⟩
   have HK := Lib.hid hK
   clear hK
   have f0 := cl3 (hJ.cm.cs.at' (w.heap.size, #[.int .i64 x.lo, .int .i64 x.hi, .bool x.all], 25) (.tail _ (.tail _ (.head _))))
   have f5 := f0.1
   have f6 := f0.2.1
   have f7 := f0.2.2.1
   clear f0
   go_simp
   exact HK.out (.agg #[.int .i64 x.lo, .int .i64 x.hi, .bool x.all]) _ (hJ.grow hLi (by decide) (by decide) (Below.refl _ _)) (rfl) vyL_same
  ·
   have x3 : A.tmps[3]? = some (.pointer (some ⟨w.heap.size + 1, 0, none⟩)) := (hev 3 (by decide)).trans rfl
   clear hd hev hin
   simp only [List.getElem_cons_succ, List.getElem_cons_zero]
   clear hl
   refine .inr ⟨rfl, fun K' hK => ?_⟩
   have HK := Lib.hid hK
   clear hK
   have f0 := cl3 (hJ.cm.cs.at' (w.heap.size + 1, #[.int .i64 y.lo, .int .i64 y.hi, .bool y.all], 25) (.tail _ (.head _)))
   have f5 := f0.1
   have f6 := f0.2.1
   have f7 := f0.2.2.1
   clear f0
   go_simp
   exact HK.out (.agg #[.int .i64 y.lo, .int .i64 y.hi, .bool y.all]) _ (hJ.grow hLi (by decide) (by decide) (Below.refl _ _)) (rfl) vyL_same
  ·
   have e1 : u 1 = .agg #[.int .i64 y.lo, .int .i64 y.hi, .bool y.all] := (hd 1 (by decide) (by kernel_rfl)).2
   have x6 : A.tmps[6]? = some (.agg #[.int .i64 y.lo, .int .i64 y.hi, .bool y.all]) := (hin 1 6 rfl).trans (congrArg some e1)
   clear hd hev hin
   simp only [List.getElem_cons_succ, List.getElem_cons_zero]
   clear hl
   refine .inr ⟨rfl, fun K' hK => ?_⟩
   have HK := Lib.hid hK
   clear hK
   go_simp
   refine (H1.out W).mono ?_
   rintro e W' ⟨rfl, hB⟩
   exact HK.out (.agg #[.int .i64 v.lo, .int .i64 v.hi, .bool v.all]) _ (hJ.grow hLi (by decide) (by decide) hB) (rfl) (vyL_later hB)
  ·
   have e0 : u 0 = .agg #[.int .i64 x.lo, .int .i64 x.hi, .bool x.all] := (hd 0 (by decide) (by kernel_rfl)).2
   have x5 : A.tmps[5]? = some (.agg #[.int .i64 x.lo, .int .i64 x.hi, .bool x.all]) := (hin 0 5 rfl).trans (congrArg some e0)
   have e2 : u 2 = .agg #[.int .i64 v.lo, .int .i64 v.hi, .bool v.all] := (hd 2 (by decide) (by kernel_rfl)).2
   have x7 : A.tmps[7]? = some (.agg #[.int .i64 v.lo, .int .i64 v.hi, .bool v.all]) := (hin 2 7 rfl).trans (congrArg some e2)
   clear hd hev hin
   simp only [List.getElem_cons_succ, List.getElem_cons_zero]
   clear hl
   refine .inr ⟨rfl, fun K' hK => ?_⟩
   have HK := Lib.hid hK
   clear hK
   go_simp
   refine (H2.out W).mono ?_
   rintro e W' ⟨rfl, hB⟩
   exact HK.out (.agg #[.int .i64 z.lo, .int .i64 z.hi, .bool z.all]) _ (hJ.grow hLi (by decide) (by decide) hB) (rfl) (vyL_later hB)
 intro L u W hL hJ hd
 have e0 : u 0 = .agg #[.int .i64 x.lo, .int .i64 x.hi, .bool x.all] := hd 0 (by decide)
 have e1 : u 1 = .agg #[.int .i64 y.lo, .int .i64 y.hi, .bool y.all] := hd 1 (by decide)
 have e2 : u 2 = .agg #[.int .i64 v.lo, .int .i64 v.hi, .bool v.all] := hd 2 (by decide)
 have e3 : u 3 = .agg #[.int .i64 z.lo, .int .i64 z.hi, .bool z.all] := hd 3 (by decide)
 simp only [layS, Act.put, List.setIfInBounds_toArray, List.set_cons_succ, List.set_cons_zero, Nat.zero_add, Nat.reduceAdd, List.drop_succ_cons, List.drop_zero, List.drop_nil, e0, e1, e2, e3]
 have hC2 := hJ.cm.cs
 have k := cl3 (hC2.at' (w.heap.size + 2, #[.int .i64 0, .int .i64 0, .bool false], 25) (.head _))
 have c1 := k.1
 have c2 := k.2.1
 have c3 := k.2.2.1
 have c4 := k.2.2.2.1
 have c5 := k.2.2.2.2.1
 have c6 := k.2.2.2.2.2
 have hf := fin3 hC2.below 2 z
 clear k hC2 hJ hL hJ0 hd e0 e1 e2 e3 hC
 go_wp2
 exact bodyPost_ret (v := .agg #[.int .i64 z.lo, .int .i64 z.hi, .bool z.all]) (by simp [results, Try.results19, go_sem, c1, c2, c3]) rfl ⟨rfl, hf⟩
end Go.Proofs.Ytpahkpcoinbgcaa
