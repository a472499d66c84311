/- Parts of the proof. -/
import Derived.Test.YtpahkpcoinbgcaaGs24
import Derived.Test.YtpahkpcoinbgcaaGs31
/- The document's spans: the walks of Neg, Add, Sub. No statement of the seat is proved here. -/
namespace Go.Proofs.Ytpahkpcoinbgcaa
open Go Go.RowKit
set_option maxHeartbeats 1600000 in
theorem rdNeg_no (x y : Sp) (hr : ∀ W : World, Calls Try.prog 78 #[.agg #[.int .i64 x.lo, .int .i64 x.hi, .bool x.all]] W (PDp ⟨0, 0, true⟩ W)) (w : World) : Calls Try.prog 25 #[.agg #[.int .i64 x.lo, .int .i64 x.hi, .bool x.all]] w (PDp lineS w) := by
 have HR := Lib.hid hr
 clear hr
 go_enter Try.func25, Try.ntmps25
 go_wp2_with fail
 have hC := ((cs_nil w).new #[.int .i64 x.lo, .int .i64 x.hi, .bool x.all] 25).new #[.int .i64 0, .int .i64 0, .bool false] 25
 rw [show (w.alloc (.cells #[.int .i64 x.lo, .int .i64 x.hi, .bool x.all] 25)).heap.size = w.heap.size + 1 by simp] at hC
 generalize (w.alloc (.cells #[.int .i64 x.lo, .int .i64 x.hi, .bool x.all] 25)).alloc (.cells #[.int .i64 0, .int .i64 0, .bool false] 25) = w1 at *
 refine (HR.out _).mono ?_
 rintro e w2 ⟨rfl, hB⟩
 replace hC := hC.later hB
 have hD : D3 w2 (w.heap.size + 1) ⟨0, 0, false⟩ := hC.at' _ (.head _)
 have hlt := hC.lt _ (.head _)
 replace hlt : w.heap.size + 1 < w2.heap.size := hlt
 have hb := hC.below
 have c1 := hD.cells.1
 have c2 := hD.cells.2.1
 have c3 := hD.cells.2.2.1
 have c4 := hD.cells.2.2.2.1
 have c5 := hD.cells.2.2.2.2.1
 have c6 := hD.cells.2.2.2.2.2
 have h1 : Below w.heap.size w (((w2.setCell ⟨w.heap.size + 1, 0, none⟩ (.int .i64 0)).setCell ⟨w.heap.size + 1, 1, none⟩ (.int .i64 0)).setCell ⟨w.heap.size + 1, 2, none⟩ (.bool true)) := fin3 hb 1 ⟨0, 0, true⟩
 have hf : Below w.heap.size w ((((w2.setCell ⟨w.heap.size + 1, 0, none⟩ (.int .i64 0)).setCell ⟨w.heap.size + 1, 1, none⟩ (.int .i64 0)).setCell ⟨w.heap.size + 1, 2, none⟩ (.bool true)).alloc (.cells #[.int .i64 0, .int .i64 0, .bool true] 25)) := h1.alloc h1.size _
 have hd : D3 ((((w2.setCell ⟨w.heap.size + 1, 0, none⟩ (.int .i64 0)).setCell ⟨w.heap.size + 1, 1, none⟩ (.int .i64 0)).setCell ⟨w.heap.size + 1, 2, none⟩ (.bool true)).alloc (.cells #[.int .i64 0, .int .i64 0, .bool true] 25)) (w.heap.size + 1) ⟨0, 0, true⟩ := (hD.self ⟨0, 0, true⟩).below ((Below.refl _ _).alloc (Nat.le_refl _) _)
 have k1 := hd.cells.1
 have k2 := hd.cells.2.1
 have k3 := hd.cells.2.2.1
 clear hC hB hD h1 hd
 go_wp2
 exact bodyPost_ret (v := .agg #[.int .i64 lineS.lo, .int .i64 lineS.hi, .bool lineS.all]) (by simp [results, Try.results25, go_sem, k1, k2, k3, lineS]) rfl ⟨rfl, hf⟩
set_option maxHeartbeats 1600000 in
theorem rdNeg_ok (l u2 : Int) (w : World) (h1 : -2147483647 ≤ l) (h2 : l ≤ u2) (h3 : u2 ≤ 2147483647) : Calls Try.prog 25 #[.agg #[.int .i64 l, .int .i64 u2, .bool false]] w (PDp ⟨-u2, -l, false⟩ w) := by
 have HR : Hid (∀ W : World, Calls Try.prog 78 #[.agg #[.int .i64 l, .int .i64 u2, .bool false]] W (PDp ⟨l, u2, false⟩ W)) := show ∀ W : World, _ from fun W => by
  have hk : okB ⟨l, u2, false⟩ = true := ok_mk h1 h2 h3 rfl
  have := rRight_any ⟨l, u2, false⟩ W
  rwa [mkS_ok hk] at this
 have hw1 : IntKind.i64.wrap (-u2) = -u2 := IntWalk.i64_in _ (by omega)
 have hw2 : IntKind.i64.wrap (-l) = -l := IntWalk.i64_in _ (by omega)
 clear h1 h2 h3
 go_enter Try.func25, Try.ntmps25
 go_wp2_with fail
 have hC := ((cs_nil w).new #[.int .i64 l, .int .i64 u2, .bool false] 25).new #[.int .i64 0, .int .i64 0, .bool false] 25
 rw [show (w.alloc (.cells #[.int .i64 l, .int .i64 u2, .bool false] 25)).heap.size = w.heap.size + 1 by simp] at hC
 generalize (w.alloc (.cells #[.int .i64 l, .int .i64 u2, .bool false] 25)).alloc (.cells #[.int .i64 0, .int .i64 0, .bool false] 25) = w1 at *
 refine (HR.out _).mono ?_
 rintro e w2 ⟨rfl, hB⟩
 replace hC := hC.later hB
 have hD : D3 w2 (w.heap.size + 1) ⟨0, 0, false⟩ := hC.at' _ (.head _)
 have hlt : w.heap.size + 1 < w2.heap.size := hC.lt _ (.head _)
 have hb := hC.below
 have c1 := hD.cells.1
 have c2 := hD.cells.2.1
 have c3 := hD.cells.2.2.1
 have c4 := hD.cells.2.2.2.1
 have c5 := hD.cells.2.2.2.2.1
 have c6 := hD.cells.2.2.2.2.2
 have h1 := fin3 hb 1 ⟨-u2, -l, false⟩
 have hf : Below w.heap.size w ((((w2.setCell ⟨w.heap.size + 1, 0, none⟩ (.int .i64 (-u2))).setCell ⟨w.heap.size + 1, 1, none⟩ (.int .i64 (-l))).setCell ⟨w.heap.size + 1, 2, none⟩ (.bool false)).alloc (.cells #[.int .i64 l, .int .i64 u2, .bool false] 25)) := h1.alloc h1.size _
 have hd : D3 ((((w2.setCell ⟨w.heap.size + 1, 0, none⟩ (.int .i64 (-u2))).setCell ⟨w.heap.size + 1, 1, none⟩ (.int .i64 (-l))).setCell ⟨w.heap.size + 1, 2, none⟩ (.bool false)).alloc (.cells #[.int .i64 l, .int .i64 u2, .bool false] 25)) (w.heap.size + 1) ⟨-u2, -l, false⟩ := (hD.self ⟨-u2, -l, false⟩).below ((Below.refl _ _).alloc (Nat.le_refl _) _)
 have k1 := hd.cells.1
 have k2 := hd.cells.2.1
 have k3 := hd.cells.2.2.1
 clear hC hB hD h1 hd
 go_wp2
 exact bodyPost_ret (v := .agg #[.int .i64 (-u2), .int .i64 (-l), .bool false]) (by simp [results, Try.results25, go_sem, k1, k2, k3]) rfl ⟨rfl, hf⟩
theorem rdNeg_any (x : Sp) (w : World) : Calls Try.prog 25 #[.agg #[.int .i64 x.lo, .int .i64 x.hi, .bool x.all]] w (PDp (negS x) w) := by
 cases hk : okB x
 ·
  have e : negS x = lineS := by unfold negS; rw [hk]; rfl
  rw [e]
  exact rdNeg_no x lineS (fun W => by have := rRight_any x W; rwa [mkS_no hk] at this) w
 ·
  obtain ⟨l, u2, a⟩ := x
  have k := ok_of hk
  have h4 : a = false := k.2.2.2
  subst h4
  have e : negS ⟨l, u2, false⟩ = ⟨-u2, -l, false⟩ := by unfold negS; rw [hk]; rfl
  rw [e]
  exact rdNeg_ok l u2 w k.1 k.2.1 k.2.2.1
end Go.Proofs.Ytpahkpcoinbgcaa

/- The document's spans: the walk of Mul. No statement of the seat is proved here. -/
namespace Go.Proofs.Ytpahkpcoinbgcaa
open Go Go.RowKit
theorem mul_tight {x y : Sp} (hx : okB x = true) (hy : okB y = true) : mulS x y = tightS (min4 x y) (max4 x y) 1048576 := by
 have corner : ∀ a b : Int, min4 x y ≤ a * b → a * b ≤ max4 x y → ¬ (min4 x y / 1048576 < -2147483647 ∨ -max4 x y / 1048576 < -2147483647 ∨ 2147483647 < min4 x y / 1048576 ∨ 2147483647 < -max4 x y / 1048576) → okB (mulR a b) = true := by
  intro a b h1 h2 h3
  unfold mulR
  rw [okB_mk]
  generalize a * b = P at *
  generalize min4 x y = m at *
  generalize max4 x y = M at *
  exact ok_mk (by show _ ≤ P / 1048576; omega) (by show P / 1048576 ≤ -(-P / 1048576); omega) (by show -(-P / 1048576) ≤ _; omega) rfl
 unfold tightS
 rcases mul_cases x y with e | ⟨h, _, _, e⟩
 ·
  rw [e]
  by_cases g : min4 x y / 1048576 < -2147483647 ∨ -max4 x y / 1048576 < -2147483647 ∨ 2147483647 < min4 x y / 1048576 ∨ 2147483647 < -max4 x y / 1048576
  ·
   rw [if_pos g]
  ·
   exfalso
   have c : ∀ a b : Int, min4 x y ≤ a * b ∧ a * b ≤ max4 x y → okB (mulR a b) = true := fun a b h => corner a b h.1 h.2 g
   have k1 := (ok_of hx).2.1
   have k2 := (ok_of hy).2.1
   have := ends_ok (R := mulR) hx hy (c _ _ (bil (Int.le_refl _) k1 (Int.le_refl _) k2)) (c _ _ (bil (Int.le_refl _) k1 k2 (Int.le_refl _))) (c _ _ (bil k1 (Int.le_refl _) (Int.le_refl _) k2)) (c _ _ (bil k1 (Int.le_refl _) k2 (Int.le_refl _)))
   rw [show endsS mulR x y = lineS from e] at this
   cases congrArg Sp.all this
 ·
  have k := ok_of h
  rw [e] at k
  replace k : -2147483647 ≤ min4 x y / 1048576 ∧ min4 x y / 1048576 ≤ -(-max4 x y / 1048576) ∧ -(-max4 x y / 1048576) ≤ 2147483647 := ⟨k.1, k.2.1, k.2.2.1⟩
  rw [e, if_neg (by omega)]
end Go.Proofs.Ytpahkpcoinbgcaa

/- Vectors of three spans, as numbers (no walk). No statement of the seat is proved here. -/
namespace Go.Proofs.Ytpahkpcoinbgcaa
open Go.RowKit
def oneS : Sp := ⟨1048576, 1048576, false⟩
theorem mul_one (x : Sp) : mulS x oneS = mkS x := by
 cases hx : okB x
 ·
  rw [mkS_no hx]; exact ends_no (by rw [hx]; rfl)
 ·
  have k := ok_of hx
  rw [mkS_ok hx, mul_tight hx rfl]
  unfold tightS min4 max4 oneS
  have e : ∀ a b : Int, min a a = a ∧ max a a = a := fun a b => by omega
  rw [if_neg (by dsimp only; omega)]
  obtain ⟨l, h, a⟩ := x
  dsimp only at *
  rw [k.2.2.2]
  congr 1 <;> omega
end Go.Proofs.Ytpahkpcoinbgcaa
