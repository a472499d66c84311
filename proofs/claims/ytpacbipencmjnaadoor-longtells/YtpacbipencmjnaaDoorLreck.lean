/- The walk of the law LongReckons. -/
import Derived.Test.YtpacbipencmjnaaDoorFour
import Derived.Test.YtpacbipencmjnaaDoorRstr
namespace Go.Proofs.YtpacbipencmjnaaDoor
open Go.RowKit

/-- Block b holds the document's number z, by these digits. -/
structure RVI (w : World) (b : Nat) (bl : Bool) (a : Option Addr) (n c : Nat) (z : Int) : Prop where
  k0 : w.cell? ⟨b, 0, none⟩ = some (.bool bl)
  k1 : w.cell? ⟨b, 1, none⟩ = some (.slice a n c)
  num : RNum w bl a n c z
theorem RVI.below {w w' : World} {b : Nat} {bl : Bool} {a : Option Addr} {n c : Nat} {z : Int} (h : RVI w b bl a n c z) (hb : Below w.heap.size w w') : RVI w' b bl a n c z :=
  have hlt := World.block_lt_of_cell? w _ h.k0
  ⟨(hb.cell (p := ⟨b, 0, none⟩) hlt).trans h.k0, (hb.cell (p := ⟨b, 1, none⟩) hlt).trans h.k1, h.num.below hb⟩
theorem rvi_new {w : World} {bl : Bool} {a : Option Addr} {n c : Nat} {z : Int} (t : TypeId) (h : RNum w bl a n c z) : RVI (w.alloc (.cells #[.bool bl, .slice a n c] t)) w.heap.size bl a n c z :=
  ⟨by simp [go_sem], by simp [go_sem], h.below (below_new _ _)⟩
/-- Two numbers of the program's and two of the document's, in variables. -/
structure T5 (w W : World) (i : Nat) (b1 : Bool) (a1 : Option Addr) (n1 c1 : Nat) (b2 : Bool) (a2 : Option Addr) (n2 c2 : Nat) (b3 : Bool) (a3 : Option Addr) (n3 c3 : Nat) (b4 : Bool) (a4 : Option Addr) (n4 c4 : Nat) (x y : Int) : Prop where
  below : Below w.heap.size w W
  X : VI W i b1 a1 n1 c1 x
  Y : VI W (i + 1) b2 a2 n2 c2 y
  V : RVI W (i + 2) b3 a3 n3 c3 x
  U : RVI W (i + 3) b4 a4 n4 c4 y
section
variable {w W W' : World} {i : Nat} {b1 : Bool} {a1 : Option Addr} {n1 c1 : Nat} {b2 : Bool} {a2 : Option Addr} {n2 c2 : Nat} {b3 : Bool} {a3 : Option Addr} {n3 c3 : Nat} {b4 : Bool} {a4 : Option Addr} {n4 c4 : Nat} {x y : Int}
theorem T5.later (h : T5 w W i b1 a1 n1 c1 b2 a2 n2 c2 b3 a3 n3 c3 b4 a4 n4 c4 x y) (hb : Below W.heap.size W W') : T5 w W' i b1 a1 n1 c1 b2 a2 n2 c2 b3 a3 n3 c3 b4 a4 n4 c4 x y :=
  ⟨h.below.trans (hb.mono h.below.size), h.X.below hb, h.Y.below hb, h.V.below hb, h.U.below hb⟩
theorem T5.hs (h : T5 w W i b1 a1 n1 c1 b2 a2 n2 c2 b3 a3 n3 c3 b4 a4 n4 c4 x y) : W.cell? ⟨i, 0, none⟩ = some (.bool b1) ∧ W.cell? ⟨i, 1, none⟩ = some (.slice a1 n1 c1) ∧ W.cell? ⟨i + 1, 0, none⟩ = some (.bool b2) ∧ W.cell? ⟨i + 1, 1, none⟩ = some (.slice a2 n2 c2) ∧ W.cell? ⟨i + 2, 0, none⟩ = some (.bool b3) ∧ W.cell? ⟨i + 2, 1, none⟩ = some (.slice a3 n3 c3) ∧ W.cell? ⟨i + 3, 0, none⟩ = some (.bool b4) ∧ W.cell? ⟨i + 3, 1, none⟩ = some (.slice a4 n4 c4) :=
  ⟨h.X.k0, h.X.k1, h.Y.k0, h.Y.k1, h.V.k0, h.V.k1, h.U.k0, h.U.k1⟩
end
theorem t5_mk {w0 w : World} {b1 : Bool} {a1 : Option Addr} {n1 c1 : Nat} {b2 : Bool} {a2 : Option Addr} {n2 c2 : Nat} {b3 : Bool} {a3 : Option Addr} {n3 c3 : Nat} {b4 : Bool} {a4 : Option Addr} {n4 c4 : Nat} {x y : Int} (hb : Below w0.heap.size w0 w) (h1 : Num w b1 a1 n1 c1 x) (h2 : Num w b2 a2 n2 c2 y) (h3 : RNum w b3 a3 n3 c3 x) (h4 : RNum w b4 a4 n4 c4 y) (t u : TypeId) :
    T5 w0 ((((w.alloc (.cells #[.bool b1, .slice a1 n1 c1] t)).alloc (.cells #[.bool b2, .slice a2 n2 c2] t)).alloc (.cells #[.bool b3, .slice a3 n3 c3] u)).alloc (.cells #[.bool b4, .slice a4 n4 c4] u)) w.heap.size b1 a1 n1 c1 b2 a2 n2 c2 b3 a3 n3 c3 b4 a4 n4 c4 x y := by
  have B1 := below_new w (.cells #[.bool b1, .slice a1 n1 c1] t)
  have B2 := below_new (w.alloc (.cells #[.bool b1, .slice a1 n1 c1] t)) (.cells #[.bool b2, .slice a2 n2 c2] t)
  have B3 := below_new ((w.alloc (.cells #[.bool b1, .slice a1 n1 c1] t)).alloc (.cells #[.bool b2, .slice a2 n2 c2] t)) (.cells #[.bool b3, .slice a3 n3 c3] u)
  have B4 := below_new (((w.alloc (.cells #[.bool b1, .slice a1 n1 c1] t)).alloc (.cells #[.bool b2, .slice a2 n2 c2] t)).alloc (.cells #[.bool b3, .slice a3 n3 c3] u)) (.cells #[.bool b4, .slice a4 n4 c4] u)
  have X := (((vi_new t h1).below B2).below B3).below B4
  have Y := ((vi_new t (h2.below B1)).below B3).below B4
  have V := (rvi_new u ((h3.below B1).below B2)).below B4
  have U := rvi_new u (((h4.below B1).below B2).below B3)
  have e1 : (w.alloc (.cells #[.bool b1, .slice a1 n1 c1] t)).heap.size = w.heap.size + 1 := by simp
  have e2 : ((w.alloc (.cells #[.bool b1, .slice a1 n1 c1] t)).alloc (.cells #[.bool b2, .slice a2 n2 c2] t)).heap.size = w.heap.size + 2 := by simp
  have e3 : (((w.alloc (.cells #[.bool b1, .slice a1 n1 c1] t)).alloc (.cells #[.bool b2, .slice a2 n2 c2] t)).alloc (.cells #[.bool b3, .slice a3 n3 c3] u)).heap.size = w.heap.size + 3 := by simp
  rw [e1] at Y
  rw [e2] at V
  rw [e3] at U
  have b12 := hb.trans (B1.mono hb.size)
  have b13 := b12.trans (B2.mono b12.size)
  have b14 := b13.trans (B3.mono b13.size)
  exact ⟨b14.trans (B4.mono b14.size), X, Y, V, U⟩
theorem rlen {n N p : Nat} (h : Fit10 n N) (hN : N < BB ^ p) : n ≤ 10 * p := by
  refine Nat.le_of_not_lt fun hlt => ?_
  have h1 : 10 ^ (10 * p) ≤ 10 ^ (n - 1) := Nat.pow_le_pow_right (by decide) (by omega)
  have h2 : BB ^ p ≤ 10 ^ (10 * p) := by rw [Nat.pow_mul]; exact Nat.pow_le_pow_left (by decide) p
  rcases h.2 with h0 | h0 <;> omega
theorem tfitB {n N : Nat} (h : N < BB ^ n) (hn : n ≤ 150) : N < BB ^ 150 := fit_mono h hn
theorem txt_str {z : Int} {l m : List UInt8} (h : Txt z l) (k : Txt z m) : (⟨m.toArray⟩ : ByteArray) = ⟨l.toArray⟩ := by rw [txt_uniq k h]

end Go.Proofs.YtpacbipencmjnaaDoor
