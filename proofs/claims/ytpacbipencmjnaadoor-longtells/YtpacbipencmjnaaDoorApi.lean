/- What package long's calls do, said of variables that hold numbers. -/
import Derived.Test.YtpacbipencmjnaaDoorTxt
import Derived.Test.YtpacbipencmjnaaDoorIquo
import Derived.Test.YtpacbipencmjnaaDoorSmall
namespace Go.Proofs.YtpacbipencmjnaaDoor
open Go.RowKit

/-- Block b holds the number z. -/
def Var (w : World) (b : Nat) (z : Int) : Prop := ∃ (bl : Bool) (a : Option Addr) (n c : Nat), w.cell? ⟨b, 0, none⟩ = some (.bool bl) ∧ w.cell? ⟨b, 1, none⟩ = some (.slice a n c) ∧ Num w bl a n c z
theorem Var.below {w w' : World} {b : Nat} {z : Int} (h : Var w b z) (hb : Below w.heap.size w w') : Var w' b z := by
  obtain ⟨bl, a, n, c, h0, h1, h2⟩ := h
  have hlt := World.block_lt_of_cell? w _ h0
  exact ⟨bl, a, n, c, (hb.cell (p := ⟨b, 0, none⟩) hlt).trans h0, (hb.cell (p := ⟨b, 1, none⟩) hlt).trans h1, h2.below hb⟩
theorem var_new {w : World} {bl : Bool} {a : Option Addr} {n c : Nat} {z : Int} (t : TypeId) (h : Num w bl a n c z) : Var (w.alloc (.cells #[.bool bl, .slice a n c] t)) w.heap.size z :=
  ⟨bl, a, n, c, by simp [go_sem], by simp [go_sem], h.below ((Below.refl _ _).alloc (Nat.le_refl _) _)⟩
theorem var_two {w : World} {bl : Bool} {a : Option Addr} {n c : Nat} {z : Int} {bl' : Bool} {a' : Option Addr} {n' c' : Nat} {z' : Int} (t : TypeId) (h : Num w bl a n c z) (h' : Num w bl' a' n' c' z') :
    Var ((w.alloc (.cells #[.bool bl, .slice a n c] t)).alloc (.cells #[.bool bl', .slice a' n' c'] t)) w.heap.size z ∧ Var ((w.alloc (.cells #[.bool bl, .slice a n c] t)).alloc (.cells #[.bool bl', .slice a' n' c'] t)) (w.heap.size + 1) z' ∧
    Below w.heap.size w ((w.alloc (.cells #[.bool bl, .slice a n c] t)).alloc (.cells #[.bool bl', .slice a' n' c'] t)) := by
  have hb := (Below.refl w.heap.size w).alloc (Nat.le_refl _) (.cells #[.bool bl, .slice a n c] t)
  refine ⟨(var_new t h).below ((Below.refl _ _).alloc (Nat.le_refl _) _), ?_, hb.alloc (by simp) _⟩
  have := var_new t (h'.below hb)
  rwa [show (w.alloc (.cells #[.bool bl, .slice a n c] t)).heap.size = w.heap.size + 1 from by simp] at this
/-- Block b holds the number z, by these parts. -/
structure VI (w : World) (b : Nat) (bl : Bool) (a : Option Addr) (n c : Nat) (z : Int) : Prop where
  k0 : w.cell? ⟨b, 0, none⟩ = some (.bool bl)
  k1 : w.cell? ⟨b, 1, none⟩ = some (.slice a n c)
  num : Num w bl a n c z
theorem VI.below {w w' : World} {b : Nat} {bl : Bool} {a : Option Addr} {n c : Nat} {z : Int} (h : VI w b bl a n c z) (hb : Below w.heap.size w w') : VI w' b bl a n c z :=
  have hlt := World.block_lt_of_cell? w _ h.k0
  ⟨(hb.cell (p := ⟨b, 0, none⟩) hlt).trans h.k0, (hb.cell (p := ⟨b, 1, none⟩) hlt).trans h.k1, h.num.below hb⟩
theorem vi_new {w : World} {bl : Bool} {a : Option Addr} {n c : Nat} {z : Int} (t : TypeId) (h : Num w bl a n c z) : VI (w.alloc (.cells #[.bool bl, .slice a n c] t)) w.heap.size bl a n c z :=
  ⟨by simp [go_sem], by simp [go_sem], h.below ((Below.refl _ _).alloc (Nat.le_refl _) _)⟩
theorem num_len {w : World} {bl : Bool} {a : Option Addr} {n c k : Nat} {z : Int} (h : Num w bl a n c z) (hz : z.natAbs < BB ^ k) (hk : k ≤ 9000000) : n ≤ 9000000 := Nat.le_trans (fit_le h.fit hz) hk
theorem num_len' {w : World} {bl : Bool} {a : Option Addr} {n c k : Nat} {z : Int} (h : Num w bl a n c z) (hz : z.natAbs < BB ^ k) (hk : k ≤ 9000000) : n ≤ 10000000 := Nat.le_trans (num_len h hz hk) (by omega)
theorem below_new (w : World) (o : Obj) : Below w.heap.size w (w.alloc o) := (Below.refl _ _).alloc (Nat.le_refl _) _

theorem String_all (bl : Bool) (a : Option Addr) (n c : Nat) (z : Int) (w : World) (h : Num w bl a n c z) (hn : n ≤ 10000000) :
    Calls Tryd.prog 8 #[.agg #[.bool bl, .slice a n c]] w (PTxt z w) := by
  by_cases hz : z = 0
  · subst hz; exact String_zero bl a n c w h
  · exact String_any bl a n c z w h hn hz
theorem root_uniq {R N r : Nat} (h1 : R * R ≤ N) (h2 : N < (R + 1) * (R + 1)) (k1 : r * r ≤ N) (k2 : N < (r + 1) * (r + 1)) : R = r := by
  rcases Nat.lt_trichotomy R r with h | h | h
  · have := Nat.mul_le_mul (show R + 1 ≤ r from h) (show R + 1 ≤ r from h); omega
  · exact h
  · have := Nat.mul_le_mul (show r + 1 ≤ R from h) (show r + 1 ≤ R from h); omega
end Go.Proofs.YtpacbipencmjnaaDoor
