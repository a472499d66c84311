/- Parts of the proof. -/
import Derived.Test.YtjclllindbfmhaaGreatDoorHv39
import Derived.Test.YtjclllindbfmhaaGreatDoorHv40
/- The law QuadLeast of layer 8, walked. No statement of the seat is proved here. -/
namespace Go.Proofs.YtjclllindbfmhaaGreatDoor
open Go Go.RowKit
open Classical in
theorem uleAny {X0 : Nat → Prop} {w : World} (hX : NX X0 w) (ra qa la : Sl) (m kx kl : Nat) (c : Nat → Nat) (R : Nat → Nat → Int) (x : Nat → Int) (cc : Int) (xl_ : Nat → Int) (hra : Mi m c R ra X0 w) (hqa : Li kx x qa X0 w) (hla : Li kl xl_ la X0 w) (rgR0 : ∀ i j, i < m → j < c i → -9223372036854775808 ≤ R i j ∧ R i j ≤ 9223372036854775807) (rgx0 : ∀ i, i < kx → -9223372036854775808 ≤ x i ∧ x i ≤ 9223372036854775807) (hcc : -9223372036854775808 ≤ cc ∧ cc ≤ 9223372036854775807) (rgl0 : ∀ i, i < kl → -9223372036854775808 ≤ xl_ i ∧ xl_ i ≤ 9223372036854775807) : Calls Tryz.prog 6 #[ra.v, qa.v, .int .i64 cc, la.v] w (PVal (.bool true) w) := by
 obtain ⟨n, hnm, hmin, hnu⟩ : ∃ n : Nat, n ≤ m ∧ ((((m : Nat) : Int) ≤ ((8 : Nat) : Int) ∧ ((n : Nat) : Int) = ((m : Nat) : Int)) ∨ (((8 : Nat) : Int) < ((m : Nat) : Int) ∧ ((n : Nat) : Int) = ((8 : Nat) : Int))) ∧ n ≤ 8 := by
  by_cases h : m ≤ 8
  ·
   exact ⟨m, Nat.le_refl _, .inl ⟨by omega, rfl⟩, h⟩
  ·
   exact ⟨8, by omega, .inr ⟨by omega, rfl⟩, Nat.le_refl _⟩
 by_cases ho : (Sym n (mir c R) ∧ ∀ i, i < n → 0 < M.dt (i + 1) (mir c R))
 ·
  exact ule2 hX ra qa la m kx kl c R x cc xl_ hra hqa hla rgR0 rgx0 hcc rgl0 n hnm hmin hnu ho
 ·
  exact ule1 hX ra qa la m kx kl c R x cc xl_ hra hqa hla rgR0 rgx0 hcc rgl0 n hnm hmin hnu ho
end Go.Proofs.YtjclllindbfmhaaGreatDoor
