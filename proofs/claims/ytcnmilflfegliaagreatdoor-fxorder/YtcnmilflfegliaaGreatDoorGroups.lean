/- The walk of groupsOf. -/
import Derived.Test.YtcnmilflfegliaaGreatDoorDivb
import Derived.Test.YtcnmilflfegliaaGreatDoorNext
import Derived.Deep.LoopGhost
namespace Go.Proofs.YtcnmilflfegliaaGreatDoor
open Go.RowKit

/-- The i-th group of nine digits. -/
def grp (N i : Nat) : Nat := N / 1000000000 ^ i % 1000000000
theorem grp_bound {N n i : Nat} (hN : N < BB ^ n) (h : 0 < N / 1000000000 ^ i) : i < 2 * n := by
  have h1 : 1000000000 ^ i ≤ N := by
    rcases Nat.lt_or_ge N (1000000000 ^ i) with h2 | h2
    · rw [Nat.div_eq_of_lt h2] at h; omega
    · exact h2
  refine Nat.lt_of_not_le fun hc => ?_
  have h3 : BB ^ n ≤ 1000000000 ^ i := by
    refine Nat.le_trans ?_ (Nat.pow_le_pow_right (by decide) hc)
    rw [Nat.pow_mul]
    exact Nat.pow_le_pow_left (by decide) n
  omega
theorem grp_next (N i : Nat) : N / 1000000000 ^ i / 1000000000 = N / 1000000000 ^ (i + 1) := by rw [Nat.div_div_eq_div_mul, Nat.pow_succ]

/-- Groups of a number are handed back. -/
def PGrp (N n : Nat) (w : World) (e : Ending) (w' : World) : Prop :=
  ∃ (a : Option Addr) (i c : Nat), e = .returned (.slice a i c) ∧ Lie .u32 w' a i c (grp N) ∧ N < 1000000000 ^ i ∧ i ≤ 2 * n ∧ Below w.heap.size w w'

/-- The values of a list's numbers. -/
def vals (k : IntKind) (f : Nat → Nat) (n : Nat) : List Value := (List.range n).map fun i => Value.int k (f i : Nat)
theorem vals_len (k : IntKind) (f : Nat → Nat) (n : Nat) : (vals k f n).length = n := by simp [vals]
theorem vals_succ (k : IntKind) (f : Nat → Nat) (n : Nat) : vals k f n ++ [Value.int k (f n : Nat)] = vals k f (n + 1) := by simp [vals, List.range_succ]
theorem vals_get (k : IntKind) (f : Nat → Nat) (n i : Nat) (h : i < n) : (vals k f n)[i]? = some (Value.int k (f i : Nat)) := by simp [vals, h]
/-- What is owned by append's laws lies there. -/
theorem lie_owned {k : IntKind} {w : World} {base : Nat} {e : TypeId} {v : Value} {n : Nat} {f : Nat → Nat} (h : w.ownsRow base e 1 v n (vals k f n)) :
    ∃ (a : Option Addr) (c : Nat), v = .slice a n c ∧ Lie k w a n c f := by
  have hcs := h.2
  rcases hcs with ⟨rfl, rfl⟩ | ⟨g, cap, cur, rfl, hb, hg, hc, hm, hs, ht⟩
  · exact ⟨none, 0, rfl, lie_nil _ _ _⟩
  · refine ⟨_, cap, rfl, hc, hm, (fun e => by cases e), (fun p hp => by cases hp; exact ⟨rfl, (Array.getElem?_eq_some_iff.1 hg).1⟩), (fun p hp i hi => ?_)⟩
    cases hp
    have := h.cells (g := g) rfl i _ (vals_get k f n i hi)
    rw [show (⟨g, 0, none⟩ : Addr).add i = ⟨g, 0 + i, none⟩ from by unfold Addr.add; split <;> simp_all] at this
    exact this

theorem Lie.congr {k : IntKind} {w : World} {a : Option Addr} {n c : Nat} {f f' : Nat → Nat} (h : Lie k w a n c f) (hf : ∀ i, i < n → f i = f' i) : Lie k w a n c f' :=
  ⟨h.cap, h.capm, h.nil, h.spot, fun p hp i hi => by rw [← hf i hi]; exact h.cell p hp i hi⟩
theorem Own.grown' {k : IntKind} {e : TypeId} {w w' : World} {g n : Nat} {f : Nat → Nat} {r : Option Nat} (h : Own k e w g n f) (hg : w.grownBy w' r) (hr : r ≠ some g) : Own k e w' g n f := by
  unfold Own at h ⊢
  rw [hg.block g (Array.getElem?_eq_some_iff.1 h).1 (fun e => hr e.symm)]; exact h

end Go.Proofs.YtcnmilflfegliaaGreatDoor
