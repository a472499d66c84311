/- The walk of Root. -/
import Derived.Test.YtohdfialnaegcaaOf
namespace Go.Proofs.Ytohdfialnaegcaa
open Go.RowKit

/-- A number in new memory, and an error's number, are handed back. -/
def PNumE (z : Int) (er : Int) (w : World) (e : Ending) (w' : World) : Prop :=
  ∃ (bl : Bool) (a' : Option Addr) (n c : Nat), e = .returned (.tuple #[.agg #[.bool bl, .slice a' n c], .int .i64 er]) ∧ Num w' bl a' n c z ∧ (∀ p, a' = some p → w.heap.size ≤ p.block) ∧ Below w.heap.size w w'
theorem pnume_store {w w3 : World} {bl : Bool} {a : Option Addr} {n c r : Nat} {z er : Int} (hn : Num w3 bl a n c z) (hB : Below w.heap.size w w3) (hr : w.heap.size ≤ r) (hfr : ∀ p, a = some p → r < p.block) :
    PNumE z er w (.returned (.tuple #[.agg #[.bool bl, .slice a n c], .int .i64 er])) ((w3.setCell ⟨r, 0, none⟩ (.bool bl)).setCell ⟨r, 1, none⟩ (.slice a n c)) :=
  ⟨bl, a, n, c, rfl, hn.only (only2 _ _ _ _) (fun p hp => by have := hfr p hp; omega), (fun p hp => by have := hfr p hp; omega), hB.trans ((only2 _ _ _ _).below hr)⟩
theorem box_res (w : World) (t : TypeId) (o : Obj) : ResAt w ((w.alloc o).alloc (.cells #[.bool false, .slice none 0 0] t)) (w.heap.size + 1) :=
  ⟨((Below.refl w.heap.size w).alloc (Nat.le_refl _) _).alloc (by simp) _, by simp [go_sem], by simp [go_sem], by simp [go_sem], by simp [go_sem], by omega, by simp⟩

set_option maxHeartbeats 800000 in
theorem Root_neg (a : Option Addr) (n c : Nat) (w : World) :
    Calls Try.prog 92 #[.agg #[.bool true, .slice a n c]] w (PNumE 0 12 w) := by
  go_enter Try.func92, Try.ntmps92
  go_wp2
  refine bodyPost_ret (v := .tuple #[.agg #[.bool false, .slice none 0 0], .int .i64 12]) (by simp [results, Try.results92, go_sem]) rfl ?_
  exact ⟨false, none, 0, 0, rfl, num_zero _, (fun p hp => by cases hp), ((Below.refl w.heap.size w).alloc (Nat.le_refl _) _).alloc (by simp) _⟩

/-- The root of a number is handed back. -/
def PIroot (N : Nat) (w : World) (e : Ending) (w' : World) : Prop := ∃ R : Nat, R * R ≤ N ∧ N < (R + 1) * (R + 1) ∧ PNumE (R : Int) 0 w e w'

set_option maxHeartbeats 800000 in
theorem Root_pos (a : Option Addr) (n c : Nat) (z : Int) (w : World) (h : Num w false a n c z) (hn : n ≤ 10000000) :
    Calls Try.prog 92 #[.agg #[.bool false, .slice a n c]] w (PIroot z.natAbs w) := by
  have hl := h.lie
  have hf := Lib.hid h.fit
  clear h
  go_enter Try.func92, Try.ntmps92
  go_wp2_with fail
  have hR := box_res w 81 (.cells #[.bool false, .slice a n c] 81)
  generalize (w.alloc (.cells #[.bool false, .slice a n c] 81)).alloc (.cells #[.bool false, .slice none 0 0] 81) = w1 at *
  refine (root_any a n c z.natAbs _ (hl.below hR.below) hf.out hn).mono ?_
  rintro e w2 ⟨R, hR1, hR2, a2, n2, c2, rfl, hl2, hf2, hfr2, hb2⟩
  have HR := Lib.hid (And.intro hR1 hR2)
  have HF2 := Lib.hid hf2
  have HFR := Lib.hid hfr2
  clear hR1 hR2 hf2 hfr2
  have hX2 := hR.later hb2
  go_wp2_with fail
  refine (made_any false _ n2 c2 R _ hl2 HF2.out.1).mono ?_
  rintro e w3 ⟨bl3, a3, n3, c3, rfl, hnum, haa, hb3⟩
  have hR3 := hX2.later hb3
  have rB0 := hR3.r0
  have rB1 := hR3.r1
  have fB0 := hR3.f0
  have fB1 := hR3.f1
  go_wp2
  rw [show sg false R = (R : Int) from rfl] at hnum
  refine bodyPost_ret (v := .tuple #[.agg #[.bool bl3, .slice a3 n3 c3], .int .i64 0]) (by simp [results, Try.results92, go_sem, rB0, rB1]) rfl ?_
  refine ⟨R, HR.out.1, HR.out.2, pnume_store hnum hR3.below (by omega) (fun p hp => ?_)⟩
  rcases haa with h | h
  · rw [h] at hp; cases hp
  · rw [h] at hp; have h1 := HFR.out p hp; have h2 := hR.sz; omega
end Go.Proofs.Ytohdfialnaegcaa
