/- The walk of quotient. -/
import Derived.Test.YtohdfialnaegcaaNext
import Derived.Test.YtohdfialnaegcaaParts
import Derived.Test.YtohdfialnaegcaaRaise
import Derived.Test.YtohdfialnaegcaaShelf
import Derived.Lib.ItoaNum
namespace Go.Proofs.Ytohdfialnaegcaa
open Go.RowKit

/-- Parts of a quotient and of what is left are handed back, in new memory. -/
def PQuo (A B : Nat) (w : World) (e : Ending) (w' : World) : Prop :=
  ∃ (a1 : Option Addr) (n1 c1 : Nat) (a2 : Option Addr) (n2 c2 : Nat), e = .returned (.tuple #[.slice a1 n1 c1, .slice a2 n2 c2]) ∧
    (Lie .u32 w' a1 n1 c1 (lmb (A / B)) ∧ Fit n1 (A / B) ∧ ∀ p, a1 = some p → w.heap.size ≤ p.block) ∧
    (Lie .u32 w' a2 n2 c2 (lmb (A % B)) ∧ Fit n2 (A % B) ∧ ∀ p, a2 = some p → w.heap.size ≤ p.block) ∧ Below w.heap.size w w'

theorem bitLen_in {x : Nat} (h0 : 1 ≤ x) (h : x < 4294967296) : 1 ≤ Lib.bitLen x ∧ Lib.bitLen x ≤ 32 ∧ 2 ^ (Lib.bitLen x - 1) ≤ x ∧ x < 2 ^ Lib.bitLen x := by
  obtain ⟨h1, h2, h3⟩ := Lib.bitLenAux_bounds 64 x (by omega) (by omega)
  exact ⟨h1, Lib.bitLen_le x 32 (by omega) h, h2, h3⟩
theorem top_lead {B n s : Nat} (hB : Fit n B) (hn : 1 ≤ n) (hs : s = 32 - Lib.bitLen (lmb B (n - 1))) : s < 32 ∧ Fit n (B * 2 ^ s) ∧ 1 ≤ lmb B (n - 1) := by
  obtain ⟨m, rfl⟩ : ∃ m, n = m + 1 := ⟨n - 1, by omega⟩
  simp only [Nat.add_sub_cancel] at *
  have hB1 := hB.1
  have hB2 : BB ^ m ≤ B := by rcases hB.2 with h | h <;> simp at h ⊢; exact h
  have htop : 1 ≤ lmb B m := by rw [lmb_top hB1]; exact Nat.div_pos hB2 (BBp _)
  obtain ⟨h1, h2, h3, h4⟩ := bitLen_in htop (lmb_lt B m)
  have hs32 : s < 32 := by omega
  refine ⟨hs32, ⟨?_, .inr ?_⟩, htop⟩
  · have e : B < BB ^ m * (lmb B m + 1) := by
      rw [lmb_top hB1, Nat.mul_add, Nat.mul_one]
      have := Nat.div_add_mod B (BB ^ m)
      have h5 := Nat.mod_lt B (BBp m)
      omega
    have e2 : (lmb B m + 1) * 2 ^ s ≤ 4294967296 := by
      have : (lmb B m + 1) * 2 ^ s ≤ 2 ^ Lib.bitLen (lmb B m) * 2 ^ s := Nat.mul_le_mul_right _ h4
      rw [← Nat.pow_add, show Lib.bitLen (lmb B m) + s = 32 from by omega] at this
      exact this
    calc B * 2 ^ s < BB ^ m * (lmb B m + 1) * 2 ^ s := (Nat.mul_lt_mul_right (Nat.pow_pos (by decide))).2 e
      _ = BB ^ m * ((lmb B m + 1) * 2 ^ s) := Nat.mul_assoc _ _ _
      _ ≤ BB ^ m * 4294967296 := Nat.mul_le_mul_left _ e2
      _ = BB ^ (m + 1) := by rw [Nat.pow_succ]; rfl
  · exact Nat.le_trans hB2 (Nat.le_mul_of_pos_right _ (Nat.pow_pos (by decide)))

theorem own_lit1 (k : IntKind) (e : TypeId) (w : World) (x : Nat) (f : Nat → Nat) (h : f 0 = x) : Own k e (w.alloc (.cells #[.int k (x : Nat)] e)) w.heap.size 1 f := by
  unfold Own
  rw [heap_alloc_new]
  simp [List.range_succ, h]
theorem own_lit2 (k : IntKind) (e : TypeId) (w : World) (x y : Nat) (f : Nat → Nat) (h : f 0 = x) (h' : f 1 = y) : Own k e (w.alloc (.cells #[.int k (x : Nat), .int k (y : Nat)] e)) w.heap.size 2 f := by
  unfold Own
  rw [heap_alloc_new]
  simp [List.range_succ, h, h']

set_option maxHeartbeats 1600000 in
theorem quotient_lt (a b : Option Addr) (n c m d A B : Nat) (w : World) (ha : Lie .u32 w a n c (lmb A)) (hb : Lie .u32 w b m d (lmb B)) (fa : Fit n A) (fb : Fit m B) (hn : n ≤ 1000000000) (hlt : A < B) :
    Calls Try.prog 106 #[.slice a n c, .slice b m d] w (PQuo A B w) := by
  go_enter Try.func106, Try.ntmps106
  go_wp2_with fail
  refine (compare_any a b n c m d A B _ ha hb fa fb).mono ?_
  rintro e w1 ⟨rfl, hb1⟩
  have ha1 := ha.below hb1
  rw [show cmpN A B = -1 from by simp [cmpN, hlt]]
  clear ha hb
  go_wp2_with fail
  refine (copied_any a n c (lmb A) _ ha1 hn).mono ?_
  rintro e w2 ⟨g, rfl, hg, hown2, hb2⟩
  have HQ : Hid (A / B = 0 ∧ A % B = A) := ⟨Nat.div_eq_of_lt hlt, Nat.mod_eq_of_lt hlt⟩
  go_wp2
  go_ret2
  refine ⟨none, 0, 0, some ⟨g, 0, none⟩, n, n, rfl, ?_, ?_, hb1.trans (hb2.mono hb1.size)⟩
  · rw [HQ.out.1]; exact ⟨lie_nil _ _ _, fit_zero, fun p hp => by cases hp⟩
  · rw [HQ.out.2]; exact ⟨hown2.lie (Nat.le_refl _) (by unfold maxLen; omega), fa, fun p hp => by cases hp; have := hb1.size; show _ ≤ g; omega⟩

set_option maxHeartbeats 1600000 in
theorem quotient_one (a b : Option Addr) (n c d A B : Nat) (w : World) (ha : Lie .u32 w a n c (lmb A)) (hb : Lie .u32 w b 1 d (lmb B)) (fa : Fit n A) (fb : Fit 1 B) (hn : n ≤ 1000000000) (hlt : B ≤ A) :
    Calls Try.prog 106 #[.slice a n c, .slice b (1 : Nat) d] w (PQuo A B w) := by
  have hBl : B < 4294967296 := by have := fb.1; rw [Nat.pow_one] at this; exact this
  have hBp : 0 < B := by
    refine Nat.pos_of_ne_zero fun h => ?_
    have := (fit_pos fb).2 h
    omega
  have hB0 : lmb B 0 = B := by unfold lmb; simp; exact Nat.mod_eq_of_lt hBl
  obtain ⟨b1, o1, rfl, hb1'⟩ := hb.some_of_pos (by omega)
  have hcmp : 0 ≤ cmpN A B := by unfold cmpN; rw [if_neg (by omega)]; split <;> omega
  go_enter Try.func106, Try.ntmps106
  go_wp2_with fail
  refine (compare_any a _ n c 1 d A B _ ha hb fa fb).mono ?_
  rintro e w1 ⟨rfl, hb1⟩
  have ha1 := ha.below hb1
  have hbb1 := hb.below hb1
  generalize cmpN A B = cc at *
  clear ha hb
  go_wp2_with fail
  refine (copied_any a n c (lmb A) _ ha1 hn).mono ?_
  rintro e w2 ⟨g, rfl, hg, hown2, hb2⟩
  have hbb2 := hbb1.below hb2
  have c0 := hbb2.at 0 (by omega)
  rw [hB0, Nat.add_zero] at c0
  clear hbb1 hbb2 ha1
  go_wp2_with fail
  refine (divideBy_any g n n A B (lmb A) _ hown2 (Nat.le_refl _) (fun i hi => rfl) fa.1 hBp hBl hn).mono ?_
  rintro e w3 ⟨rfl, hown3, ho3⟩
  have hown4 : Own .u32 103 w3 g n (lmb (A / B)) := hown3.congr (fun i hi => by rw [hiF, if_pos (by omega)])
  clear hown3
  obtain ⟨r, hr⟩ : ∃ r, r = A % B := ⟨_, rfl⟩
  have hrB : r < 4294967296 := by rw [hr]; exact Nat.lt_trans (Nat.mod_lt _ hBp) hBl
  rw [← hr]
  have HR := Lib.hid hr
  clear hr
  go_wp2_with fail
  refine (trimmed_any _ _ _ (A / B) _ (hown4.lie (Nat.le_refl _) (by unfold maxLen; omega)) (Nat.lt_of_le_of_lt (Nat.div_le_self _ _) fa.1)).mono ?_
  rintro e w4 ⟨m1, rfl, hm1, hfit1, rfl⟩
  have hown5 := own_lit1 .u32 103 w3 r (lmb r) (by unfold lmb; simp; exact Nat.mod_eq_of_lt hrB)
  go_wp2_with fail
  refine (trimmed_any _ _ _ r _ (hown5.lie (Nat.le_refl _) (by unfold maxLen; omega)) (by rw [Nat.pow_one]; exact hrB)).mono ?_
  rintro e w5 ⟨m2, rfl, hm2, hfit2, rfl⟩
  go_wp2
  go_ret2
  have hb3 : Below w.heap.size w w3 := (hb1.trans (hb2.mono hb1.size)).trans (ho3.below (by have := hb1.size; omega))
  have hb4 : Below w3.heap.size w3 (w3.alloc (.cells #[.int .u32 (r : Nat)] 103)) := (Below.refl _ _).alloc (Nat.le_refl _) _
  refine ⟨some ⟨g, 0, none⟩, m1, n, some ⟨w3.heap.size, 0, none⟩, m2, 1, rfl, ⟨(hown4.lie hm1 (by unfold maxLen; omega)).below hb4, hfit1, fun p hp => ?_⟩, ?_, hb3.trans (hb4.mono hb3.size)⟩
  · cases hp; have := hb1.size; show _ ≤ g; omega
  · rw [← HR.out]
    exact ⟨hown5.lie hm2 (by unfold maxLen; omega), hfit2, fun p hp => by cases hp; exact hb3.size⟩
end Go.Proofs.Ytohdfialnaegcaa
