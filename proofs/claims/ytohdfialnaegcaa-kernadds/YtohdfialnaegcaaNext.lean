/- The walk of nextPart. -/
import Derived.Test.YtohdfialnaegcaaGuess
import Derived.Test.YtohdfialnaegcaaAddb
namespace Go.Proofs.Ytohdfialnaegcaa
open Go.RowKit

theorem grown_below {w w' : World} (g : Nat) (h : Below w.heap.size w w') : w.grownBy w' (some g) := ⟨h.os, h.tape, h.output, h.size, fun k hk _ => h.block k hk⟩
theorem grown_only {w w' : World} {g : Nat} (h : Only g w w') : w.grownBy w' (some g) := ⟨h.os, h.tape, h.output, by rw [h.size]; exact Nat.le_refl _, fun k _ hk => h.block k (fun e => hk (by rw [e]))⟩
theorem grown_trans {a b c : World} {r : Option Nat} (h : a.grownBy b r) (k : b.grownBy c r) : a.grownBy c r :=
  ⟨k.os.trans h.os, k.tape.trans h.tape, k.output.trans h.output, Nat.le_trans h.size k.size, fun i hi hr => (k.block i (Nat.lt_of_lt_of_le hi h.size) hr).trans (h.block i hi hr)⟩

/-- A part of a quotient is told; the window holds what is left. -/
def PNext (t : TypeId) (g T u n R D : Nat) (f : Nat → Nat) (w : World) (e : Ending) (w' : World) : Prop :=
  e = .returned (.int .u32 ((R / D : Nat) : Int)) ∧ Own .u32 t w' g T (winK u n (n + 1) (R % D) R f) ∧ w.grownBy w' (some g)

theorem winK_all {u n U R j : Nat} {f : Nat → Nat} (hj : j ≤ n) : winK u n (n + 1) U R f (u + j) = lmb U j := by
  unfold winK
  rw [if_pos (by omega), if_pos (by omega), show u + j - u = j from by omega]
theorem winK_win {u n U V S R T : Nat} {f : Nat → Nat} (h : ∀ j, j ≤ n → lmb V j = lmb S j) : ∀ p, p < T → winK u n (n + 1) V U (winK u n (n + 1) U R f) p = winK u n (n + 1) S R f p := by
  intro p _
  unfold winK
  by_cases h1 : u ≤ p ∧ p ≤ u + n
  · rw [if_pos h1, if_pos h1, if_pos (by omega), if_pos (by omega), h _ (by omega)]
  · rw [if_neg h1, if_neg h1, if_neg h1]
theorem off_no {R D n U G : Nat} (h : Off R (G * D) n U false) (hD : 0 < D) (hG : R / D ≤ G) : G = R / D ∧ U = R % D := by
  have h1 := h.2.1 rfl
  have h2 : G ≤ R / D := (Nat.le_div_iff_mul_le hD).2 (by omega)
  have h3 : G = R / D := by omega
  subst h3
  have := Nat.div_add_mod R D
  rw [Nat.mul_comm] at this
  exact ⟨rfl, by omega⟩
theorem off_yes {R D n U G : Nat} (h : Off R (G * D) n U true) (hD : 0 < D) (hG : G ≤ R / D + 1) : G = R / D + 1 ∧ ∀ j, j ≤ n → lmb (U + D) j = lmb (R % D) j := by
  obtain ⟨h1, h2⟩ := h.1 rfl
  have h3 : R / D < G := (Nat.div_lt_iff_lt_mul hD).2 h2
  have h4 : G = R / D + 1 := by omega
  refine ⟨h4, fun j hj => ?_⟩
  have := Nat.div_add_mod R D
  rw [h4, Nat.add_mul, Nat.mul_comm] at h1
  rw [show U + D = R % D + BB ^ (n + 1) * 1 from by omega]
  exact lmb_add_hi _ _ _ _ (by omega)

set_option maxHeartbeats 800000 in
theorem nextPart_any (g T u n cp R D b1 o1 dc : Nat) (f : Nat → Nat) (w : World) (hown : Own .u32 103 w g T f) (hT : u + n < T) (hTb : T ≤ 1000000000) (hcp : n + 1 ≤ cp) (hcm : cp ≤ maxLen)
    (hf : ∀ j, j ≤ n → f (u + j) = lmb R j) (hd : Lie .u32 w (some ⟨b1, o1, none⟩) n dc (lmb D)) (hne : b1 ≠ g) (hn : 2 ≤ n) (hR : R < D * BB) (hD : Fit n D) :
    Calls Try.prog 115 #[.slice (some ⟨g, u, none⟩) ((n + 1 : Nat)) cp, .slice (some ⟨b1, o1, none⟩) n dc] w (PNext 103 g T u n R D f w) := by
  have HF := Lib.hid hf
  have HD := Lib.hid hD
  have HR := Lib.hid hR
  have hDp : 0 < D := by
    refine Nat.pos_of_ne_zero fun h => ?_
    have := (fit_pos hD).2 h
    omega
  have HRl : Hid (R < BB ^ (n + 1)) := Nat.lt_of_lt_of_le hR (by rw [Nat.pow_succ]; exact Nat.mul_le_mul_right _ (Nat.le_of_lt hD.1))
  have hr : Lie .u32 w (some ⟨g, u, none⟩) (n + 1) cp (lmb R) :=
    ⟨hcp, hcm, (fun e => by cases e), (fun p hp => by cases hp; exact ⟨rfl, hown.lt⟩), (fun p hp i hi => by cases hp; rw [hown.cell (u + i) (by omega), hf i (by omega)])⟩
  have HNE : Hid (∀ p : Addr, some (⟨b1, o1, none⟩ : Addr) = some p → p.block ≠ g) := fun p hp => by cases hp; exact hne
  clear hf hD hR hne
  go_enter Try.func115, Try.ntmps115
  go_wp2_with fail
  refine (guessed_any g u n cp R D b1 o1 dc _ hr hd hn (by omega) HR.out HD.out).mono ?_
  rintro e w1 ⟨G, rfl, hG1, hG2, hG3, hb1⟩
  have hown1 := hown.below hb1
  have hd1 := hd.below hb1
  clear hr hown hd
  go_wp2_with fail
  refine (takeTimes_any g T u n cp R D G (some ⟨b1, o1, none⟩) dc f _ hown1 hT hTb HF.out HRl.out hd1 HNE.out HD.out.1 hG3).mono ?_
  rintro e w2 ⟨U, bl, rfl, hoff, hown2, ho2⟩
  cases bl
  · obtain ⟨e1, e2⟩ := off_no hoff hDp hG1
    have H1 := Lib.hid e1
    have H2 := Lib.hid e2
    clear e1 e2 hG1 hG2
    go_wp2
    go_ret
    exact ⟨by rw [← H1.out]; rfl, by rw [← H2.out]; exact hown2, grown_trans (grown_below g hb1) (grown_only ho2)⟩
  · obtain ⟨e1, e2⟩ := off_yes hoff hDp hG2
    have H1 := Lib.hid e1
    have H2 := Lib.hid e2
    have hGp : 1 ≤ G := by rw [e1]; exact Nat.le_add_left _ _
    have hd2 := hd1.only ho2 HNE.out
    have HE : Hid ((G : Int) - 1 = ((R / D : Nat) : Int)) := by show _ = _; rw [e1]; omega
    clear e1 e2 hG1 hG2 hd1
    go_wp2_with fail
    refine (addBack_any g T u n cp U D (some ⟨b1, o1, none⟩) dc _ _ hown2 hT hTb (fun j hj => winK_all hj) hd2 HNE.out HD.out.1).mono ?_
    rintro e w3 ⟨rfl, hown3, ho3⟩
    go_wp2
    go_ret
    exact ⟨ret_int HE.out, hown3.congr (winK_win H2.out), grown_trans (grown_trans (grown_below g hb1) (grown_only ho2)) (grown_only ho3)⟩
end Go.Proofs.Ytohdfialnaegcaa
