/- The document's own numbers: decimal digits, the lowest first. The walks of its made and Parse. -/
import Derived.Test.YtpacbipencmjnaaDoorWritten
import Derived.Test.YtpacbipencmjnaaDoorParse
namespace Go.Proofs.YtpacbipencmjnaaDoor
open Go.RowKit

/-- n is how many digits N has. -/
def Fit10 (n N : Nat) : Prop := N < 10 ^ n ∧ (n = 0 ∨ 10 ^ (n - 1) ≤ N)
theorem p10 (k : Nat) : 0 < 10 ^ k := Nat.pow_pos (by decide)
theorem dig_top {N k : Nat} (h : N < 10 ^ (k + 1)) : dig N k = N / 10 ^ k := by
  unfold dig
  exact Nat.mod_eq_of_lt (Nat.div_lt_of_lt_mul (by rw [← Nat.pow_succ]; exact h))
theorem dig_zero {B m i : Nat} (h : B < 10 ^ m) (hi : m ≤ i) : dig B i = 0 := by
  unfold dig
  rw [Nat.div_eq_of_lt (Nat.lt_of_lt_of_le h (Nat.pow_le_pow_right (by decide) hi))]
theorem fit10_step {N k : Nat} (hk : 1 ≤ k) (h : N < 10 ^ k) (hz : dig N (k - 1) = 0) : N < 10 ^ (k - 1) := by
  obtain ⟨j, rfl⟩ : ∃ j, k = j + 1 := ⟨k - 1, by omega⟩
  simp only [Nat.add_sub_cancel] at hz ⊢
  rw [dig_top h] at hz
  rcases Nat.div_eq_zero_iff.1 hz with h0 | h0
  · have := p10 j; omega
  · exact h0
theorem fit10_end {N k : Nat} (hz : dig N (k - 1) ≠ 0) : 10 ^ (k - 1) ≤ N := by
  refine Nat.le_of_not_lt fun h => hz ?_
  unfold dig
  rw [Nat.div_eq_of_lt h]
theorem fit10_zero : Fit10 0 0 := ⟨by simp, .inl rfl⟩
theorem fit10_pos {n N : Nat} (h : Fit10 n N) : n = 0 ↔ N = 0 := by
  constructor
  · intro e; subst e; have := h.1; simp at this; exact this
  · intro e; subst e
    rcases h.2 with h0 | h0
    · exact h0
    · have := p10 (n - 1); omega
theorem dig_add_hi (S x q p : Nat) (h : p < q) : dig (S + 10 ^ q * x) p = dig S p := by
  unfold dig
  obtain ⟨d, rfl⟩ : ∃ d, q = p + 1 + d := ⟨q - (p + 1), by omega⟩
  rw [Nat.pow_add, Nat.pow_succ, Nat.mul_assoc, Nat.mul_assoc, Nat.add_mul_div_left _ _ (p10 p), Nat.add_mul_mod_self_left]
theorem dig_low (W x k : Nat) (hW : W < 10 ^ k) (hx : x < 10) : dig (W + 10 ^ k * x) k = x ∧ W + 10 ^ k * x < 10 ^ (k + 1) := by
  constructor
  · unfold dig
    rw [Nat.add_mul_div_left _ _ (p10 k), Nat.div_eq_of_lt hW, Nat.zero_add]
    exact Nat.mod_eq_of_lt hx
  · rw [Nat.pow_succ]
    have := Nat.mul_le_mul_left (10 ^ k) (show x + 1 ≤ 10 from hx)
    rw [Nat.mul_add] at this
    omega

theorem dval_cons' (c : UInt8) (l : List UInt8) : dval (c :: l) = (c.toNat - 48) * 10 ^ l.length + dval l := by
  rw [show c :: l = [c] ++ l from rfl, dval_append]; unfold dval; rw [dvalF_cons, dvalF_nil, Nat.zero_mul, Nat.zero_add]
/-- A number of the document's: its sign, its digits in memory. -/
structure RNum (w : World) (bl : Bool) (a : Option Addr) (n c : Nat) (z : Int) : Prop where
  lie : Lie .i64 w a n c (dig z.natAbs)
  fit : Fit10 n z.natAbs
  sgn : bl = decide (z < 0)
theorem RNum.below {w w' : World} {bl : Bool} {a : Option Addr} {n c : Nat} {z : Int} (h : RNum w bl a n c z) (hb : Below w.heap.size w w') : RNum w' bl a n c z := ⟨h.lie.below hb, h.fit, h.sgn⟩
theorem RNum.only {w w' : World} {bl : Bool} {a : Option Addr} {n c g : Nat} {z : Int} (h : RNum w bl a n c z) (ho : Only g w w') (hg : ∀ p, a = some p → p.block ≠ g) : RNum w' bl a n c z := ⟨h.lie.only ho hg, h.fit, h.sgn⟩
theorem rnum_zero (w : World) : RNum w false none 0 0 0 := ⟨lie_nil _ _ _, fit10_zero, rfl⟩
/-- A number is handed back whose digits lie in the memory of a. -/
def PRMade (a : Option Addr) (z : Int) (w : World) (e : Ending) (w' : World) : Prop :=
  ∃ (bl : Bool) (n c : Nat), e = .returned (.agg #[.bool bl, .slice a n c]) ∧ RNum w' bl a n c z ∧ Below w.heap.size w w'

theorem below_one (w : World) (t : TypeId) : Below w.heap.size w (w.alloc (.cells #[.bool false, .slice none 0 0] t)) := (Below.refl _ _).alloc (Nat.le_refl _) _
set_option maxHeartbeats 800000 in
theorem rmade_any (bl : Bool) (a : Option Addr) (n c N : Nat) (w : World) (hl : Lie .i64 w a n c (dig N)) (hN : N < 10 ^ n) :
    Calls Tryd.prog 21 #[.bool bl, .slice a n c] w (PRMade a (sg bl N) w) := by
  have hcm := hl.capm
  have hnc := hl.cap
  unfold maxLen at hcm
  have hB := below_one w 28
  have hl1 := hl.below hB
  have hspot := hl.spot
  go_enter Tryd.func21, Tryd.ntmps21
  go_wp2
  go_loop [5] (fun i => ∃ k : Nat, k ≤ n ∧ i = .int .i64 k ∧ N < 10 ^ k) (fun i => (intOf i).toNat)
  case atStart => exact ⟨n, Nat.le_refl _, rfl, hN⟩
  case round =>
    obtain ⟨k, hk, rfl, hNk⟩ := hrel
    have HN := Lib.hid hNk
    clear hNk hN
    by_cases hp : 0 < k
    · obtain ⟨b, o, rfl, hb⟩ := hl.some_of_pos (by omega)
      have hcell := hl1.at (k - 1) (by omega)
      by_cases hz : dig N (k - 1) = 0
      · have hz' : ((dig N (k - 1) : Int) == 0) = true := by rw [hz]; rfl
        have HZ := Lib.hid hz
        clear hz hl hl1 hspot
        go_wp2
        go_round
        case rel => exact ⟨k - 1, by omega, by go_num, fit10_step (by omega) HN.out HZ.out⟩
        case measure => simp [intOf]; omega
      · have hz' : ((dig N (k - 1) : Int) == 0) = false := by simpa using hz
        have HZ := Lib.hid hz
        have HL := Lib.hid (hl.cut hk)
        have HP : Hid (0 < N) := Nat.lt_of_lt_of_le (p10 _) (fit10_end HZ.out)
        clear hz hl hl1 hspot
        have hd : decide (0 < k) = true := decide_eq_true hp
        cases bl
        · go_wp2
          refine bodyPost_ret (v := .agg #[.bool false, .slice (some ⟨b, o, none⟩) k c]) (by simp [results, Tryd.results21, go_sem]) rfl ?_
          exact ⟨false, k, c, rfl, ⟨by rw [sg_abs]; exact HL.out.below ((Below.refl _ _).alloc (Nat.le_refl _) _), by rw [sg_abs]; exact ⟨HN.out, .inr (fit10_end HZ.out)⟩, (sg_neg false N HP.out).symm⟩, (Below.refl _ _).alloc (Nat.le_refl _) _⟩
        · go_wp2
          refine bodyPost_ret (v := .agg #[.bool true, .slice (some ⟨b, o, none⟩) k c]) (by simp [results, Tryd.results21, go_sem]) rfl ?_
          exact ⟨true, k, c, rfl, ⟨by rw [sg_abs]; exact HL.out.below ((Below.refl _ _).alloc (Nat.le_refl _) _), by rw [sg_abs]; exact ⟨HN.out, .inr (fit10_end HZ.out)⟩, (sg_neg true N HP.out).symm⟩, (Below.refl _ _).alloc (Nat.le_refl _) _⟩
    · obtain rfl : k = 0 := by omega
      have hN0 : N = 0 := by have := HN.out; rw [Nat.pow_zero] at this; omega
      have HL := Lib.hid (hl.cut hk)
      have HV : Hid (sg bl N = 0) := by show _ = _; rw [hN0]; cases bl <;> rfl
      have hsp : ∃ a' : Option Addr, a' = a ∧ ∀ p, a' = some p → p.spot = none := ⟨a, rfl, fun p hp => (hspot p hp).1⟩
      clear hl1 hl hspot hN0
      rcases a with _ | ⟨b, o, s⟩
      · obtain ⟨e1, e2⟩ := HL.out.nil rfl
        subst e2
        have hn0 : n = 0 := by omega
        subst hn0
        cases bl
        all_goals
          go_wp2
          refine bodyPost_ret (v := .agg #[.bool false, .slice none 0 0]) (by simp [results, Tryd.results21, go_sem]) rfl ?_
          exact ⟨false, 0, 0, rfl, by rw [HV.out]; exact rnum_zero _, (Below.refl _ _).alloc (Nat.le_refl _) _⟩
      · obtain ⟨a', ha', hs'⟩ := hsp
        have hss : s = none := hs' ⟨b, o, s⟩ ha'
        subst hss
        clear ha' hs'
        cases bl
        all_goals
          go_wp2
          refine bodyPost_ret (v := .agg #[.bool false, .slice (some ⟨b, o, none⟩) 0 c]) (by simp [results, Tryd.results21, go_sem]) rfl ?_
          refine ⟨false, 0, c, rfl, ?_, (Below.refl _ _).alloc (Nat.le_refl _) _⟩
          rw [HV.out]
          exact ⟨(HL.out.below ((Below.refl _ _).alloc (Nat.le_refl _) _)).congr (fun i hi => by omega), fit10_zero, rfl⟩

/-- The last k of a text's bytes. -/
theorem dval_drop (l : List UInt8) (hd : l.all isDig = true) (k : Nat) (hk : k < l.length) :
    dval (l.drop (l.length - (k + 1))) = dval (l.drop (l.length - k)) + 10 ^ k * ((l[l.length - 1 - k]).toNat - 48) ∧ dval (l.drop (l.length - k)) < 10 ^ k ∧ (l[l.length - 1 - k]).toNat - 48 < 10 := by
  have hlen : (l.drop (l.length - k)).length = k := by rw [List.length_drop]; omega
  have hall : (l.drop (l.length - k)).all isDig = true := by rw [List.all_eq_true] at hd ⊢; exact fun c hc => hd c (List.mem_of_mem_drop hc)
  have e : l.drop (l.length - (k + 1)) = l[l.length - 1 - k] :: l.drop (l.length - k) := by
    have := List.drop_eq_getElem_cons (l := l) (i := l.length - 1 - k) (by omega)
    rw [show l.length - 1 - k + 1 = l.length - k from by omega] at this
    rw [← this]
    congr 1
    omega
  refine ⟨?_, ?_, ?_⟩
  · rw [e, dval_cons', hlen, Nat.mul_comm]; omega
  · have := dval_lt _ hall; rwa [hlen] at this
  · have := isDig_le ((List.all_eq_true.1 hd) (l[l.length - 1 - k]) (List.getElem_mem _)); omega
end Go.Proofs.YtpacbipencmjnaaDoor
