/- The walk of String. -/
import Derived.Test.YtpacbipencmjnaaDoorWritten
import Derived.Test.YtpacbipencmjnaaDoorParse
import Derived.Test.YtpacbipencmjnaaDoorInts
namespace Go.Proofs.YtpacbipencmjnaaDoor
open Go.RowKit

/-- The text l is the number z. -/
def Txt (z : Int) (l : List UInt8) : Prop := parsesB l = true ∧ zval l = z

theorem dval_cons (c : UInt8) (l : List UInt8) : dval (c :: l) = (c.toNat - 48) * 10 ^ l.length + dval l := by
  rw [show c :: l = [c] ++ l from rfl, dval_append]; unfold dval; rw [dvalF_cons, dvalF_nil, Nat.zero_mul, Nat.zero_add]
def padL (N K : Nat) : List UInt8 := (List.range K).map fun p => (48 + dig N (K - 1 - p)).toUInt8
theorem padL_succ (N K : Nat) : padL N (K + 1) = (48 + dig N K).toUInt8 :: padL N K := by
  unfold padL
  rw [List.range_succ_eq_map, List.map_cons, List.map_map]
  congr 1
  refine List.map_congr_left fun p hp => ?_
  show (48 + dig N (K + 1 - 1 - (p + 1))).toUInt8 = _
  rw [show K + 1 - 1 - (p + 1) = K - 1 - p from by omega]
theorem byte_dig (N K : Nat) : ((48 + dig N K).toUInt8).toNat = 48 + dig N K := by
  have := dig_lt N K
  show (48 + dig N K) % 256 = _
  omega
theorem padL_len (N K : Nat) : (padL N K).length = K := by simp [padL]
theorem padL_all (N K : Nat) : (padL N K).all isDig = true := by
  rw [List.all_eq_true]
  intro c hc
  obtain ⟨p, _, rfl⟩ := List.mem_map.1 hc
  have := dig_lt N (K - 1 - p)
  unfold isDig
  rw [byte_dig]
  exact decide_eq_true (by omega)
theorem padL_val (N K : Nat) : dval (padL N K) = N % 10 ^ K := by
  induction K with
  | zero => rw [Nat.pow_zero, Nat.mod_one]; unfold dval; exact dvalF_nil 0
  | succ K ih =>
    rw [padL_succ, dval_cons, padL_len, byte_dig, ih, Nat.mod_pow_succ, Nat.add_sub_cancel_left, Nat.mul_comm, Nat.add_comm]; rfl
theorem drop_val (l : List UInt8) : dval (l.dropWhile (· == 48)) = dval l := by
  induction l with
  | nil => rfl
  | cons c l ih =>
    rw [List.dropWhile_cons]
    split
    · rename_i h
      have : c = 48 := by simpa using h
      subst this
      rw [ih, dval_cons]
      simp
    · rfl
theorem drop_all {l : List UInt8} (h : l.all isDig = true) : (l.dropWhile (· == 48)).all isDig = true := by
  rw [List.all_eq_true] at h ⊢
  exact fun c hc => h c ((List.dropWhile_sublist _).subset hc)
theorem drop_head (l : List UInt8) : (l.dropWhile (· == 48)).head? ≠ some 48 := by
  induction l with
  | nil => simp
  | cons c l ih =>
    rw [List.dropWhile_cons]
    split
    · exact ih
    · rename_i h
      intro e
      simp at e
      simp [e] at h
/-- What is told of digits without noughts ahead. -/
structure Plain (N : Nat) (l : List UInt8) : Prop where
  dig : l.all isDig = true
  val : dval l = N
  ne : l.isEmpty = false
  head : l.head? ≠ some 48
theorem plain_drop {N K : Nat} (hN : 0 < N) (hK : N < 10 ^ K) : Plain N ((padL N K).dropWhile (· == 48)) := by
  have hv : dval ((padL N K).dropWhile (· == 48)) = N := by rw [drop_val, padL_val, Nat.mod_eq_of_lt hK]
  refine ⟨drop_all (padL_all N K), hv, ?_, drop_head _⟩
  cases h : (padL N K).dropWhile (· == 48) with
  | nil => rw [h] at hv; unfold dval at hv; rw [dvalF_nil] at hv; omega
  | cons c l => rfl
theorem Plain.ww {N : Nat} {l : List UInt8} (h : Plain N l) (b : Bool) : wwB l b = true := by
  have h4 : (l.head? != some 48) = true := by simpa using h.head
  simp only [wwB, h.ne, h.dig, h4]; rfl
theorem Plain.no45 {N : Nat} {l : List UInt8} (h : Plain N l) : Lib.hasPrefix l [45] = false := by
  cases l with
  | nil => rfl
  | cons c l =>
    have := isDig_le ((List.all_eq_true.1 h.dig) c (by simp))
    unfold Lib.hasPrefix
    simp only [List.isPrefixOf, Bool.and_true]
    rw [beq_eq_false_iff_ne]
    intro e
    subst e
    have h45 : (45 : UInt8).toNat = 45 := rfl
    omega
theorem txt_pos {N : Nat} {l : List UInt8} (h : Plain N l) : Txt (N : Int) l := by
  have e1 : pB l = false := h.no45
  have e2 : pD l = l := by unfold pD Lib.trimPrefix; rw [h.no45]; rfl
  refine ⟨?_, ?_⟩
  · unfold parsesB; rw [e1, e2]; exact h.ww _
  · unfold zval; rw [e1, e2, h.val]; rfl
theorem txt_neg {N : Nat} {l : List UInt8} (h : Plain N l) : Txt (-(N : Int)) (45 :: l) := by
  have e1 : pB (45 :: l) = true := by unfold pB Lib.hasPrefix; simp [List.isPrefixOf]
  have e2 : pD (45 :: l) = l := by
    have : Lib.hasPrefix (45 :: l) [45] = true := e1
    unfold pD Lib.trimPrefix; rw [this]; rfl
  refine ⟨?_, ?_⟩
  · unfold parsesB; rw [e1, e2]; exact h.ww _
  · unfold zval; rw [e1, e2, h.val]; rfl

/-- A number's text is handed back. -/
def PTxt (z : Int) (w : World) (e : Ending) (w' : World) : Prop := ∃ l : List UInt8, e = .returned (.string ⟨l.toArray⟩) ∧ Txt z l ∧ Below w.heap.size w w'

set_option maxHeartbeats 800000 in
theorem String_zero (bl : Bool) (a : Option Addr) (n c : Nat) (w : World) (h : Num w bl a n c 0) :
    Calls Tryd.prog 8 #[.agg #[.bool bl, .slice a n c]] w (PTxt 0 w) := by
  have hB := (Below.refl w.heap.size w).alloc (Nat.le_refl _) (.cells #[.bool bl, .slice a n c] 25)
  go_enter Tryd.func8, Tryd.ntmps8
  go_wp2_with fail
  refine (Sign_any bl a n c 0 _ (h.below hB)).mono ?_
  rintro e w1 ⟨rfl, hb1⟩
  rw [show sgnI 0 = 0 from rfl]
  go_wp2
  go_ret
  exact ⟨[48], rfl, ⟨by decide, by decide⟩, hB.trans (hb1.mono (by simp))⟩

set_option maxHeartbeats 800000 in
theorem String_any (bl : Bool) (a : Option Addr) (n c : Nat) (z : Int) (w : World) (h : Num w bl a n c z) (hn : n ≤ 10000000) (hz : z ≠ 0) :
    Calls Tryd.prog 8 #[.agg #[.bool bl, .slice a n c]] w (PTxt z w) := by
  have H := Lib.hid h
  have HZ := Lib.hid hz
  have hsy : (sgnI z == 0) = false := by unfold sgnI; (repeat' split) <;> simp_all
  clear h hz
  go_enter Tryd.func8, Tryd.ntmps8
  go_wp2_with fail
  have hB := (Below.refl w.heap.size w).alloc (Nat.le_refl _) (.cells #[.bool bl, .slice a n c] 25)
  have k0 : (w.alloc (.cells #[.bool bl, .slice a n c] 25)).cell? ⟨w.heap.size, 0, none⟩ = some (.bool bl) := by simp [go_sem]
  have k1 : (w.alloc (.cells #[.bool bl, .slice a n c] 25)).cell? ⟨w.heap.size, 1, none⟩ = some (.slice a n c) := by simp [go_sem]
  have hsz : w.heap.size < (w.alloc (.cells #[.bool bl, .slice a n c] 25)).heap.size := by simp
  generalize w.alloc (.cells #[.bool bl, .slice a n c] 25) = w1 at *
  refine (Sign_any bl a n c z _ (H.out.below hB)).mono ?_
  rintro e w2 ⟨rfl, hb2⟩
  have k1' := (hb2.cell (p := ⟨w.heap.size, 1, none⟩) hsz).trans k1
  have hB2 := hB.trans (hb2.mono hB.size)
  clear k1
  go_wp2_with fail
  refine (groupsOf_any a n c z.natAbs _ (H.out.lie.below hB2) H.out.fit hn).mono ?_
  rintro e w3 ⟨ga, gi, gc, rfl, hlg, hlt, hgi, hb3⟩
  have HLT := Lib.hid hlt
  clear k1' hlt
  go_wp2_with fail
  refine (written_any ga gi gc z.natAbs _ hlg (by omega)).mono ?_
  rintro e w4 ⟨rfl, hb4⟩
  obtain ⟨str, hstr⟩ : ∃ str : ByteArray, str = ⟨((List.range (9 * gi)).map fun p => (48 + dig z.natAbs (9 * gi - 1 - p)).toUInt8).toArray⟩ := ⟨_, rfl⟩
  rw [← hstr]
  have HSTR := Lib.hid hstr
  clear hlg hstr
  go_wp2_with fail
  refine (Tryd.strings_TrimLeft_one _ 48 (by decide) _).mono ?_
  rintro e w5 ⟨rfl, hw⟩
  subst hw
  have hpl : Plain z.natAbs ((padL z.natAbs (9 * gi)).dropWhile (· == 48)) := plain_drop (by have := HZ.out; omega) (by rw [Nat.pow_mul]; exact HLT.out)
  have e1 : Lib.trimLeftB str.data.toList 48 = (padL z.natAbs (9 * gi)).dropWhile (· == 48) := by rw [HSTR.out]; rfl
  rw [e1]
  have hll : ((padL z.natAbs (9 * gi)).dropWhile (· == 48)).length ≤ 9 * gi := Nat.le_trans (List.dropWhile_sublist _).length_le (by rw [padL_len]; exact Nat.le_refl _)
  clear e1
  generalize (padL z.natAbs (9 * gi)).dropWhile (· == 48) = l at *
  have HPL := Lib.hid hpl
  have hb24 : Below w2.heap.size w2 w5 := hb3.trans (hb4.mono hb3.size)
  have hB4 := hB2.trans (hb24.mono hB2.size)
  have k04 := ((hb2.trans (hb24.mono hb2.size)).cell (p := ⟨w.heap.size, 0, none⟩) hsz).trans k0
  clear k0 hpl
  have hsg := H.out.sgn
  cases bl
  · have HV : Hid ((z.natAbs : Int) = z) := by show _ = _; simp at hsg; omega
    clear hsg
    go_wp2
    go_ret
    exact ⟨l, rfl, by rw [← HV.out]; exact txt_pos HPL.out, hB4⟩
  · have HV : Hid (-(z.natAbs : Int) = z) := by show _ = _; simp at hsg; omega
    clear hsg
    go_wp2
    go_ret
    exact ⟨45 :: l, by congr 2, by rw [← HV.out]; exact txt_neg HPL.out, hB4⟩
end Go.Proofs.YtpacbipencmjnaaDoor
