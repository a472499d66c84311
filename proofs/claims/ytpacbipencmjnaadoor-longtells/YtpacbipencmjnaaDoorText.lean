/- The walks of groupOf, wellWritten, groupBehind, readDigits. -/
import Derived.Test.YtpacbipencmjnaaDoorProd
import Derived.Test.YtpacbipencmjnaaDoorShelf
import Derived.Lib.Strings
namespace Go.Proofs.YtpacbipencmjnaaDoor
open Go.RowKit

/-- Is a byte a digit? -/
def isDig (c : UInt8) : Bool := decide (48 ≤ c.toNat ∧ c.toNat ≤ 57)
/-- The number that digits tell, behind n. -/
def dstep (n : Nat) (c : UInt8) : Nat := n * 10 + (c.toNat - 48)
def dvalF (n : Nat) (l : List UInt8) : Nat := l.foldl dstep n
def dval (l : List UInt8) : Nat := dvalF 0 l
theorem dvalF_append (n : Nat) (l m : List UInt8) : dvalF n (l ++ m) = dvalF (dvalF n l) m := List.foldl_append
theorem dvalF_cons (n : Nat) (c : UInt8) (l : List UInt8) : dvalF n (c :: l) = dvalF (n * 10 + (c.toNat - 48)) l := by unfold dvalF; rw [List.foldl_cons, dstep]
theorem dvalF_nil (n : Nat) : dvalF n [] = n := List.foldl_nil
theorem dval_snoc (l : List UInt8) (c : UInt8) : dval (l ++ [c]) = dval l * 10 + (c.toNat - 48) := by unfold dval; rw [dvalF_append, dvalF_cons, dvalF_nil]
theorem dvalF_eq (n : Nat) (l : List UInt8) : dvalF n l = n * 10 ^ l.length + dvalF 0 l := by
  induction l generalizing n with
  | nil => rw [dvalF_nil, dvalF_nil]; simp
  | cons c l ih =>
    have e1 := ih (n * 10 + (c.toNat - 48))
    have e2 := ih (0 * 10 + (c.toNat - 48))
    rw [List.length_cons, dvalF_cons, dvalF_cons, e1, e2, Nat.pow_succ]
    generalize 10 ^ l.length = X
    generalize c.toNat - 48 = d
    rw [Nat.add_mul, Nat.add_mul, Nat.mul_assoc, Nat.mul_comm 10 X]
    omega
theorem dval_append (l m : List UInt8) : dval (l ++ m) = dval l * 10 ^ m.length + dval m := by
  unfold dval
  rw [dvalF_append, dvalF_eq]
theorem isDig_le {c : UInt8} (h : isDig c = true) : 48 ≤ c.toNat ∧ c.toNat ≤ 57 := of_decide_eq_true h
theorem dval_lt (l : List UInt8) (h : l.all isDig = true) : dval l < 10 ^ l.length := by
  induction l with
  | nil => rw [dval, dvalF_nil]; simp
  | cons c l ih =>
    rw [List.all_cons, Bool.and_eq_true] at h
    have h1 := isDig_le h.1
    have h2 := ih h.2
    have e : dval (c :: l) = (c.toNat - 48) * 10 ^ l.length + dval l := by rw [show c :: l = [c] ++ l from rfl, dval_append]; unfold dval; rw [dvalF_cons, dvalF_nil, Nat.zero_mul, Nat.zero_add]
    rw [e, List.length_cons, Nat.pow_succ]
    have : (c.toNat - 48) * 10 ^ l.length ≤ 9 * 10 ^ l.length := Nat.mul_le_mul_right _ (by omega)
    omega
theorem take_snoc (s : ByteArray) (k : Nat) (h : k < s.size) : s.data.toList.take (k + 1) = s.data.toList.take k ++ [s[k]] := by
  rw [List.take_succ_eq_append_getElem (by simpa using h)]; rfl
theorem all_at {s : ByteArray} (h : s.data.toList.all isDig = true) (k : Nat) (hk : k < s.size) : isDig s[k] = true := by
  rw [List.all_eq_true] at h
  exact h _ (List.getElem_mem (l := s.data.toList) (by simpa using hk))

set_option maxHeartbeats 400000 in
theorem groupOf_any (s : ByteArray) (w : World) (hs : s.size ≤ 9) (hd : s.data.toList.all isDig = true) :
    Calls Tryd.prog 56 #[.string s] w fun e w' => e = .returned (.int .u32 (dval s.data.toList)) ∧ w = w' := by
  have HD := Lib.hid hd
  clear hd
  go_enter Tryd.func56, Tryd.ntmps56
  go_wp2
  go_loop [3, 7] (fun nv iv => ∃ k : Nat, k ≤ s.size ∧ iv = .int .i64 k ∧ nv = .int .u32 (dval (s.data.toList.take k))) (fun _ iv => s.size - (intOf iv).toNat)
  case atStart => exact ⟨0, Nat.zero_le _, rfl, rfl⟩
  case round =>
    obtain ⟨k, hk, rfl, rfl⟩ := hrel
    by_cases hlt : k < s.size
    · have hdg := isDig_le (all_at HD.out k hlt)
      obtain ⟨h48, h57⟩ := hdg
      have hv : dval (s.data.toList.take k) < 100000000 := by
        refine Nat.lt_of_lt_of_le (dval_lt _ ?_) (show 10 ^ (s.data.toList.take k).length ≤ 10 ^ 8 from Nat.pow_le_pow_right (by decide) ?_)
        · rw [List.all_eq_true]; intro c hc; exact (List.all_eq_true.1 HD.out) c (List.mem_of_mem_take hc)
        · rw [List.length_take]; omega
      have HS : Hid (dval (s.data.toList.take (k + 1)) = dval (s.data.toList.take k) * 10 + (s[k].toNat - 48)) := by
        show _ = _; rw [take_snoc s k hlt, dval_snoc]
      go_wp2
      go_round
      case rel => exact ⟨k + 1, by omega, by go_num, congrArg (Value.int .u32) (by rw [HS.out]; omega)⟩
      case measure => simp [intOf]; omega
    · obtain rfl : k = s.size := by omega
      go_wp2
      go_ret
      exact ⟨ret_int (by rw [List.take_of_length_le (by simp)]), rfl⟩

/-- May digits be written so? -/
def wwB (l : List UInt8) (below : Bool) : Bool := !l.isEmpty && l.all isDig && (l.head? != some 48 || (l.length == 1 && !below))

set_option maxHeartbeats 800000 in
theorem wellWritten_any (s : ByteArray) (below : Bool) (w : World) (hs : s.size ≤ 2000) :
    Calls Tryd.prog 32 #[.string s, .bool below] w fun e w' => e = .returned (.bool (wwB s.data.toList below)) ∧ w = w' := by
  by_cases h0 : s.size = 0
  · have hl : s.data.toList = [] := List.eq_nil_of_length_eq_zero (by simpa using h0)
    have hl' : s.toList = [] := by rw [Lib.toList_data]; exact hl
    have HR : Hid (wwB s.data.toList below = false) := by show _ = _; rw [hl]; rfl
    clear hl
    go_enter Tryd.func32, Tryd.ntmps32
    go_wp2
    go_ret
    exact ⟨by rw [HR.out]; rfl, rfl⟩
  · have hne : s.toList.isEmpty = false := by rw [Lib.toList_data]; cases hl : s.data.toList with
      | nil => exact absurd (by simpa using congrArg List.length hl) h0
      | cons c l => rfl
    have hne2 : (s.toList == []) = false := by rw [Lib.toList_data] at hne ⊢; cases hl : s.data.toList with
      | nil => rw [hl] at hne; cases hne
      | cons c l => rfl
    have hpos : 0 < s.size := by omega
    have hE : Hid (s.data.toList.isEmpty = false) := by show _ = _; rw [← Lib.toList_data]; exact hne
    clear h0
    go_enter Tryd.func32, Tryd.ntmps32
    go_wp2
    go_loop [10] (fun iv => ∃ k : Nat, k ≤ s.size ∧ iv = .int .i64 k ∧ (s.data.toList.take k).all isDig = true) (fun iv => s.size - (intOf iv).toNat)
    case atStart => exact ⟨0, Nat.zero_le _, rfl, rfl⟩
    case round =>
      obtain ⟨k, hk, rfl, hall⟩ := hrel
      have HA := Lib.hid hall
      clear hall
      by_cases hlt : k < s.size
      · by_cases hdg : isDig s[k] = true
        · obtain ⟨h48, h57⟩ := isDig_le hdg
          have HS : Hid ((s.data.toList.take (k + 1)).all isDig = true) := by
            show _ = _; rw [take_snoc s k hlt, List.all_append, HA.out]; simp [hdg]
          clear hdg
          go_wp2
          go_round
          case rel => exact ⟨k + 1, by omega, by go_num, HS.out⟩
          case measure => simp [intOf]; omega
        · have HR : Hid (wwB s.data.toList below = false) := by
            show _ = _
            have : s.data.toList.all isDig = false := by
              rw [Bool.eq_false_iff]; intro h; exact hdg (all_at h k hlt)
            simp [wwB, this]
          have hcase : (s[k].toNat : Int) < 48 ∨ (57 : Int) < (s[k].toNat : Int) := by
            unfold isDig at hdg; simp at hdg; omega
          clear hdg
          rcases hcase with hc | hc
          · go_wp2
            go_ret
            exact ⟨by rw [HR.out]; rfl, rfl⟩
          · have hc2 : ¬ (s[k].toNat : Int) < 48 := by omega
            go_wp2
            go_ret
            exact ⟨by rw [HR.out]; rfl, rfl⟩
      · obtain rfl : k = s.size := by omega
        have hall : s.data.toList.all isDig = true := by have := HA.out; rwa [List.take_of_length_le (by simp)] at this
        have hhd : s.data.toList.head? = some s[0] := by
          rw [List.head?_eq_getElem?, List.getElem?_eq_getElem (by simpa using hpos)]; rfl
        by_cases hz : s[0].toNat = 48
        · have hz2 : ((s[0].toNat : Int) == 48) = true := by simp; omega
          have hz3 : s[0] = 48 := UInt8.toNat.inj (by rw [hz]; rfl)
          by_cases h1 : s.size = 1
          · have HR : Hid (wwB s.data.toList below = !below) := by
              have hlen : s.data.toList.length = 1 := by simpa using h1
              show _ = _; simp only [wwB, hE.out, hall, hhd, hz3, hlen]; cases below <;> rfl
            have h1' : ((s.size : Int) == 1) = true := by simp; omega
            clear hall hhd hz hz3 HA
            go_wp2
            go_ret
            exact ⟨by rw [HR.out]; rfl, rfl⟩
          · have HR : Hid (wwB s.data.toList below = false) := by
              have hlen : (s.data.toList.length == 1) = false := by simpa using h1
              show _ = _; simp only [wwB, hE.out, hall, hhd, hz3, hlen]; rfl
            have h1' : ((s.size : Int) == 1) = false := by simp; omega
            clear hall hhd hz hz3 HA
            go_wp2
            go_ret
            exact ⟨by rw [HR.out]; rfl, rfl⟩
        · have hz2 : ((s[0].toNat : Int) == 48) = false := by simp; omega
          have hz3 : (some s[0] != some (48 : UInt8)) = true := by
            simp; intro h; exact hz (by rw [h]; rfl)
          have HR : Hid (wwB s.data.toList below = true) := by
            show _ = _; simp only [wwB, hE.out, hall, hhd, hz3]; rfl
          clear hall hhd hz hz3 HA
          go_wp2
          go_ret
          exact ⟨by rw [HR.out]; rfl, rfl⟩
end Go.Proofs.YtpacbipencmjnaaDoor
