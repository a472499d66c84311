/- The walks of groupOf, wellWritten, groupBehind, readDigits. -/
import Derived.Test.YtpacbipencmjnaaDoorGr1
import Derived.Test.YtpacbipencmjnaaDoorShelf
import Derived.Lib.Strings
import Derived.Test.YtpacbipencmjnaaDoorGr2
namespace Go.Proofs.YtpacbipencmjnaaDoor
open Go.RowKit

/-- Is a byte a digit? -/
def isDig (c : UInt8) : Bool := decide (48 ≤ c.toNat ∧ c.toNat ≤ 57)
/-- The number that digits tell, behind n. -/
def dstep (n : Nat) (c : UInt8) : Nat := n * 10 + (c.toNat - 48)
def dvalF (n : Nat) (l : List UInt8) : Nat := l.foldl dstep n
def dval (l : List UInt8) : Nat := dvalF 0 l
theorem dvalF_append (n : Nat) (l m : List UInt8) : dvalF n (l ++ m) = dvalF (dvalF n l) m := List.foldl_append
theorem dvalF_cons (n : Nat) (c : UInt8) (l : List UInt8) : dvalF n (c :: l) = dvalF (n * 10 + (c.toNat - 48)) l := by unfold dvalF; rw [List.foldl_cons, dstep]
theorem dvalF_nil (n : Nat) : dvalF n [] = n := List.foldl_nil
theorem dval_snoc (l : List UInt8) (c : UInt8) : dval (l ++ [c]) = dval l * 10 + (c.toNat - 48) := by unfold dval; rw [dvalF_append, dvalF_cons, dvalF_nil]
theorem dvalF_eq (n : Nat) (l : List UInt8) : dvalF n l = n * 10 ^ l.length + dvalF 0 l := by
  induction l generalizing n with
  | nil => rw [dvalF_nil, dvalF_nil]; simp
  | cons c l ih =>
    have e1 := ih (n * 10 + (c.toNat - 48))
    have e2 := ih (0 * 10 + (c.toNat - 48))
    rw [List.length_cons, dvalF_cons, dvalF_cons, e1, e2, Nat.pow_succ]
    generalize 10 ^ l.length = X
    generalize c.toNat - 48 = d
    rw [Nat.add_mul, Nat.add_mul, Nat.mul_assoc, Nat.mul_comm 10 X]
    omega
theorem dval_append (l m : List UInt8) : dval (l ++ m) = dval l * 10 ^ m.length + dval m := by
  unfold dval
  rw [dvalF_append, dvalF_eq]
theorem isDig_le {c : UInt8} (h : isDig c = true) : 48 ≤ c.toNat ∧ c.toNat ≤ 57 := of_decide_eq_true h
theorem dval_lt (l : List UInt8) (h : l.all isDig = true) : dval l < 10 ^ l.length := by
  induction l with
  | nil => rw [dval, dvalF_nil]; simp
  | cons c l ih =>
    rw [List.all_cons, Bool.and_eq_true] at h
    have h1 := isDig_le h.1
    have h2 := ih h.2
    have e : dval (c :: l) = (c.toNat - 48) * 10 ^ l.length + dval l := by rw [show c :: l = [c] ++ l from rfl, dval_append]; unfold dval; rw [dvalF_cons, dvalF_nil, Nat.zero_mul, Nat.zero_add]
    rw [e, List.length_cons, Nat.pow_succ]
    have : (c.toNat - 48) * 10 ^ l.length ≤ 9 * 10 ^ l.length := Nat.mul_le_mul_right _ (by omega)
    omega
theorem take_snoc (s : ByteArray) (k : Nat) (h : k < s.size) : s.data.toList.take (k + 1) = s.data.toList.take k ++ [s[k]] := by
  rw [List.take_succ_eq_append_getElem (by simpa using h)]; rfl
theorem all_at {s : ByteArray} (h : s.data.toList.all isDig = true) (k : Nat) (hk : k < s.size) : isDig s[k] = true := by
  rw [List.all_eq_true] at h
  exact h _ (List.getElem_mem (l := s.data.toList) (by simpa using hk))

set_option maxHeartbeats 400000 in
theorem groupOf_any (s : ByteArray) (w : World) (hs : s.size ≤ 9) (hd : s.data.toList.all isDig = true) :
    Calls Tryd.prog 56 #[.string s] w fun e w' => e = .returned (.int .u32 (dval s.data.toList)) ∧ w = w' := by
  have HD := Lib.hid hd
  clear hd
  go_enter Tryd.func56, Tryd.ntmps56
  go_wp2
  go_loop [3, 7] (fun nv iv => ∃ k : Nat, k ≤ s.size ∧ iv = .int .i64 k ∧ nv = .int .u32 (dval (s.data.toList.take k))) (fun _ iv => s.size - (intOf iv).toNat)
  case atStart => exact ⟨0, Nat.zero_le _, rfl, rfl⟩
  case round =>
    obtain ⟨k, hk, rfl, rfl⟩ := hrel
    by_cases hlt : k < s.size
    · have hdg := isDig_le (all_at HD.out k hlt)
      obtain ⟨h48, h57⟩ := hdg
      have hv : dval (s.data.toList.take k) < 100000000 := by
        refine Nat.lt_of_lt_of_le (dval_lt _ ?_) (show 10 ^ (s.data.toList.take k).length ≤ 10 ^ 8 from Nat.pow_le_pow_right (by decide) ?_)
        · rw [List.all_eq_true]; intro c hc; exact (List.all_eq_true.1 HD.out) c (List.mem_of_mem_take hc)
        · rw [List.length_take]; omega
      have HS : Hid (dval (s.data.toList.take (k + 1)) = dval (s.data.toList.take k) * 10 + (s[k].toNat - 48)) := by
        show _ = _; rw [take_snoc s k hlt, dval_snoc]
      go_wp2
      go_round
      case rel => exact ⟨k + 1, by omega, by go_num, congrArg (Value.int .u32) (by rw [HS.out]; omega)⟩
      case measure => simp [intOf]; omega
    · obtain rfl : k = s.size := by omega
      go_wp2
      go_ret
      exact ⟨ret_int (by rw [List.take_of_length_le (by simp)]), rfl⟩

/-- May digits be written so? -/
def wwB (l : List UInt8) (below : Bool) : Bool := !l.isEmpty && l.all isDig && (l.head? != some 48 || (l.length == 1 && !below))

set_option maxHeartbeats 800000 in
theorem wellWritten_any (s : ByteArray) (below : Bool) (w : World) (hs : s.size ≤ 2000) :
    Calls Tryd.prog 32 #[.string s, .bool below] w fun e w' => e = .returned (.bool (wwB s.data.toList below)) ∧ w = w' := by
  by_cases h0 : s.size = 0
  · have hl : s.data.toList = [] := List.eq_nil_of_length_eq_zero (by simpa using h0)
    have hl' : s.toList = [] := by rw [Lib.toList_data]; exact hl
    have HR : Hid (wwB s.data.toList below = false) := by show _ = _; rw [hl]; rfl
    clear hl
    go_enter Tryd.func32, Tryd.ntmps32
    go_wp2
    go_ret
    exact ⟨by rw [HR.out]; rfl, rfl⟩
  · have hne : s.toList.isEmpty = false := by rw [Lib.toList_data]; cases hl : s.data.toList with
      | nil => exact absurd (by simpa using congrArg List.length hl) h0
      | cons c l => rfl
    have hne2 : (s.toList == []) = false := by rw [Lib.toList_data] at hne ⊢; cases hl : s.data.toList with
      | nil => rw [hl] at hne; cases hne
      | cons c l => rfl
    have hpos : 0 < s.size := by omega
    have hE : Hid (s.data.toList.isEmpty = false) := by show _ = _; rw [← Lib.toList_data]; exact hne
    clear h0
    go_enter Tryd.func32, Tryd.ntmps32
    go_wp2
    go_loop [10] (fun iv => ∃ k : Nat, k ≤ s.size ∧ iv = .int .i64 k ∧ (s.data.toList.take k).all isDig = true) (fun iv => s.size - (intOf iv).toNat)
    case atStart => exact ⟨0, Nat.zero_le _, rfl, rfl⟩
    case round =>
      obtain ⟨k, hk, rfl, hall⟩ := hrel
      have HA := Lib.hid hall
      clear hall
      by_cases hlt : k < s.size
      · by_cases hdg : isDig s[k] = true
        · obtain ⟨h48, h57⟩ := isDig_le hdg
          have HS : Hid ((s.data.toList.take (k + 1)).all isDig = true) := by
            show _ = _; rw [take_snoc s k hlt, List.all_append, HA.out]; simp [hdg]
          clear hdg
          go_wp2
          go_round
          case rel => exact ⟨k + 1, by omega, by go_num, HS.out⟩
          case measure => simp [intOf]; omega
        · have HR : Hid (wwB s.data.toList below = false) := by
            show _ = _
            have : s.data.toList.all isDig = false := by
              rw [Bool.eq_false_iff]; intro h; exact hdg (all_at h k hlt)
            simp [wwB, this]
          have hcase : (s[k].toNat : Int) < 48 ∨ (57 : Int) < (s[k].toNat : Int) := by
            unfold isDig at hdg; simp at hdg; omega
          clear hdg
          rcases hcase with hc | hc
          · go_wp2
            go_ret
            exact ⟨by rw [HR.out]; rfl, rfl⟩
          · have hc2 : ¬ (s[k].toNat : Int) < 48 := by omega
            go_wp2
            go_ret
            exact ⟨by rw [HR.out]; rfl, rfl⟩
      · obtain rfl : k = s.size := by omega
        have hall : s.data.toList.all isDig = true := by have := HA.out; rwa [List.take_of_length_le (by simp)] at this
        have hhd : s.data.toList.head? = some s[0] := by
          rw [List.head?_eq_getElem?, List.getElem?_eq_getElem (by simpa using hpos)]; rfl
        by_cases hz : s[0].toNat = 48
        · have hz2 : ((s[0].toNat : Int) == 48) = true := by simp; omega
          have hz3 : s[0] = 48 := UInt8.toNat.inj (by rw [hz]; rfl)
          by_cases h1 : s.size = 1
          · have HR : Hid (wwB s.data.toList below = !below) := by
              have hlen : s.data.toList.length = 1 := by simpa using h1
              show _ = _; simp only [wwB, hE.out, hall, hhd, hz3, hlen]; cases below <;> rfl
            have h1' : ((s.size : Int) == 1) = true := by simp; omega
            clear hall hhd hz hz3 HA
            go_wp2
            go_ret
            exact ⟨by rw [HR.out]; rfl, rfl⟩
          · have HR : Hid (wwB s.data.toList below = false) := by
              have hlen : (s.data.toList.length == 1) = false := by simpa using h1
              show _ = _; simp only [wwB, hE.out, hall, hhd, hz3, hlen]; rfl
            have h1' : ((s.size : Int) == 1) = false := by simp; omega
            clear hall hhd hz hz3 HA
            go_wp2
            go_ret
            exact ⟨by rw [HR.out]; rfl, rfl⟩
        · have hz2 : ((s[0].toNat : Int) == 48) = false := by simp; omega
          have hz3 : (some s[0] != some (48 : UInt8)) = true := by
            simp; intro h; exact hz (by rw [h]; rfl)
          have HR : Hid (wwB s.data.toList below = true) := by
            show _ = _; simp only [wwB, hE.out, hall, hhd, hz3]; rfl
          clear hall hhd hz hz3 HA
          go_wp2
          go_ret
          exact ⟨by rw [HR.out]; rfl, rfl⟩
end Go.Proofs.YtpacbipencmjnaaDoor

/- The walk of written. -/
namespace Go.Proofs.YtpacbipencmjnaaDoor
open Go.RowKit

theorem Tryd.u58 : Tryd.prog.underlying 58 = some (.slice 5) := by kernel_rfl
theorem Tryd.info5 : (Tryd.prog.info? 5).map (fun i => (i.zero, i.size, i.bytes)) = some (some (.int .u8 0), 1, 1) := by kernel_rfl

/-- The k-th digit, from the lowest one on. -/
def dig (N k : Nat) : Nat := N / 10 ^ k % 10
theorem dig_lt (N k : Nat) : dig N k < 10 := Nat.mod_lt _ (by decide)
/-- What is left of a group. -/
def gcur (N k : Nat) : Nat := if k % 9 = 0 then 0 else grp N (k / 9) / 10 ^ (k % 9)
theorem grp_dig (N k : Nat) : grp N (k / 9) / 10 ^ (k % 9) % 10 = dig N k ∧ grp N (k / 9) / 10 ^ (k % 9) / 10 = gcur N (k + 1) ∧ grp N (k / 9) / 10 ^ (k % 9) < 1000000000 := by
  have hk := Nat.div_add_mod k 9
  have hr := Nat.mod_lt k (show 0 < 9 by decide)
  generalize k / 9 = q at *
  generalize k % 9 = r at *
  have hg : grp N q < 1000000000 := Nat.mod_lt _ (by decide)
  refine ⟨?_, ?_, Nat.lt_of_le_of_lt (Nat.div_le_self _ _) hg⟩
  · have e1 : grp N q = N / 10 ^ (9 * q) % (10 ^ r * 10 ^ (9 - r)) := by
      unfold grp; rw [← Nat.pow_add, show r + (9 - r) = 9 from by omega, Nat.pow_mul]
    have e2 : dig N k = N / 10 ^ (9 * q) / 10 ^ r % 10 := by
      unfold dig; rw [Nat.div_div_eq_div_mul, ← Nat.pow_add, hk]
    rw [e1, e2, Nat.mod_mul_right_div_self]
    exact Nat.mod_mod_of_dvd _ ⟨10 ^ (8 - r), by rw [show 9 - r = (8 - r) + 1 from by omega, Nat.pow_succ, Nat.mul_comm]⟩
  · unfold gcur
    rw [Nat.div_div_eq_div_mul, ← Nat.pow_succ]
    by_cases h8 : r = 8
    · rw [if_pos (by omega), h8]
      exact Nat.div_eq_of_lt hg
    · rw [if_neg (by omega), show (k + 1) / 9 = q from by omega, show (k + 1) % 9 = r + 1 from by omega]

/-- The text's bytes: the upper k ones are not set yet. -/
def txtF (N K k : Nat) (p : Nat) : Nat := if K ≤ p + k then 48 + dig N (K - 1 - p) else 0
theorem txtF_next (N K k : Nat) : ∀ p, p < K → p ≠ K - 1 - k → txtF N K k p = txtF N K (k + 1) p := by
  intro p hp hne
  unfold txtF
  by_cases h : K ≤ p + k
  · rw [if_pos h, if_pos (by omega)]
  · rw [if_neg h, if_neg (by omega)]

set_option maxHeartbeats 1600000 in
theorem written_any (a : Option Addr) (m c N : Nat) (w : World) (ha : Lie .u32 w a m c (grp N)) (hm : m ≤ 100000000) :
    Calls Tryd.prog 26 #[.slice a m c] w fun e w' => e = .returned (.string ⟨((List.range (9 * m)).map fun p => (48 + dig N (9 * m - 1 - p)).toUInt8).toArray⟩) ∧ Below w.heap.size w w' := by
  have hcm := ha.capm
  have hnc := ha.cap
  unfold maxLen at hcm
  have hn4 : 1 * (9 * m) ≤ 281474976710656 := by omega
  have hn6 : 9 * m ≤ 9223372036854775807 := by omega
  go_enter Tryd.func26, Tryd.ntmps26
  go_wp2_with (first | (at_make; refine wpList_mk _ rfl (.tmp 8) (.tmp 8) 58 rfl 5 .u8 1 Tryd.u58 Tryd.info5 _ _ (9 * m) rfl rfl (by omega) (by omega) hn4 hn6 ?_; intro g w1 hg hown hb1))
  go_loopw [4, 12] (fun gv iv wr => ∃ k : Nat, k ≤ 9 * m ∧ iv = .int .i64 k ∧ gv = .int .u32 (gcur N k) ∧ Own .u8 5 wr g (9 * m) (txtF N (9 * m) k) ∧ Below w.heap.size w wr) (fun _ iv _ => 9 * m - (intOf iv).toNat)
  case atStart => exact ⟨0, Nat.zero_le _, rfl, by simp [gcur], hown.congr (fun j hj => by rw [txtF, if_neg (by omega)]), hb1⟩
  case round =>
    obtain ⟨k, hk, rfl, rfl, hown1, hbl⟩ := hrel
    by_cases hlt : k < 9 * m
    · obtain ⟨b1, o1, rfl, hb1'⟩ := ha.some_of_pos (by omega)
      obtain ⟨e1, e2, e3⟩ := grp_dig N k
      have hdl := dig_lt N k
      have c2 := hown1.cell (9 * m - 1 - k) (by omega)
      have c3 := hown1.free (9 * m - 1 - k)
      have hbs := hbl.setCell (p := ⟨g, 9 * m - 1 - k, none⟩) hg
      by_cases h9 : k % 9 = 0
      · have c1 := (ha.below hbl).at (k / 9) (by omega)
        have h9' : ((k : Int) % 9 == 0) = true := by simp; omega
        rw [h9, Nat.pow_zero, Nat.div_one] at e1 e2 e3
        have HX : Hid ((48 : Int) + (grp N (k / 9) : Int) % 10 = ((48 + dig N k : Nat) : Int) ∧ (grp N (k / 9) : Int) / 10 = ((gcur N (k + 1) : Nat) : Int)) := by show _ ∧ _; omega
        clear ha e1 e2 h9
        generalize gcur N k = gc at *
        go_wp2
        go_roundw
        case rel => exact ⟨k + 1, by omega, by go_num, by rw [HX.out.2], hown1.put (by omega) (by rw [HX.out.1, txtF, if_pos (by omega), show 9 * m - 1 - (9 * m - 1 - k) = k from by omega]) (txtF_next N (9 * m) k), hbs _⟩
        case measure => simp [intOf]; omega
      · have h9' : ((k : Int) % 9 == 0) = false := by simp; omega
        have hgc : grp N (k / 9) / 10 ^ (k % 9) = gcur N k := by rw [gcur, if_neg h9]
        rw [hgc] at e1 e2 e3
        have HX : Hid ((48 : Int) + (gcur N k : Int) % 10 = ((48 + dig N k : Nat) : Int) ∧ (gcur N k : Int) / 10 = ((gcur N (k + 1) : Nat) : Int)) := by show _ ∧ _; omega
        clear ha e1 e2 h9 hgc
        generalize hgg : gcur N k = gc at *
        clear hgg
        go_wp2
        go_roundw
        case rel => exact ⟨k + 1, by omega, by go_num, by rw [HX.out.2], hown1.put (by omega) (by rw [HX.out.1, txtF, if_pos (by omega), show 9 * m - 1 - (9 * m - 1 - k) = k from by omega]) (txtF_next N (9 * m) k), hbs _⟩
        case measure => simp [intOf]; omega
    · obtain rfl : k = 9 * m := by omega
      have hcv : ∃ str : ByteArray, str = ⟨((List.range (9 * m)).map fun p => (48 + dig N (9 * m - 1 - p)).toUInt8).toArray⟩ ∧ (convert 58 9 (.slice (some ⟨g, 0, none⟩) (9 * m) (9 * m))).run Tryd.prog wr = .ok (.string str) wr := by
        refine ⟨_, rfl, ?_⟩
        have := run_convert_bytes_back (P := Tryd.prog) wr 58 9 5 ⟨g, 0, none⟩ (9 * m) ((List.range (9 * m)).map fun p => (48 + dig N (9 * m - 1 - p)).toUInt8) Tryd.u58 (by kernel_rfl) (by kernel_rfl) (fun j hj => by
          have hj' : j < 9 * m := by simpa using hj
          rw [show (⟨g, 0, none⟩ : Addr).add j = ⟨g, j, none⟩ from by unfold Addr.add; split <;> simp_all, hown1.cell j hj', txtF, if_pos (by omega)]
          have := dig_lt N (9 * m - 1 - j)
          simp only [List.getElem_map, List.getElem_range]
          congr 3
          show _ = (48 + dig N (9 * m - 1 - j)) % 256
          omega)
        rw [show ((List.range (9 * m)).map fun p => (48 + dig N (9 * m - 1 - p)).toUInt8).length = 9 * m from by simp] at this
        exact this
      obtain ⟨str, hstr, hrun⟩ := hcv
      have HS := Lib.hid hstr
      clear ha hstr
      go_wp2
      go_ret
      exact ⟨by rw [← HS.out]; rfl, hbl⟩
end Go.Proofs.YtpacbipencmjnaaDoor

/- The walks of groupBehind, readDigits. -/
namespace Go.Proofs.YtpacbipencmjnaaDoor
open Go.RowKit

/-- What is carried when a group is put behind a number. -/
def cb (N G k : Nat) : Nat := (N % BB ^ k * 1000000000 + G) / BB ^ k
theorem cb_zero (N G : Nat) : cb N G 0 = G := by simp [cb, Nat.mod_one]
theorem cb_lt {N G : Nat} (hG : G < 1000000000) (k : Nat) : cb N G k < 1000000000 := by
  unfold cb
  refine Nat.div_lt_of_lt_mul ?_
  have h := Nat.mul_le_mul_right 1000000000 (show N % BB ^ k + 1 ≤ BB ^ k from Nat.mod_lt _ (BBp k))
  omega
theorem cb_step (N G k : Nat) : (cb N G k + lmb N k * 1000000000) % 4294967296 = lmb (N * 1000000000 + G) k ∧ (cb N G k + lmb N k * 1000000000) / 4294967296 = cb N G (k + 1) := by
  have hP := BBp k
  have e1 : (N * 1000000000 + G) / BB ^ k = N / BB ^ k * 1000000000 + cb N G k := by
    have hd := Nat.div_add_mod N (BB ^ k)
    unfold cb
    conv => lhs; rw [← hd]
    rw [Nat.add_mul, Nat.mul_assoc, Nat.add_assoc, Nat.mul_add_div hP]
  have e2 : cb N G (k + 1) = (cb N G k + lmb N k * 1000000000) / BB := by
    unfold cb
    rw [mod_succ, Nat.pow_succ, ← Nat.div_div_eq_div_mul, Nat.add_mul, Nat.mul_assoc, Nat.add_right_comm, Nat.add_mul_div_left _ _ hP]
  refine ⟨?_, e2.symm⟩
  have hu := up_split N k
  conv => rhs; unfold lmb
  rw [e1, hu]
  simp only [BB]
  omega
theorem cb_end {N G n : Nat} (hG : G < 1000000000) (h : N < BB ^ n) : cb N G n = lmb (N * 1000000000 + G) n ∧ N * 1000000000 + G < BB ^ (n + 1) := by
  have h2 : N * 1000000000 + G < BB ^ (n + 1) := by
    rw [Nat.pow_succ]
    have h3 := Nat.mul_le_mul_right 1000000000 (show N + 1 ≤ BB ^ n from h)
    have h4 : BB ^ n * 1000000000 ≤ BB ^ n * BB := Nat.mul_le_mul_left _ (by decide)
    omega
  refine ⟨?_, h2⟩
  rw [lmb_top h2]
  unfold cb
  rw [Nat.mod_eq_of_lt h]

set_option maxHeartbeats 800000 in
theorem groupBehind_any (a : Option Addr) (n c N G : Nat) (w : World) (ha : Lie .u32 w a n c (lmb N)) (hN : N < BB ^ n) (hG : G < 1000000000) (hn : n ≤ 100000000) :
    Calls Tryd.prog 55 #[.slice a n c, .int .u32 G] w (PPart (N * 1000000000 + G) w) := by
  have hcm := ha.capm
  have hnc := ha.cap
  unfold maxLen at hcm
  have hn4 : 4 * (n + 1) ≤ 281474976710656 := by omega
  have hn6 : n + 1 ≤ 9223372036854775807 := by omega
  have HN := Lib.hid hN
  clear hN
  go_enter Tryd.func55, Tryd.ntmps55
  go_wp2_with (first | (at_make; refine wpList_mk _ rfl (.tmp 11) (.tmp 11) 23 rfl 56 .u32 4 Tryd.u23 Tryd.info56 _ _ (n + 1) rfl rfl (by omega) (by omega) hn4 hn6 ?_; intro g w1 hg hown hb1))
  go_loopw [6, 17] (fun cv iv wr => ∃ k : Nat, k ≤ n ∧ iv = .int .i64 k ∧ cv = .int .u64 (cb N G k) ∧ Own .u32 56 wr g (n + 1) (fun j => if j < k then lmb (N * 1000000000 + G) j else 0) ∧ Below w.heap.size w wr) (fun _ iv _ => n - (intOf iv).toNat)
  case atStart => exact ⟨0, Nat.zero_le _, rfl, by rw [cb_zero], hown.congr (fun j hj => by simp), hb1⟩
  case round =>
    obtain ⟨k, hk, rfl, rfl, hown1, hbl⟩ := hrel
    have hcl := cb_lt (N := N) hG k
    by_cases hlt : k < n
    · obtain ⟨b1, o1, rfl, hb1'⟩ := ha.some_of_pos (by omega)
      have c1 := (ha.below hbl).at k hlt
      have c2 : wr.cell? ⟨g, k, none⟩ = some (.int .u32 (0 : Nat)) := by rw [hown1.cell k (by omega)]; simp
      have c3 := hown1.free k
      have hla := lmb_lt N k
      have HX : Hid (((cb N G k : Int) + (lmb N k : Int) * 1000000000) % 4294967296 = ((lmb (N * 1000000000 + G) k : Nat) : Int) ∧ ((cb N G k : Int) + (lmb N k : Int) * 1000000000) / 4294967296 = ((cb N G (k + 1) : Nat) : Int)) := by
        have := cb_step N G k; show _ ∧ _; omega
      have hbs := hbl.setCell (p := ⟨g, k, none⟩) hg
      clear ha
      go_wp2
      go_roundw
      case rel => exact ⟨k + 1, by omega, by go_num, by rw [HX.out.2], hown1.put (by omega) (by rw [HX.out.1, if_pos (by omega)]) (fun j _ hne => by by_cases h1 : j < k <;> by_cases h2 : j < k + 1 <;> simp [h1, h2] <;> omega), hbs _⟩
      case measure => simp [intOf]; omega
    · obtain rfl : k = n := by omega
      have c2 : wr.cell? ⟨g, k, none⟩ = some (.int .u32 (0 : Nat)) := by rw [hown1.cell k (by omega)]; simp
      have c3 := hown1.free k
      have HE := Lib.hid (cb_end hG HN.out)
      have hbs := hbl.setCell (p := ⟨g, k, none⟩) hg (.int .u32 (cb N G k))
      have hO : Own .u32 56 (wr.setCell ⟨g, k, none⟩ (.int .u32 (cb N G k))) g (k + 1) (lmb (N * 1000000000 + G)) := hown1.put (by omega) (by rw [HE.out.1]) (fun j hj hne => by rw [if_pos (by omega)])
      clear ha
      go_wp2_with fail
      refine (trimmed_any _ _ _ (N * 1000000000 + G) _ (hO.lie (Nat.le_refl _) (by unfold maxLen; omega)) HE.out.2).mono ?_
      rintro e w3 ⟨mm, rfl, hmm, hfit, rfl⟩
      go_wp2
      go_ret
      exact ppart_own hO hg hbs hmm hn6 hfit

/-- How long a text in a slot is. -/
def strLen : Value → Nat
  | .string s => s.size
  | _ => 0
theorem size_list (s : ByteArray) : s.data.toList.length = s.size := by simp

set_option maxHeartbeats 800000 in
theorem readDigits_any (s : ByteArray) (w : World) (hs : s.size ≤ 2000) (hd : s.data.toList.all isDig = true) :
    Calls Tryd.prog 33 #[.string s] w (PPart (dval s.data.toList) w) := by
  have HD := Lib.hid hd
  clear hd
  go_enter Tryd.func33, Tryd.ntmps33
  go_wp2
  go_loopw [0, 3] (fun sv pv wr => ∃ (k : Nat) (sr : ByteArray) (a : Option Addr) (n c : Nat), k ≤ s.size ∧ sv = .string sr ∧ pv = .slice a n c ∧ sr.data.toList = s.data.toList.drop k ∧ (k = 0 ∨ sr.size % 9 = 0) ∧ n ≤ k ∧ Lie .u32 wr a n c (lmb (dval (s.data.toList.take k))) ∧ Fit n (dval (s.data.toList.take k)) ∧ (∀ p, a = some p → w.heap.size ≤ p.block) ∧ Below w.heap.size w wr) (fun sv _ _ => strLen sv)
  case atStart =>
    have e : dval (s.data.toList.take 0) = 0 := by rw [List.take_zero, dval, dvalF_nil]
    refine ⟨0, s, none, 0, 0, Nat.zero_le _, rfl, rfl, rfl, .inl rfl, Nat.le_refl _, ?_, ?_, (fun p hp => by cases hp), Below.refl _ _⟩
    · exact lie_nil _ _ _
    · rw [e]; exact fit_zero
  case round =>
    obtain ⟨k, sr, a, n, c, hk, rfl, rfl, hsr, hk9, hnk, hl, hf, hfr, hbl⟩ := hrel
    have hsz : sr.size = s.size - k := by rw [← size_list, hsr, List.length_drop, size_list]
    have HSR := Lib.hid hsr
    have HF := Lib.hid hf
    have HFR := Lib.hid hfr
    have HK9 := Lib.hid hk9
    have HSZ := Lib.hid hsz
    have hsz2 : sr.size + k ≤ s.size := by omega
    clear hsr hf hfr hk9 hsz
    by_cases hp : 0 < sr.size
    · obtain ⟨m, hm⟩ : ∃ m, m = (sr.size - 1) % 9 + 1 := ⟨_, rfl⟩
      have hm9 : m ≤ 9 := by omega
      have hms : m ≤ sr.size := by omega
      have HG : Hid ((sr.extract 0 m).data.toList = (s.data.toList.drop k).take m ∧ (sr.extract m sr.size).data.toList = s.data.toList.drop (k + m)) := by
        refine ⟨?_, ?_⟩
        · rw [Lib.extract_data, HSR.out, List.drop_zero, Nat.sub_zero]
        · rw [Lib.extract_data, List.take_of_length_le (by rw [List.length_drop, size_list]; omega), HSR.out, List.drop_drop]
      have hgd : (sr.extract 0 m).data.toList.all isDig = true := by
        rw [HG.out.1, List.all_eq_true]; intro c hc
        exact (List.all_eq_true.1 HD.out) c (List.mem_of_mem_drop (List.mem_of_mem_take hc))
      have hgs : (sr.extract 0 m).size ≤ 9 := by rw [← size_list, HG.out.1, List.length_take]; omega
      have hgl : (sr.extract 0 m).data.toList.length = m := by rw [HG.out.1, List.length_take, List.length_drop, size_list]; omega
      have hgv : dval (sr.extract 0 m).data.toList < 1000000000 := Nat.lt_of_lt_of_le (dval_lt _ hgd) (show 10 ^ (sr.extract 0 m).data.toList.length ≤ 10 ^ 9 from Nat.pow_le_pow_right (by decide) (by omega))
      have HV : Hid (dval (s.data.toList.take (k + m)) = dval (s.data.toList.take k) * 1000000000 + dval (sr.extract 0 m).data.toList) := by
        show _ = _
        rw [List.take_add, dval_append, ← HG.out.1, hgl]
        rcases HK9.out with h0 | h9
        · subst h0
          have e : dval (s.data.toList.take 0) = 0 := by rw [List.take_zero, dval, dvalF_nil]
          rw [e, Nat.zero_mul, Nat.zero_mul]
        · rw [show m = 9 from by omega]
      have hsl : (sr.extract m sr.size).size = sr.size - m := by have h := HSZ.out; rw [← size_list, HG.out.2, List.length_drop, size_list]; omega
      have HSL := Lib.hid hsl
      have HGD := Lib.hid hgd
      have hsz' := HSZ.out
      have HM := Lib.hid hm
      have hrel9 : (sr.size - m) % 9 = 0 := by omega
      have H9 := Lib.hid hrel9
      clear hgd hgl hsl hsz' hrel9
      go_wp2_with fail
      rw [← HM.out]
      refine (groupOf_any (sr.extract 0 m) _ hgs HGD.out).mono ?_
      rintro e w2 ⟨rfl, rfl⟩
      obtain ⟨G, hGe⟩ : ∃ G, G = dval (sr.extract 0 m).data.toList := ⟨_, rfl⟩
      rw [← hGe] at hgv ⊢
      have HGE := Lib.hid hGe
      clear hGe
      go_wp2_with fail
      refine (groupBehind_any a n c _ G _ hl HF.out.1 hgv (by omega)).mono ?_
      rintro e w3 ⟨a3, n3, c3, rfl, hl3, hf3, hfr3, hb3⟩
      have hn3 : n3 ≤ k + m := by
        have : n3 ≤ n + 1 := fit_le hf3 (cb_end hgv HF.out.1).2
        omega
      rw [HGE.out, ← HV.out] at hl3 hf3
      have HF3 := Lib.hid hf3
      have HR3 := Lib.hid hfr3
      clear hf3 hfr3 hl
      go_wp2
      rw [← HM.out]
      go_roundw
      case rel =>
        exact ⟨k + m, sr.extract m sr.size, a3, n3, c3, by omega, rfl, rfl, HG.out.2, .inr (by rw [HSL.out]; exact H9.out), hn3, hl3, HF3.out, (fun p hp => Nat.le_trans hbl.size (HR3.out p hp)), hbl.trans (hb3.mono hbl.size)⟩
      case measure =>
        have h1 := HSL.out
        have h2 := HM.out
        simp only [strLen]
        omega
    · have hks : k = s.size := by have h1 := HSZ.out; omega
      have HE : Hid (s.data.toList.take k = s.data.toList) := List.take_of_length_le (by rw [size_list]; omega)
      rw [HE.out] at hl HF
      clear hks
      go_wp2
      go_ret
      exact ⟨a, n, c, rfl, hl, HF.out, HFR.out, hbl⟩
end Go.Proofs.YtpacbipencmjnaaDoor

/- The walks of compare, sum, difference, product. -/
namespace Go.Proofs.YtpacbipencmjnaaDoor
open Go.RowKit

set_option maxHeartbeats 800000 in
theorem compare_any (a b : Option Addr) (n c m d A B : Nat) (w : World) (ha : Lie .u32 w a n c (lmb A)) (hb : Lie .u32 w b m d (lmb B)) (fa : Fit n A) (fb : Fit m B) :
    Calls Tryd.prog 42 #[.slice a n c, .slice b m d] w (PVal (.int .i64 (cmpN A B)) w) := by
  have hcm := ha.capm
  have hnc := ha.cap
  have hdm := hb.capm
  have hmd := hb.cap
  unfold maxLen at hcm hdm
  rcases Nat.lt_trichotomy n m with hlt | heq | hgt
  · have hR := Lib.hid (cmp_len_lt fa fb hlt)
    clear fa fb ha hb
    go_enter Tryd.func42, Tryd.ntmps42
    go_wp2
    go_ret
    exact ⟨ret_int hR.out.symm, Below.refl _ _⟩
  · subst heq
    go_enter Tryd.func42, Tryd.ntmps42
    have HA := Lib.hid fa
    have HB := Lib.hid fb
    clear fa fb
    go_wp2
    go_loopw [5] (fun i wr => ∃ k : Nat, k ≤ n ∧ i = .int .i64 ((k : Int) - 1) ∧ A / BB ^ k = B / BB ^ k ∧ Below w.heap.size w wr) (fun i _ => (intOf i + 1).toNat)
    case atStart => exact ⟨n, Nat.le_refl _, rfl, by rw [Nat.div_eq_of_lt HA.out.1, Nat.div_eq_of_lt HB.out.1], Below.refl _ _⟩
    case round =>
      obtain ⟨k, hk, rfl, hup, hbl⟩ := hrel
      have HU := Lib.hid hup
      clear hup
      by_cases hp : 0 < k
      · obtain ⟨j, rfl⟩ : ∃ j, k = j + 1 := ⟨k - 1, by omega⟩
        obtain ⟨b1, o1, rfl, hb1⟩ := ha.some_of_pos (by omega)
        obtain ⟨b2, o2, rfl, hb2⟩ := hb.some_of_pos (by omega)
        have c1 := (ha.below hbl).at j (by omega)
        have c2 := (hb.below hbl).at j (by omega)
        rcases Nat.lt_trichotomy (lmb A j) (lmb B j) with hlt | heq | hgt
        · have hR := Lib.hid ((cmp_up HU.out).1 hlt)
          clear ha hb
          go_wp2
          go_quiet (fail)
          go_wp2
          go_ret
          exact ⟨ret_int hR.out.symm, below_drewN hbl _⟩
        · have hR := Lib.hid ((cmp_up HU.out).2.2 heq)
          have h1 : ¬ lmb A j < lmb B j := by omega
          have h2 : ¬ lmb B j < lmb A j := by omega
          have HE := Lib.hid heq
          clear ha hb heq
          go_wp2
          go_quiet (fail)
          go_wp2
          go_quiet (fail)
          go_wp2
          go_roundw
          case rel => exact ⟨j, by omega, by go_num, hR.out, below_drewN hbl _⟩
          case measure => simp [intOf]
        · have hR := Lib.hid ((cmp_up HU.out).2.1 hgt)
          have h1 : ¬ lmb A j < lmb B j := by omega
          clear ha hb
          go_wp2
          go_quiet (fail)
          go_wp2
          go_quiet (fail)
          go_wp2
          go_ret
          exact ⟨ret_int hR.out.symm, below_drewN (below_drewN hbl _) _⟩
      · obtain rfl : k = 0 := by omega
        have hR := Lib.hid (cmp_all HU.out)
        clear ha hb
        go_wp2
        go_ret
        exact ⟨ret_int hR.out.symm, hbl⟩
  · have hR := Lib.hid (cmp_len_gt fa fb hgt)
    clear fa fb ha hb
    go_enter Tryd.func42, Tryd.ntmps42
    go_wp2
    go_ret
    exact ⟨ret_int hR.out.symm, Below.refl _ _⟩

def sumF (A B n i : Nat) (j : Nat) : Nat := if j < i then lmb (A + B) j else if j < n then lmb A j else 0
set_option maxHeartbeats 800000 in
theorem sum_core (sw : Bool) (a b : Option Addr) (n c m d A B : Nat) (w : World) (ha : Lie .u32 w a n c (lmb A)) (hb : Lie .u32 w b m d (lmb B)) (fa : Fit n A) (fb : Fit m B) (hmn : m ≤ n) (hsw : sw = true → m < n) (hn : n ≤ 1000000000) :
    Calls Tryd.prog 41 (if sw then #[.slice b m d, .slice a n c] else #[.slice a n c, .slice b m d]) w (PPart (A + B) w) := by
  have hcm := ha.capm
  have hnc := ha.cap
  have hdm := hb.capm
  have hmd := hb.cap
  unfold maxLen at hcm hdm
  have hn4 : 4 * (n + 1) ≤ 281474976710656 := by omega
  have hn6 : n + 1 ≤ 9223372036854775807 := by omega
  have HA := Lib.hid fa
  have HB := Lib.hid fb
  clear fa fb
  cases sw
  all_goals
    simp only [if_true, if_false, Bool.false_eq_true]
    try (have hsw' := hsw rfl)
    clear hsw
    go_enter Tryd.func41, Tryd.ntmps41
    go_wp2_with (first | (at_make; refine wpList_mk _ rfl (.tmp 17) (.tmp 17) 23 rfl 56 .u32 4 Tryd.u23 Tryd.info56 _ _ (n + 1) rfl rfl (by omega) (by omega) hn4 hn6 ?_; intro g w1 hg hown hb1; have hl1 := ha.below hb1) | (with_reducible refine wpList_cp rfl (.tmp 19) (.tmp 20) 23 rfl 56 Tryd.u23 Tryd.size56 g (n + 1) (n + 1) .u32 _ (lmb A) a n c rfl rfl hown hl1 (by omega) ?_; intro w2 hown2 ho2))
    have hbw := hb1.trans (ho2.below hg)
    have hB2 := hb.below hbw
    have hb0 := hb
    clear hl1 hown ha hb
    go_loopw [6, 24] (fun cv i wr => ∃ k : Nat, k ≤ n ∧ i = .int .i64 k ∧ cv = .int .u64 (cy A B k) ∧ Own .u32 56 wr g (n + 1) (sumF A B n k) ∧ Below w.heap.size w wr) (fun _ i _ => n - (intOf i).toNat)
    case atStart => exact ⟨0, Nat.zero_le _, rfl, by rw [cy_zero]; rfl, hown2.congr (fun j hj => by simp [sumF]), hbw⟩
    case round =>
      obtain ⟨k, hk, rfl, rfl, hown, hbl⟩ := hrel
      have hcb := cy_le A B k
      have hst := Lib.hid (cy_step A B k)
      have hla := lmb_lt A k
      have hlb := lmb_lt B k
      by_cases hlt : k < n
      · have c1 : wr.cell? ⟨g, k, none⟩ = some (.int .u32 (lmb A k)) := by rw [hown.cell k (by omega)]; simp [sumF, hlt]
        have c2 := hown.free k
        have hbs := hbl.setCell (p := ⟨g, k, none⟩) hg
        by_cases hm : k < m
        · obtain ⟨b2, o2, rfl, hb2⟩ := hB2.some_of_pos (by omega)
          have c3 := (hb0.below hbl).at k hm
          have HX : Hid (((cy A B k : Int) + (lmb A k : Int) + (lmb B k : Int)) % 4294967296 = ((lmb (A + B) k : Nat) : Int) ∧ ((cy A B k : Int) + (lmb A k : Int) + (lmb B k : Int)) / 4294967296 = ((cy A B (k + 1) : Nat) : Int)) := by
            have := hst.out; show _ ∧ _; omega
          clear hst hB2
          go_wp2
          go_roundw
          case rel => exact ⟨k + 1, by omega, by go_num, by rw [HX.out.2], hown.put (by omega) (by rw [HX.out.1]; simp [sumF]) (fun j hj hne => by unfold sumF; by_cases h1 : j < k <;> by_cases h2 : j < k + 1 <;> simp [h1, h2] <;> omega), hbs _⟩
          case measure => simp [intOf]; omega
        · have HX : Hid (((cy A B k : Int) + (lmb A k : Int)) % 4294967296 = ((lmb (A + B) k : Nat) : Int) ∧ ((cy A B k : Int) + (lmb A k : Int)) / 4294967296 = ((cy A B (k + 1) : Nat) : Int)) := by
            have := hst.out; have h0 := lmb_zero HB.out.1 (i := k) (by omega); rw [h0] at this; show _ ∧ _; omega
          clear hst hB2
          go_wp2
          go_roundw
          case rel => exact ⟨k + 1, by omega, by go_num, by rw [HX.out.2], hown.put (by omega) (by rw [HX.out.1]; simp [sumF]) (fun j hj hne => by unfold sumF; by_cases h1 : j < k <;> by_cases h2 : j < k + 1 <;> simp [h1, h2] <;> omega), hbs _⟩
          case measure => simp [intOf]; omega
      · obtain rfl : k = n := by omega
        have c1 : wr.cell? ⟨g, k, none⟩ = some (.int .u32 (0 : Nat)) := by rw [hown.cell k (by omega)]; simp [sumF]
        have c2 := hown.free k
        have hE := Lib.hid (cy_end HA.out.1 (fit_mono HB.out.1 hmn))
        clear hst
        go_wp2_with fail
        have hO : Own .u32 56 (wr.setCell ⟨g, k, none⟩ (.int .u32 (cy A B k))) g (k + 1) (lmb (A + B)) := hown.put (by omega) (by rw [hE.out.1]) (fun j hj hne => by rw [sumF, if_pos (by omega)])
        refine (trimmed_any _ _ _ (A + B) _ (hO.lie (Nat.le_refl _) (by unfold maxLen; omega)) hE.out.2).mono ?_
        rintro e w3 ⟨mm, rfl, hmm, hfit, rfl⟩
        have hbs := hbl.setCell (p := ⟨g, k, none⟩) hg (.int .u32 (cy A B k))
        go_wp2
        go_ret
        exact ppart_own hO hg hbs hmm hn6 hfit

theorem sum_any (a b : Option Addr) (n c m d A B : Nat) (w : World) (ha : Lie .u32 w a n c (lmb A)) (hb : Lie .u32 w b m d (lmb B)) (fa : Fit n A) (fb : Fit m B) (hn : n ≤ 1000000000) (hm : m ≤ 1000000000) :
    Calls Tryd.prog 41 #[.slice a n c, .slice b m d] w (PPart (A + B) w) := by
  by_cases h : n < m
  · have := sum_core true b a m d n c B A w hb ha fb fa (by omega) (fun _ => h) hm
    rw [Nat.add_comm]
    simpa using this
  · simpa using sum_core false a b n c m d A B w ha hb fa fb (by omega) (fun h => by cases h) hn

end Go.Proofs.YtpacbipencmjnaaDoor

/- The walks of raised and lowered. -/
namespace Go.Proofs.YtpacbipencmjnaaDoor
open Go.RowKit

/-- What is carried when a number is raised by s binary digits. -/
def rc (N s k : Nat) : Nat := N % BB ^ k * 2 ^ s / BB ^ k
theorem rc_zero (N s : Nat) : rc N s 0 = 0 := by simp [rc, Nat.mod_one]
theorem rc_lt (N s k : Nat) : rc N s k < 2 ^ s := by
  unfold rc
  refine Nat.div_lt_of_lt_mul ?_
  exact (Nat.mul_lt_mul_right (Nat.pow_pos (by decide))).2 (Nat.mod_lt _ (BBp k))
theorem pow_split {s : Nat} (hs : s < 32) : 2 ^ s * 2 ^ (32 - s) = 4294967296 := by
  rw [← Nat.pow_add, show s + (32 - s) = 32 from by omega]
theorem raise_parts {s : Nat} (hs : s < 32) (a c : Nat) (hc : c < 2 ^ s) :
    a * 2 ^ s % 4294967296 = 2 ^ s * (a % 2 ^ (32 - s)) ∧ (a * 2 ^ s + c) / 4294967296 = a / 2 ^ (32 - s) ∧ (a * 2 ^ s + c) % 4294967296 = 2 ^ s * (a % 2 ^ (32 - s)) + c ∧ 2 ^ s * (a % 2 ^ (32 - s)) + c < 4294967296 := by
  have hp := pow_split hs
  have hU : 0 < 2 ^ (32 - s) := Nat.pow_pos (by decide)
  have hd := Nat.div_add_mod a (2 ^ (32 - s))
  have hl := Nat.mod_lt a hU
  generalize (2 : Nat) ^ s = T at *
  generalize (2 : Nat) ^ (32 - s) = U at *
  generalize a % U = l at *
  generalize a / U = h at *
  have e1 : a * T = 4294967296 * h + T * l := by
    rw [← hd, ← hp, Nat.add_mul, Nat.mul_comm (U * h), Nat.mul_assoc, Nat.mul_comm l]
  have e2 : T * (l + 1) ≤ T * U := Nat.mul_le_mul_left _ hl
  rw [Nat.mul_add, hp] at e2
  omega
theorem rc_step {s : Nat} (hs : s < 32) (N k : Nat) : rc N s (k + 1) = lmb N k / 2 ^ (32 - s) ∧ lmb (N * 2 ^ s) k = 2 ^ s * (lmb N k % 2 ^ (32 - s)) + rc N s k := by
  obtain ⟨-, h2, h3, -⟩ := raise_parts hs (lmb N k) (rc N s k) (rc_lt N s k)
  constructor
  · rw [← h2]
    unfold rc
    rw [mod_succ, Nat.pow_succ, ← Nat.div_div_eq_div_mul, Nat.add_mul, Nat.mul_assoc, Nat.add_mul_div_left _ _ (BBp k), Nat.add_comm]; rfl
  · rw [← h3]
    have e : N * 2 ^ s / BB ^ k = N / BB ^ k * 2 ^ s + rc N s k := by
      have hd := Nat.div_add_mod N (BB ^ k)
      conv => lhs; rw [← hd]
      rw [Nat.add_mul, Nat.mul_assoc, Nat.add_comm, Nat.add_mul_div_left _ _ (BBp k), Nat.add_comm]; rfl
    have e2 : lmb (N * 2 ^ s) k = (N / BB ^ k * 2 ^ s + rc N s k) % 4294967296 := by rw [← e]; rfl
    rw [e2]
    have hu := up_split N k
    rw [hu, Nat.add_mul]
    show (_ + 4294967296 * _ * _ + _) % _ = _
    rw [Nat.mul_assoc]
    omega
theorem raise_or {s : Nat} (hs : s < 32) (N k : Nat) : bits .or .u32 ((lmb N k : Int) * 2 ^ s % 4294967296) (rc N s k : Int) = ((lmb (N * 2 ^ s) k : Nat) : Int) := by
  obtain ⟨h1, -, -, h4⟩ := raise_parts hs (lmb N k) (rc N s k) (rc_lt N s k)
  have e : (lmb N k : Int) * 2 ^ s % 4294967296 = ((2 ^ s * (lmb N k % 2 ^ (32 - s)) : Nat) : Int) := by
    rw [← h1, Int.natCast_emod, Int.natCast_mul, Int.natCast_pow]; rfl
  rw [e, u32_or_nat _ _ (by omega) (by omega), (rc_step hs N k).2, ← Nat.two_pow_add_eq_or_of_lt (rc_lt N s k)]
theorem raise_shr {s : Nat} (hs : s < 32) (N k : Nat) : (lmb N k : Int) / 2 ^ (32 - s) = ((rc N s (k + 1) : Nat) : Int) := by
  rw [(rc_step hs N k).1, Int.natCast_ediv, Int.natCast_pow]; rfl
theorem rc_end {N s n : Nat} (hs : s < 32) (h : N < BB ^ n) : rc N s n = lmb (N * 2 ^ s) n ∧ N * 2 ^ s < BB ^ (n + 1) := by
  have h1 : (2 : Nat) ^ s < BB := Nat.pow_lt_pow_right (by decide) hs
  have h2 : N * 2 ^ s < BB ^ (n + 1) := by
    rw [Nat.pow_succ]; exact Nat.mul_lt_mul'' h h1
  refine ⟨?_, h2⟩
  rw [lmb_top h2]
  unfold rc
  rw [Nat.mod_eq_of_lt h]

set_option maxHeartbeats 1600000 in
theorem raised_any (a : Option Addr) (n c N s : Nat) (w : World) (ha : Lie .u32 w a n c (lmb N)) (hN : N < BB ^ n) (hs : s < 32) (hn : n ≤ 1000000000) :
    Calls Tryd.prog 58 #[.slice a n c, .int .i64 s] w (PNew .u32 56 (n + 1) (lmb (N * 2 ^ s)) w) := by
  have hcm := ha.capm
  have hnc := ha.cap
  unfold maxLen at hcm
  have hn4 : 4 * (n + 1) ≤ 281474976710656 := by omega
  have hn6 : n + 1 ≤ 9223372036854775807 := by omega
  have HN := Lib.hid hN
  clear hN
  go_enter Tryd.func58, Tryd.ntmps58
  go_wp2_with (first | (at_make; refine wpList_mk _ rfl (.tmp 11) (.tmp 11) 23 rfl 56 .u32 4 Tryd.u23 Tryd.info56 _ _ (n + 1) rfl rfl (by omega) (by omega) hn4 hn6 ?_; intro g w1 hg hown hb1))
  go_loopw [6, 15] (fun cv iv wr => ∃ k : Nat, k ≤ n ∧ iv = .int .i64 k ∧ cv = .int .u32 (rc N s k) ∧ Own .u32 56 wr g (n + 1) (fun j => if j < k then lmb (N * 2 ^ s) j else 0) ∧ Below w.heap.size w wr) (fun _ iv _ => n - (intOf iv).toNat)
  case atStart => exact ⟨0, Nat.zero_le _, rfl, by rw [rc_zero]; rfl, hown.congr (fun j hj => by simp), hb1⟩
  case round =>
    obtain ⟨k, hk, rfl, rfl, hown1, hbl⟩ := hrel
    by_cases hlt : k < n
    · obtain ⟨b1, o1, rfl, hb1'⟩ := ha.some_of_pos (by omega)
      have c1 := (ha.below hbl).at k hlt
      have c2 : wr.cell? ⟨g, k, none⟩ = some (.int .u32 (0 : Nat)) := by rw [hown1.cell k (by omega)]; simp
      have c3 := hown1.free k
      have hla := lmb_lt N k
      have HX := Lib.hid (raise_or hs N k)
      have HY := Lib.hid (raise_shr hs N k)
      have hbs := hbl.setCell (p := ⟨g, k, none⟩) hg
      clear ha
      go_wp2
      go_roundw
      case rel => exact ⟨k + 1, by omega, by go_num, by rw [HY.out], hown1.put (by omega) (by rw [HX.out, if_pos (by omega)]) (fun j _ hne => by by_cases h1 : j < k <;> by_cases h2 : j < k + 1 <;> simp [h1, h2] <;> omega), hbs _⟩
      case measure => simp [intOf]; omega
    · obtain rfl : k = n := by omega
      have c2 : wr.cell? ⟨g, k, none⟩ = some (.int .u32 (0 : Nat)) := by rw [hown1.cell k (by omega)]; simp
      have c3 := hown1.free k
      have HE := Lib.hid (rc_end hs HN.out)
      have hbs := hbl.setCell (p := ⟨g, k, none⟩) hg
      clear ha
      go_wp2
      go_ret
      exact ⟨g, rfl, hg, hown1.put (by omega) (by rw [HE.out.1]) (fun j hj hne => by rw [if_pos (by omega)]), hbs _⟩
def lowF (N s i : Nat) (j : Nat) : Nat := if j < i then lmb (N / 2 ^ s) j else lmb N j
theorem low_mul {s : Nat} (hs : s < 32) (b : Nat) : b * 2 ^ (32 - s) % 4294967296 = 2 ^ (32 - s) * (b % 2 ^ s) := by
  have hp := pow_split hs
  have hd := Nat.div_add_mod b (2 ^ s)
  have hl := Nat.mod_lt b (Nat.pow_pos (n := s) (show 0 < 2 by decide))
  generalize (2 : Nat) ^ s = T at *
  generalize (2 : Nat) ^ (32 - s) = U at *
  generalize b % T = l at *
  generalize b / T = h at *
  have e1 : b * U = 4294967296 * h + U * l := by
    rw [← hd, ← hp, Nat.add_mul, Nat.mul_comm (T * h), Nat.mul_comm l, ← Nat.mul_assoc, Nat.mul_comm U T]
  have e2 : U * (l + 1) ≤ U * T := Nat.mul_le_mul_left _ hl
  rw [Nat.mul_add, Nat.mul_comm U T, hp] at e2
  have : 0 < U := Nat.pos_of_ne_zero fun h => by subst h; simp at hp
  omega
theorem low_part {s : Nat} (hs : s < 32) (N k : Nat) : lmb (N / 2 ^ s) k = 2 ^ (32 - s) * (lmb N (k + 1) % 2 ^ s) + lmb N k / 2 ^ s := by
  have hp := pow_split hs
  have h1 := low_mul hs (lmb N (k + 1))
  have hlo : lmb N k / 2 ^ s < 2 ^ (32 - s) := Nat.div_lt_of_lt_mul (by rw [hp]; exact lmb_lt N k)
  have e0 : lmb (N / 2 ^ s) k = N / BB ^ k / 2 ^ s % 4294967296 := by
    unfold lmb; rw [Nat.div_div_eq_div_mul, Nat.mul_comm, ← Nat.div_div_eq_div_mul]; rfl
  have hU : 2 ^ (32 - s) * (lmb N (k + 1) % 2 ^ s) + 2 ^ (32 - s) ≤ 4294967296 := by
    have hl := Nat.mod_lt (lmb N (k + 1)) (Nat.pow_pos (n := s) (show 0 < 2 by decide))
    have e2 : 2 ^ (32 - s) * (lmb N (k + 1) % 2 ^ s + 1) ≤ 2 ^ (32 - s) * 2 ^ s := Nat.mul_le_mul_left _ hl
    rw [Nat.mul_comm (2 ^ (32 - s)) (2 ^ s), hp, Nat.mul_add] at e2
    omega
  rw [e0, up_split N k, up_split N (k + 1)]
  show (_ + 4294967296 * (_ + 4294967296 * _)) / _ % _ = _
  generalize N / BB ^ (k + 1 + 1) = Q
  rw [← hp, Nat.mul_assoc, Nat.add_mul_div_left _ _ (Nat.pow_pos (by decide)), hp]
  have e3 : 2 ^ (32 - s) * (lmb N (k + 1) + 4294967296 * Q) = lmb N (k + 1) * 2 ^ (32 - s) + 4294967296 * (2 ^ (32 - s) * Q) := by
    rw [Nat.mul_add, Nat.mul_comm _ (lmb N (k + 1)), Nat.mul_left_comm]
  rw [e3]
  clear e3 e0 hp hs
  generalize lmb N (k + 1) * 2 ^ (32 - s) = X at *
  generalize 2 ^ (32 - s) * Q = Y at *
  generalize 2 ^ (32 - s) * (lmb N (k + 1) % 2 ^ s) = R at *
  generalize lmb N k / 2 ^ s = l at *
  generalize (2 : Nat) ^ (32 - s) = U at *
  omega
theorem low_or {s : Nat} (hs : s < 32) (N k : Nat) : bits .or .u32 ((lmb N k : Int) / 2 ^ s) ((lmb N (k + 1) : Int) * 2 ^ (32 - s) % 4294967296) = ((lmb (N / 2 ^ s) k : Nat) : Int) := by
  have hp := pow_split hs
  have hlo : lmb N k / 2 ^ s < 2 ^ (32 - s) := Nat.div_lt_of_lt_mul (by rw [hp]; exact lmb_lt N k)
  have e1 : (lmb N k : Int) / 2 ^ s = ((lmb N k / 2 ^ s : Nat) : Int) := by rw [Int.natCast_ediv, Int.natCast_pow]; rfl
  have e2 : (lmb N (k + 1) : Int) * 2 ^ (32 - s) % 4294967296 = ((2 ^ (32 - s) * (lmb N (k + 1) % 2 ^ s) : Nat) : Int) := by
    rw [← low_mul hs, Int.natCast_emod, Int.natCast_mul, Int.natCast_pow]; rfl
  have hlt := lmb_lt (N / 2 ^ s) k
  rw [low_part hs] at hlt
  rw [e1, e2, u32_or_nat _ _ (by omega) (by omega), low_part hs, Nat.or_comm, ← Nat.two_pow_add_eq_or_of_lt hlo]
theorem low_last {s : Nat} (hs : s < 32) (N k : Nat) (h : lmb N (k + 1) = 0) : (lmb N k : Int) / 2 ^ s = ((lmb (N / 2 ^ s) k : Nat) : Int) := by
  rw [low_part hs, h, Nat.zero_mod, Nat.mul_zero, Nat.zero_add, Int.natCast_ediv, Int.natCast_pow]; rfl
theorem low_fst (N k s : Nat) : (lmb N k : Int) / 2 ^ s = ((lmb N k / 2 ^ s : Nat) : Int) := by rw [Int.natCast_ediv, Int.natCast_pow]; rfl
theorem lowF_next {N s n : Nat} (k : Nat) : ∀ j, j < n → j ≠ k → lowF N s k j = lowF N s (k + 1) j := by
  intro j _ hne
  unfold lowF
  by_cases h1 : j < k <;> by_cases h2 : j < k + 1 <;> simp [h1, h2] <;> omega
theorem Own.put2 {k : IntKind} {e : TypeId} {w : World} {g n : Nat} {f : Nat → Nat} (h : Own k e w g n f) {i X : Nat} {x y : Int} {F : Nat → Nat} (hi : i < n) (hx : x = (X : Nat)) (hy : y = (F i : Nat)) (hf : ∀ j, j < n → j ≠ i → f j = F j) :
    Own k e ((w.setCell ⟨g, i, none⟩ (.int k x)).setCell ⟨g, i, none⟩ (.int k y)) g n F := by
  subst hx
  exact (h.set X hi).put hi hy (fun j hj hne => by simp [hne, hf j hj hne])

set_option maxHeartbeats 1600000 in
theorem lowered_any (a : Option Addr) (n c N s : Nat) (w : World) (ha : Lie .u32 w a n c (lmb N)) (hN : N < BB ^ n) (hs : s < 32) (hn : n ≤ 1000000000) :
    Calls Tryd.prog 40 #[.slice a n c, .int .i64 s] w (PPart (N / 2 ^ s) w) := by
  have hcm := ha.capm
  have hnc := ha.cap
  unfold maxLen at hcm
  have hn6 : n ≤ 9223372036854775807 := by omega
  have HN := Lib.hid hN
  clear hN
  go_enter Tryd.func40, Tryd.ntmps40
  go_wp2_with fail
  refine (copied_any a n c (lmb N) _ ha hn).mono ?_
  rintro e w1 ⟨g, rfl, hg, hown1, hb1⟩
  go_wp2
  go_loopw [11] (fun iv wr => ∃ k : Nat, k ≤ n ∧ iv = .int .i64 k ∧ Own .u32 56 wr g n (lowF N s k) ∧ Below w.heap.size w wr) (fun iv _ => n - (intOf iv).toNat)
  case atStart => exact ⟨0, Nat.zero_le _, rfl, hown1.congr (fun j hj => by simp [lowF]), hb1⟩
  case round =>
    obtain ⟨k, hk, rfl, hown, hbl⟩ := hrel
    by_cases hlt : k < n
    · obtain ⟨b1, o1, rfl, hb1'⟩ := ha.some_of_pos (by omega)
      have c1 : wr.cell? ⟨g, k, none⟩ = some (.int .u32 (lmb N k)) := by rw [hown.cell k (by omega)]; simp [lowF]
      have c2 := hown.free k
      have hla := lmb_lt N k
      have hbg : b1 < g := by omega
      by_cases hk1 : k + 1 < n
      · have c3 := (ha.below hbl).at (k + 1) hk1
        have hla1 := lmb_lt N (k + 1)
        have HX := Lib.hid (low_or hs N k)
        have hbs := fun u v => (hbl.setCell (p := ⟨g, k, none⟩) hg u).setCell (p := ⟨g, k, none⟩) hg v
        have HB := Lib.hid hbs
        clear ha hbs
        go_wp2
        go_region
        all_goals go_wp2
        all_goals go_roundw
        case rel => exact ⟨k + 1, by omega, by go_num, (hown.put2 (by omega) (low_fst N k s) (by rw [HX.out, lowF, if_pos (by omega)]) (lowF_next k)).drew, (HB.out _ _).drew⟩
        case measure => simp [intOf]; omega
      · have HX := Lib.hid (low_last hs N k (lmb_zero HN.out (by omega)))
        have hbs := hbl.setCell (p := ⟨g, k, none⟩) hg
        clear ha
        go_wp2
        go_roundw
        case rel => exact ⟨k + 1, by omega, by go_num, hown.put (by omega) (by rw [HX.out, lowF, if_pos (by omega)]) (lowF_next k), hbs _⟩
        case measure => simp [intOf]; omega
    · obtain rfl : k = n := by omega
      have hO : Own .u32 56 wr g k (lmb (N / 2 ^ s)) := hown.congr (fun j hj => by rw [lowF, if_pos hj])
      clear ha
      go_wp2_with fail
      refine (trimmed_any _ _ _ (N / 2 ^ s) _ (hO.lie (Nat.le_refl _) (by unfold maxLen; omega)) (Nat.lt_of_le_of_lt (Nat.div_le_self _ _) HN.out)).mono ?_
      rintro e w3 ⟨mm, rfl, hmm, hfit, rfl⟩
      go_wp2
      go_ret
      exact ppart_own hO hg hbl hmm hn6 hfit
end Go.Proofs.YtpacbipencmjnaaDoor
