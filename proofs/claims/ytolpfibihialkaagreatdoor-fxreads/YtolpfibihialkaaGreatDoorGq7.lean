/- Parts of the proof. -/
import Derived.Test.YtolpfibihialkaaGreatDoorGq4
import Derived.Test.YtolpfibihialkaaGreatDoorShelf
import Derived.Lib.Strings
/- The walks of groupOf, wellWritten, groupBehind, readDigits. -/
namespace Go.Proofs.YtolpfibihialkaaGreatDoor
open Go.RowKit
/-- Is a byte a digit? -/
def isDig (c : UInt8) : Bool := decide (48 ≤ c.toNat ∧ c.toNat ≤ 57)
/-- The number that digits tell, behind n. -/
def dstep (n : Nat) (c : UInt8) : Nat := n * 10 + (c.toNat - 48)
def dvalF (n : Nat) (l : List UInt8) : Nat := l.foldl dstep n
def dval (l : List UInt8) : Nat := dvalF 0 l
theorem dvalF_append (n : Nat) (l m : List UInt8) : dvalF n (l ++ m) = dvalF (dvalF n l) m := List.foldl_append
theorem dvalF_cons (n : Nat) (c : UInt8) (l : List UInt8) : dvalF n (c :: l) = dvalF (n * 10 + (c.toNat - 48)) l := by unfold dvalF; rw [List.foldl_cons, dstep]
theorem dvalF_nil (n : Nat) : dvalF n [] = n := List.foldl_nil
theorem dval_snoc (l : List UInt8) (c : UInt8) : dval (l ++ [c]) = dval l * 10 + (c.toNat - 48) := by unfold dval; rw [dvalF_append, dvalF_cons, dvalF_nil]
theorem dvalF_eq (n : Nat) (l : List UInt8) : dvalF n l = n * 10 ^ l.length + dvalF 0 l := by
 induction l generalizing n with
 | nil => rw [dvalF_nil, dvalF_nil]; simp
 | cons c l ih =>
  have e1 := ih (n * 10 + (c.toNat - 48))
  have e2 := ih (0 * 10 + (c.toNat - 48))
  rw [List.length_cons, dvalF_cons, dvalF_cons, e1, e2, Nat.pow_succ]
  generalize 10 ^ l.length = X
  generalize c.toNat - 48 = d
  rw [Nat.add_mul, Nat.add_mul, Nat.mul_assoc, Nat.mul_comm 10 X]
  omega
theorem dval_append (l m : List UInt8) : dval (l ++ m) = dval l * 10 ^ m.length + dval m := by
 unfold dval
 rw [dvalF_append, dvalF_eq]
theorem isDig_le {c : UInt8} (h : isDig c = true) : 48 ≤ c.toNat ∧ c.toNat ≤ 57 := of_decide_eq_true h
theorem dval_lt (l : List UInt8) (h : l.all isDig = true) : dval l < 10 ^ l.length := by
 induction l with
 | nil => rw [dval, dvalF_nil]; simp
 | cons c l ih =>
  rw [List.all_cons, Bool.and_eq_true] at h
  have h1 := isDig_le h.1
  have h2 := ih h.2
  have e : dval (c :: l) = (c.toNat - 48) * 10 ^ l.length + dval l := by rw [show c :: l = [c] ++ l from rfl, dval_append]; unfold dval; rw [dvalF_cons, dvalF_nil, Nat.zero_mul, Nat.zero_add]
  rw [e, List.length_cons, Nat.pow_succ]
  have : (c.toNat - 48) * 10 ^ l.length ≤ 9 * 10 ^ l.length := Nat.mul_le_mul_right _ (by omega)
  omega
theorem take_snoc (s : ByteArray) (k : Nat) (h : k < s.size) : s.data.toList.take (k + 1) = s.data.toList.take k ++ [s[k]] := by
 rw [List.take_succ_eq_append_getElem (by simpa using h)]; rfl
theorem all_at {s : ByteArray} (h : s.data.toList.all isDig = true) (k : Nat) (hk : k < s.size) : isDig s[k] = true := by
 rw [List.all_eq_true] at h
 exact h _ (List.getElem_mem (l := s.data.toList) (by simpa using hk))
set_option maxHeartbeats 400000 in
theorem groupOf_any (s : ByteArray) (w : World) (hs : s.size ≤ 9) (hd : s.data.toList.all isDig = true) :
  Calls Tryz.prog 142 #[.string s] w fun e w' => e = .returned (.int .u32 (dval s.data.toList)) ∧ w = w' := by
 have HD := Lib.hid hd
 clear hd
 go_enter Tryz.func142, Tryz.ntmps142
 go_wp2
 go_loop [3, 7] (fun nv iv => ∃ k : Nat, k ≤ s.size ∧ iv = .int .i64 k ∧ nv = .int .u32 (dval (s.data.toList.take k))) (fun _ iv => s.size - (intOf iv).toNat)
 case atStart => exact ⟨0, Nat.zero_le _, rfl, rfl⟩
 case round =>
  obtain ⟨k, hk, rfl, rfl⟩ := hrel
  by_cases hlt : k < s.size
  ·
   have hdg := isDig_le (all_at HD.out k hlt)
   obtain ⟨h48, h57⟩ := hdg
   have hv : dval (s.data.toList.take k) < 100000000 := by
    refine Nat.lt_of_lt_of_le (dval_lt _ ?_) (show 10 ^ (s.data.toList.take k).length ≤ 10 ^ 8 from Nat.pow_le_pow_right (by decide) ?_)
    ·
     rw [List.all_eq_true]; intro c hc; exact (List.all_eq_true.1 HD.out) c (List.mem_of_mem_take hc)
    ·
     rw [List.length_take]; omega
   have HS : Hid (dval (s.data.toList.take (k + 1)) = dval (s.data.toList.take k) * 10 + (s[k].toNat - 48)) := by
    show _ = _; rw [take_snoc s k hlt, dval_snoc]
   go_wp2
   go_round
   case rel => exact ⟨k + 1, by omega, by go_num, congrArg (Value.int .u32) (by rw [HS.out]; omega)⟩
   case measure => simp [intOf]; omega
  ·
   obtain rfl : k = s.size := by omega
   go_wp2
   go_ret
   exact ⟨ret_int (by rw [List.take_of_length_le (by simp)]), rfl⟩
/-- May digits be written so? -/
def wwB (l : List UInt8) (below : Bool) : Bool := !l.isEmpty && l.all isDig && (l.head? != some 48 || (l.length == 1 && !below))
set_option maxHeartbeats 800000 in
theorem wellWritten_any (s : ByteArray) (below : Bool) (w : World) (hs : s.size ≤ 2000) :
  Calls Tryz.prog 109 #[.string s, .bool below] w fun e w' => e = .returned (.bool (wwB s.data.toList below)) ∧ w = w' := by
 by_cases h0 : s.size = 0
 ·
  have hl : s.data.toList = [] := List.eq_nil_of_length_eq_zero (by simpa using h0)
  have hl' : s.toList = [] := by rw [Lib.toList_data]; exact hl
  have HR : Hid (wwB s.data.toList below = false) := by show _ = _; rw [hl]; rfl
  clear hl
  go_enter Tryz.func109, Tryz.ntmps109
  go_wp2
  go_ret
  exact ⟨by rw [HR.out]; rfl, rfl⟩
 ·
  have hne : s.toList.isEmpty = false := by rw [Lib.toList_data]; cases hl : s.data.toList with
   | nil => exact absurd (by simpa using congrArg List.length hl) h0
   | cons c l => rfl
  have hne2 : (s.toList == []) = false := by rw [Lib.toList_data] at hne ⊢; cases hl : s.data.toList with
   | nil => rw [hl] at hne; cases hne
   | cons c l => rfl
  have hpos : 0 < s.size := by omega
  have hE : Hid (s.data.toList.isEmpty = false) := by show _ = _; rw [← Lib.toList_data]; exact hne
  clear h0
  go_enter Tryz.func109, Tryz.ntmps109
  go_wp2
  go_loop [10] (fun iv => ∃ k : Nat, k ≤ s.size ∧ iv = .int .i64 k ∧ (s.data.toList.take k).all isDig = true) (fun iv => s.size - (intOf iv).toNat)
  case atStart => exact ⟨0, Nat.zero_le _, rfl, rfl⟩
  case round =>
   obtain ⟨k, hk, rfl, hall⟩ := hrel
   have HA := Lib.hid hall
   clear hall
   by_cases hlt : k < s.size
   ·
    by_cases hdg : isDig s[k] = true
    ·
     obtain ⟨h48, h57⟩ := isDig_le hdg
     have HS : Hid ((s.data.toList.take (k + 1)).all isDig = true) := by
      show _ = _; rw [take_snoc s k hlt, List.all_append, HA.out]; simp [hdg]
     clear hdg
     go_wp2
     go_round
     case rel => exact ⟨k + 1, by omega, by go_num, HS.out⟩
     case measure => simp [intOf]; omega
    ·
     have HR : Hid (wwB s.data.toList below = false) := by
      show _ = _
      have : s.data.toList.all isDig = false := by
       rw [Bool.eq_false_iff]; intro h; exact hdg (all_at h k hlt)
      simp [wwB, this]
     have hcase : (s[k].toNat : Int) < 48 ∨ (57 : Int) < (s[k].toNat : Int) := by
      unfold isDig at hdg; simp at hdg; omega
     clear hdg
     rcases hcase with hc | hc
     ·
      go_wp2
      go_ret
      exact ⟨by rw [HR.out]; rfl, rfl⟩
     ·
      have hc2 : ¬ (s[k].toNat : Int) < 48 := by omega
      go_wp2
      go_ret
      exact ⟨by rw [HR.out]; rfl, rfl⟩
   ·
    obtain rfl : k = s.size := by omega
    have hall : s.data.toList.all isDig = true := by have := HA.out; rwa [List.take_of_length_le (by simp)] at this
    have hhd : s.data.toList.head? = some s[0] := by
     rw [List.head?_eq_getElem?, List.getElem?_eq_getElem (by simpa using hpos)]; rfl
    by_cases hz : s[0].toNat = 48
    ·
     have hz2 : ((s[0].toNat : Int) == 48) = true := by simp; omega
     have hz3 : s[0] = 48 := UInt8.toNat.inj (by rw [hz]; rfl)
     by_cases h1 : s.size = 1
     ·
      have HR : Hid (wwB s.data.toList below = !below) := by
       have hlen : s.data.toList.length = 1 := by simpa using h1
       show _ = _; simp only [wwB, hE.out, hall, hhd, hz3, hlen]; cases below <;> rfl
      have h1' : ((s.size : Int) == 1) = true := by simp; omega
      clear hall hhd hz hz3 HA
      go_wp2
      go_ret
      exact ⟨by rw [HR.out]; rfl, rfl⟩
     ·
      have HR : Hid (wwB s.data.toList below = false) := by
       have hlen : (s.data.toList.length == 1) = false := by simpa using h1
       show _ = _; simp only [wwB, hE.out, hall, hhd, hz3, hlen]; rfl
      have h1' : ((s.size : Int) == 1) = false := by simp; omega
      clear hall hhd hz hz3 HA
      go_wp2
      go_ret
      exact ⟨by rw [HR.out]; rfl, rfl⟩
    ·
     have hz2 : ((s[0].toNat : Int) == 48) = false := by simp; omega
     have hz3 : (some s[0] != some (48 : UInt8)) = true := by
      simp; intro h; exact hz (by rw [h]; rfl)
     have HR : Hid (wwB s.data.toList below = true) := by
      show _ = _; simp only [wwB, hE.out, hall, hhd, hz3]; rfl
     clear hall hhd hz hz3 HA
     go_wp2
     go_ret
     exact ⟨by rw [HR.out]; rfl, rfl⟩
end Go.Proofs.YtolpfibihialkaaGreatDoor

/- The walks of groupBehind, readDigits. -/
namespace Go.Proofs.YtolpfibihialkaaGreatDoor
open Go.RowKit
/-- What is carried when a group is put behind a number. -/
def cb (N G k : Nat) : Nat := (N % BB ^ k * 1000000000 + G) / BB ^ k
theorem cb_zero (N G : Nat) : cb N G 0 = G := by simp [cb, Nat.mod_one]
theorem cb_lt {N G : Nat} (hG : G < 1000000000) (k : Nat) : cb N G k < 1000000000 := by
 unfold cb
 refine Nat.div_lt_of_lt_mul ?_
 have h := Nat.mul_le_mul_right 1000000000 (show N % BB ^ k + 1 ≤ BB ^ k from Nat.mod_lt _ (BBp k))
 omega
theorem cb_step (N G k : Nat) : (cb N G k + lmb N k * 1000000000) % 4294967296 = lmb (N * 1000000000 + G) k ∧ (cb N G k + lmb N k * 1000000000) / 4294967296 = cb N G (k + 1) := by
 have hP := BBp k
 have e1 : (N * 1000000000 + G) / BB ^ k = N / BB ^ k * 1000000000 + cb N G k := by
  have hd := Nat.div_add_mod N (BB ^ k)
  unfold cb
  conv => lhs; rw [← hd]
  rw [Nat.add_mul, Nat.mul_assoc, Nat.add_assoc, Nat.mul_add_div hP]
 have e2 : cb N G (k + 1) = (cb N G k + lmb N k * 1000000000) / BB := by
  unfold cb
  rw [mod_succ, Nat.pow_succ, ← Nat.div_div_eq_div_mul, Nat.add_mul, Nat.mul_assoc, Nat.add_right_comm, Nat.add_mul_div_left _ _ hP]
 refine ⟨?_, e2.symm⟩
 have hu := up_split N k
 conv => rhs; unfold lmb
 rw [e1, hu]
 simp only [BB]
 omega
theorem cb_end {N G n : Nat} (hG : G < 1000000000) (h : N < BB ^ n) : cb N G n = lmb (N * 1000000000 + G) n ∧ N * 1000000000 + G < BB ^ (n + 1) := by
 have h2 : N * 1000000000 + G < BB ^ (n + 1) := by
  rw [Nat.pow_succ]
  have h3 := Nat.mul_le_mul_right 1000000000 (show N + 1 ≤ BB ^ n from h)
  have h4 : BB ^ n * 1000000000 ≤ BB ^ n * BB := Nat.mul_le_mul_left _ (by decide)
  omega
 refine ⟨?_, h2⟩
 rw [lmb_top h2]
 unfold cb
 rw [Nat.mod_eq_of_lt h]
set_option maxHeartbeats 800000 in
theorem groupBehind_any (a : Option Addr) (n c N G : Nat) (w : World) (ha : Lie .u32 w a n c (lmb N)) (hN : N < BB ^ n) (hG : G < 1000000000) (hn : n ≤ 100000000) :
  Calls Tryz.prog 141 #[.slice a n c, .int .u32 G] w (PPart (N * 1000000000 + G) w) := by
 have hcm := ha.capm
 have hnc := ha.cap
 unfold maxLen at hcm
 have hn4 : 4 * (n + 1) ≤ 281474976710656 := by omega
 have hn6 : n + 1 ≤ 9223372036854775807 := by omega
 have HN := Lib.hid hN
 clear hN
 go_enter Tryz.func141, Tryz.ntmps141
 go_wp2_with (first | (at_make; refine wpList_mk _ rfl (.tmp 11) (.tmp 11) 44 rfl 128 .u32 4 Tryz.u44 Tryz.info128 _ _ (n + 1) rfl rfl (by omega) (by omega) hn4 hn6 ?_; intro g w1 hg hown hb1))
 go_loopw [6, 17] (fun cv iv wr => ∃ k : Nat, k ≤ n ∧ iv = .int .i64 k ∧ cv = .int .u64 (cb N G k) ∧ Own .u32 128 wr g (n + 1) (fun j => if j < k then lmb (N * 1000000000 + G) j else 0) ∧ Below w.heap.size w wr) (fun _ iv _ => n - (intOf iv).toNat)
 case atStart => exact ⟨0, Nat.zero_le _, rfl, by rw [cb_zero], hown.congr (fun j hj => by simp), hb1⟩
 case round =>
  obtain ⟨k, hk, rfl, rfl, hown1, hbl⟩ := hrel
  have hcl := cb_lt (N := N) hG k
  by_cases hlt : k < n
  ·
   obtain ⟨b1, o1, rfl, hb1'⟩ := ha.some_of_pos (by omega)
   have c1 := (ha.below hbl).at k hlt
   have c2 : wr.cell? ⟨g, k, none⟩ = some (.int .u32 (0 : Nat)) := by rw [hown1.cell k (by omega)]; simp
   have c3 := hown1.free k
   have hla := lmb_lt N k
   have HX : Hid (((cb N G k : Int) + (lmb N k : Int) * 1000000000) % 4294967296 = ((lmb (N * 1000000000 + G) k : Nat) : Int) ∧ ((cb N G k : Int) + (lmb N k : Int) * 1000000000) / 4294967296 = ((cb N G (k + 1) : Nat) : Int)) := by
    have := cb_step N G k; show _ ∧ _; omega
   have hbs := hbl.setCell (p := ⟨g, k, none⟩) hg
   clear ha
   go_wp2
   go_roundw
   case rel => exact ⟨k + 1, by omega, by go_num, by rw [HX.out.2], hown1.put (by omega) (by rw [HX.out.1, if_pos (by omega)]) (fun j _ hne => by by_cases h1 : j < k <;> by_cases h2 : j < k + 1 <;> simp [h1, h2] <;> omega), hbs _⟩
   case measure => simp [intOf]; omega
  ·
   obtain rfl : k = n := by omega
   have c2 : wr.cell? ⟨g, k, none⟩ = some (.int .u32 (0 : Nat)) := by rw [hown1.cell k (by omega)]; simp
   have c3 := hown1.free k
   have HE := Lib.hid (cb_end hG HN.out)
   have hbs := hbl.setCell (p := ⟨g, k, none⟩) hg (.int .u32 (cb N G k))
   have hO : Own .u32 128 (wr.setCell ⟨g, k, none⟩ (.int .u32 (cb N G k))) g (k + 1) (lmb (N * 1000000000 + G)) := hown1.put (by omega) (by rw [HE.out.1]) (fun j hj hne => by rw [if_pos (by omega)])
   clear ha
   go_wp2_with fail
   refine (trimmed_any _ _ _ (N * 1000000000 + G) _ (hO.lie (Nat.le_refl _) (by unfold maxLen; omega)) HE.out.2).mono ?_
   rintro e w3 ⟨mm, rfl, hmm, hfit, rfl⟩
   go_wp2
   go_ret
   exact ppart_own hO hg hbs hmm hn6 hfit
/-- How long a text in a slot is. -/
def strLen : Value → Nat
 | .string s => s.size
 | _ => 0
theorem size_list (s : ByteArray) : s.data.toList.length = s.size := by simp
set_option maxHeartbeats 800000 in
theorem readDigits_any (s : ByteArray) (w : World) (hs : s.size ≤ 2000) (hd : s.data.toList.all isDig = true) :
  Calls Tryz.prog 110 #[.string s] w (PPart (dval s.data.toList) w) := by
 have HD := Lib.hid hd
 clear hd
 go_enter Tryz.func110, Tryz.ntmps110
 go_wp2
 go_loopw [0, 3] (fun sv pv wr => ∃ (k : Nat) (sr : ByteArray) (a : Option Addr) (n c : Nat), k ≤ s.size ∧ sv = .string sr ∧ pv = .slice a n c ∧ sr.data.toList = s.data.toList.drop k ∧ (k = 0 ∨ sr.size % 9 = 0) ∧ n ≤ k ∧ Lie .u32 wr a n c (lmb (dval (s.data.toList.take k))) ∧ Fit n (dval (s.data.toList.take k)) ∧ (∀ p, a = some p → w.heap.size ≤ p.block) ∧ Below w.heap.size w wr) (fun sv _ _ => strLen sv)
 case atStart =>
  have e : dval (s.data.toList.take 0) = 0 := by rw [List.take_zero, dval, dvalF_nil]
  refine ⟨0, s, none, 0, 0, Nat.zero_le _, rfl, rfl, rfl, .inl rfl, Nat.le_refl _, ?_, ?_, (fun p hp => by cases hp), Below.refl _ _⟩
  ·
   exact lie_nil _ _ _
  ·
   rw [e]; exact fit_zero
 case round =>
  obtain ⟨k, sr, a, n, c, hk, rfl, rfl, hsr, hk9, hnk, hl, hf, hfr, hbl⟩ := hrel
  have hsz : sr.size = s.size - k := by rw [← size_list, hsr, List.length_drop, size_list]
  have HSR := Lib.hid hsr
  have HF := Lib.hid hf
  have HFR := Lib.hid hfr
  have HK9 := Lib.hid hk9
  have HSZ := Lib.hid hsz
  have hsz2 : sr.size + k ≤ s.size := by omega
  clear hsr hf hfr hk9 hsz
  by_cases hp : 0 < sr.size
  ·
   obtain ⟨m, hm⟩ : ∃ m, m = (sr.size - 1) % 9 + 1 := ⟨_, rfl⟩
   have hm9 : m ≤ 9 := by omega
   have hms : m ≤ sr.size := by omega
   have HG : Hid ((sr.extract 0 m).data.toList = (s.data.toList.drop k).take m ∧ (sr.extract m sr.size).data.toList = s.data.toList.drop (k + m)) := by
    refine ⟨?_, ?_⟩
    ·
     rw [Lib.extract_data, HSR.out, List.drop_zero, Nat.sub_zero]
    ·
     rw [Lib.extract_data, List.take_of_length_le (by rw [List.length_drop, size_list]; omega), HSR.out, List.drop_drop]
   have hgd : (sr.extract 0 m).data.toList.all isDig = true := by
    rw [HG.out.1, List.all_eq_true]; intro c hc
    exact (List.all_eq_true.1 HD.out) c (List.mem_of_mem_drop (List.mem_of_mem_take hc))
   have hgs : (sr.extract 0 m).size ≤ 9 := by rw [← size_list, HG.out.1, List.length_take]; omega
   have hgl : (sr.extract 0 m).data.toList.length = m := by rw [HG.out.1, List.length_take, List.length_drop, size_list]; omega
   have hgv : dval (sr.extract 0 m).data.toList < 1000000000 := Nat.lt_of_lt_of_le (dval_lt _ hgd) (show 10 ^ (sr.extract 0 m).data.toList.length ≤ 10 ^ 9 from Nat.pow_le_pow_right (by decide) (by omega))
   have HV : Hid (dval (s.data.toList.take (k + m)) = dval (s.data.toList.take k) * 1000000000 + dval (sr.extract 0 m).data.toList) := by
    show _ = _
    rw [List.take_add, dval_append, ← HG.out.1, hgl]
    rcases HK9.out with h0 | h9
    ·
     subst h0
     have e : dval (s.data.toList.take 0) = 0 := by rw [List.take_zero, dval, dvalF_nil]
     rw [e, Nat.zero_mul, Nat.zero_mul]
    ·
     rw [show m = 9 from by omega]
   have hsl : (sr.extract m sr.size).size = sr.size - m := by have h := HSZ.out; rw [← size_list, HG.out.2, List.length_drop, size_list]; omega
   have HSL := Lib.hid hsl
   have HGD := Lib.hid hgd
   have hsz' := HSZ.out
   have HM := Lib.hid hm
   have hrel9 : (sr.size - m) % 9 = 0 := by omega
   have H9 := Lib.hid hrel9
   clear hgd hgl hsl hsz' hrel9
   go_wp2_with fail
   rw [← HM.out]
   refine (groupOf_any (sr.extract 0 m) _ hgs HGD.out).mono ?_
   rintro e w2 ⟨rfl, rfl⟩
   obtain ⟨G, hGe⟩ : ∃ G, G = dval (sr.extract 0 m).data.toList := ⟨_, rfl⟩
   rw [← hGe] at hgv ⊢
   have HGE := Lib.hid hGe
   clear hGe
   go_wp2_with fail
   refine (groupBehind_any a n c _ G _ hl HF.out.1 hgv (by omega)).mono ?_
   rintro e w3 ⟨a3, n3, c3, rfl, hl3, hf3, hfr3, hb3⟩
   have hn3 : n3 ≤ k + m := by
    have : n3 ≤ n + 1 := fit_le hf3 (cb_end hgv HF.out.1).2
    omega
   rw [HGE.out, ← HV.out] at hl3 hf3
   have HF3 := Lib.hid hf3
   have HR3 := Lib.hid hfr3
   clear hf3 hfr3 hl
   go_wp2
   rw [← HM.out]
   go_roundw
   case rel =>
    exact ⟨k + m, sr.extract m sr.size, a3, n3, c3, by omega, rfl, rfl, HG.out.2, .inr (by rw [HSL.out]; exact H9.out), hn3, hl3, HF3.out, (fun p hp => Nat.le_trans hbl.size (HR3.out p hp)), hbl.trans (hb3.mono hbl.size)⟩
   case measure =>
    have h1 := HSL.out
    have h2 := HM.out
    simp only [strLen]
    omega
  ·
   have hks : k = s.size := by have h1 := HSZ.out; omega
   have HE : Hid (s.data.toList.take k = s.data.toList) := List.take_of_length_le (by rw [size_list]; omega)
   rw [HE.out] at hl HF
   clear hks
   go_wp2
   go_ret
   exact ⟨a, n, c, rfl, hl, HF.out, HFR.out, hbl⟩
end Go.Proofs.YtolpfibihialkaaGreatDoor
