/- Parts of the proof. -/
import Derived.Test.YtpahkpcoinbgcaaGreatDoorGf2
import Derived.Test.YtpahkpcoinbgcaaGreatDoorGf1
import Derived.Test.YtpahkpcoinbgcaaGreatDoorShelf
import Derived.Lib.ItoaNum
/- The walks of groupBehind, readDigits. -/
namespace Go.Proofs.YtpahkpcoinbgcaaGreatDoor
open Go.RowKit
/-- What is carried when a group is put behind a number. -/
def cb (N G k : Nat) : Nat := (N % BB ^ k * 1000000000 + G) / BB ^ k
theorem cb_zero (N G : Nat) : cb N G 0 = G := by simp [cb, Nat.mod_one]
theorem cb_lt {N G : Nat} (hG : G < 1000000000) (k : Nat) : cb N G k < 1000000000 := by
 unfold cb
 refine Nat.div_lt_of_lt_mul ?_
 have h := Nat.mul_le_mul_right 1000000000 (show N % BB ^ k + 1 ≤ BB ^ k from Nat.mod_lt _ (BBp k))
 omega
theorem cb_step (N G k : Nat) : (cb N G k + lmb N k * 1000000000) % 4294967296 = lmb (N * 1000000000 + G) k ∧ (cb N G k + lmb N k * 1000000000) / 4294967296 = cb N G (k + 1) := by
 have hP := BBp k
 have e1 : (N * 1000000000 + G) / BB ^ k = N / BB ^ k * 1000000000 + cb N G k := by
  have hd := Nat.div_add_mod N (BB ^ k)
  unfold cb
  conv => lhs; rw [← hd]
  rw [Nat.add_mul, Nat.mul_assoc, Nat.add_assoc, Nat.mul_add_div hP]
 have e2 : cb N G (k + 1) = (cb N G k + lmb N k * 1000000000) / BB := by
  unfold cb
  rw [mod_succ, Nat.pow_succ, ← Nat.div_div_eq_div_mul, Nat.add_mul, Nat.mul_assoc, Nat.add_right_comm, Nat.add_mul_div_left _ _ hP]
 refine ⟨?_, e2.symm⟩
 have hu := up_split N k
 conv => rhs; unfold lmb
 rw [e1, hu]
 simp only [BB]
 omega
theorem cb_end {N G n : Nat} (hG : G < 1000000000) (h : N < BB ^ n) : cb N G n = lmb (N * 1000000000 + G) n ∧ N * 1000000000 + G < BB ^ (n + 1) := by
 have h2 : N * 1000000000 + G < BB ^ (n + 1) := by
  rw [Nat.pow_succ]
  have h3 := Nat.mul_le_mul_right 1000000000 (show N + 1 ≤ BB ^ n from h)
  have h4 : BB ^ n * 1000000000 ≤ BB ^ n * BB := Nat.mul_le_mul_left _ (by decide)
  omega
 refine ⟨?_, h2⟩
 rw [lmb_top h2]
 unfold cb
 rw [Nat.mod_eq_of_lt h]
set_option maxHeartbeats 800000 in
theorem groupBehind_any (a : Option Addr) (n c N G : Nat) (w : World) (ha : Lie .u32 w a n c (lmb N)) (hN : N < BB ^ n) (hG : G < 1000000000) (hn : n ≤ 100000000) :
  Calls Tryz.prog 101 #[.slice a n c, .int .u32 G] w (PPart (N * 1000000000 + G) w) := by
 have hcm := ha.capm
 have hnc := ha.cap
 unfold maxLen at hcm
 have hn4 : 4 * (n + 1) ≤ 281474976710656 := by omega
 have hn6 : n + 1 ≤ 9223372036854775807 := by omega
 have HN := Lib.hid hN
 clear hN
 go_enter Tryz.func101, Tryz.ntmps101
 go_wp2_with (first | (at_make; refine wpList_mk _ rfl (.tmp 11) (.tmp 11) 51 rfl 77 .u32 4 Tryz.u51 Tryz.info77 _ _ (n + 1) rfl rfl (by omega) (by omega) hn4 hn6 ?_; intro g w1 hg hown hb1))
 go_loopw [6, 17] (fun cv iv wr => ∃ k : Nat, k ≤ n ∧ iv = .int .i64 k ∧ cv = .int .u64 (cb N G k) ∧ Own .u32 77 wr g (n + 1) (fun j => if j < k then lmb (N * 1000000000 + G) j else 0) ∧ Below w.heap.size w wr) (fun _ iv _ => n - (intOf iv).toNat)
 case atStart => exact ⟨0, Nat.zero_le _, rfl, by rw [cb_zero], hown.congr (fun j hj => by simp), hb1⟩
 case round =>
  obtain ⟨k, hk, rfl, rfl, hown1, hbl⟩ := hrel
  have hcl := cb_lt (N := N) hG k
  by_cases hlt : k < n
  ·
   obtain ⟨b1, o1, rfl, hb1'⟩ := ha.some_of_pos (by omega)
   have c1 := (ha.below hbl).at k hlt
   have c2 : wr.cell? ⟨g, k, none⟩ = some (.int .u32 (0 : Nat)) := by rw [hown1.cell k (by omega)]; simp
   have c3 := hown1.free k
   have hla := lmb_lt N k
   have HX : Hid (((cb N G k : Int) + (lmb N k : Int) * 1000000000) % 4294967296 = ((lmb (N * 1000000000 + G) k : Nat) : Int) ∧ ((cb N G k : Int) + (lmb N k : Int) * 1000000000) / 4294967296 = ((cb N G (k + 1) : Nat) : Int)) := by
    have := cb_step N G k; show _ ∧ _; omega
   have hbs := hbl.setCell (p := ⟨g, k, none⟩) hg
   clear ha
   go_wp2
   go_roundw
   case rel => exact ⟨k + 1, by omega, by go_num, by rw [HX.out.2], hown1.put (by omega) (by rw [HX.out.1, if_pos (by omega)]) (fun j _ hne => by by_cases h1 : j < k <;> by_cases h2 : j < k + 1 <;> simp [h1, h2] <;> omega), hbs _⟩
   case measure => simp [intOf]; omega
  ·
   obtain rfl : k = n := by omega
   have c2 : wr.cell? ⟨g, k, none⟩ = some (.int .u32 (0 : Nat)) := by rw [hown1.cell k (by omega)]; simp
   have c3 := hown1.free k
   have HE := Lib.hid (cb_end hG HN.out)
   have hbs := hbl.setCell (p := ⟨g, k, none⟩) hg (.int .u32 (cb N G k))
   have hO : Own .u32 77 (wr.setCell ⟨g, k, none⟩ (.int .u32 (cb N G k))) g (k + 1) (lmb (N * 1000000000 + G)) := hown1.put (by omega) (by rw [HE.out.1]) (fun j hj hne => by rw [if_pos (by omega)])
   clear ha
   go_wp2_with fail
   refine (trimmed_any _ _ _ (N * 1000000000 + G) _ (hO.lie (Nat.le_refl _) (by unfold maxLen; omega)) HE.out.2).mono ?_
   rintro e w3 ⟨mm, rfl, hmm, hfit, rfl⟩
   go_wp2
   go_ret
   exact ppart_own hO hg hbs hmm hn6 hfit
/-- How long a text in a slot is. -/
def strLen : Value → Nat
 | .string s => s.size
 | _ => 0
theorem size_list (s : ByteArray) : s.data.toList.length = s.size := by simp
set_option maxHeartbeats 800000 in
theorem readDigits_any (s : ByteArray) (w : World) (hs : s.size ≤ 2000) (hd : s.data.toList.all isDig = true) :
  Calls Tryz.prog 74 #[.string s] w (PPart (dval s.data.toList) w) := by
 have HD := Lib.hid hd
 clear hd
 go_enter Tryz.func74, Tryz.ntmps74
 go_wp2
 go_loopw [0, 3] (fun sv pv wr => ∃ (k : Nat) (sr : ByteArray) (a : Option Addr) (n c : Nat), k ≤ s.size ∧ sv = .string sr ∧ pv = .slice a n c ∧ sr.data.toList = s.data.toList.drop k ∧ (k = 0 ∨ sr.size % 9 = 0) ∧ n ≤ k ∧ Lie .u32 wr a n c (lmb (dval (s.data.toList.take k))) ∧ Fit n (dval (s.data.toList.take k)) ∧ (∀ p, a = some p → w.heap.size ≤ p.block) ∧ Below w.heap.size w wr) (fun sv _ _ => strLen sv)
 case atStart =>
  have e : dval (s.data.toList.take 0) = 0 := by rw [List.take_zero, dval, dvalF_nil]
  refine ⟨0, s, none, 0, 0, Nat.zero_le _, rfl, rfl, rfl, .inl rfl, Nat.le_refl _, ?_, ?_, (fun p hp => by cases hp), Below.refl _ _⟩
  ·
   exact lie_nil _ _ _
  ·
   rw [e]; exact fit_zero
 case round =>
  obtain ⟨k, sr, a, n, c, hk, rfl, rfl, hsr, hk9, hnk, hl, hf, hfr, hbl⟩ := hrel
  have hsz : sr.size = s.size - k := by rw [← size_list, hsr, List.length_drop, size_list]
  have HSR := Lib.hid hsr
  have HF := Lib.hid hf
  have HFR := Lib.hid hfr
  have HK9 := Lib.hid hk9
  have HSZ := Lib.hid hsz
  have hsz2 : sr.size + k ≤ s.size := by omega
  clear hsr hf hfr hk9 hsz
  by_cases hp : 0 < sr.size
  ·
   obtain ⟨m, hm⟩ : ∃ m, m = (sr.size - 1) % 9 + 1 := ⟨_, rfl⟩
   have hm9 : m ≤ 9 := by omega
   have hms : m ≤ sr.size := by omega
   have HG : Hid ((sr.extract 0 m).data.toList = (s.data.toList.drop k).take m ∧ (sr.extract m sr.size).data.toList = s.data.toList.drop (k + m)) := by
    refine ⟨?_, ?_⟩
    ·
     rw [Lib.extract_data, HSR.out, List.drop_zero, Nat.sub_zero]
    ·
     rw [Lib.extract_data, List.take_of_length_le (by rw [List.length_drop, size_list]; omega), HSR.out, List.drop_drop]
   have hgd : (sr.extract 0 m).data.toList.all isDig = true := by
    rw [HG.out.1, List.all_eq_true]; intro c hc
    exact (List.all_eq_true.1 HD.out) c (List.mem_of_mem_drop (List.mem_of_mem_take hc))
   have hgs : (sr.extract 0 m).size ≤ 9 := by rw [← size_list, HG.out.1, List.length_take]; omega
   have hgl : (sr.extract 0 m).data.toList.length = m := by rw [HG.out.1, List.length_take, List.length_drop, size_list]; omega
   have hgv : dval (sr.extract 0 m).data.toList < 1000000000 := Nat.lt_of_lt_of_le (dval_lt _ hgd) (show 10 ^ (sr.extract 0 m).data.toList.length ≤ 10 ^ 9 from Nat.pow_le_pow_right (by decide) (by omega))
   have HV : Hid (dval (s.data.toList.take (k + m)) = dval (s.data.toList.take k) * 1000000000 + dval (sr.extract 0 m).data.toList) := by
    show _ = _
    rw [List.take_add, dval_append, ← HG.out.1, hgl]
    rcases HK9.out with h0 | h9
    ·
     subst h0
     have e : dval (s.data.toList.take 0) = 0 := by rw [List.take_zero, dval, dvalF_nil]
     rw [e, Nat.zero_mul, Nat.zero_mul]
    ·
     rw [show m = 9 from by omega]
   have hsl : (sr.extract m sr.size).size = sr.size - m := by have h := HSZ.out; rw [← size_list, HG.out.2, List.length_drop, size_list]; omega
   have HSL := Lib.hid hsl
   have HGD := Lib.hid hgd
   have hsz' := HSZ.out
   have HM := Lib.hid hm
   have hrel9 : (sr.size - m) % 9 = 0 := by omega
   have H9 := Lib.hid hrel9
   clear hgd hgl hsl hsz' hrel9
   go_wp2_with fail
   rw [← HM.out]
   refine (groupOf_any (sr.extract 0 m) _ hgs HGD.out).mono ?_
   rintro e w2 ⟨rfl, rfl⟩
   obtain ⟨G, hGe⟩ : ∃ G, G = dval (sr.extract 0 m).data.toList := ⟨_, rfl⟩
   rw [← hGe] at hgv ⊢
   have HGE := Lib.hid hGe
   clear hGe
   go_wp2_with fail
   refine (groupBehind_any a n c _ G _ hl HF.out.1 hgv (by omega)).mono ?_
   rintro e w3 ⟨a3, n3, c3, rfl, hl3, hf3, hfr3, hb3⟩
   have hn3 : n3 ≤ k + m := by
    have : n3 ≤ n + 1 := fit_le hf3 (cb_end hgv HF.out.1).2
    omega
   rw [HGE.out, ← HV.out] at hl3 hf3
   have HF3 := Lib.hid hf3
   have HR3 := Lib.hid hfr3
   clear hf3 hfr3 hl
   go_wp2
   rw [← HM.out]
   go_roundw
   case rel =>
    exact ⟨k + m, sr.extract m sr.size, a3, n3, c3, by omega, rfl, rfl, HG.out.2, .inr (by rw [HSL.out]; exact H9.out), hn3, hl3, HF3.out, (fun p hp => Nat.le_trans hbl.size (HR3.out p hp)), hbl.trans (hb3.mono hbl.size)⟩
   case measure =>
    have h1 := HSL.out
    have h2 := HM.out
    simp only [strLen]
    omega
  ·
   have hks : k = s.size := by have h1 := HSZ.out; omega
   have HE : Hid (s.data.toList.take k = s.data.toList) := List.take_of_length_le (by rw [size_list]; omega)
   rw [HE.out] at hl HF
   clear hks
   go_wp2
   go_ret
   exact ⟨a, n, c, rfl, hl, HF.out, HFR.out, hbl⟩
end Go.Proofs.YtpahkpcoinbgcaaGreatDoor

/- The walks of compare, sum, difference, product. -/
namespace Go.Proofs.YtpahkpcoinbgcaaGreatDoor
open Go.RowKit
set_option maxHeartbeats 800000 in
theorem compare_any (a b : Option Addr) (n c m d A B : Nat) (w : World) (ha : Lie .u32 w a n c (lmb A)) (hb : Lie .u32 w b m d (lmb B)) (fa : Fit n A) (fb : Fit m B) :
  Calls Tryz.prog 69 #[.slice a n c, .slice b m d] w (PVal (.int .i64 (cmpN A B)) w) := by
 have hcm := ha.capm
 have hnc := ha.cap
 have hdm := hb.capm
 have hmd := hb.cap
 unfold maxLen at hcm hdm
 rcases Nat.lt_trichotomy n m with hlt | heq | hgt
 ·
  have hR := Lib.hid (cmp_len_lt fa fb hlt)
  clear fa fb ha hb
  go_enter Tryz.func69, Tryz.ntmps69
  go_wp2
  go_ret
  exact ⟨ret_int hR.out.symm, Below.refl _ _⟩
 ·
  subst heq
  go_enter Tryz.func69, Tryz.ntmps69
  have HA := Lib.hid fa
  have HB := Lib.hid fb
  clear fa fb
  go_wp2
  go_loopw [5] (fun i wr => ∃ k : Nat, k ≤ n ∧ i = .int .i64 ((k : Int) - 1) ∧ A / BB ^ k = B / BB ^ k ∧ Below w.heap.size w wr) (fun i _ => (intOf i + 1).toNat)
  case atStart => exact ⟨n, Nat.le_refl _, rfl, by rw [Nat.div_eq_of_lt HA.out.1, Nat.div_eq_of_lt HB.out.1], Below.refl _ _⟩
  case round =>
   obtain ⟨k, hk, rfl, hup, hbl⟩ := hrel
   have HU := Lib.hid hup
   clear hup
   by_cases hp : 0 < k
   ·
    obtain ⟨j, rfl⟩ : ∃ j, k = j + 1 := ⟨k - 1, by omega⟩
    obtain ⟨b1, o1, rfl, hb1⟩ := ha.some_of_pos (by omega)
    obtain ⟨b2, o2, rfl, hb2⟩ := hb.some_of_pos (by omega)
    have c1 := (ha.below hbl).at j (by omega)
    have c2 := (hb.below hbl).at j (by omega)
    rcases Nat.lt_trichotomy (lmb A j) (lmb B j) with hlt | heq | hgt
    ·
     have hR := Lib.hid ((cmp_up HU.out).1 hlt)
     clear ha hb
     go_wp2
     go_quiet (fail)
     go_wp2
     go_ret
     exact ⟨ret_int hR.out.symm, below_drewN hbl _⟩
    ·
     have hR := Lib.hid ((cmp_up HU.out).2.2 heq)
     have h1 : ¬ lmb A j < lmb B j := by omega
     have h2 : ¬ lmb B j < lmb A j := by omega
     have HE := Lib.hid heq
     clear ha hb heq
     go_wp2
     go_quiet (fail)
     go_wp2
     go_quiet (fail)
     go_wp2
     go_roundw
     case rel => exact ⟨j, by omega, by go_num, hR.out, below_drewN hbl _⟩
     case measure => simp [intOf]
    ·
     have hR := Lib.hid ((cmp_up HU.out).2.1 hgt)
     have h1 : ¬ lmb A j < lmb B j := by omega
     clear ha hb
     go_wp2
     go_quiet (fail)
     go_wp2
     go_quiet (fail)
     go_wp2
     go_ret
     exact ⟨ret_int hR.out.symm, below_drewN (below_drewN hbl _) _⟩
   ·
    obtain rfl : k = 0 := by omega
    have hR := Lib.hid (cmp_all HU.out)
    clear ha hb
    go_wp2
    go_ret
    exact ⟨ret_int hR.out.symm, hbl⟩
 ·
  have hR := Lib.hid (cmp_len_gt fa fb hgt)
  clear fa fb ha hb
  go_enter Tryz.func69, Tryz.ntmps69
  go_wp2
  go_ret
  exact ⟨ret_int hR.out.symm, Below.refl _ _⟩
def sumF (A B n i : Nat) (j : Nat) : Nat := if j < i then lmb (A + B) j else if j < n then lmb A j else 0
set_option maxHeartbeats 800000 in
theorem sum_core (sw : Bool) (a b : Option Addr) (n c m d A B : Nat) (w : World) (ha : Lie .u32 w a n c (lmb A)) (hb : Lie .u32 w b m d (lmb B)) (fa : Fit n A) (fb : Fit m B) (hmn : m ≤ n) (hsw : sw = true → m < n) (hn : n ≤ 1000000000) :
  Calls Tryz.prog 68 (if sw then #[.slice b m d, .slice a n c] else #[.slice a n c, .slice b m d]) w (PPart (A + B) w) := by
 have hcm := ha.capm
 have hnc := ha.cap
 have hdm := hb.capm
 have hmd := hb.cap
 unfold maxLen at hcm hdm
 have hn4 : 4 * (n + 1) ≤ 281474976710656 := by omega
 have hn6 : n + 1 ≤ 9223372036854775807 := by omega
 have HA := Lib.hid fa
 have HB := Lib.hid fb
 clear fa fb
 cases sw
 all_goals
  simp only [if_true, if_false, Bool.false_eq_true]
  try (have hsw' := hsw rfl)
  clear hsw
  go_enter Tryz.func68, Tryz.ntmps68
  go_wp2_with (first | (at_make; refine wpList_mk _ rfl (.tmp 17) (.tmp 17) 51 rfl 77 .u32 4 Tryz.u51 Tryz.info77 _ _ (n + 1) rfl rfl (by omega) (by omega) hn4 hn6 ?_; intro g w1 hg hown hb1; have hl1 := ha.below hb1) | (with_reducible refine wpList_cp rfl (.tmp 19) (.tmp 20) 51 rfl 77 Tryz.u51 Tryz.size77 g (n + 1) (n + 1) .u32 _ (lmb A) a n c rfl rfl hown hl1 (by omega) ?_; intro w2 hown2 ho2))
  have hbw := hb1.trans (ho2.below hg)
  have hB2 := hb.below hbw
  have hb0 := hb
  clear hl1 hown ha hb
  go_loopw [6, 24] (fun cv i wr => ∃ k : Nat, k ≤ n ∧ i = .int .i64 k ∧ cv = .int .u64 (cy A B k) ∧ Own .u32 77 wr g (n + 1) (sumF A B n k) ∧ Below w.heap.size w wr) (fun _ i _ => n - (intOf i).toNat)
  case atStart => exact ⟨0, Nat.zero_le _, rfl, by rw [cy_zero]; rfl, hown2.congr (fun j hj => by simp [sumF]), hbw⟩
  case round =>
   obtain ⟨k, hk, rfl, rfl, hown, hbl⟩ := hrel
   have hcb := cy_le A B k
   have hst := Lib.hid (cy_step A B k)
   have hla := lmb_lt A k
   have hlb := lmb_lt B k
   by_cases hlt : k < n
   ·
    have c1 : wr.cell? ⟨g, k, none⟩ = some (.int .u32 (lmb A k)) := by rw [hown.cell k (by omega)]; simp [sumF, hlt]
    have c2 := hown.free k
    have hbs := hbl.setCell (p := ⟨g, k, none⟩) hg
    by_cases hm : k < m
    ·
     obtain ⟨b2, o2, rfl, hb2⟩ := hB2.some_of_pos (by omega)
     have c3 := (hb0.below hbl).at k hm
     have HX : Hid (((cy A B k : Int) + (lmb A k : Int) + (lmb B k : Int)) % 4294967296 = ((lmb (A + B) k : Nat) : Int) ∧ ((cy A B k : Int) + (lmb A k : Int) + (lmb B k : Int)) / 4294967296 = ((cy A B (k + 1) : Nat) : Int)) := by
      have := hst.out; show _ ∧ _; omega
     clear hst hB2
     go_wp2
     go_roundw
     case rel => exact ⟨k + 1, by omega, by go_num, by rw [HX.out.2], hown.put (by omega) (by rw [HX.out.1]; simp [sumF]) (fun j hj hne => by unfold sumF; by_cases h1 : j < k <;> by_cases h2 : j < k + 1 <;> simp [h1, h2] <;> omega), hbs _⟩
     case measure => simp [intOf]; omega
    ·
     have HX : Hid (((cy A B k : Int) + (lmb A k : Int)) % 4294967296 = ((lmb (A + B) k : Nat) : Int) ∧ ((cy A B k : Int) + (lmb A k : Int)) / 4294967296 = ((cy A B (k + 1) : Nat) : Int)) := by
      have := hst.out; have h0 := lmb_zero HB.out.1 (i := k) (by omega); rw [h0] at this; show _ ∧ _; omega
     clear hst hB2
     go_wp2
     go_roundw
     case rel => exact ⟨k + 1, by omega, by go_num, by rw [HX.out.2], hown.put (by omega) (by rw [HX.out.1]; simp [sumF]) (fun j hj hne => by unfold sumF; by_cases h1 : j < k <;> by_cases h2 : j < k + 1 <;> simp [h1, h2] <;> omega), hbs _⟩
     case measure => simp [intOf]; omega
   ·
    obtain rfl : k = n := by omega
    have c1 : wr.cell? ⟨g, k, none⟩ = some (.int .u32 (0 : Nat)) := by rw [hown.cell k (by omega)]; simp [sumF]
    have c2 := hown.free k
    have hE := Lib.hid (cy_end HA.out.1 (fit_mono HB.out.1 hmn))
    clear hst
    go_wp2_with fail
    have hO : Own .u32 77 (wr.setCell ⟨g, k, none⟩ (.int .u32 (cy A B k))) g (k + 1) (lmb (A + B)) := hown.put (by omega) (by rw [hE.out.1]) (fun j hj hne => by rw [sumF, if_pos (by omega)])
    refine (trimmed_any _ _ _ (A + B) _ (hO.lie (Nat.le_refl _) (by unfold maxLen; omega)) hE.out.2).mono ?_
    rintro e w3 ⟨mm, rfl, hmm, hfit, rfl⟩
    have hbs := hbl.setCell (p := ⟨g, k, none⟩) hg (.int .u32 (cy A B k))
    go_wp2
    go_ret
    exact ppart_own hO hg hbs hmm hn6 hfit
theorem sum_any (a b : Option Addr) (n c m d A B : Nat) (w : World) (ha : Lie .u32 w a n c (lmb A)) (hb : Lie .u32 w b m d (lmb B)) (fa : Fit n A) (fb : Fit m B) (hn : n ≤ 1000000000) (hm : m ≤ 1000000000) :
  Calls Tryz.prog 68 #[.slice a n c, .slice b m d] w (PPart (A + B) w) := by
 by_cases h : n < m
 ·
  have := sum_core true b a m d n c B A w hb ha fb fa (by omega) (fun _ => h) hm
  rw [Nat.add_comm]
  simpa using this
 ·
  simpa using sum_core false a b n c m d A B w ha hb fa fb (by omega) (fun h => by cases h) hn
end Go.Proofs.YtpahkpcoinbgcaaGreatDoor

/- The walks of raised and lowered. -/
namespace Go.Proofs.YtpahkpcoinbgcaaGreatDoor
open Go.RowKit
/-- What is carried when a number is raised by s binary digits. -/
def rc (N s k : Nat) : Nat := N % BB ^ k * 2 ^ s / BB ^ k
theorem rc_zero (N s : Nat) : rc N s 0 = 0 := by simp [rc, Nat.mod_one]
theorem rc_lt (N s k : Nat) : rc N s k < 2 ^ s := by
 unfold rc
 refine Nat.div_lt_of_lt_mul ?_
 exact (Nat.mul_lt_mul_right (Nat.pow_pos (by decide))).2 (Nat.mod_lt _ (BBp k))
theorem pow_split {s : Nat} (hs : s < 32) : 2 ^ s * 2 ^ (32 - s) = 4294967296 := by
 rw [← Nat.pow_add, show s + (32 - s) = 32 from by omega]
theorem raise_parts {s : Nat} (hs : s < 32) (a c : Nat) (hc : c < 2 ^ s) :
  a * 2 ^ s % 4294967296 = 2 ^ s * (a % 2 ^ (32 - s)) ∧ (a * 2 ^ s + c) / 4294967296 = a / 2 ^ (32 - s) ∧ (a * 2 ^ s + c) % 4294967296 = 2 ^ s * (a % 2 ^ (32 - s)) + c ∧ 2 ^ s * (a % 2 ^ (32 - s)) + c < 4294967296 := by
 have hp := pow_split hs
 have hU : 0 < 2 ^ (32 - s) := Nat.pow_pos (by decide)
 have hd := Nat.div_add_mod a (2 ^ (32 - s))
 have hl := Nat.mod_lt a hU
 generalize (2 : Nat) ^ s = T at *
 generalize (2 : Nat) ^ (32 - s) = U at *
 generalize a % U = l at *
 generalize a / U = h at *
 have e1 : a * T = 4294967296 * h + T * l := by
  rw [← hd, ← hp, Nat.add_mul, Nat.mul_comm (U * h), Nat.mul_assoc, Nat.mul_comm l]
 have e2 : T * (l + 1) ≤ T * U := Nat.mul_le_mul_left _ hl
 rw [Nat.mul_add, hp] at e2
 omega
theorem rc_step {s : Nat} (hs : s < 32) (N k : Nat) : rc N s (k + 1) = lmb N k / 2 ^ (32 - s) ∧ lmb (N * 2 ^ s) k = 2 ^ s * (lmb N k % 2 ^ (32 - s)) + rc N s k := by
 obtain ⟨-, h2, h3, -⟩ := raise_parts hs (lmb N k) (rc N s k) (rc_lt N s k)
 constructor
 ·
  rw [← h2]
  unfold rc
  rw [mod_succ, Nat.pow_succ, ← Nat.div_div_eq_div_mul, Nat.add_mul, Nat.mul_assoc, Nat.add_mul_div_left _ _ (BBp k), Nat.add_comm]; rfl
 ·
  rw [← h3]
  have e : N * 2 ^ s / BB ^ k = N / BB ^ k * 2 ^ s + rc N s k := by
   have hd := Nat.div_add_mod N (BB ^ k)
   conv => lhs; rw [← hd]
   rw [Nat.add_mul, Nat.mul_assoc, Nat.add_comm, Nat.add_mul_div_left _ _ (BBp k), Nat.add_comm]; rfl
  have e2 : lmb (N * 2 ^ s) k = (N / BB ^ k * 2 ^ s + rc N s k) % 4294967296 := by rw [← e]; rfl
  rw [e2]
  have hu := up_split N k
  rw [hu, Nat.add_mul]
  show (_ + 4294967296 * _ * _ + _) % _ = _
  rw [Nat.mul_assoc]
  omega
theorem raise_or {s : Nat} (hs : s < 32) (N k : Nat) : bits .or .u32 ((lmb N k : Int) * 2 ^ s % 4294967296) (rc N s k : Int) = ((lmb (N * 2 ^ s) k : Nat) : Int) := by
 obtain ⟨h1, -, -, h4⟩ := raise_parts hs (lmb N k) (rc N s k) (rc_lt N s k)
 have e : (lmb N k : Int) * 2 ^ s % 4294967296 = ((2 ^ s * (lmb N k % 2 ^ (32 - s)) : Nat) : Int) := by
  rw [← h1, Int.natCast_emod, Int.natCast_mul, Int.natCast_pow]; rfl
 rw [e, u32_or_nat _ _ (by omega) (by omega), (rc_step hs N k).2, ← Nat.two_pow_add_eq_or_of_lt (rc_lt N s k)]
theorem raise_shr {s : Nat} (hs : s < 32) (N k : Nat) : (lmb N k : Int) / 2 ^ (32 - s) = ((rc N s (k + 1) : Nat) : Int) := by
 rw [(rc_step hs N k).1, Int.natCast_ediv, Int.natCast_pow]; rfl
theorem rc_end {N s n : Nat} (hs : s < 32) (h : N < BB ^ n) : rc N s n = lmb (N * 2 ^ s) n ∧ N * 2 ^ s < BB ^ (n + 1) := by
 have h1 : (2 : Nat) ^ s < BB := Nat.pow_lt_pow_right (by decide) hs
 have h2 : N * 2 ^ s < BB ^ (n + 1) := by
  rw [Nat.pow_succ]; exact Nat.mul_lt_mul'' h h1
 refine ⟨?_, h2⟩
 rw [lmb_top h2]
 unfold rc
 rw [Nat.mod_eq_of_lt h]
set_option maxHeartbeats 1600000 in
theorem raised_any (a : Option Addr) (n c N s : Nat) (w : World) (ha : Lie .u32 w a n c (lmb N)) (hN : N < BB ^ n) (hs : s < 32) (hn : n ≤ 1000000000) :
  Calls Tryz.prog 93 #[.slice a n c, .int .i64 s] w (PNew .u32 77 (n + 1) (lmb (N * 2 ^ s)) w) := by
 have hcm := ha.capm
 have hnc := ha.cap
 unfold maxLen at hcm
 have hn4 : 4 * (n + 1) ≤ 281474976710656 := by omega
 have hn6 : n + 1 ≤ 9223372036854775807 := by omega
 have HN := Lib.hid hN
 clear hN
 go_enter Tryz.func93, Tryz.ntmps93
 go_wp2_with (first | (at_make; refine wpList_mk _ rfl (.tmp 11) (.tmp 11) 51 rfl 77 .u32 4 Tryz.u51 Tryz.info77 _ _ (n + 1) rfl rfl (by omega) (by omega) hn4 hn6 ?_; intro g w1 hg hown hb1))
 go_loopw [6, 15] (fun cv iv wr => ∃ k : Nat, k ≤ n ∧ iv = .int .i64 k ∧ cv = .int .u32 (rc N s k) ∧ Own .u32 77 wr g (n + 1) (fun j => if j < k then lmb (N * 2 ^ s) j else 0) ∧ Below w.heap.size w wr) (fun _ iv _ => n - (intOf iv).toNat)
 case atStart => exact ⟨0, Nat.zero_le _, rfl, by rw [rc_zero]; rfl, hown.congr (fun j hj => by simp), hb1⟩
 case round =>
  obtain ⟨k, hk, rfl, rfl, hown1, hbl⟩ := hrel
  by_cases hlt : k < n
  ·
   obtain ⟨b1, o1, rfl, hb1'⟩ := ha.some_of_pos (by omega)
   have c1 := (ha.below hbl).at k hlt
   have c2 : wr.cell? ⟨g, k, none⟩ = some (.int .u32 (0 : Nat)) := by rw [hown1.cell k (by omega)]; simp
   have c3 := hown1.free k
   have hla := lmb_lt N k
   have HX := Lib.hid (raise_or hs N k)
   have HY := Lib.hid (raise_shr hs N k)
   have hbs := hbl.setCell (p := ⟨g, k, none⟩) hg
   clear ha
   go_wp2
   go_roundw
   case rel => exact ⟨k + 1, by omega, by go_num, by rw [HY.out], hown1.put (by omega) (by rw [HX.out, if_pos (by omega)]) (fun j _ hne => by by_cases h1 : j < k <;> by_cases h2 : j < k + 1 <;> simp [h1, h2] <;> omega), hbs _⟩
   case measure => simp [intOf]; omega
  ·
   obtain rfl : k = n := by omega
   have c2 : wr.cell? ⟨g, k, none⟩ = some (.int .u32 (0 : Nat)) := by rw [hown1.cell k (by omega)]; simp
   have c3 := hown1.free k
   have HE := Lib.hid (rc_end hs HN.out)
   have hbs := hbl.setCell (p := ⟨g, k, none⟩) hg
   clear ha
   go_wp2
   go_ret
   exact ⟨g, rfl, hg, hown1.put (by omega) (by rw [HE.out.1]) (fun j hj hne => by rw [if_pos (by omega)]), hbs _⟩
def lowF (N s i : Nat) (j : Nat) : Nat := if j < i then lmb (N / 2 ^ s) j else lmb N j
theorem low_mul {s : Nat} (hs : s < 32) (b : Nat) : b * 2 ^ (32 - s) % 4294967296 = 2 ^ (32 - s) * (b % 2 ^ s) := by
 have hp := pow_split hs
 have hd := Nat.div_add_mod b (2 ^ s)
 have hl := Nat.mod_lt b (Nat.pow_pos (n := s) (show 0 < 2 by decide))
 generalize (2 : Nat) ^ s = T at *
 generalize (2 : Nat) ^ (32 - s) = U at *
 generalize b % T = l at *
 generalize b / T = h at *
 have e1 : b * U = 4294967296 * h + U * l := by
  rw [← hd, ← hp, Nat.add_mul, Nat.mul_comm (T * h), Nat.mul_comm l, ← Nat.mul_assoc, Nat.mul_comm U T]
 have e2 : U * (l + 1) ≤ U * T := Nat.mul_le_mul_left _ hl
 rw [Nat.mul_add, Nat.mul_comm U T, hp] at e2
 have : 0 < U := Nat.pos_of_ne_zero fun h => by subst h; simp at hp
 omega
theorem low_part {s : Nat} (hs : s < 32) (N k : Nat) : lmb (N / 2 ^ s) k = 2 ^ (32 - s) * (lmb N (k + 1) % 2 ^ s) + lmb N k / 2 ^ s := by
 have hp := pow_split hs
 have h1 := low_mul hs (lmb N (k + 1))
 have hlo : lmb N k / 2 ^ s < 2 ^ (32 - s) := Nat.div_lt_of_lt_mul (by rw [hp]; exact lmb_lt N k)
 have e0 : lmb (N / 2 ^ s) k = N / BB ^ k / 2 ^ s % 4294967296 := by
  unfold lmb; rw [Nat.div_div_eq_div_mul, Nat.mul_comm, ← Nat.div_div_eq_div_mul]; rfl
 have hU : 2 ^ (32 - s) * (lmb N (k + 1) % 2 ^ s) + 2 ^ (32 - s) ≤ 4294967296 := by
  have hl := Nat.mod_lt (lmb N (k + 1)) (Nat.pow_pos (n := s) (show 0 < 2 by decide))
  have e2 : 2 ^ (32 - s) * (lmb N (k + 1) % 2 ^ s + 1) ≤ 2 ^ (32 - s) * 2 ^ s := Nat.mul_le_mul_left _ hl
  rw [Nat.mul_comm (2 ^ (32 - s)) (2 ^ s), hp, Nat.mul_add] at e2
  omega
 rw [e0, up_split N k, up_split N (k + 1)]
 show (_ + 4294967296 * (_ + 4294967296 * _)) / _ % _ = _
 generalize N / BB ^ (k + 1 + 1) = Q
 rw [← hp, Nat.mul_assoc, Nat.add_mul_div_left _ _ (Nat.pow_pos (by decide)), hp]
 have e3 : 2 ^ (32 - s) * (lmb N (k + 1) + 4294967296 * Q) = lmb N (k + 1) * 2 ^ (32 - s) + 4294967296 * (2 ^ (32 - s) * Q) := by
  rw [Nat.mul_add, Nat.mul_comm _ (lmb N (k + 1)), Nat.mul_left_comm]
 rw [e3]
 clear e3 e0 hp hs
 generalize lmb N (k + 1) * 2 ^ (32 - s) = X at *
 generalize 2 ^ (32 - s) * Q = Y at *
 generalize 2 ^ (32 - s) * (lmb N (k + 1) % 2 ^ s) = R at *
 generalize lmb N k / 2 ^ s = l at *
 generalize (2 : Nat) ^ (32 - s) = U at *
 omega
theorem low_or {s : Nat} (hs : s < 32) (N k : Nat) : bits .or .u32 ((lmb N k : Int) / 2 ^ s) ((lmb N (k + 1) : Int) * 2 ^ (32 - s) % 4294967296) = ((lmb (N / 2 ^ s) k : Nat) : Int) := by
 have hp := pow_split hs
 have hlo : lmb N k / 2 ^ s < 2 ^ (32 - s) := Nat.div_lt_of_lt_mul (by rw [hp]; exact lmb_lt N k)
 have e1 : (lmb N k : Int) / 2 ^ s = ((lmb N k / 2 ^ s : Nat) : Int) := by rw [Int.natCast_ediv, Int.natCast_pow]; rfl
 have e2 : (lmb N (k + 1) : Int) * 2 ^ (32 - s) % 4294967296 = ((2 ^ (32 - s) * (lmb N (k + 1) % 2 ^ s) : Nat) : Int) := by
  rw [← low_mul hs, Int.natCast_emod, Int.natCast_mul, Int.natCast_pow]; rfl
 have hlt := lmb_lt (N / 2 ^ s) k
 rw [low_part hs] at hlt
 rw [e1, e2, u32_or_nat _ _ (by omega) (by omega), low_part hs, Nat.or_comm, ← Nat.two_pow_add_eq_or_of_lt hlo]
theorem low_last {s : Nat} (hs : s < 32) (N k : Nat) (h : lmb N (k + 1) = 0) : (lmb N k : Int) / 2 ^ s = ((lmb (N / 2 ^ s) k : Nat) : Int) := by
 rw [low_part hs, h, Nat.zero_mod, Nat.mul_zero, Nat.zero_add, Int.natCast_ediv, Int.natCast_pow]; rfl
theorem low_fst (N k s : Nat) : (lmb N k : Int) / 2 ^ s = ((lmb N k / 2 ^ s : Nat) : Int) := by rw [Int.natCast_ediv, Int.natCast_pow]; rfl
theorem lowF_next {N s n : Nat} (k : Nat) : ∀ j, j < n → j ≠ k → lowF N s k j = lowF N s (k + 1) j := by
 intro j _ hne
 unfold lowF
 by_cases h1 : j < k <;> by_cases h2 : j < k + 1 <;> simp [h1, h2] <;> omega
theorem Own.put2 {k : IntKind} {e : TypeId} {w : World} {g n : Nat} {f : Nat → Nat} (h : Own k e w g n f) {i X : Nat} {x y : Int} {F : Nat → Nat} (hi : i < n) (hx : x = (X : Nat)) (hy : y = (F i : Nat)) (hf : ∀ j, j < n → j ≠ i → f j = F j) :
  Own k e ((w.setCell ⟨g, i, none⟩ (.int k x)).setCell ⟨g, i, none⟩ (.int k y)) g n F := by
 subst hx
 exact (h.set X hi).put hi hy (fun j hj hne => by simp [hne, hf j hj hne])
set_option maxHeartbeats 1600000 in
theorem lowered_any (a : Option Addr) (n c N s : Nat) (w : World) (ha : Lie .u32 w a n c (lmb N)) (hN : N < BB ^ n) (hs : s < 32) (hn : n ≤ 1000000000) :
  Calls Tryz.prog 67 #[.slice a n c, .int .i64 s] w (PPart (N / 2 ^ s) w) := by
 have hcm := ha.capm
 have hnc := ha.cap
 unfold maxLen at hcm
 have hn6 : n ≤ 9223372036854775807 := by omega
 have HN := Lib.hid hN
 clear hN
 go_enter Tryz.func67, Tryz.ntmps67
 go_wp2_with fail
 refine (copied_any a n c (lmb N) _ ha hn).mono ?_
 rintro e w1 ⟨g, rfl, hg, hown1, hb1⟩
 go_wp2
 go_loopw [11] (fun iv wr => ∃ k : Nat, k ≤ n ∧ iv = .int .i64 k ∧ Own .u32 77 wr g n (lowF N s k) ∧ Below w.heap.size w wr) (fun iv _ => n - (intOf iv).toNat)
 case atStart => exact ⟨0, Nat.zero_le _, rfl, hown1.congr (fun j hj => by simp [lowF]), hb1⟩
 case round =>
  obtain ⟨k, hk, rfl, hown, hbl⟩ := hrel
  by_cases hlt : k < n
  ·
   obtain ⟨b1, o1, rfl, hb1'⟩ := ha.some_of_pos (by omega)
   have c1 : wr.cell? ⟨g, k, none⟩ = some (.int .u32 (lmb N k)) := by rw [hown.cell k (by omega)]; simp [lowF]
   have c2 := hown.free k
   have hla := lmb_lt N k
   have hbg : b1 < g := by omega
   by_cases hk1 : k + 1 < n
   ·
    have c3 := (ha.below hbl).at (k + 1) hk1
    have hla1 := lmb_lt N (k + 1)
    have HX := Lib.hid (low_or hs N k)
    have hbs := fun u v => (hbl.setCell (p := ⟨g, k, none⟩) hg u).setCell (p := ⟨g, k, none⟩) hg v
    have HB := Lib.hid hbs
    clear ha hbs
    go_wp2
    go_region
    all_goals go_wp2
    all_goals go_roundw
    case rel => exact ⟨k + 1, by omega, by go_num, (hown.put2 (by omega) (low_fst N k s) (by rw [HX.out, lowF, if_pos (by omega)]) (lowF_next k)).drew, (HB.out _ _).drew⟩
    case measure => simp [intOf]; omega
   ·
    have HX := Lib.hid (low_last hs N k (lmb_zero HN.out (by omega)))
    have hbs := hbl.setCell (p := ⟨g, k, none⟩) hg
    clear ha
    go_wp2
    go_roundw
    case rel => exact ⟨k + 1, by omega, by go_num, hown.put (by omega) (by rw [HX.out, lowF, if_pos (by omega)]) (lowF_next k), hbs _⟩
    case measure => simp [intOf]; omega
  ·
   obtain rfl : k = n := by omega
   have hO : Own .u32 77 wr g k (lmb (N / 2 ^ s)) := hown.congr (fun j hj => by rw [lowF, if_pos hj])
   clear ha
   go_wp2_with fail
   refine (trimmed_any _ _ _ (N / 2 ^ s) _ (hO.lie (Nat.le_refl _) (by unfold maxLen; omega)) (Nat.lt_of_le_of_lt (Nat.div_le_self _ _) HN.out)).mono ?_
   rintro e w3 ⟨mm, rfl, hmm, hfit, rfl⟩
   go_wp2
   go_ret
   exact ppart_own hO hg hbl hmm hn6 hfit
end Go.Proofs.YtpahkpcoinbgcaaGreatDoor

/- The walk of quotient. -/
namespace Go.Proofs.YtpahkpcoinbgcaaGreatDoor
open Go.RowKit
/-- Parts of a quotient and of what is left are handed back, in new memory. -/
def PQuo (A B : Nat) (w : World) (e : Ending) (w' : World) : Prop :=
 ∃ (a1 : Option Addr) (n1 c1 : Nat) (a2 : Option Addr) (n2 c2 : Nat), e = .returned (.tuple #[.slice a1 n1 c1, .slice a2 n2 c2]) ∧
  (Lie .u32 w' a1 n1 c1 (lmb (A / B)) ∧ Fit n1 (A / B) ∧ ∀ p, a1 = some p → w.heap.size ≤ p.block) ∧
  (Lie .u32 w' a2 n2 c2 (lmb (A % B)) ∧ Fit n2 (A % B) ∧ ∀ p, a2 = some p → w.heap.size ≤ p.block) ∧ Below w.heap.size w w'
theorem bitLen_in {x : Nat} (h0 : 1 ≤ x) (h : x < 4294967296) : 1 ≤ Lib.bitLen x ∧ Lib.bitLen x ≤ 32 ∧ 2 ^ (Lib.bitLen x - 1) ≤ x ∧ x < 2 ^ Lib.bitLen x := by
 obtain ⟨h1, h2, h3⟩ := Lib.bitLenAux_bounds 64 x (by omega) (by omega)
 exact ⟨h1, Lib.bitLen_le x 32 (by omega) h, h2, h3⟩
theorem top_lead {B n s : Nat} (hB : Fit n B) (hn : 1 ≤ n) (hs : s = 32 - Lib.bitLen (lmb B (n - 1))) : s < 32 ∧ Fit n (B * 2 ^ s) ∧ 1 ≤ lmb B (n - 1) := by
 obtain ⟨m, rfl⟩ : ∃ m, n = m + 1 := ⟨n - 1, by omega⟩
 simp only [Nat.add_sub_cancel] at *
 have hB1 := hB.1
 have hB2 : BB ^ m ≤ B := by rcases hB.2 with h | h <;> simp at h ⊢; exact h
 have htop : 1 ≤ lmb B m := by rw [lmb_top hB1]; exact Nat.div_pos hB2 (BBp _)
 obtain ⟨h1, h2, h3, h4⟩ := bitLen_in htop (lmb_lt B m)
 have hs32 : s < 32 := by omega
 refine ⟨hs32, ⟨?_, .inr ?_⟩, htop⟩
 ·
  have e : B < BB ^ m * (lmb B m + 1) := by
   rw [lmb_top hB1, Nat.mul_add, Nat.mul_one]
   have := Nat.div_add_mod B (BB ^ m)
   have h5 := Nat.mod_lt B (BBp m)
   omega
  have e2 : (lmb B m + 1) * 2 ^ s ≤ 4294967296 := by
   have : (lmb B m + 1) * 2 ^ s ≤ 2 ^ Lib.bitLen (lmb B m) * 2 ^ s := Nat.mul_le_mul_right _ h4
   rw [← Nat.pow_add, show Lib.bitLen (lmb B m) + s = 32 from by omega] at this
   exact this
  calc B * 2 ^ s < BB ^ m * (lmb B m + 1) * 2 ^ s := (Nat.mul_lt_mul_right (Nat.pow_pos (by decide))).2 e
   _ = BB ^ m * ((lmb B m + 1) * 2 ^ s) := Nat.mul_assoc _ _ _
   _ ≤ BB ^ m * 4294967296 := Nat.mul_le_mul_left _ e2
   _ = BB ^ (m + 1) := by rw [Nat.pow_succ]; rfl
 ·
  exact Nat.le_trans hB2 (Nat.le_mul_of_pos_right _ (Nat.pow_pos (by decide)))
theorem own_lit1 (k : IntKind) (e : TypeId) (w : World) (x : Nat) (f : Nat → Nat) (h : f 0 = x) : Own k e (w.alloc (.cells #[.int k (x : Nat)] e)) w.heap.size 1 f := by
 unfold Own
 rw [heap_alloc_new]
 simp [List.range_succ, h]
theorem own_lit2 (k : IntKind) (e : TypeId) (w : World) (x y : Nat) (f : Nat → Nat) (h : f 0 = x) (h' : f 1 = y) : Own k e (w.alloc (.cells #[.int k (x : Nat), .int k (y : Nat)] e)) w.heap.size 2 f := by
 unfold Own
 rw [heap_alloc_new]
 simp [List.range_succ, h, h']
set_option maxHeartbeats 1600000 in
theorem quotient_lt (a b : Option Addr) (n c m d A B : Nat) (w : World) (ha : Lie .u32 w a n c (lmb A)) (hb : Lie .u32 w b m d (lmb B)) (fa : Fit n A) (fb : Fit m B) (hn : n ≤ 1000000000) (hlt : A < B) :
  Calls Tryz.prog 66 #[.slice a n c, .slice b m d] w (PQuo A B w) := by
 go_enter Tryz.func66, Tryz.ntmps66
 go_wp2_with fail
 refine (compare_any a b n c m d A B _ ha hb fa fb).mono ?_
 rintro e w1 ⟨rfl, hb1⟩
 have ha1 := ha.below hb1
 rw [show cmpN A B = -1 from by simp [cmpN, hlt]]
 clear ha hb
 go_wp2_with fail
 refine (copied_any a n c (lmb A) _ ha1 hn).mono ?_
 rintro e w2 ⟨g, rfl, hg, hown2, hb2⟩
 have HQ : Hid (A / B = 0 ∧ A % B = A) := ⟨Nat.div_eq_of_lt hlt, Nat.mod_eq_of_lt hlt⟩
 go_wp2
 go_ret2
 refine ⟨none, 0, 0, some ⟨g, 0, none⟩, n, n, rfl, ?_, ?_, hb1.trans (hb2.mono hb1.size)⟩
 ·
  rw [HQ.out.1]; exact ⟨lie_nil _ _ _, fit_zero, fun p hp => by cases hp⟩
 ·
  rw [HQ.out.2]; exact ⟨hown2.lie (Nat.le_refl _) (by unfold maxLen; omega), fa, fun p hp => by cases hp; have := hb1.size; show _ ≤ g; omega⟩
set_option maxHeartbeats 1600000 in
theorem quotient_one (a b : Option Addr) (n c d A B : Nat) (w : World) (ha : Lie .u32 w a n c (lmb A)) (hb : Lie .u32 w b 1 d (lmb B)) (fa : Fit n A) (fb : Fit 1 B) (hn : n ≤ 1000000000) (hlt : B ≤ A) :
  Calls Tryz.prog 66 #[.slice a n c, .slice b (1 : Nat) d] w (PQuo A B w) := by
 have hBl : B < 4294967296 := by have := fb.1; rw [Nat.pow_one] at this; exact this
 have hBp : 0 < B := by
  refine Nat.pos_of_ne_zero fun h => ?_
  have := (fit_pos fb).2 h
  omega
 have hB0 : lmb B 0 = B := by unfold lmb; simp; exact Nat.mod_eq_of_lt hBl
 obtain ⟨b1, o1, rfl, hb1'⟩ := hb.some_of_pos (by omega)
 have hcmp : 0 ≤ cmpN A B := by unfold cmpN; rw [if_neg (by omega)]; split <;> omega
 go_enter Tryz.func66, Tryz.ntmps66
 go_wp2_with fail
 refine (compare_any a _ n c 1 d A B _ ha hb fa fb).mono ?_
 rintro e w1 ⟨rfl, hb1⟩
 have ha1 := ha.below hb1
 have hbb1 := hb.below hb1
 generalize cmpN A B = cc at *
 clear ha hb
 go_wp2_with fail
 refine (copied_any a n c (lmb A) _ ha1 hn).mono ?_
 rintro e w2 ⟨g, rfl, hg, hown2, hb2⟩
 have hbb2 := hbb1.below hb2
 have c0 := hbb2.at 0 (by omega)
 rw [hB0, Nat.add_zero] at c0
 clear hbb1 hbb2 ha1
 go_wp2_with fail
 refine (divideBy_any g n n A B (lmb A) _ hown2 (Nat.le_refl _) (fun i hi => rfl) fa.1 hBp hBl hn).mono ?_
 rintro e w3 ⟨rfl, hown3, ho3⟩
 have hown4 : Own .u32 77 w3 g n (lmb (A / B)) := hown3.congr (fun i hi => by rw [hiF, if_pos (by omega)])
 clear hown3
 obtain ⟨r, hr⟩ : ∃ r, r = A % B := ⟨_, rfl⟩
 have hrB : r < 4294967296 := by rw [hr]; exact Nat.lt_trans (Nat.mod_lt _ hBp) hBl
 rw [← hr]
 have HR := Lib.hid hr
 clear hr
 go_wp2_with fail
 refine (trimmed_any _ _ _ (A / B) _ (hown4.lie (Nat.le_refl _) (by unfold maxLen; omega)) (Nat.lt_of_le_of_lt (Nat.div_le_self _ _) fa.1)).mono ?_
 rintro e w4 ⟨m1, rfl, hm1, hfit1, rfl⟩
 have hown5 := own_lit1 .u32 77 w3 r (lmb r) (by unfold lmb; simp; exact Nat.mod_eq_of_lt hrB)
 go_wp2_with fail
 refine (trimmed_any _ _ _ r _ (hown5.lie (Nat.le_refl _) (by unfold maxLen; omega)) (by rw [Nat.pow_one]; exact hrB)).mono ?_
 rintro e w5 ⟨m2, rfl, hm2, hfit2, rfl⟩
 go_wp2
 go_ret2
 have hb3 : Below w.heap.size w w3 := (hb1.trans (hb2.mono hb1.size)).trans (ho3.below (by have := hb1.size; omega))
 have hb4 : Below w3.heap.size w3 (w3.alloc (.cells #[.int .u32 (r : Nat)] 77)) := (Below.refl _ _).alloc (Nat.le_refl _) _
 refine ⟨some ⟨g, 0, none⟩, m1, n, some ⟨w3.heap.size, 0, none⟩, m2, 1, rfl, ⟨(hown4.lie hm1 (by unfold maxLen; omega)).below hb4, hfit1, fun p hp => ?_⟩, ?_, hb3.trans (hb4.mono hb3.size)⟩
 ·
  cases hp; have := hb1.size; show _ ≤ g; omega
 ·
  rw [← HR.out]
  exact ⟨hown5.lie hm2 (by unfold maxLen; omega), hfit2, fun p hp => by cases hp; exact hb3.size⟩
end Go.Proofs.YtpahkpcoinbgcaaGreatDoor

/- The walk of quotient, the case of a divisor of several parts. -/
namespace Go.Proofs.YtpahkpcoinbgcaaGreatDoor
open Go.RowKit
theorem lmb_shift (V j i : Nat) : lmb (V / BB ^ j) i = lmb V (j + i) := by
 unfold lmb
 rw [Nat.div_div_eq_div_mul, ← Nat.pow_add]
theorem quo_part (A D j : Nat) : A % (D * BB ^ (j + 1)) / BB ^ j / D = lmb (A / D) j := by
 rw [Nat.div_div_eq_div_mul, Nat.mul_comm (BB ^ j) D, Nat.pow_succ, ← Nat.mul_assoc, Nat.mod_mul_right_div_self]
 unfold lmb
 rw [Nat.div_div_eq_div_mul]
theorem quo_rest (A D j : Nat) : A % (D * BB ^ j) = A % (D * BB ^ (j + 1)) % BB ^ j + BB ^ j * (A % (D * BB ^ (j + 1)) / BB ^ j % D) := by
 rw [← Nat.mod_mul, Nat.mul_comm (BB ^ j) D, Nat.pow_succ, ← Nat.mul_assoc, Nat.mod_mul_right_mod]
theorem quo_win {A D n j T : Nat} (hD : D < BB ^ n) : ∀ p, p < T →
  winK j n (n + 1) (A % (D * BB ^ (j + 1)) / BB ^ j % D) (A % (D * BB ^ (j + 1)) / BB ^ j) (lmb (A % (D * BB ^ (j + 1)))) p = lmb (A % (D * BB ^ j)) p := by
 intro p _
 have hDp : 0 < D * BB ^ (j + 1) ∨ D = 0 := by
  rcases Nat.eq_zero_or_pos D with h | h
  ·
   exact .inr h
  ·
   exact .inl (Nat.mul_pos h (BBp _))
 have hr := quo_rest A D j
 by_cases h1 : j ≤ p ∧ p ≤ j + n
 ·
  unfold winK
  rw [if_pos h1, if_pos (by omega), hr]
  obtain ⟨i, rfl⟩ : ∃ i, p = j + i := ⟨p - j, by omega⟩
  rw [← lmb_shift, show j + i - j = i from by omega, Nat.add_mul_div_left _ _ (BBp j), Nat.div_eq_of_lt (Nat.mod_lt _ (BBp j)), Nat.zero_add]
 ·
  unfold winK
  rw [if_neg h1]
  by_cases h2 : p < j
  ·
   rw [hr, lmb_add_hi _ _ _ _ h2]
   conv => lhs; rw [← Nat.mod_add_div (A % (D * BB ^ (j + 1))) (BB ^ j)]
   rw [lmb_add_hi _ _ _ _ h2]
  ·
   rcases hDp with hDp | hDp
   ·
    have e1 : A % (D * BB ^ (j + 1)) < BB ^ (n + (j + 1)) := Nat.lt_of_lt_of_le (Nat.mod_lt _ hDp) (by rw [Nat.pow_add BB n]; exact Nat.mul_le_mul_right _ (Nat.le_of_lt hD))
    have hD0 : 0 < D := Nat.pos_of_mul_pos_right hDp
    have e2 : A % (D * BB ^ j) < BB ^ (n + j) := Nat.lt_of_lt_of_le (Nat.mod_lt _ (Nat.mul_pos hD0 (BBp _))) (by rw [Nat.pow_add]; exact Nat.mul_le_mul_right _ (Nat.le_of_lt hD))
    rw [lmb_zero e1 (by omega), lmb_zero e2 (by omega)]
   ·
    subst hDp; simp
/-- The parts of a quotient that are told: those from k on. -/
def quoF (Q k : Nat) (p : Nat) : Nat := if k ≤ p then lmb Q p else 0
theorem quoF_next (Q j n : Nat) : ∀ p, p < n → p ≠ j → quoF Q (j + 1) p = quoF Q j p := by
 intro p _ hne
 unfold quoF
 by_cases h : j + 1 ≤ p
 ·
  rw [if_pos h, if_pos (by omega)]
 ·
  rw [if_neg h, if_neg (by omega)]
theorem Own.grown {k : IntKind} {e : TypeId} {w w' : World} {g n : Nat} {f : Nat → Nat} {r : Option Nat} (h : Own k e w g n f) (hg : w.grownBy w' r) (hr : some g ≠ r) : Own k e w' g n f := by
 unfold Own at h ⊢
 rw [hg.block g (Array.getElem?_eq_some_iff.1 h).1 hr]; exact h
theorem below_grown {B g : Nat} {w0 w w' : World} (h : Below B w0 w) (hg : w.grownBy w' (some g)) (hB : B ≤ w.heap.size) (hr : B ≤ g) : Below B w0 w' :=
 h.grown hg hB (fun k hk => by cases hk; exact hr)
set_option maxRecDepth 100000 in
set_option maxHeartbeats 1600000 in
theorem quotient_many (a b : Option Addr) (na c n d A B : Nat) (w : World) (ha : Lie .u32 w a na c (lmb A)) (hb : Lie .u32 w b n d (lmb B)) (fa : Fit na A) (fb : Fit n B) (hna : na ≤ 100000000) (hn2 : 2 ≤ n) (hlt : B ≤ A) :
  Calls Tryz.prog 66 #[.slice a na c, .slice b n d] w (PQuo A B w) := by
 have hnn : n ≤ na := fit_le fb (Nat.lt_of_le_of_lt hlt fa.1)
 obtain ⟨q, rfl⟩ : ∃ q, na = n + q := ⟨na - n, by omega⟩
 obtain ⟨b1, o1, rfl, hb1'⟩ := hb.some_of_pos (by omega)
 have hcmp : 0 ≤ cmpN A B := by unfold cmpN; rw [if_neg (by omega)]; split <;> omega
 have hcm := ha.capm
 have hnc := ha.cap
 have hdm := hb.capm
 have hmd := hb.cap
 unfold maxLen at hcm hdm
 have htl := lmb_lt B (n - 1)
 obtain ⟨s, hs⟩ : ∃ s, s = 32 - Lib.bitLen (lmb B (n - 1)) := ⟨_, rfl⟩
 obtain ⟨hs32, hfD, htop⟩ := top_lead fb (by omega) hs
 have hsI : (32 : Int) - (Lib.bitLen ((lmb B (n - 1) : Int)).toNat : Int) = (s : Int) := by
  rw [Int.toNat_natCast]; have := (bitLen_in htop htl).2.1; omega
 have HSI := Lib.hid hsI
 clear hs hsI
 go_enter Tryz.func66, Tryz.ntmps66
 go_wp2_with fail
 refine (compare_any a _ (n + q) c n d A B _ ha hb fa fb).mono ?_
 rintro e w1 ⟨rfl, hb1⟩
 have ha1 := ha.below hb1
 have hbb1 := hb.below hb1
 generalize cmpN A B = cc at *
 have c1 := hbb1.at (n - 1) (by omega)
 clear ha hb
 go_wp2_with fail
 refine (Tryz.bits_LeadingZeros32 _ _ (by omega) (by omega)).mono ?_
 rintro e w1' ⟨rfl, hww⟩
 subst hww
 rw [HSI.out]
 go_wp2_with fail
 refine (raised_any _ n d B s _ hbb1 fb.1 hs32 (by omega)).mono ?_
 rintro e w2 ⟨gD, rfl, hgD, hownD, hb2⟩
 have ha2 := ha1.below hb2
 go_wp2_with fail
 refine (trimmed_any _ _ _ (B * 2 ^ s) _ (hownD.lie (Nat.le_refl _) (by unfold maxLen; omega)) (fit_mono hfD.1 (by omega))).mono ?_
 rintro e w2' ⟨nd, rfl, hnd, hfit, rfl⟩
 obtain rfl := (fit_uniq hfD hfit)
 go_wp2_with fail
 refine (raised_any _ (n + q) c A s _ ha2 fa.1 hs32 (by omega)).mono ?_
 rintro e w3 ⟨gR, rfl, hgR, hownR, hb3⟩
 have hlD := hownD.lt
 have hownD3 := hownD.below hb3
 clear hownD ha1 ha2 hbb1
 have hm4 : 4 * (q + 1) ≤ 281474976710656 := by omega
 have hm6 : q + 1 ≤ 9223372036854775807 := by omega
 go_wp2_with (first | (at_make; refine wpList_mk _ rfl (.tmp 51) (.tmp 51) 51 rfl 77 .u32 4 Tryz.u51 Tryz.info77 _ _ (q + 1) rfl rfl (by omega) (by omega) hm4 hm6 ?_; intro gQ w4 hgQ hownQ hb4))
 have HAD : Hid (A * 2 ^ s < B * 2 ^ s * BB ^ (q + 1)) := by
  show _ < _
  have h1 : A < B * BB ^ (q + 1) := by
   refine Nat.lt_of_lt_of_le fa.1 ?_
   have h2 : BB ^ (n - 1) ≤ B := by rcases fb.2 with h | h <;> omega
   rw [show n + q = (n - 1) + (q + 1) from by omega, Nat.pow_add]
   exact Nat.mul_le_mul_right _ h2
  rw [Nat.mul_right_comm]
  exact (Nat.mul_lt_mul_right (Nat.pow_pos (by decide))).2 h1
 have hDpos : 0 < B * 2 ^ s := Nat.pos_of_ne_zero fun h => by have := (fit_pos hfD).2 h; omega
 have HFD := Lib.hid hfD
 have HQ : Hid (A * 2 ^ s / (B * 2 ^ s) = A / B ∧ A * 2 ^ s % (B * 2 ^ s) / 2 ^ s = A % B) := by
  refine ⟨Nat.mul_div_mul_right _ _ (Nat.pow_pos (by decide)), ?_⟩
  rw [Nat.mul_mod_mul_right, Nat.mul_div_cancel _ (Nat.pow_pos (by decide))]
 clear hfD hfit fa fb
 generalize A * 2 ^ s = A' at *
 generalize B * 2 ^ s = D at *
 have hlR := hownR.lt
 have hb04 : Below w.heap.size w w4 := (((hb1.trans (hb2.mono hb1.size)).trans (hb3.mono (by have := hb1.size; have := hb2.size; omega))).trans (hb4.mono (by have := hb1.size; have := hb2.size; have := hb3.size; omega)))
 have hw2 : w.heap.size ≤ gD := by have := hb1.size; omega
 go_loopw [55] (fun iv wr => ∃ i : Nat, i ≤ q + 1 ∧ iv = .int .i64 i ∧ Own .u32 77 wr gR (n + q + 1) (lmb (A' % (D * BB ^ (q + 1 - i)))) ∧ Own .u32 77 wr gQ (q + 1) (quoF (A' / D) (q + 1 - i)) ∧ Own .u32 77 wr gD (n + 1) (lmb D) ∧ Below w.heap.size w wr) (fun iv _ => q + 1 - (intOf iv).toNat)
 case atStart =>
  refine ⟨0, Nat.zero_le _, rfl, ?_, hownQ.congr (fun j hj => by rw [quoF, if_neg (by omega)]), hownD3.below hb4, hb04⟩
  rw [Nat.sub_zero, Nat.mod_eq_of_lt HAD.out]
  exact hownR.below hb4
 case round =>
  obtain ⟨i, hi, rfl, oR, oQ, oD, hbl⟩ := hrel
  by_cases hiq : i < q + 1
  ·
   rw [show q + 1 - i = (q - i) + 1 from by omega] at oR oQ
   have hVlt : A' % (D * BB ^ (q - i + 1)) / BB ^ (q - i) < D * BB := by
    refine Nat.div_lt_of_lt_mul (Nat.lt_of_lt_of_le (Nat.mod_lt _ (Nat.mul_pos hDpos (BBp _))) ?_)
    rw [Nat.pow_succ, ← Nat.mul_assoc, Nat.mul_comm D, Nat.mul_assoc]
    exact Nat.le_refl _
   have HV := Lib.hid hVlt
   clear hVlt
   go_wp2_with fail
   rw [show q - i + n + 1 - (q - i) = n + 1 from by omega]
   refine (nextPart_any gR (n + q + 1) (q - i) n _ (A' % (D * BB ^ (q - i + 1)) / BB ^ (q - i)) D gD 0 (n + 1) _ _ oR (by omega) (by omega) (by omega) (by unfold maxLen; omega)
    (fun j hj => (lmb_shift _ _ _).symm) (oD.lie (by omega) (by unfold maxLen; omega)) (by omega) hn2 HV.out HFD.out).mono ?_
   rintro e w5 ⟨rfl, oR5, hg5⟩
   rw [quo_part]
   have oQ5 := oQ.grown hg5 (by intro h; cases h; omega)
   have oD5 := oD.grown hg5 (by intro h; cases h; omega)
   have hb5 := below_grown hbl hg5 hbl.size (by omega)
   have oR5' := oR5.congr (quo_win HFD.out.1)
   have hl := lmb_lt (A' / D) (q - i)
   have cq := oQ5.cell (q - i) (by omega)
   have cf := oQ5.free (q - i)
   clear oR oQ oD oR5
   go_wp2
   go_roundw
   case rel =>
    refine ⟨i + 1, by omega, by go_num, ?_, ?_, ?_, hb5.setCell (p := ⟨gQ, q - i, none⟩) (by show _ ≤ gQ; omega) _⟩
    ·
     rw [show q + 1 - (i + 1) = q - i from by omega]
     exact oR5'.only (Only.setCell _ _ _ _) (by omega)
    ·
     rw [show q + 1 - (i + 1) = q - i from by omega]
     exact oQ5.put (by omega) (by rw [quoF, if_pos (Nat.le_refl _)]) (quoF_next _ _ _)
    ·
     exact oD5.only (Only.setCell _ _ _ _) (by omega)
   case measure => simp [intOf]; omega
  ·
   obtain rfl : i = q + 1 := by omega
   rw [Nat.sub_self] at oR oQ
   rw [Nat.pow_zero, Nat.mul_one] at oR
   have oQ' : Own .u32 77 wr gQ (q + 1) (lmb (A' / D)) := oQ.congr (fun p hp => by rw [quoF, if_pos (Nat.zero_le _)])
   have hRl : A' % D < BB ^ (n + q + 1) := Nat.lt_of_lt_of_le (Nat.mod_lt _ hDpos) (Nat.le_of_lt (fit_mono HFD.out.1 (by omega)))
   have hQl : A' / D < BB ^ (q + 1) := Nat.div_lt_of_lt_mul HAD.out
   have HRl := Lib.hid hRl
   have HQl := Lib.hid hQl
   clear oQ hRl hQl
   go_wp2_with fail
   refine (trimmed_any _ _ _ (A' / D) _ (oQ'.lie (Nat.le_refl _) (by unfold maxLen; omega)) HQl.out).mono ?_
   rintro e w6 ⟨m1, rfl, hm1, hfit1, rfl⟩
   go_wp2_with fail
   refine (trimmed_any _ _ _ (A' % D) _ (oR.lie (Nat.le_refl _) (by unfold maxLen; omega)) HRl.out).mono ?_
   rintro e w6 ⟨m2, rfl, hm2, hfit2, rfl⟩
   go_wp2_with fail
   refine (lowered_any _ m2 _ (A' % D) s _ (oR.lie hm2 (by unfold maxLen; omega)) hfit2.1 hs32 (by omega)).mono ?_
   rintro e w7 ⟨a3, m3, c3, rfl, hl3, hf3, hfr3, hb7⟩
   go_wp2
   go_ret2
   rw [HQ.out.2] at hl3 hf3
   rw [HQ.out.1] at hfit1 oQ'
   exact ⟨some ⟨gQ, 0, none⟩, m1, _, a3, m3, c3, rfl, ⟨(oQ'.lie hm1 (by unfold maxLen; omega)).below hb7, hfit1, (fun p hp => by cases hp; show _ ≤ gQ; omega)⟩, ⟨hl3, hf3, (fun p hp => Nat.le_trans hbl.size (hfr3 p hp))⟩, hbl.trans (hb7.mono hbl.size)⟩
theorem quotient_any (a b : Option Addr) (n c m d A B : Nat) (w : World) (ha : Lie .u32 w a n c (lmb A)) (hb : Lie .u32 w b m d (lmb B)) (fa : Fit n A) (fb : Fit m B) (hn : n ≤ 100000000) (hB : 0 < B) :
  Calls Tryz.prog 66 #[.slice a n c, .slice b m d] w (PQuo A B w) := by
 by_cases hlt : A < B
 ·
  exact quotient_lt a b n c m d A B w ha hb fa fb (by omega) hlt
 ·
  have hm0 : m ≠ 0 := fun h => by have := (fit_pos fb).1 h; omega
  by_cases hm : m = 1
  ·
   subst hm; exact quotient_one a b n c d A B w ha hb fa fb (by omega) (by omega)
  ·
   exact quotient_many a b n c m d A B w ha hb fa fb hn (by omega) (by omega)
end Go.Proofs.YtpahkpcoinbgcaaGreatDoor
