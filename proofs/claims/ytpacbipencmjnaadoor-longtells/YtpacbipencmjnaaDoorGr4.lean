/- The walk of quotient. -/
import Derived.Test.YtpacbipencmjnaaDoorGr2
import Derived.Test.YtpacbipencmjnaaDoorGr3
import Derived.Test.YtpacbipencmjnaaDoorShelf
import Derived.Lib.ItoaNum
import Derived.Deep.LoopGhost
namespace Go.Proofs.YtpacbipencmjnaaDoor
open Go.RowKit

/-- Parts of a quotient and of what is left are handed back, in new memory. -/
def PQuo (A B : Nat) (w : World) (e : Ending) (w' : World) : Prop :=
  ∃ (a1 : Option Addr) (n1 c1 : Nat) (a2 : Option Addr) (n2 c2 : Nat), e = .returned (.tuple #[.slice a1 n1 c1, .slice a2 n2 c2]) ∧
    (Lie .u32 w' a1 n1 c1 (lmb (A / B)) ∧ Fit n1 (A / B) ∧ ∀ p, a1 = some p → w.heap.size ≤ p.block) ∧
    (Lie .u32 w' a2 n2 c2 (lmb (A % B)) ∧ Fit n2 (A % B) ∧ ∀ p, a2 = some p → w.heap.size ≤ p.block) ∧ Below w.heap.size w w'

theorem bitLen_in {x : Nat} (h0 : 1 ≤ x) (h : x < 4294967296) : 1 ≤ Lib.bitLen x ∧ Lib.bitLen x ≤ 32 ∧ 2 ^ (Lib.bitLen x - 1) ≤ x ∧ x < 2 ^ Lib.bitLen x := by
  obtain ⟨h1, h2, h3⟩ := Lib.bitLenAux_bounds 64 x (by omega) (by omega)
  exact ⟨h1, Lib.bitLen_le x 32 (by omega) h, h2, h3⟩
theorem top_lead {B n s : Nat} (hB : Fit n B) (hn : 1 ≤ n) (hs : s = 32 - Lib.bitLen (lmb B (n - 1))) : s < 32 ∧ Fit n (B * 2 ^ s) ∧ 1 ≤ lmb B (n - 1) := by
  obtain ⟨m, rfl⟩ : ∃ m, n = m + 1 := ⟨n - 1, by omega⟩
  simp only [Nat.add_sub_cancel] at *
  have hB1 := hB.1
  have hB2 : BB ^ m ≤ B := by rcases hB.2 with h | h <;> simp at h ⊢; exact h
  have htop : 1 ≤ lmb B m := by rw [lmb_top hB1]; exact Nat.div_pos hB2 (BBp _)
  obtain ⟨h1, h2, h3, h4⟩ := bitLen_in htop (lmb_lt B m)
  have hs32 : s < 32 := by omega
  refine ⟨hs32, ⟨?_, .inr ?_⟩, htop⟩
  · have e : B < BB ^ m * (lmb B m + 1) := by
      rw [lmb_top hB1, Nat.mul_add, Nat.mul_one]
      have := Nat.div_add_mod B (BB ^ m)
      have h5 := Nat.mod_lt B (BBp m)
      omega
    have e2 : (lmb B m + 1) * 2 ^ s ≤ 4294967296 := by
      have : (lmb B m + 1) * 2 ^ s ≤ 2 ^ Lib.bitLen (lmb B m) * 2 ^ s := Nat.mul_le_mul_right _ h4
      rw [← Nat.pow_add, show Lib.bitLen (lmb B m) + s = 32 from by omega] at this
      exact this
    calc B * 2 ^ s < BB ^ m * (lmb B m + 1) * 2 ^ s := (Nat.mul_lt_mul_right (Nat.pow_pos (by decide))).2 e
      _ = BB ^ m * ((lmb B m + 1) * 2 ^ s) := Nat.mul_assoc _ _ _
      _ ≤ BB ^ m * 4294967296 := Nat.mul_le_mul_left _ e2
      _ = BB ^ (m + 1) := by rw [Nat.pow_succ]; rfl
  · exact Nat.le_trans hB2 (Nat.le_mul_of_pos_right _ (Nat.pow_pos (by decide)))

theorem own_lit1 (k : IntKind) (e : TypeId) (w : World) (x : Nat) (f : Nat → Nat) (h : f 0 = x) : Own k e (w.alloc (.cells #[.int k (x : Nat)] e)) w.heap.size 1 f := by
  unfold Own
  rw [heap_alloc_new]
  simp [List.range_succ, h]
theorem own_lit2 (k : IntKind) (e : TypeId) (w : World) (x y : Nat) (f : Nat → Nat) (h : f 0 = x) (h' : f 1 = y) : Own k e (w.alloc (.cells #[.int k (x : Nat), .int k (y : Nat)] e)) w.heap.size 2 f := by
  unfold Own
  rw [heap_alloc_new]
  simp [List.range_succ, h, h']

set_option maxHeartbeats 1600000 in
theorem quotient_lt (a b : Option Addr) (n c m d A B : Nat) (w : World) (ha : Lie .u32 w a n c (lmb A)) (hb : Lie .u32 w b m d (lmb B)) (fa : Fit n A) (fb : Fit m B) (hn : n ≤ 1000000000) (hlt : A < B) :
    Calls Tryd.prog 35 #[.slice a n c, .slice b m d] w (PQuo A B w) := by
  go_enter Tryd.func35, Tryd.ntmps35
  go_wp2_with fail
  refine (compare_any a b n c m d A B _ ha hb fa fb).mono ?_
  rintro e w1 ⟨rfl, hb1⟩
  have ha1 := ha.below hb1
  rw [show cmpN A B = -1 from by simp [cmpN, hlt]]
  clear ha hb
  go_wp2_with fail
  refine (copied_any a n c (lmb A) _ ha1 hn).mono ?_
  rintro e w2 ⟨g, rfl, hg, hown2, hb2⟩
  have HQ : Hid (A / B = 0 ∧ A % B = A) := ⟨Nat.div_eq_of_lt hlt, Nat.mod_eq_of_lt hlt⟩
  go_wp2
  go_ret2
  refine ⟨none, 0, 0, some ⟨g, 0, none⟩, n, n, rfl, ?_, ?_, hb1.trans (hb2.mono hb1.size)⟩
  · rw [HQ.out.1]; exact ⟨lie_nil _ _ _, fit_zero, fun p hp => by cases hp⟩
  · rw [HQ.out.2]; exact ⟨hown2.lie (Nat.le_refl _) (by unfold maxLen; omega), fa, fun p hp => by cases hp; have := hb1.size; show _ ≤ g; omega⟩

set_option maxHeartbeats 1600000 in
theorem quotient_one (a b : Option Addr) (n c d A B : Nat) (w : World) (ha : Lie .u32 w a n c (lmb A)) (hb : Lie .u32 w b 1 d (lmb B)) (fa : Fit n A) (fb : Fit 1 B) (hn : n ≤ 1000000000) (hlt : B ≤ A) :
    Calls Tryd.prog 35 #[.slice a n c, .slice b (1 : Nat) d] w (PQuo A B w) := by
  have hBl : B < 4294967296 := by have := fb.1; rw [Nat.pow_one] at this; exact this
  have hBp : 0 < B := by
    refine Nat.pos_of_ne_zero fun h => ?_
    have := (fit_pos fb).2 h
    omega
  have hB0 : lmb B 0 = B := by unfold lmb; simp; exact Nat.mod_eq_of_lt hBl
  obtain ⟨b1, o1, rfl, hb1'⟩ := hb.some_of_pos (by omega)
  have hcmp : 0 ≤ cmpN A B := by unfold cmpN; rw [if_neg (by omega)]; split <;> omega
  go_enter Tryd.func35, Tryd.ntmps35
  go_wp2_with fail
  refine (compare_any a _ n c 1 d A B _ ha hb fa fb).mono ?_
  rintro e w1 ⟨rfl, hb1⟩
  have ha1 := ha.below hb1
  have hbb1 := hb.below hb1
  generalize cmpN A B = cc at *
  clear ha hb
  go_wp2_with fail
  refine (copied_any a n c (lmb A) _ ha1 hn).mono ?_
  rintro e w2 ⟨g, rfl, hg, hown2, hb2⟩
  have hbb2 := hbb1.below hb2
  have c0 := hbb2.at 0 (by omega)
  rw [hB0, Nat.add_zero] at c0
  clear hbb1 hbb2 ha1
  go_wp2_with fail
  refine (divideBy_any g n n A B (lmb A) _ hown2 (Nat.le_refl _) (fun i hi => rfl) fa.1 hBp hBl hn).mono ?_
  rintro e w3 ⟨rfl, hown3, ho3⟩
  have hown4 : Own .u32 56 w3 g n (lmb (A / B)) := hown3.congr (fun i hi => by rw [hiF, if_pos (by omega)])
  clear hown3
  obtain ⟨r, hr⟩ : ∃ r, r = A % B := ⟨_, rfl⟩
  have hrB : r < 4294967296 := by rw [hr]; exact Nat.lt_trans (Nat.mod_lt _ hBp) hBl
  rw [← hr]
  have HR := Lib.hid hr
  clear hr
  go_wp2_with fail
  refine (trimmed_any _ _ _ (A / B) _ (hown4.lie (Nat.le_refl _) (by unfold maxLen; omega)) (Nat.lt_of_le_of_lt (Nat.div_le_self _ _) fa.1)).mono ?_
  rintro e w4 ⟨m1, rfl, hm1, hfit1, rfl⟩
  have hown5 := own_lit1 .u32 56 w3 r (lmb r) (by unfold lmb; simp; exact Nat.mod_eq_of_lt hrB)
  go_wp2_with fail
  refine (trimmed_any _ _ _ r _ (hown5.lie (Nat.le_refl _) (by unfold maxLen; omega)) (by rw [Nat.pow_one]; exact hrB)).mono ?_
  rintro e w5 ⟨m2, rfl, hm2, hfit2, rfl⟩
  go_wp2
  go_ret2
  have hb3 : Below w.heap.size w w3 := (hb1.trans (hb2.mono hb1.size)).trans (ho3.below (by have := hb1.size; omega))
  have hb4 : Below w3.heap.size w3 (w3.alloc (.cells #[.int .u32 (r : Nat)] 56)) := (Below.refl _ _).alloc (Nat.le_refl _) _
  refine ⟨some ⟨g, 0, none⟩, m1, n, some ⟨w3.heap.size, 0, none⟩, m2, 1, rfl, ⟨(hown4.lie hm1 (by unfold maxLen; omega)).below hb4, hfit1, fun p hp => ?_⟩, ?_, hb3.trans (hb4.mono hb3.size)⟩
  · cases hp; have := hb1.size; show _ ≤ g; omega
  · rw [← HR.out]
    exact ⟨hown5.lie hm2 (by unfold maxLen; omega), hfit2, fun p hp => by cases hp; exact hb3.size⟩
end Go.Proofs.YtpacbipencmjnaaDoor

/- The walk of quotient, the case of a divisor of several parts. -/
namespace Go.Proofs.YtpacbipencmjnaaDoor
open Go.RowKit

theorem lmb_shift (V j i : Nat) : lmb (V / BB ^ j) i = lmb V (j + i) := by
  unfold lmb
  rw [Nat.div_div_eq_div_mul, ← Nat.pow_add]
theorem quo_part (A D j : Nat) : A % (D * BB ^ (j + 1)) / BB ^ j / D = lmb (A / D) j := by
  rw [Nat.div_div_eq_div_mul, Nat.mul_comm (BB ^ j) D, Nat.pow_succ, ← Nat.mul_assoc, Nat.mod_mul_right_div_self]
  unfold lmb
  rw [Nat.div_div_eq_div_mul]
theorem quo_rest (A D j : Nat) : A % (D * BB ^ j) = A % (D * BB ^ (j + 1)) % BB ^ j + BB ^ j * (A % (D * BB ^ (j + 1)) / BB ^ j % D) := by
  rw [← Nat.mod_mul, Nat.mul_comm (BB ^ j) D, Nat.pow_succ, ← Nat.mul_assoc, Nat.mod_mul_right_mod]
theorem quo_win {A D n j T : Nat} (hD : D < BB ^ n) : ∀ p, p < T →
    winK j n (n + 1) (A % (D * BB ^ (j + 1)) / BB ^ j % D) (A % (D * BB ^ (j + 1)) / BB ^ j) (lmb (A % (D * BB ^ (j + 1)))) p = lmb (A % (D * BB ^ j)) p := by
  intro p _
  have hDp : 0 < D * BB ^ (j + 1) ∨ D = 0 := by
    rcases Nat.eq_zero_or_pos D with h | h
    · exact .inr h
    · exact .inl (Nat.mul_pos h (BBp _))
  have hr := quo_rest A D j
  by_cases h1 : j ≤ p ∧ p ≤ j + n
  · unfold winK
    rw [if_pos h1, if_pos (by omega), hr]
    obtain ⟨i, rfl⟩ : ∃ i, p = j + i := ⟨p - j, by omega⟩
    rw [← lmb_shift, show j + i - j = i from by omega, Nat.add_mul_div_left _ _ (BBp j), Nat.div_eq_of_lt (Nat.mod_lt _ (BBp j)), Nat.zero_add]
  · unfold winK
    rw [if_neg h1]
    by_cases h2 : p < j
    · rw [hr, lmb_add_hi _ _ _ _ h2]
      conv => lhs; rw [← Nat.mod_add_div (A % (D * BB ^ (j + 1))) (BB ^ j)]
      rw [lmb_add_hi _ _ _ _ h2]
    · rcases hDp with hDp | hDp
      · have e1 : A % (D * BB ^ (j + 1)) < BB ^ (n + (j + 1)) := Nat.lt_of_lt_of_le (Nat.mod_lt _ hDp) (by rw [Nat.pow_add BB n]; exact Nat.mul_le_mul_right _ (Nat.le_of_lt hD))
        have hD0 : 0 < D := Nat.pos_of_mul_pos_right hDp
        have e2 : A % (D * BB ^ j) < BB ^ (n + j) := Nat.lt_of_lt_of_le (Nat.mod_lt _ (Nat.mul_pos hD0 (BBp _))) (by rw [Nat.pow_add]; exact Nat.mul_le_mul_right _ (Nat.le_of_lt hD))
        rw [lmb_zero e1 (by omega), lmb_zero e2 (by omega)]
      · subst hDp; simp
/-- The parts of a quotient that are told: those from k on. -/
def quoF (Q k : Nat) (p : Nat) : Nat := if k ≤ p then lmb Q p else 0
theorem quoF_next (Q j n : Nat) : ∀ p, p < n → p ≠ j → quoF Q (j + 1) p = quoF Q j p := by
  intro p _ hne
  unfold quoF
  by_cases h : j + 1 ≤ p
  · rw [if_pos h, if_pos (by omega)]
  · rw [if_neg h, if_neg (by omega)]

theorem Own.grown {k : IntKind} {e : TypeId} {w w' : World} {g n : Nat} {f : Nat → Nat} {r : Option Nat} (h : Own k e w g n f) (hg : w.grownBy w' r) (hr : some g ≠ r) : Own k e w' g n f := by
  unfold Own at h ⊢
  rw [hg.block g (Array.getElem?_eq_some_iff.1 h).1 hr]; exact h
theorem below_grown {B g : Nat} {w0 w w' : World} (h : Below B w0 w) (hg : w.grownBy w' (some g)) (hB : B ≤ w.heap.size) (hr : B ≤ g) : Below B w0 w' :=
  h.grown hg hB (fun k hk => by cases hk; exact hr)

set_option maxRecDepth 100000 in
set_option maxHeartbeats 1600000 in
theorem quotient_many (a b : Option Addr) (na c n d A B : Nat) (w : World) (ha : Lie .u32 w a na c (lmb A)) (hb : Lie .u32 w b n d (lmb B)) (fa : Fit na A) (fb : Fit n B) (hna : na ≤ 100000000) (hn2 : 2 ≤ n) (hlt : B ≤ A) :
    Calls Tryd.prog 35 #[.slice a na c, .slice b n d] w (PQuo A B w) := by
  have hnn : n ≤ na := fit_le fb (Nat.lt_of_le_of_lt hlt fa.1)
  obtain ⟨q, rfl⟩ : ∃ q, na = n + q := ⟨na - n, by omega⟩
  obtain ⟨b1, o1, rfl, hb1'⟩ := hb.some_of_pos (by omega)
  have hcmp : 0 ≤ cmpN A B := by unfold cmpN; rw [if_neg (by omega)]; split <;> omega
  have hcm := ha.capm
  have hnc := ha.cap
  have hdm := hb.capm
  have hmd := hb.cap
  unfold maxLen at hcm hdm
  have htl := lmb_lt B (n - 1)
  obtain ⟨s, hs⟩ : ∃ s, s = 32 - Lib.bitLen (lmb B (n - 1)) := ⟨_, rfl⟩
  obtain ⟨hs32, hfD, htop⟩ := top_lead fb (by omega) hs
  have hsI : (32 : Int) - (Lib.bitLen ((lmb B (n - 1) : Int)).toNat : Int) = (s : Int) := by
    rw [Int.toNat_natCast]; have := (bitLen_in htop htl).2.1; omega
  have HSI := Lib.hid hsI
  clear hs hsI
  go_enter Tryd.func35, Tryd.ntmps35
  go_wp2_with fail
  refine (compare_any a _ (n + q) c n d A B _ ha hb fa fb).mono ?_
  rintro e w1 ⟨rfl, hb1⟩
  have ha1 := ha.below hb1
  have hbb1 := hb.below hb1
  generalize cmpN A B = cc at *
  have c1 := hbb1.at (n - 1) (by omega)
  clear ha hb
  go_wp2_with fail
  refine (Tryd.bits_LeadingZeros32 _ _ (by omega) (by omega)).mono ?_
  rintro e w1' ⟨rfl, hww⟩
  subst hww
  rw [HSI.out]
  go_wp2_with fail
  refine (raised_any _ n d B s _ hbb1 fb.1 hs32 (by omega)).mono ?_
  rintro e w2 ⟨gD, rfl, hgD, hownD, hb2⟩
  have ha2 := ha1.below hb2
  go_wp2_with fail
  refine (trimmed_any _ _ _ (B * 2 ^ s) _ (hownD.lie (Nat.le_refl _) (by unfold maxLen; omega)) (fit_mono hfD.1 (by omega))).mono ?_
  rintro e w2' ⟨nd, rfl, hnd, hfit, rfl⟩
  obtain rfl := (fit_uniq hfD hfit)
  go_wp2_with fail
  refine (raised_any _ (n + q) c A s _ ha2 fa.1 hs32 (by omega)).mono ?_
  rintro e w3 ⟨gR, rfl, hgR, hownR, hb3⟩
  have hlD := hownD.lt
  have hownD3 := hownD.below hb3
  clear hownD ha1 ha2 hbb1
  have hm4 : 4 * (q + 1) ≤ 281474976710656 := by omega
  have hm6 : q + 1 ≤ 9223372036854775807 := by omega
  go_wp2_with (first | (at_make; refine wpList_mk _ rfl (.tmp 51) (.tmp 51) 23 rfl 56 .u32 4 Tryd.u23 Tryd.info56 _ _ (q + 1) rfl rfl (by omega) (by omega) hm4 hm6 ?_; intro gQ w4 hgQ hownQ hb4))
  have HAD : Hid (A * 2 ^ s < B * 2 ^ s * BB ^ (q + 1)) := by
    show _ < _
    have h1 : A < B * BB ^ (q + 1) := by
      refine Nat.lt_of_lt_of_le fa.1 ?_
      have h2 : BB ^ (n - 1) ≤ B := by rcases fb.2 with h | h <;> omega
      rw [show n + q = (n - 1) + (q + 1) from by omega, Nat.pow_add]
      exact Nat.mul_le_mul_right _ h2
    rw [Nat.mul_right_comm]
    exact (Nat.mul_lt_mul_right (Nat.pow_pos (by decide))).2 h1
  have hDpos : 0 < B * 2 ^ s := Nat.pos_of_ne_zero fun h => by have := (fit_pos hfD).2 h; omega
  have HFD := Lib.hid hfD
  have HQ : Hid (A * 2 ^ s / (B * 2 ^ s) = A / B ∧ A * 2 ^ s % (B * 2 ^ s) / 2 ^ s = A % B) := by
    refine ⟨Nat.mul_div_mul_right _ _ (Nat.pow_pos (by decide)), ?_⟩
    rw [Nat.mul_mod_mul_right, Nat.mul_div_cancel _ (Nat.pow_pos (by decide))]
  clear hfD hfit fa fb
  generalize A * 2 ^ s = A' at *
  generalize B * 2 ^ s = D at *
  have hlR := hownR.lt
  have hb04 : Below w.heap.size w w4 := (((hb1.trans (hb2.mono hb1.size)).trans (hb3.mono (by have := hb1.size; have := hb2.size; omega))).trans (hb4.mono (by have := hb1.size; have := hb2.size; have := hb3.size; omega)))
  have hw2 : w.heap.size ≤ gD := by have := hb1.size; omega
  go_loopw [55] (fun iv wr => ∃ i : Nat, i ≤ q + 1 ∧ iv = .int .i64 i ∧ Own .u32 56 wr gR (n + q + 1) (lmb (A' % (D * BB ^ (q + 1 - i)))) ∧ Own .u32 56 wr gQ (q + 1) (quoF (A' / D) (q + 1 - i)) ∧ Own .u32 56 wr gD (n + 1) (lmb D) ∧ Below w.heap.size w wr) (fun iv _ => q + 1 - (intOf iv).toNat)
  case atStart =>
    refine ⟨0, Nat.zero_le _, rfl, ?_, hownQ.congr (fun j hj => by rw [quoF, if_neg (by omega)]), hownD3.below hb4, hb04⟩
    rw [Nat.sub_zero, Nat.mod_eq_of_lt HAD.out]
    exact hownR.below hb4
  case round =>
    obtain ⟨i, hi, rfl, oR, oQ, oD, hbl⟩ := hrel
    by_cases hiq : i < q + 1
    · rw [show q + 1 - i = (q - i) + 1 from by omega] at oR oQ
      have hVlt : A' % (D * BB ^ (q - i + 1)) / BB ^ (q - i) < D * BB := by
        refine Nat.div_lt_of_lt_mul (Nat.lt_of_lt_of_le (Nat.mod_lt _ (Nat.mul_pos hDpos (BBp _))) ?_)
        rw [Nat.pow_succ, ← Nat.mul_assoc, Nat.mul_comm D, Nat.mul_assoc]
        exact Nat.le_refl _
      have HV := Lib.hid hVlt
      clear hVlt
      go_wp2_with fail
      rw [show q - i + n + 1 - (q - i) = n + 1 from by omega]
      refine (nextPart_any gR (n + q + 1) (q - i) n _ (A' % (D * BB ^ (q - i + 1)) / BB ^ (q - i)) D gD 0 (n + 1) _ _ oR (by omega) (by omega) (by omega) (by unfold maxLen; omega)
        (fun j hj => (lmb_shift _ _ _).symm) (oD.lie (by omega) (by unfold maxLen; omega)) (by omega) hn2 HV.out HFD.out).mono ?_
      rintro e w5 ⟨rfl, oR5, hg5⟩
      rw [quo_part]
      have oQ5 := oQ.grown hg5 (by intro h; cases h; omega)
      have oD5 := oD.grown hg5 (by intro h; cases h; omega)
      have hb5 := below_grown hbl hg5 hbl.size (by omega)
      have oR5' := oR5.congr (quo_win HFD.out.1)
      have hl := lmb_lt (A' / D) (q - i)
      have cq := oQ5.cell (q - i) (by omega)
      have cf := oQ5.free (q - i)
      clear oR oQ oD oR5
      go_wp2
      go_roundw
      case rel =>
        refine ⟨i + 1, by omega, by go_num, ?_, ?_, ?_, hb5.setCell (p := ⟨gQ, q - i, none⟩) (by show _ ≤ gQ; omega) _⟩
        · rw [show q + 1 - (i + 1) = q - i from by omega]
          exact oR5'.only (Only.setCell _ _ _ _) (by omega)
        · rw [show q + 1 - (i + 1) = q - i from by omega]
          exact oQ5.put (by omega) (by rw [quoF, if_pos (Nat.le_refl _)]) (quoF_next _ _ _)
        · exact oD5.only (Only.setCell _ _ _ _) (by omega)
      case measure => simp [intOf]; omega
    · obtain rfl : i = q + 1 := by omega
      rw [Nat.sub_self] at oR oQ
      rw [Nat.pow_zero, Nat.mul_one] at oR
      have oQ' : Own .u32 56 wr gQ (q + 1) (lmb (A' / D)) := oQ.congr (fun p hp => by rw [quoF, if_pos (Nat.zero_le _)])
      have hRl : A' % D < BB ^ (n + q + 1) := Nat.lt_of_lt_of_le (Nat.mod_lt _ hDpos) (Nat.le_of_lt (fit_mono HFD.out.1 (by omega)))
      have hQl : A' / D < BB ^ (q + 1) := Nat.div_lt_of_lt_mul HAD.out
      have HRl := Lib.hid hRl
      have HQl := Lib.hid hQl
      clear oQ hRl hQl
      go_wp2_with fail
      refine (trimmed_any _ _ _ (A' / D) _ (oQ'.lie (Nat.le_refl _) (by unfold maxLen; omega)) HQl.out).mono ?_
      rintro e w6 ⟨m1, rfl, hm1, hfit1, rfl⟩
      go_wp2_with fail
      refine (trimmed_any _ _ _ (A' % D) _ (oR.lie (Nat.le_refl _) (by unfold maxLen; omega)) HRl.out).mono ?_
      rintro e w6 ⟨m2, rfl, hm2, hfit2, rfl⟩
      go_wp2_with fail
      refine (lowered_any _ m2 _ (A' % D) s _ (oR.lie hm2 (by unfold maxLen; omega)) hfit2.1 hs32 (by omega)).mono ?_
      rintro e w7 ⟨a3, m3, c3, rfl, hl3, hf3, hfr3, hb7⟩
      go_wp2
      go_ret2
      rw [HQ.out.2] at hl3 hf3
      rw [HQ.out.1] at hfit1 oQ'
      exact ⟨some ⟨gQ, 0, none⟩, m1, _, a3, m3, c3, rfl, ⟨(oQ'.lie hm1 (by unfold maxLen; omega)).below hb7, hfit1, (fun p hp => by cases hp; show _ ≤ gQ; omega)⟩, ⟨hl3, hf3, (fun p hp => Nat.le_trans hbl.size (hfr3 p hp))⟩, hbl.trans (hb7.mono hbl.size)⟩

theorem quotient_any (a b : Option Addr) (n c m d A B : Nat) (w : World) (ha : Lie .u32 w a n c (lmb A)) (hb : Lie .u32 w b m d (lmb B)) (fa : Fit n A) (fb : Fit m B) (hn : n ≤ 100000000) (hB : 0 < B) :
    Calls Tryd.prog 35 #[.slice a n c, .slice b m d] w (PQuo A B w) := by
  by_cases hlt : A < B
  · exact quotient_lt a b n c m d A B w ha hb fa fb (by omega) hlt
  · have hm0 : m ≠ 0 := fun h => by have := (fit_pos fb).1 h; omega
    by_cases hm : m = 1
    · subst hm; exact quotient_one a b n c d A B w ha hb fa fb (by omega) (by omega)
    · exact quotient_many a b n c m d A B w ha hb fa fb hn (by omega) (by omega)
end Go.Proofs.YtpacbipencmjnaaDoor

/- The walks of bitCount, powerOfTwo and root. -/
namespace Go.Proofs.YtpacbipencmjnaaDoor
open Go.RowKit

/-- How many binary digits a number has. -/
def bitsN (N : Nat) : Nat := if N = 0 then 0 else Nat.log2 N + 1
theorem bitsN_of {N k : Nat} (h1 : 2 ^ k ≤ N) (h2 : N < 2 ^ (k + 1)) : bitsN N = k + 1 := by
  have h0 : N ≠ 0 := fun h => by subst h; have := Nat.pow_pos (n := k) (show 0 < 2 by decide); omega
  have a1 := (Nat.le_log2 h0).2 h1
  have a2 := (Nat.log2_lt h0).2 h2
  unfold bitsN
  rw [if_neg h0]
  omega
theorem BB_pow (k : Nat) : BB ^ k = 2 ^ (32 * k) := by rw [Nat.pow_mul]; rfl
theorem bits_top {N n : Nat} (hN : Fit n N) (hn : 1 ≤ n) : bitsN N = 32 * (n - 1) + Lib.bitLen (lmb N (n - 1)) ∧ 1 ≤ lmb N (n - 1) ∧ 1 ≤ Lib.bitLen (lmb N (n - 1)) ∧ Lib.bitLen (lmb N (n - 1)) ≤ 32 := by
  obtain ⟨m, rfl⟩ : ∃ m, n = m + 1 := ⟨n - 1, by omega⟩
  simp only [Nat.add_sub_cancel]
  have hN1 := hN.1
  have hN2 : BB ^ m ≤ N := by rcases hN.2 with h | h <;> simp at h ⊢; exact h
  have htop : 1 ≤ lmb N m := by rw [lmb_top hN1]; exact Nat.div_pos hN2 (BBp _)
  obtain ⟨h1, h2, h3, h4⟩ := bitLen_in htop (lmb_lt N m)
  refine ⟨?_, htop, h1, h2⟩
  generalize hL : Lib.bitLen (lmb N m) = L at *
  obtain ⟨l, rfl⟩ : ∃ l, L = l + 1 := ⟨L - 1, by omega⟩
  simp only [Nat.add_sub_cancel] at h3
  rw [lmb_top hN1] at h3 h4
  rw [← Nat.add_assoc]
  apply bitsN_of
  · rw [Nat.pow_add, ← BB_pow, Nat.mul_comm]
    exact (Nat.le_div_iff_mul_le (BBp m)).1 h3
  · rw [Nat.add_assoc, Nat.pow_add, ← BB_pow, Nat.mul_comm]
    exact (Nat.div_lt_iff_lt_mul (BBp m)).1 h4

set_option maxHeartbeats 400000 in
theorem bitCount_any (a : Option Addr) (n c N : Nat) (w : World) (ha : Lie .u32 w a n c (lmb N)) (fa : Fit n N) (hn : n ≤ 100000000) :
    Calls Tryd.prog 28 #[.slice a n c] w (PVal (.int .i64 (bitsN N)) w) := by
  by_cases h0 : n = 0
  · subst h0
    obtain rfl := (fit_pos fa).1 rfl
    go_enter Tryd.func28, Tryd.ntmps28
    go_wp2
    go_ret
    exact ⟨ret_int rfl, Below.refl _ _⟩
  · obtain ⟨b, o, rfl, hb⟩ := ha.some_of_pos (by omega)
    have c1 := ha.at (n - 1) (by omega)
    obtain ⟨e1, e2, e3, e4⟩ := bits_top fa (by omega)
    have hl := lmb_lt N (n - 1)
    have h0' : ((n : Int) == 0) = false := by simpa using h0
    have hn1 : 1 ≤ n := by omega
    have H1 := Lib.hid e1
    have HE : Hid (((lmb N (n - 1) : Int)).toNat = lmb N (n - 1)) := Int.toNat_natCast _
    clear e1 ha fa h0
    go_enter Tryd.func28, Tryd.ntmps28
    go_wp2_with fail
    refine (Tryd.bits_Len32 _ _ (by omega) (by omega)).mono ?_
    rintro e w1 ⟨rfl, hww⟩
    subst hww
    rw [HE.out]
    go_wp2
    go_ret
    exact ⟨ret_int (by rw [H1.out]; omega), Below.refl _ _⟩

theorem pow_part (k j : Nat) : lmb (2 ^ k) j = if j = k / 32 then 2 ^ (k % 32) else 0 := by
  have hk := Nat.div_add_mod k 32
  have hr := Nat.mod_lt k (show 0 < 32 by decide)
  unfold lmb
  rw [BB_pow]
  by_cases h : j = k / 32
  · subst h
    rw [if_pos rfl, Nat.pow_div (by omega) (by decide), show k - 32 * (k / 32) = k % 32 from by omega]
    exact Nat.mod_eq_of_lt (Nat.pow_lt_pow_right (by decide) hr)
  · rw [if_neg h]
    by_cases h2 : j < k / 32
    · rw [Nat.pow_div (by omega) (by decide), show k - 32 * j = 32 + (k - 32 * j - 32) from by omega, Nat.pow_add]
      exact Nat.mul_mod_right _ _
    · rw [Nat.div_eq_of_lt (Nat.pow_lt_pow_right (by decide) (by omega))]; rfl
theorem pow_fit (k : Nat) : Fit (k / 32 + 1) (2 ^ k) := by
  have hk := Nat.div_add_mod k 32
  have hr := Nat.mod_lt k (show 0 < 32 by decide)
  refine ⟨?_, .inr ?_⟩
  · rw [BB_pow]; exact Nat.pow_lt_pow_right (by decide) (by omega)
  · rw [Nat.add_sub_cancel, BB_pow]; exact Nat.pow_le_pow_right (by decide) (by omega)

set_option maxHeartbeats 400000 in
theorem powerOfTwo_any (k : Nat) (w : World) (hk : k ≤ 32000000000) :
    Calls Tryd.prog 39 #[.int .i64 k] w (PNew .u32 56 (k / 32 + 1) (lmb (2 ^ k)) w) := by
  have hn4 : 4 * (k / 32 + 1) ≤ 281474976710656 := by omega
  have hn6 : k / 32 + 1 ≤ 9223372036854775807 := by omega
  have hp : (2 : Int) ^ (k % 32) < 4294967296 := by
    have : 2 ^ (k % 32) < 2 ^ 32 := Nat.pow_lt_pow_right (by decide) (Nat.mod_lt k (by decide))
    have h2 : ((2 ^ (k % 32) : Nat) : Int) = (2 : Int) ^ (k % 32) := by rw [Int.natCast_pow]; rfl
    omega
  have hp0 : (0 : Int) < (2 : Int) ^ (k % 32) := Int.pow_pos (by decide)
  go_enter Tryd.func39, Tryd.ntmps39
  go_wp2_with (first | (at_make; refine wpList_mk _ rfl (.tmp 6) (.tmp 6) 23 rfl 56 .u32 4 Tryd.u23 Tryd.info56 _ _ (k / 32 + 1) rfl rfl (by omega) (by omega) hn4 hn6 ?_; intro g w1 hg hown hb1; have c1 := hown.cell (k / 32) (by omega); have c2 := hown.free (k / 32)))
  go_ret
  refine ⟨g, rfl, hg, hown.put (by omega) ?_ (fun j hj hne => by rw [pow_part, if_neg hne]), hb1.setCell (p := ⟨g, k / 32, none⟩) hg _⟩
  rw [pow_part, if_pos rfl, Int.natCast_pow]; rfl

/-- The greatest number whose square is not above N: its parts are handed back. -/
def PRoot (N : Nat) (w : World) (e : Ending) (w' : World) : Prop := ∃ R : Nat, R * R ≤ N ∧ N < (R + 1) * (R + 1) ∧ PPart R w e w'

theorem newton_stop {N G : Nat} (hG : 0 < G) (h : G ≤ (G + N / G) / 2) : G * G ≤ N := by
  have h1 : G ≤ N / G := by omega
  exact (Nat.le_div_iff_mul_le hG).1 h1
theorem newton_go {N G : Nat} (hG : 0 < G) (hN : 0 < N) (h : N < (G + 1) * (G + 1)) : N < ((G + N / G) / 2 + 1) * ((G + N / G) / 2 + 1) ∧ 0 < (G + N / G) / 2 := by
  have key : ∀ r : Nat, r * r ≤ N → r ≤ (G + N / G) / 2 := by
    intro r hr
    have h1 : 2 * r ≤ G + N / G := by
      by_cases hle : 2 * r ≤ G
      · exact Nat.le_trans hle (Nat.le_add_right _ _)
      · have h2 : 2 * r - G ≤ N / G := by
          refine (Nat.le_div_iff_mul_le hG).2 (Nat.le_trans ?_ hr)
          have e : ((2 * r - G : Nat) : Int) = 2 * (r : Int) - (G : Int) := by omega
          have : ((2 * r - G : Nat) : Int) * (G : Int) ≤ (r : Int) * (r : Int) := by
            rw [e]
            have hsq : 0 ≤ ((r : Int) - (G : Int)) * ((r : Int) - (G : Int)) := by
              rcases Int.le_total 0 ((r : Int) - (G : Int)) with h | h
              · exact Int.mul_nonneg h h
              · exact Int.mul_nonneg_of_nonpos_of_nonpos h h
            have e2 : ((r : Int) - (G : Int)) * ((r : Int) - (G : Int)) = (r : Int) * r - (2 * (r : Int) - G) * G := by
              simp only [Int.sub_mul, Int.mul_sub, Int.mul_assoc, Int.mul_comm (G : Int) r]; omega
            omega
          exact_mod_cast this
        omega
    omega
  refine ⟨Nat.lt_of_not_le fun hc => ?_, ?_⟩
  · have := key _ hc
    omega
  · have := key 1 (by omega)
    omega
theorem guess_first {N n : Nat} (hN : 0 < N) (hf : Fit n N) : N < (2 ^ ((bitsN N + 1) / 2) + 1) * (2 ^ ((bitsN N + 1) / 2) + 1) ∧ 2 ^ ((bitsN N + 1) / 2) < BB ^ (n + 1) ∧ (bitsN N + 1) / 2 ≤ 32 * n := by
  have h0 : N ≠ 0 := by omega
  have hb : bitsN N = Nat.log2 N + 1 := by unfold bitsN; rw [if_neg h0]
  have h1 : N < 2 ^ bitsN N := by rw [hb]; exact Nat.lt_log2_self
  have h2 : 2 ^ (Nat.log2 N) ≤ N := Nat.log2_self_le h0
  have h3 : Nat.log2 N < 32 * n := (Nat.log2_lt h0).2 (by rw [← BB_pow]; exact hf.1)
  refine ⟨?_, ?_, by omega⟩
  · refine Nat.lt_of_lt_of_le h1 ?_
    have : 2 ^ bitsN N ≤ 2 ^ ((bitsN N + 1) / 2) * 2 ^ ((bitsN N + 1) / 2) := by
      rw [← Nat.pow_add]; exact Nat.pow_le_pow_right (by decide) (by omega)
    refine Nat.le_trans this (Nat.mul_le_mul (by omega) (by omega))
  · rw [BB_pow]; exact Nat.pow_lt_pow_right (by decide) (by omega)
theorem cmp_ge {A B : Nat} : decide (0 ≤ cmpN A B) = decide (B ≤ A) := by
  unfold cmpN
  by_cases h : A < B
  · rw [if_pos h]; simp; omega
  · rw [if_neg h]; by_cases h2 : B < A
    · rw [if_pos h2]; simp; omega
    · rw [if_neg h2]; simp; omega

set_option maxHeartbeats 1600000 in
theorem root_any (a : Option Addr) (n c N : Nat) (w : World) (ha : Lie .u32 w a n c (lmb N)) (fa : Fit n N) (hn : n ≤ 10000000) :
    Calls Tryd.prog 20 #[.slice a n c] w (PRoot N w) := by
  by_cases h0 : n = 0
  · subst h0
    obtain rfl := (fit_pos fa).1 rfl
    go_enter Tryd.func20, Tryd.ntmps20
    go_wp2
    go_ret
    exact ⟨0, by omega, by omega, none, 0, 0, rfl, lie_nil _ _ _, fit_zero, (fun p hp => by cases hp), Below.refl _ _⟩
  · have hN : 0 < N := Nat.pos_of_ne_zero fun h => h0 ((fit_pos fa).2 h)
    have hn1 : 1 ≤ n := by omega
    obtain ⟨g1, g2, g3⟩ := guess_first hN fa
    have h0' : ((n : Int) == 0) = false := by simpa using h0
    have H1 := Lib.hid g1
    have H2 := Lib.hid g2
    have HF := Lib.hid fa
    have hcm := ha.capm
    have hnc := ha.cap
    unfold maxLen at hcm
    clear h0 g1 g2 fa
    have hbb : bitsN N ≤ 64 * n + 1 := by omega
    go_enter Tryd.func20, Tryd.ntmps20
    go_wp2_with fail
    refine (bitCount_any a n c N _ ha HF.out (by omega)).mono ?_
    rintro e w1 ⟨rfl, hb1⟩
    have HB : Hid (((bitsN N : Int) + 1) / 2 = (((bitsN N + 1) / 2 : Nat) : Int)) := by show _ = _; omega
    go_wp2_with fail
    rw [HB.out]
    refine (powerOfTwo_any ((bitsN N + 1) / 2) _ (by omega)).mono ?_
    rintro e w2 ⟨g, rfl, hg, hown, hb2⟩
    have hfit := pow_fit ((bitsN N + 1) / 2)
    have hb02 : Below w.heap.size w w2 := hb1.trans (hb2.mono hb1.size)
    have hg0 : w.heap.size ≤ g := Nat.le_trans hb1.size hg
    generalize hGe : (2 : Nat) ^ ((bitsN N + 1) / 2) = G0 at *
    generalize (bitsN N + 1) / 2 / 32 + 1 = m0 at *
    have hG0 : 0 < G0 := by rw [← hGe]; exact Nat.pow_pos (by decide)
    have hm0 := fit_le hfit H2.out
    have HGE := Lib.hid hGe
    clear hGe HB
    go_wp2
    go_loopg [3] G0 (fun G v wr => ∃ (a1 : Option Addr) (m c1 : Nat), v = .slice a1 m c1 ∧ Lie .u32 wr a1 m c1 (lmb G) ∧ Fit m G ∧ m ≤ n + 1 ∧ 0 < G ∧ N < (G + 1) * (G + 1) ∧ (∀ p, a1 = some p → w.heap.size ≤ p.block) ∧ Below w.heap.size w wr)
    case atStart => exact ⟨some ⟨g, 0, none⟩, m0, m0, rfl, hown.lie (Nat.le_refl _) (by unfold maxLen; omega), hfit, hm0, hG0, H1.out, (fun p hp => by cases hp; exact hg0), hb02⟩
    case round =>
      obtain ⟨a1, m, c1, rfl, hl, hf, hm, hG, hlt, hfr, hbl⟩ := hrel
      have haw := ha.below hbl
      have HL := Lib.hid hlt
      have HFR := Lib.hid hfr
      have HM := Lib.hid hf
      clear hlt hfr hf
      go_wp2_with fail
      refine (quotient_any a a1 n c m c1 N gk _ haw hl HF.out HM.out (by omega) hG).mono ?_
      rintro e w3 ⟨a3, n3, c3, a4, n4, c4, rfl, ⟨hl3, hf3, hfr3⟩, _, hb3⟩
      have hl' := hl.below hb3
      have hn3 : n3 ≤ n := fit_le hf3 (Nat.lt_of_le_of_lt (Nat.div_le_self _ _) HF.out.1)
      have H3 := Lib.hid hf3
      clear hl haw hf3 hfr3
      go_wp2_with fail
      refine (sum_any a1 a3 m c1 n3 c3 gk (N / gk) _ hl' hl3 HM.out H3.out (by omega) (by omega)).mono ?_
      rintro e w4 ⟨a5, n5, c5, rfl, hl5, hf5, hfr5, hb4⟩
      have hl'' := hl'.below hb4
      have hn5 : n5 ≤ n + 2 := by
        refine fit_le hf5 ?_
        have q1 : gk < BB ^ (n + 1) := fit_mono HM.out.1 hm
        have q2 : N / gk < BB ^ (n + 1) := fit_mono (Nat.lt_of_le_of_lt (Nat.div_le_self _ _) HF.out.1) (by omega)
        exact (cy_end q1 q2).2
      have H5 := Lib.hid hf5
      clear hl' hl3 hf5 hfr5
      go_wp2_with fail
      refine (lowered_any a5 n5 c5 (gk + N / gk) 1 _ hl5 H5.out.1 (by omega) (by omega)).mono ?_
      rintro e w5 ⟨a6, n6, c6, rfl, hl6, hf6, hfr6, hb5⟩
      have hl7 := hl''.below hb5
      rw [Nat.pow_one] at hl6 hf6
      have H6 := Lib.hid hf6
      have HR6 := Lib.hid hfr6
      clear hl'' hl5 hf6 hfr6
      have hbA : Below w.heap.size w w4 := (hbl.trans (hb3.mono hbl.size)).trans (hb4.mono (Nat.le_trans hbl.size hb3.size))
      have hbB : Below w.heap.size w w5 := hbA.trans (hb5.mono hbA.size)
      go_wp2_with fail
      refine (compare_any a6 a1 n6 c6 m c1 ((gk + N / gk) / 2) gk _ hl6 hl7 H6.out HM.out).mono ?_
      rintro e w6 ⟨rfl, hb6⟩
      have hge := cmp_ge (A := (gk + N / gk) / 2) (B := gk)
      have hbC : Below w.heap.size w w6 := hbB.trans (hb6.mono hbB.size)
      by_cases hc : gk ≤ (gk + N / gk) / 2
      · have hd : decide (0 ≤ cmpN ((gk + N / gk) / 2) gk) = true := by rw [hge]; exact decide_eq_true hc
        have HS := Lib.hid (newton_stop hG hc)
        clear hge hc
        generalize cmpN ((gk + N / gk) / 2) gk = cc at *
        go_wp2
        go_ret
        exact ⟨gk, HS.out, HL.out, a1, m, c1, rfl, hl7.below hb6, HM.out, HFR.out, hbC⟩
      · have hd : decide (0 ≤ cmpN ((gk + N / gk) / 2) gk) = false := by rw [hge]; exact decide_eq_false hc
        have HS := Lib.hid (newton_go hG hN HL.out)
        have HC := Lib.hid hc
        clear hge hc
        have hn6 : n6 ≤ n + 1 := fit_le H6.out (Nat.lt_of_lt_of_le (Nat.lt_of_not_le HC.out) (Nat.le_of_lt (fit_mono HM.out.1 hm)))
        generalize hcc : cmpN ((gk + N / gk) / 2) gk = cc at *
        clear hcc
        go_wp2
        go_roundg ((gk + N / gk) / 2)
        case measure => exact Nat.lt_of_not_le HC.out
        case rel => exact ⟨a6, n6, c6, rfl, hl6.below hb6, H6.out, hn6, HS.out.2, HS.out.1, (fun p hp => Nat.le_trans hbA.size (HR6.out p hp)), hbC⟩
end Go.Proofs.YtpacbipencmjnaaDoor

/- The walk of difference. -/
namespace Go.Proofs.YtpacbipencmjnaaDoor
open Go.RowKit
def difF (A B i : Nat) (j : Nat) : Nat := if j < i then lmb (A - B) j else lmb A j
theorem difF_next {A B n : Nat} (k : Nat) : ∀ j, j < n → j ≠ k → difF A B k j = difF A B (k + 1) j := by
  intro j _ hne
  unfold difF
  by_cases h1 : j < k <;> by_cases h2 : j < k + 1 <;> simp [h1, h2] <;> omega
set_option maxHeartbeats 800000 in
theorem difference_any (a b : Option Addr) (n c m d A B : Nat) (w : World) (ha : Lie .u32 w a n c (lmb A)) (hb : Lie .u32 w b m d (lmb B)) (fa : Fit n A) (fb : Fit m B) (hBA : B ≤ A) (hn : n ≤ 1000000000) :
    Calls Tryd.prog 61 #[.slice a n c, .slice b m d] w (PPart (A - B) w) := by
  have hcm := ha.capm
  have hnc := ha.cap
  have hdm := hb.capm
  have hmd := hb.cap
  unfold maxLen at hcm hdm
  have hn6 : n ≤ 9223372036854775807 := by omega
  have HA := Lib.hid fa
  have HB := Lib.hid fb
  clear fa fb
  go_enter Tryd.func61, Tryd.ntmps61
  go_wp2_with fail
  refine (copied_any a n c (lmb A) _ ha hn).mono ?_
  rintro e w1 ⟨g, rfl, hg, hown1, hb1⟩
  go_wp2
  go_loopw [6, 13] (fun bv i wr => ∃ k : Nat, k ≤ n ∧ i = .int .i64 k ∧ bv = .int .u32 (bw A B k) ∧ Own .u32 56 wr g n (difF A B k) ∧ Below w.heap.size w wr) (fun _ i _ => n - (intOf i).toNat)
  case atStart => exact ⟨0, Nat.zero_le _, rfl, by rw [bw_zero]; rfl, hown1.congr (fun j hj => by simp [difF]), hb1⟩
  case round =>
    obtain ⟨k, hk, rfl, rfl, hown, hbl⟩ := hrel
    have hcb := bw_le A B k
    have hst := Lib.hid (bw_part hBA k)
    have hsn := Lib.hid (bw_next A B k)
    have hla := lmb_lt A k
    have hlb := lmb_lt B k
    by_cases hlt : k < n
    · have c1 : wr.cell? ⟨g, k, none⟩ = some (.int .u32 (lmb A k)) := by rw [hown.cell k (by omega)]; simp [difF]
      have c2 := hown.free k
      have hbs := hbl.setCell (p := ⟨g, k, none⟩) hg
      by_cases hm : k < m
      · obtain ⟨b2, o2, rfl, hb2⟩ := hb.some_of_pos (by omega)
        have c3 := (hb.below hbl).at k hm
        by_cases ht : lmb A k < bw A B k + lmb B k
        · have HX : Hid (((lmb A k : Int) - ((bw A B k : Int) + (lmb B k : Int))) % 4294967296 = ((lmb (A - B) k : Nat) : Int) ∧ bw A B (k + 1) = 1) := by
            have h1 := hst.out; have h2 := hsn.out; rw [if_pos ht] at h2; show _ ∧ _; omega
          clear hst hsn hb
          go_wp2
          go_roundw
          case rel => exact ⟨k + 1, by omega, by go_num, by rw [HX.out.2]; rfl, hown.put (by omega) (by rw [HX.out.1]; simp [difF]) (difF_next k), hbs _⟩
          case measure => simp [intOf]; omega
        · have HX : Hid ((lmb A k : Int) - ((bw A B k : Int) + (lmb B k : Int)) = ((lmb (A - B) k : Nat) : Int) ∧ bw A B (k + 1) = 0) := by
            have h1 := hst.out; have h2 := hsn.out; rw [if_neg ht] at h2; show _ ∧ _; omega
          clear hst hsn hb
          go_wp2
          go_roundw
          case rel => exact ⟨k + 1, by omega, by go_num, by rw [HX.out.2]; rfl, hown.put (by omega) (by rw [HX.out.1]; simp [difF]) (difF_next k), hbs _⟩
          case measure => simp [intOf]; omega
      · have h0 := lmb_zero HB.out.1 (i := k) (by omega)
        by_cases ht : lmb A k < bw A B k
        · have HX : Hid (((lmb A k : Int) - (bw A B k : Int)) % 4294967296 = ((lmb (A - B) k : Nat) : Int) ∧ bw A B (k + 1) = 1) := by
            have h1 := hst.out; have h2 := hsn.out; rw [if_pos (by omega)] at h2; show _ ∧ _; omega
          clear hst hsn hb h0
          go_wp2
          go_roundw
          case rel => exact ⟨k + 1, by omega, by go_num, by rw [HX.out.2]; rfl, hown.put (by omega) (by rw [HX.out.1]; simp [difF]) (difF_next k), hbs _⟩
          case measure => simp [intOf]; omega
        · have HX : Hid ((lmb A k : Int) - (bw A B k : Int) = ((lmb (A - B) k : Nat) : Int) ∧ bw A B (k + 1) = 0) := by
            have h1 := hst.out; have h2 := hsn.out; rw [if_neg (by omega)] at h2; show _ ∧ _; omega
          clear hst hsn hb h0
          go_wp2
          go_roundw
          case rel => exact ⟨k + 1, by omega, by go_num, by rw [HX.out.2]; rfl, hown.put (by omega) (by rw [HX.out.1]; simp [difF]) (difF_next k), hbs _⟩
          case measure => simp [intOf]; omega
    · obtain rfl : k = n := by omega
      have hO : Own .u32 56 wr g k (lmb (A - B)) := hown.congr (fun j hj => by rw [difF, if_pos hj])
      clear hst hsn hb
      go_wp2_with fail
      refine (trimmed_any _ _ _ (A - B) _ (hO.lie (Nat.le_refl _) (by unfold maxLen; omega)) (Nat.lt_of_le_of_lt (Nat.sub_le _ _) HA.out.1)).mono ?_
      rintro e w3 ⟨mm, rfl, hmm, hfit, rfl⟩
      go_wp2
      go_ret
      exact ppart_own hO hg hbl hmm hn6 hfit
end Go.Proofs.YtpacbipencmjnaaDoor

/- The walks of package long's methods Sign, Cmp, Bits, Neg, Add, Mul. -/
namespace Go.Proofs.YtpacbipencmjnaaDoor
open Go.RowKit

/-- -1, 0, 1. -/
def sgnI (z : Int) : Int := if z < 0 then -1 else if z = 0 then 0 else 1

theorem Num.zero_iff {w : World} {bl : Bool} {a : Option Addr} {n c : Nat} {z : Int} (h : Num w bl a n c z) : n = 0 ↔ z = 0 := by
  rw [fit_pos h.fit]; omega

set_option maxHeartbeats 400000 in
theorem Sign_any (bl : Bool) (a : Option Addr) (n c : Nat) (z : Int) (w : World) (h : Num w bl a n c z) :
    Calls Tryd.prog 24 #[.agg #[.bool bl, .slice a n c]] w (PVal (.int .i64 (sgnI z)) w) := by
  have h1 := h.zero_iff
  have h2 := h.sgn
  clear h
  have hB := (Below.refl w.heap.size w).alloc (Nat.le_refl _) (.cells #[.bool bl, .slice a n c] 25)
  cases bl
  · have hz : ¬ z < 0 := by simpa using h2.symm
    by_cases h0 : n = 0
    · subst h0
      have HR : Hid (sgnI z = 0) := by show _ = _; unfold sgnI; rw [if_neg hz, if_pos (h1.1 rfl)]
      clear h1 h2 hz
      go_enter Tryd.func24, Tryd.ntmps24
      go_wp2
      go_ret
      exact ⟨ret_int HR.out.symm, hB⟩
    · have HR : Hid (sgnI z = 1) := by show _ = _; unfold sgnI; rw [if_neg hz, if_neg (fun e => h0 (h1.2 e))]
      have h0' : ((n : Int) == 0) = false := by simpa using h0
      clear h1 h2 hz h0
      go_enter Tryd.func24, Tryd.ntmps24
      go_wp2
      go_ret
      exact ⟨ret_int HR.out.symm, hB⟩
  · have hz : z < 0 := by simpa using h2.symm
    have HR : Hid (sgnI z = -1) := by show _ = _; unfold sgnI; rw [if_pos hz]
    clear h1 h2 hz
    go_enter Tryd.func24, Tryd.ntmps24
    go_wp2
    go_ret
    exact ⟨ret_int HR.out.symm, hB⟩

set_option maxHeartbeats 400000 in
theorem Bits_any (bl : Bool) (a : Option Addr) (n c : Nat) (z : Int) (w : World) (h : Num w bl a n c z) (hn : n ≤ 10000000) :
    Calls Tryd.prog 9 #[.agg #[.bool bl, .slice a n c]] w (PVal (.int .i64 (bitsN z.natAbs)) w) := by
  have hB := (Below.refl w.heap.size w).alloc (Nat.le_refl _) (.cells #[.bool bl, .slice a n c] 25)
  go_enter Tryd.func9, Tryd.ntmps9
  go_wp2_with fail
  refine (bitCount_any a n c z.natAbs _ (h.lie.below hB) h.fit (by omega)).mono ?_
  rintro e w1 ⟨rfl, hb1⟩
  go_wp2
  go_ret
  exact ⟨rfl, hB.trans (hb1.mono (by simp))⟩

/-- How two numbers stand to one another: -1, 0, 1. -/
def cmpI (x y : Int) : Int := if x < y then -1 else if y < x then 1 else 0

theorem only2 (w : World) (b : Nat) (u v : Value) : Only b w ((w.setCell ⟨b, 0, none⟩ u).setCell ⟨b, 1, none⟩ v) := (Only.setCell w b 0 u).trans (Only.setCell _ b 1 v)
theorem far2 {w : World} {b b' o : Nat} {u v x : Value} (h : w.cell? ⟨b, o, none⟩ = some x) (hne : b ≠ b') : ((w.setCell ⟨b', 0, none⟩ u).setCell ⟨b', 1, none⟩ v).cell? ⟨b, o, none⟩ = some x :=
  (World.cell?_of_block (w := w) (a := ⟨b, o, none⟩) ((only2 w b' u v).block b hne)).trans h
theorem Num.only {w w' : World} {bl : Bool} {a : Option Addr} {n c g : Nat} {z : Int} (h : Num w bl a n c z) (ho : Only g w w') (hg : ∀ p, a = some p → p.block ≠ g) : Num w' bl a n c z := ⟨h.lie.only ho hg, h.fit, h.sgn⟩
theorem sg_not {bl : Bool} {z : Int} (h : bl = decide (z < 0)) : sg (!bl) z.natAbs = -z := by
  subst h
  by_cases hz : z < 0
  · simp [sg, hz]; omega
  · simp [sg, hz]; omega
/-- Behind a store of a number into a result's block: it is handed back. -/
theorem pnum_store {w w3 : World} {bl : Bool} {a : Option Addr} {n c r : Nat} {z : Int} (hn : Num w3 bl a n c z) (hB : Below w.heap.size w w3) (hr : w.heap.size ≤ r) (hfr : ∀ p, a = some p → r < p.block) :
    PNum z w (.returned (.agg #[.bool bl, .slice a n c])) ((w3.setCell ⟨r, 0, none⟩ (.bool bl)).setCell ⟨r, 1, none⟩ (.slice a n c)) :=
  ⟨bl, a, n, c, rfl, hn.only (only2 _ _ _ _) (fun p hp => by have := hfr p hp; omega), (fun p hp => by have := hfr p hp; omega), hB.trans ((only2 _ _ _ _).below hr)⟩

set_option maxHeartbeats 800000 in
theorem Neg_any (bl : Bool) (a : Option Addr) (n c : Nat) (z : Int) (w : World) (h : Num w bl a n c z) (hn : n ≤ 10000000) :
    Calls Tryd.prog 60 #[.agg #[.bool bl, .slice a n c]] w (PNum (-z) w) := by
  have hl := h.lie
  have hf := Lib.hid h.fit
  have hsg := Lib.hid h.sgn
  clear h
  go_enter Tryd.func60, Tryd.ntmps60
  go_wp2
  have hB := ((Below.refl w.heap.size w).alloc (Nat.le_refl _) (.cells #[.bool bl, .slice a n c] 25)).alloc (by simp) (.cells #[.bool false, .slice none 0 0] 25)
  obtain ⟨w1, hw1⟩ : ∃ w1, w1 = (w.alloc (.cells #[.bool bl, .slice a n c] 25)).alloc (.cells #[.bool false, .slice none 0 0] 25) := ⟨_, rfl⟩
  have k0 : w1.cell? ⟨w.heap.size, 0, none⟩ = some (.bool bl) := by rw [hw1]; simp
  have k1 : w1.cell? ⟨w.heap.size, 1, none⟩ = some (.slice a n c) := by rw [hw1]; simp
  have r0 : w1.cell? ⟨w.heap.size + 1, 0, none⟩ = some (.bool false) := by rw [hw1]; simp
  have r1 : w1.cell? ⟨w.heap.size + 1, 1, none⟩ = some (.slice none 0 0) := by rw [hw1]; simp
  have f0 : w1.frozen? ⟨w.heap.size + 1, 0, none⟩ = false := by rw [hw1]; simp
  have f1 : w1.frozen? ⟨w.heap.size + 1, 1, none⟩ = false := by rw [hw1]; simp
  have hsz : w1.heap.size = w.heap.size + 2 := by rw [hw1]; simp
  rw [← hw1] at hB ⊢
  clear hw1
  have hsz' : w.heap.size + 1 < w1.heap.size := by omega
  clear hsz
  go_region_held3 (fun w' => w'.cell? ⟨w.heap.size, 0, none⟩ = some (.bool bl) ∧ w'.cell? ⟨w.heap.size, 1, none⟩ = some (.slice a n c) ∧ Below w.heap.size w w')
    (first | exact ⟨k0, k1, hB.drew⟩ | exact ⟨kA0, kA1, hBA⟩ | exact ⟨kB0, kB1, hBB⟩ | exact ⟨far2 kB0 (by omega), far2 kB1 (by omega), hBB.trans ((only2 _ _ _ _).below (by omega))⟩)
    (first
      | (go_at_call 48; refine (copied_any a n c (lmb z.natAbs) _ (hl.below hB.drew) (by omega)).mono ?_; rintro e w2 ⟨g, rfl, hg, hown, hb2⟩; have hb2' : Below w1.heap.size w1 w2 := ⟨hb2.os, hb2.tape, hb2.output, hb2.size, hb2.block⟩; have kA0 := (hb2'.cell (p := ⟨w.heap.size, 0, none⟩) (by show w.heap.size < _; omega)).trans k0; have kA1 := (hb2'.cell (p := ⟨w.heap.size, 1, none⟩) (by show w.heap.size < _; omega)).trans k1; have hBA := hB.trans (hb2'.mono hB.size))
      | (go_at_call 19; refine (made_any (!bl) _ n n z.natAbs _ (hown.lie (Nat.le_refl _) (by unfold maxLen; omega)) hf.out.1).mono ?_; rintro e w3 ⟨bl', a', n', c', rfl, hnum, haa, hb3⟩; have hb13 := hb2'.trans (hb3.mono hb2'.size); have kB0 := (hb13.cell (p := ⟨w.heap.size, 0, none⟩) (by show w.heap.size < _; omega)).trans k0; have kB1 := (hb13.cell (p := ⟨w.heap.size, 1, none⟩) (by show w.heap.size < _; omega)).trans k1; have hBB := hB.trans (hb13.mono hB.size); have rB0 := (hb13.cell (p := ⟨w.heap.size + 1, 0, none⟩) hsz').trans r0; have rB1 := (hb13.cell (p := ⟨w.heap.size + 1, 1, none⟩) hsz').trans r1; have fB0 := (hb13.frozen (p := ⟨w.heap.size + 1, 0, none⟩) hsz').trans f0; have fB1 := (hb13.frozen (p := ⟨w.heap.size + 1, 1, none⟩) hsz').trans f1))
  go_wp2
  rw [sg_not hsg.out] at hnum
  refine bodyPost_ret (v := .agg #[.bool bl', .slice a' n' c']) (by simp [results, Tryd.results60, go_sem, rB0, rB1]) rfl ?_
  refine pnum_store hnum hBB (by omega) (fun p hp => ?_)
  rcases haa with h | h
  · rw [h] at hp; cases hp
  · rw [h] at hp; cases hp; have := hb2'.size; show _ < g; have hg' : w1.heap.size ≤ g := hg; omega
end Go.Proofs.YtpacbipencmjnaaDoor
