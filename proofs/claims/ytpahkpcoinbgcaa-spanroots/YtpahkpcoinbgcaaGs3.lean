/- Parts of the proof. -/
import Derived.Test.YtpahkpcoinbgcaaGs2
import Derived.Deep.LoopGhost
import Derived.Test.YtpahkpcoinbgcaaGs1
import Derived.Test.YtpahkpcoinbgcaaShelf
import Derived.Lib.Strings
/- The walk of quotient, the case of a divisor of several parts. -/
namespace Go.Proofs.Ytpahkpcoinbgcaa
open Go.RowKit
theorem lmb_shift (V j i : Nat) : lmb (V / BB ^ j) i = lmb V (j + i) := by
 unfold lmb
 rw [Nat.div_div_eq_div_mul, ← Nat.pow_add]
theorem quo_part (A D j : Nat) : A % (D * BB ^ (j + 1)) / BB ^ j / D = lmb (A / D) j := by
 rw [Nat.div_div_eq_div_mul, Nat.mul_comm (BB ^ j) D, Nat.pow_succ, ← Nat.mul_assoc, Nat.mod_mul_right_div_self]
 unfold lmb
 rw [Nat.div_div_eq_div_mul]
theorem quo_rest (A D j : Nat) : A % (D * BB ^ j) = A % (D * BB ^ (j + 1)) % BB ^ j + BB ^ j * (A % (D * BB ^ (j + 1)) / BB ^ j % D) := by
 rw [← Nat.mod_mul, Nat.mul_comm (BB ^ j) D, Nat.pow_succ, ← Nat.mul_assoc, Nat.mod_mul_right_mod]
theorem quo_win {A D n j T : Nat} (hD : D < BB ^ n) : ∀ p, p < T →
  winK j n (n + 1) (A % (D * BB ^ (j + 1)) / BB ^ j % D) (A % (D * BB ^ (j + 1)) / BB ^ j) (lmb (A % (D * BB ^ (j + 1)))) p = lmb (A % (D * BB ^ j)) p := by
 intro p _
 have hDp : 0 < D * BB ^ (j + 1) ∨ D = 0 := by
  rcases Nat.eq_zero_or_pos D with h | h
  ·
   exact .inr h
  ·
   exact .inl (Nat.mul_pos h (BBp _))
 have hr := quo_rest A D j
 by_cases h1 : j ≤ p ∧ p ≤ j + n
 ·
  unfold winK
  rw [if_pos h1, if_pos (by omega), hr]
  obtain ⟨i, rfl⟩ : ∃ i, p = j + i := ⟨p - j, by omega⟩
  rw [← lmb_shift, show j + i - j = i from by omega, Nat.add_mul_div_left _ _ (BBp j), Nat.div_eq_of_lt (Nat.mod_lt _ (BBp j)), Nat.zero_add]
 ·
  unfold winK
  rw [if_neg h1]
  by_cases h2 : p < j
  ·
   rw [hr, lmb_add_hi _ _ _ _ h2]
   conv => lhs; rw [← Nat.mod_add_div (A % (D * BB ^ (j + 1))) (BB ^ j)]
   rw [lmb_add_hi _ _ _ _ h2]
  ·
   rcases hDp with hDp | hDp
   ·
    have e1 : A % (D * BB ^ (j + 1)) < BB ^ (n + (j + 1)) := Nat.lt_of_lt_of_le (Nat.mod_lt _ hDp) (by rw [Nat.pow_add BB n]; exact Nat.mul_le_mul_right _ (Nat.le_of_lt hD))
    have hD0 : 0 < D := Nat.pos_of_mul_pos_right hDp
    have e2 : A % (D * BB ^ j) < BB ^ (n + j) := Nat.lt_of_lt_of_le (Nat.mod_lt _ (Nat.mul_pos hD0 (BBp _))) (by rw [Nat.pow_add]; exact Nat.mul_le_mul_right _ (Nat.le_of_lt hD))
    rw [lmb_zero e1 (by omega), lmb_zero e2 (by omega)]
   ·
    subst hDp; simp
/-- The parts of a quotient that are told: those from k on. -/
def quoF (Q k : Nat) (p : Nat) : Nat := if k ≤ p then lmb Q p else 0
theorem quoF_next (Q j n : Nat) : ∀ p, p < n → p ≠ j → quoF Q (j + 1) p = quoF Q j p := by
 intro p _ hne
 unfold quoF
 by_cases h : j + 1 ≤ p
 ·
  rw [if_pos h, if_pos (by omega)]
 ·
  rw [if_neg h, if_neg (by omega)]
theorem Own.grown {k : IntKind} {e : TypeId} {w w' : World} {g n : Nat} {f : Nat → Nat} {r : Option Nat} (h : Own k e w g n f) (hg : w.grownBy w' r) (hr : some g ≠ r) : Own k e w' g n f := by
 unfold Own at h ⊢
 rw [hg.block g (Array.getElem?_eq_some_iff.1 h).1 hr]; exact h
theorem below_grown {B g : Nat} {w0 w w' : World} (h : Below B w0 w) (hg : w.grownBy w' (some g)) (hB : B ≤ w.heap.size) (hr : B ≤ g) : Below B w0 w' :=
 h.grown hg hB (fun k hk => by cases hk; exact hr)
set_option maxRecDepth 100000 in
set_option maxHeartbeats 1600000 in
theorem quotient_many (a b : Option Addr) (na c n d A B : Nat) (w : World) (ha : Lie .u32 w a na c (lmb A)) (hb : Lie .u32 w b n d (lmb B)) (fa : Fit na A) (fb : Fit n B) (hna : na ≤ 100000000) (hn2 : 2 ≤ n) (hlt : B ≤ A) :
  Calls Try.prog 138 #[.slice a na c, .slice b n d] w (PQuo A B w) := by
 have hnn : n ≤ na := fit_le fb (Nat.lt_of_le_of_lt hlt fa.1)
 obtain ⟨q, rfl⟩ : ∃ q, na = n + q := ⟨na - n, by omega⟩
 obtain ⟨b1, o1, rfl, hb1'⟩ := hb.some_of_pos (by omega)
 have hcmp : 0 ≤ cmpN A B := by unfold cmpN; rw [if_neg (by omega)]; split <;> omega
 have hcm := ha.capm
 have hnc := ha.cap
 have hdm := hb.capm
 have hmd := hb.cap
 unfold maxLen at hcm hdm
 have htl := lmb_lt B (n - 1)
 obtain ⟨s, hs⟩ : ∃ s, s = 32 - Lib.bitLen (lmb B (n - 1)) := ⟨_, rfl⟩
 obtain ⟨hs32, hfD, htop⟩ := top_lead fb (by omega) hs
 have hsI : (32 : Int) - (Lib.bitLen ((lmb B (n - 1) : Int)).toNat : Int) = (s : Int) := by
  rw [Int.toNat_natCast]; have := (bitLen_in htop htl).2.1; omega
 have HSI := Lib.hid hsI
 clear hs hsI
 go_enter Try.func138, Try.ntmps138
 go_wp2_with fail
 refine (compare_any a _ (n + q) c n d A B _ ha hb fa fb).mono ?_
 rintro e w1 ⟨rfl, hb1⟩
 have ha1 := ha.below hb1
 have hbb1 := hb.below hb1
 generalize cmpN A B = cc at *
 have c1 := hbb1.at (n - 1) (by omega)
 clear ha hb
 go_wp2_with fail
 refine (Try.bits_LeadingZeros32 _ _ (by omega) (by omega)).mono ?_
 rintro e w1' ⟨rfl, hww⟩
 subst hww
 rw [HSI.out]
 go_wp2_with fail
 refine (raised_any _ n d B s _ hbb1 fb.1 hs32 (by omega)).mono ?_
 rintro e w2 ⟨gD, rfl, hgD, hownD, hb2⟩
 have ha2 := ha1.below hb2
 go_wp2_with fail
 refine (trimmed_any _ _ _ (B * 2 ^ s) _ (hownD.lie (Nat.le_refl _) (by unfold maxLen; omega)) (fit_mono hfD.1 (by omega))).mono ?_
 rintro e w2' ⟨nd, rfl, hnd, hfit, rfl⟩
 obtain rfl := (fit_uniq hfD hfit)
 go_wp2_with fail
 refine (raised_any _ (n + q) c A s _ ha2 fa.1 hs32 (by omega)).mono ?_
 rintro e w3 ⟨gR, rfl, hgR, hownR, hb3⟩
 have hlD := hownD.lt
 have hownD3 := hownD.below hb3
 clear hownD ha1 ha2 hbb1
 have hm4 : 4 * (q + 1) ≤ 281474976710656 := by omega
 have hm6 : q + 1 ≤ 9223372036854775807 := by omega
 go_wp2_with (first | (at_make; refine wpList_mk _ rfl (.tmp 51) (.tmp 51) 111 rfl 134 .u32 4 Try.u111 Try.info134 _ _ (q + 1) rfl rfl (by omega) (by omega) hm4 hm6 ?_; intro gQ w4 hgQ hownQ hb4))
 have HAD : Hid (A * 2 ^ s < B * 2 ^ s * BB ^ (q + 1)) := by
  show _ < _
  have h1 : A < B * BB ^ (q + 1) := by
   refine Nat.lt_of_lt_of_le fa.1 ?_
   have h2 : BB ^ (n - 1) ≤ B := by rcases fb.2 with h | h <;> omega
   rw [show n + q = (n - 1) + (q + 1) from by omega, Nat.pow_add]
   exact Nat.mul_le_mul_right _ h2
  rw [Nat.mul_right_comm]
  exact (Nat.mul_lt_mul_right (Nat.pow_pos (by decide))).2 h1
 have hDpos : 0 < B * 2 ^ s := Nat.pos_of_ne_zero fun h => by have := (fit_pos hfD).2 h; omega
 have HFD := Lib.hid hfD
 have HQ : Hid (A * 2 ^ s / (B * 2 ^ s) = A / B ∧ A * 2 ^ s % (B * 2 ^ s) / 2 ^ s = A % B) := by
  refine ⟨Nat.mul_div_mul_right _ _ (Nat.pow_pos (by decide)), ?_⟩
  rw [Nat.mul_mod_mul_right, Nat.mul_div_cancel _ (Nat.pow_pos (by decide))]
 clear hfD hfit fa fb
 generalize A * 2 ^ s = A' at *
 generalize B * 2 ^ s = D at *
 have hlR := hownR.lt
 have hb04 : Below w.heap.size w w4 := (((hb1.trans (hb2.mono hb1.size)).trans (hb3.mono (by have := hb1.size; have := hb2.size; omega))).trans (hb4.mono (by have := hb1.size; have := hb2.size; have := hb3.size; omega)))
 have hw2 : w.heap.size ≤ gD := by have := hb1.size; omega
 go_loopw [55] (fun iv wr => ∃ i : Nat, i ≤ q + 1 ∧ iv = .int .i64 i ∧ Own .u32 134 wr gR (n + q + 1) (lmb (A' % (D * BB ^ (q + 1 - i)))) ∧ Own .u32 134 wr gQ (q + 1) (quoF (A' / D) (q + 1 - i)) ∧ Own .u32 134 wr gD (n + 1) (lmb D) ∧ Below w.heap.size w wr) (fun iv _ => q + 1 - (intOf iv).toNat)
 case atStart =>
  refine ⟨0, Nat.zero_le _, rfl, ?_, hownQ.congr (fun j hj => by rw [quoF, if_neg (by omega)]), hownD3.below hb4, hb04⟩
  rw [Nat.sub_zero, Nat.mod_eq_of_lt HAD.out]
  exact hownR.below hb4
 case round =>
  obtain ⟨i, hi, rfl, oR, oQ, oD, hbl⟩ := hrel
  by_cases hiq : i < q + 1
  ·
   rw [show q + 1 - i = (q - i) + 1 from by omega] at oR oQ
   have hVlt : A' % (D * BB ^ (q - i + 1)) / BB ^ (q - i) < D * BB := by
    refine Nat.div_lt_of_lt_mul (Nat.lt_of_lt_of_le (Nat.mod_lt _ (Nat.mul_pos hDpos (BBp _))) ?_)
    rw [Nat.pow_succ, ← Nat.mul_assoc, Nat.mul_comm D, Nat.mul_assoc]
    exact Nat.le_refl _
   have HV := Lib.hid hVlt
   clear hVlt
   go_wp2_with fail
   rw [show q - i + n + 1 - (q - i) = n + 1 from by omega]
   refine (nextPart_any gR (n + q + 1) (q - i) n _ (A' % (D * BB ^ (q - i + 1)) / BB ^ (q - i)) D gD 0 (n + 1) _ _ oR (by omega) (by omega) (by omega) (by unfold maxLen; omega)
    (fun j hj => (lmb_shift _ _ _).symm) (oD.lie (by omega) (by unfold maxLen; omega)) (by omega) hn2 HV.out HFD.out).mono ?_
   rintro e w5 ⟨rfl, oR5, hg5⟩
   rw [quo_part]
   have oQ5 := oQ.grown hg5 (by intro h; cases h; omega)
   have oD5 := oD.grown hg5 (by intro h; cases h; omega)
   have hb5 := below_grown hbl hg5 hbl.size (by omega)
   have oR5' := oR5.congr (quo_win HFD.out.1)
   have hl := lmb_lt (A' / D) (q - i)
   have cq := oQ5.cell (q - i) (by omega)
   have cf := oQ5.free (q - i)
   clear oR oQ oD oR5
   go_wp2
   go_roundw
   case rel =>
    refine ⟨i + 1, by omega, by go_num, ?_, ?_, ?_, hb5.setCell (p := ⟨gQ, q - i, none⟩) (by show _ ≤ gQ; omega) _⟩
    ·
     rw [show q + 1 - (i + 1) = q - i from by omega]
     exact oR5'.only (Only.setCell _ _ _ _) (by omega)
    ·
     rw [show q + 1 - (i + 1) = q - i from by omega]
     exact oQ5.put (by omega) (by rw [quoF, if_pos (Nat.le_refl _)]) (quoF_next _ _ _)
    ·
     exact oD5.only (Only.setCell _ _ _ _) (by omega)
   case measure => simp [intOf]; omega
  ·
   obtain rfl : i = q + 1 := by omega
   rw [Nat.sub_self] at oR oQ
   rw [Nat.pow_zero, Nat.mul_one] at oR
   have oQ' : Own .u32 134 wr gQ (q + 1) (lmb (A' / D)) := oQ.congr (fun p hp => by rw [quoF, if_pos (Nat.zero_le _)])
   have hRl : A' % D < BB ^ (n + q + 1) := Nat.lt_of_lt_of_le (Nat.mod_lt _ hDpos) (Nat.le_of_lt (fit_mono HFD.out.1 (by omega)))
   have hQl : A' / D < BB ^ (q + 1) := Nat.div_lt_of_lt_mul HAD.out
   have HRl := Lib.hid hRl
   have HQl := Lib.hid hQl
   clear oQ hRl hQl
   go_wp2_with fail
   refine (trimmed_any _ _ _ (A' / D) _ (oQ'.lie (Nat.le_refl _) (by unfold maxLen; omega)) HQl.out).mono ?_
   rintro e w6 ⟨m1, rfl, hm1, hfit1, rfl⟩
   go_wp2_with fail
   refine (trimmed_any _ _ _ (A' % D) _ (oR.lie (Nat.le_refl _) (by unfold maxLen; omega)) HRl.out).mono ?_
   rintro e w6 ⟨m2, rfl, hm2, hfit2, rfl⟩
   go_wp2_with fail
   refine (lowered_any _ m2 _ (A' % D) s _ (oR.lie hm2 (by unfold maxLen; omega)) hfit2.1 hs32 (by omega)).mono ?_
   rintro e w7 ⟨a3, m3, c3, rfl, hl3, hf3, hfr3, hb7⟩
   go_wp2
   go_ret2
   rw [HQ.out.2] at hl3 hf3
   rw [HQ.out.1] at hfit1 oQ'
   exact ⟨some ⟨gQ, 0, none⟩, m1, _, a3, m3, c3, rfl, ⟨(oQ'.lie hm1 (by unfold maxLen; omega)).below hb7, hfit1, (fun p hp => by cases hp; show _ ≤ gQ; omega)⟩, ⟨hl3, hf3, (fun p hp => Nat.le_trans hbl.size (hfr3 p hp))⟩, hbl.trans (hb7.mono hbl.size)⟩
theorem quotient_any (a b : Option Addr) (n c m d A B : Nat) (w : World) (ha : Lie .u32 w a n c (lmb A)) (hb : Lie .u32 w b m d (lmb B)) (fa : Fit n A) (fb : Fit m B) (hn : n ≤ 100000000) (hB : 0 < B) :
  Calls Try.prog 138 #[.slice a n c, .slice b m d] w (PQuo A B w) := by
 by_cases hlt : A < B
 ·
  exact quotient_lt a b n c m d A B w ha hb fa fb (by omega) hlt
 ·
  have hm0 : m ≠ 0 := fun h => by have := (fit_pos fb).1 h; omega
  by_cases hm : m = 1
  ·
   subst hm; exact quotient_one a b n c d A B w ha hb fa fb (by omega) (by omega)
  ·
   exact quotient_many a b n c m d A B w ha hb fa fb hn (by omega) (by omega)
end Go.Proofs.Ytpahkpcoinbgcaa

/- The walks of bitCount, powerOfTwo and root. -/
namespace Go.Proofs.Ytpahkpcoinbgcaa
open Go.RowKit
/-- How many binary digits a number has. -/
def bitsN (N : Nat) : Nat := if N = 0 then 0 else Nat.log2 N + 1
theorem bitsN_of {N k : Nat} (h1 : 2 ^ k ≤ N) (h2 : N < 2 ^ (k + 1)) : bitsN N = k + 1 := by
 have h0 : N ≠ 0 := fun h => by subst h; have := Nat.pow_pos (n := k) (show 0 < 2 by decide); omega
 have a1 := (Nat.le_log2 h0).2 h1
 have a2 := (Nat.log2_lt h0).2 h2
 unfold bitsN
 rw [if_neg h0]
 omega
theorem BB_pow (k : Nat) : BB ^ k = 2 ^ (32 * k) := by rw [Nat.pow_mul]; rfl
theorem bits_top {N n : Nat} (hN : Fit n N) (hn : 1 ≤ n) : bitsN N = 32 * (n - 1) + Lib.bitLen (lmb N (n - 1)) ∧ 1 ≤ lmb N (n - 1) ∧ 1 ≤ Lib.bitLen (lmb N (n - 1)) ∧ Lib.bitLen (lmb N (n - 1)) ≤ 32 := by
 obtain ⟨m, rfl⟩ : ∃ m, n = m + 1 := ⟨n - 1, by omega⟩
 simp only [Nat.add_sub_cancel]
 have hN1 := hN.1
 have hN2 : BB ^ m ≤ N := by rcases hN.2 with h | h <;> simp at h ⊢; exact h
 have htop : 1 ≤ lmb N m := by rw [lmb_top hN1]; exact Nat.div_pos hN2 (BBp _)
 obtain ⟨h1, h2, h3, h4⟩ := bitLen_in htop (lmb_lt N m)
 refine ⟨?_, htop, h1, h2⟩
 generalize hL : Lib.bitLen (lmb N m) = L at *
 obtain ⟨l, rfl⟩ : ∃ l, L = l + 1 := ⟨L - 1, by omega⟩
 simp only [Nat.add_sub_cancel] at h3
 rw [lmb_top hN1] at h3 h4
 rw [← Nat.add_assoc]
 apply bitsN_of
 ·
  rw [Nat.pow_add, ← BB_pow, Nat.mul_comm]
  exact (Nat.le_div_iff_mul_le (BBp m)).1 h3
 ·
  rw [Nat.add_assoc, Nat.pow_add, ← BB_pow, Nat.mul_comm]
  exact (Nat.div_lt_iff_lt_mul (BBp m)).1 h4
set_option maxHeartbeats 400000 in
theorem bitCount_any (a : Option Addr) (n c N : Nat) (w : World) (ha : Lie .u32 w a n c (lmb N)) (fa : Fit n N) (hn : n ≤ 100000000) :
  Calls Try.prog 142 #[.slice a n c] w (PVal (.int .i64 (bitsN N)) w) := by
 by_cases h0 : n = 0
 ·
  subst h0
  obtain rfl := (fit_pos fa).1 rfl
  go_enter Try.func142, Try.ntmps142
  go_wp2
  go_ret
  exact ⟨ret_int rfl, Below.refl _ _⟩
 ·
  obtain ⟨b, o, rfl, hb⟩ := ha.some_of_pos (by omega)
  have c1 := ha.at (n - 1) (by omega)
  obtain ⟨e1, e2, e3, e4⟩ := bits_top fa (by omega)
  have hl := lmb_lt N (n - 1)
  have h0' : ((n : Int) == 0) = false := by simpa using h0
  have hn1 : 1 ≤ n := by omega
  have H1 := Lib.hid e1
  have HE : Hid (((lmb N (n - 1) : Int)).toNat = lmb N (n - 1)) := Int.toNat_natCast _
  clear e1 ha fa h0
  go_enter Try.func142, Try.ntmps142
  go_wp2_with fail
  refine (Try.bits_Len32 _ _ (by omega) (by omega)).mono ?_
  rintro e w1 ⟨rfl, hww⟩
  subst hww
  rw [HE.out]
  go_wp2
  go_ret
  exact ⟨ret_int (by rw [H1.out]; omega), Below.refl _ _⟩
theorem pow_part (k j : Nat) : lmb (2 ^ k) j = if j = k / 32 then 2 ^ (k % 32) else 0 := by
 have hk := Nat.div_add_mod k 32
 have hr := Nat.mod_lt k (show 0 < 32 by decide)
 unfold lmb
 rw [BB_pow]
 by_cases h : j = k / 32
 ·
  subst h
  rw [if_pos rfl, Nat.pow_div (by omega) (by decide), show k - 32 * (k / 32) = k % 32 from by omega]
  exact Nat.mod_eq_of_lt (Nat.pow_lt_pow_right (by decide) hr)
 ·
  rw [if_neg h]
  by_cases h2 : j < k / 32
  ·
   rw [Nat.pow_div (by omega) (by decide), show k - 32 * j = 32 + (k - 32 * j - 32) from by omega, Nat.pow_add]
   exact Nat.mul_mod_right _ _
  ·
   rw [Nat.div_eq_of_lt (Nat.pow_lt_pow_right (by decide) (by omega))]; rfl
theorem pow_fit (k : Nat) : Fit (k / 32 + 1) (2 ^ k) := by
 have hk := Nat.div_add_mod k 32
 have hr := Nat.mod_lt k (show 0 < 32 by decide)
 refine ⟨?_, .inr ?_⟩
 ·
  rw [BB_pow]; exact Nat.pow_lt_pow_right (by decide) (by omega)
 ·
  rw [Nat.add_sub_cancel, BB_pow]; exact Nat.pow_le_pow_right (by decide) (by omega)
set_option maxHeartbeats 400000 in
theorem powerOfTwo_any (k : Nat) (w : World) (hk : k ≤ 32000000000) :
  Calls Try.prog 141 #[.int .i64 k] w (PNew .u32 134 (k / 32 + 1) (lmb (2 ^ k)) w) := by
 have hn4 : 4 * (k / 32 + 1) ≤ 281474976710656 := by omega
 have hn6 : k / 32 + 1 ≤ 9223372036854775807 := by omega
 have hp : (2 : Int) ^ (k % 32) < 4294967296 := by
  have : 2 ^ (k % 32) < 2 ^ 32 := Nat.pow_lt_pow_right (by decide) (Nat.mod_lt k (by decide))
  have h2 : ((2 ^ (k % 32) : Nat) : Int) = (2 : Int) ^ (k % 32) := by rw [Int.natCast_pow]; rfl
  omega
 have hp0 : (0 : Int) < (2 : Int) ^ (k % 32) := Int.pow_pos (by decide)
 go_enter Try.func141, Try.ntmps141
 go_wp2_with (first | (at_make; refine wpList_mk _ rfl (.tmp 6) (.tmp 6) 111 rfl 134 .u32 4 Try.u111 Try.info134 _ _ (k / 32 + 1) rfl rfl (by omega) (by omega) hn4 hn6 ?_; intro g w1 hg hown hb1; have c1 := hown.cell (k / 32) (by omega); have c2 := hown.free (k / 32)))
 go_ret
 refine ⟨g, rfl, hg, hown.put (by omega) ?_ (fun j hj hne => by rw [pow_part, if_neg hne]), hb1.setCell (p := ⟨g, k / 32, none⟩) hg _⟩
 rw [pow_part, if_pos rfl, Int.natCast_pow]; rfl
/-- The greatest number whose square is not above N: its parts are handed back. -/
def PRoot (N : Nat) (w : World) (e : Ending) (w' : World) : Prop := ∃ R : Nat, R * R ≤ N ∧ N < (R + 1) * (R + 1) ∧ PPart R w e w'
theorem newton_stop {N G : Nat} (hG : 0 < G) (h : G ≤ (G + N / G) / 2) : G * G ≤ N := by
 have h1 : G ≤ N / G := by omega
 exact (Nat.le_div_iff_mul_le hG).1 h1
theorem newton_go {N G : Nat} (hG : 0 < G) (hN : 0 < N) (h : N < (G + 1) * (G + 1)) : N < ((G + N / G) / 2 + 1) * ((G + N / G) / 2 + 1) ∧ 0 < (G + N / G) / 2 := by
 have key : ∀ r : Nat, r * r ≤ N → r ≤ (G + N / G) / 2 := by
  intro r hr
  have h1 : 2 * r ≤ G + N / G := by
   by_cases hle : 2 * r ≤ G
   ·
    exact Nat.le_trans hle (Nat.le_add_right _ _)
   ·
    have h2 : 2 * r - G ≤ N / G := by
     refine (Nat.le_div_iff_mul_le hG).2 (Nat.le_trans ?_ hr)
     have e : ((2 * r - G : Nat) : Int) = 2 * (r : Int) - (G : Int) := by omega
     have : ((2 * r - G : Nat) : Int) * (G : Int) ≤ (r : Int) * (r : Int) := by
      rw [e]
      have hsq : 0 ≤ ((r : Int) - (G : Int)) * ((r : Int) - (G : Int)) := by
       rcases Int.le_total 0 ((r : Int) - (G : Int)) with h | h
       ·
        exact Int.mul_nonneg h h
       ·
        exact Int.mul_nonneg_of_nonpos_of_nonpos h h
      have e2 : ((r : Int) - (G : Int)) * ((r : Int) - (G : Int)) = (r : Int) * r - (2 * (r : Int) - G) * G := by
       simp only [Int.sub_mul, Int.mul_sub, Int.mul_assoc, Int.mul_comm (G : Int) r]; omega
      omega
     exact_mod_cast this
    omega
  omega
 refine ⟨Nat.lt_of_not_le fun hc => ?_, ?_⟩
 ·
  have := key _ hc
  omega
 ·
  have := key 1 (by omega)
  omega
theorem guess_first {N n : Nat} (hN : 0 < N) (hf : Fit n N) : N < (2 ^ ((bitsN N + 1) / 2) + 1) * (2 ^ ((bitsN N + 1) / 2) + 1) ∧ 2 ^ ((bitsN N + 1) / 2) < BB ^ (n + 1) ∧ (bitsN N + 1) / 2 ≤ 32 * n := by
 have h0 : N ≠ 0 := by omega
 have hb : bitsN N = Nat.log2 N + 1 := by unfold bitsN; rw [if_neg h0]
 have h1 : N < 2 ^ bitsN N := by rw [hb]; exact Nat.lt_log2_self
 have h2 : 2 ^ (Nat.log2 N) ≤ N := Nat.log2_self_le h0
 have h3 : Nat.log2 N < 32 * n := (Nat.log2_lt h0).2 (by rw [← BB_pow]; exact hf.1)
 refine ⟨?_, ?_, by omega⟩
 ·
  refine Nat.lt_of_lt_of_le h1 ?_
  have : 2 ^ bitsN N ≤ 2 ^ ((bitsN N + 1) / 2) * 2 ^ ((bitsN N + 1) / 2) := by
   rw [← Nat.pow_add]; exact Nat.pow_le_pow_right (by decide) (by omega)
  refine Nat.le_trans this (Nat.mul_le_mul (by omega) (by omega))
 ·
  rw [BB_pow]; exact Nat.pow_lt_pow_right (by decide) (by omega)
theorem cmp_ge {A B : Nat} : decide (0 ≤ cmpN A B) = decide (B ≤ A) := by
 unfold cmpN
 by_cases h : A < B
 ·
  rw [if_pos h]; simp; omega
 ·
  rw [if_neg h]; by_cases h2 : B < A
  ·
   rw [if_pos h2]; simp; omega
  ·
   rw [if_neg h2]; simp; omega
set_option maxHeartbeats 1600000 in
theorem root_any (a : Option Addr) (n c N : Nat) (w : World) (ha : Lie .u32 w a n c (lmb N)) (fa : Fit n N) (hn : n ≤ 10000000) :
  Calls Try.prog 132 #[.slice a n c] w (PRoot N w) := by
 by_cases h0 : n = 0
 ·
  subst h0
  obtain rfl := (fit_pos fa).1 rfl
  go_enter Try.func132, Try.ntmps132
  go_wp2
  go_ret
  exact ⟨0, by omega, by omega, none, 0, 0, rfl, lie_nil _ _ _, fit_zero, (fun p hp => by cases hp), Below.refl _ _⟩
 ·
  have hN : 0 < N := Nat.pos_of_ne_zero fun h => h0 ((fit_pos fa).2 h)
  have hn1 : 1 ≤ n := by omega
  obtain ⟨g1, g2, g3⟩ := guess_first hN fa
  have h0' : ((n : Int) == 0) = false := by simpa using h0
  have H1 := Lib.hid g1
  have H2 := Lib.hid g2
  have HF := Lib.hid fa
  have hcm := ha.capm
  have hnc := ha.cap
  unfold maxLen at hcm
  clear h0 g1 g2 fa
  have hbb : bitsN N ≤ 64 * n + 1 := by omega
  go_enter Try.func132, Try.ntmps132
  go_wp2_with fail
  refine (bitCount_any a n c N _ ha HF.out (by omega)).mono ?_
  rintro e w1 ⟨rfl, hb1⟩
  have HB : Hid (((bitsN N : Int) + 1) / 2 = (((bitsN N + 1) / 2 : Nat) : Int)) := by show _ = _; omega
  go_wp2_with fail
  rw [HB.out]
  refine (powerOfTwo_any ((bitsN N + 1) / 2) _ (by omega)).mono ?_
  rintro e w2 ⟨g, rfl, hg, hown, hb2⟩
  have hfit := pow_fit ((bitsN N + 1) / 2)
  have hb02 : Below w.heap.size w w2 := hb1.trans (hb2.mono hb1.size)
  have hg0 : w.heap.size ≤ g := Nat.le_trans hb1.size hg
  generalize hGe : (2 : Nat) ^ ((bitsN N + 1) / 2) = G0 at *
  generalize (bitsN N + 1) / 2 / 32 + 1 = m0 at *
  have hG0 : 0 < G0 := by rw [← hGe]; exact Nat.pow_pos (by decide)
  have hm0 := fit_le hfit H2.out
  have HGE := Lib.hid hGe
  clear hGe HB
  go_wp2
  go_loopg [3] G0 (fun G v wr => ∃ (a1 : Option Addr) (m c1 : Nat), v = .slice a1 m c1 ∧ Lie .u32 wr a1 m c1 (lmb G) ∧ Fit m G ∧ m ≤ n + 1 ∧ 0 < G ∧ N < (G + 1) * (G + 1) ∧ (∀ p, a1 = some p → w.heap.size ≤ p.block) ∧ Below w.heap.size w wr)
  case atStart => exact ⟨some ⟨g, 0, none⟩, m0, m0, rfl, hown.lie (Nat.le_refl _) (by unfold maxLen; omega), hfit, hm0, hG0, H1.out, (fun p hp => by cases hp; exact hg0), hb02⟩
  case round =>
   obtain ⟨a1, m, c1, rfl, hl, hf, hm, hG, hlt, hfr, hbl⟩ := hrel
   have haw := ha.below hbl
   have HL := Lib.hid hlt
   have HFR := Lib.hid hfr
   have HM := Lib.hid hf
   clear hlt hfr hf
   go_wp2_with fail
   refine (quotient_any a a1 n c m c1 N gk _ haw hl HF.out HM.out (by omega) hG).mono ?_
   rintro e w3 ⟨a3, n3, c3, a4, n4, c4, rfl, ⟨hl3, hf3, hfr3⟩, _, hb3⟩
   have hl' := hl.below hb3
   have hn3 : n3 ≤ n := fit_le hf3 (Nat.lt_of_le_of_lt (Nat.div_le_self _ _) HF.out.1)
   have H3 := Lib.hid hf3
   clear hl haw hf3 hfr3
   go_wp2_with fail
   refine (sum_any a1 a3 m c1 n3 c3 gk (N / gk) _ hl' hl3 HM.out H3.out (by omega) (by omega)).mono ?_
   rintro e w4 ⟨a5, n5, c5, rfl, hl5, hf5, hfr5, hb4⟩
   have hl'' := hl'.below hb4
   have hn5 : n5 ≤ n + 2 := by
    refine fit_le hf5 ?_
    have q1 : gk < BB ^ (n + 1) := fit_mono HM.out.1 hm
    have q2 : N / gk < BB ^ (n + 1) := fit_mono (Nat.lt_of_le_of_lt (Nat.div_le_self _ _) HF.out.1) (by omega)
    exact (cy_end q1 q2).2
   have H5 := Lib.hid hf5
   clear hl' hl3 hf5 hfr5
   go_wp2_with fail
   refine (lowered_any a5 n5 c5 (gk + N / gk) 1 _ hl5 H5.out.1 (by omega) (by omega)).mono ?_
   rintro e w5 ⟨a6, n6, c6, rfl, hl6, hf6, hfr6, hb5⟩
   have hl7 := hl''.below hb5
   rw [Nat.pow_one] at hl6 hf6
   have H6 := Lib.hid hf6
   have HR6 := Lib.hid hfr6
   clear hl'' hl5 hf6 hfr6
   have hbA : Below w.heap.size w w4 := (hbl.trans (hb3.mono hbl.size)).trans (hb4.mono (Nat.le_trans hbl.size hb3.size))
   have hbB : Below w.heap.size w w5 := hbA.trans (hb5.mono hbA.size)
   go_wp2_with fail
   refine (compare_any a6 a1 n6 c6 m c1 ((gk + N / gk) / 2) gk _ hl6 hl7 H6.out HM.out).mono ?_
   rintro e w6 ⟨rfl, hb6⟩
   have hge := cmp_ge (A := (gk + N / gk) / 2) (B := gk)
   have hbC : Below w.heap.size w w6 := hbB.trans (hb6.mono hbB.size)
   by_cases hc : gk ≤ (gk + N / gk) / 2
   ·
    have hd : decide (0 ≤ cmpN ((gk + N / gk) / 2) gk) = true := by rw [hge]; exact decide_eq_true hc
    have HS := Lib.hid (newton_stop hG hc)
    clear hge hc
    generalize cmpN ((gk + N / gk) / 2) gk = cc at *
    go_wp2
    go_ret
    exact ⟨gk, HS.out, HL.out, a1, m, c1, rfl, hl7.below hb6, HM.out, HFR.out, hbC⟩
   ·
    have hd : decide (0 ≤ cmpN ((gk + N / gk) / 2) gk) = false := by rw [hge]; exact decide_eq_false hc
    have HS := Lib.hid (newton_go hG hN HL.out)
    have HC := Lib.hid hc
    clear hge hc
    have hn6 : n6 ≤ n + 1 := fit_le H6.out (Nat.lt_of_lt_of_le (Nat.lt_of_not_le HC.out) (Nat.le_of_lt (fit_mono HM.out.1 hm)))
    generalize hcc : cmpN ((gk + N / gk) / 2) gk = cc at *
    clear hcc
    go_wp2
    go_roundg ((gk + N / gk) / 2)
    case measure => exact Nat.lt_of_not_le HC.out
    case rel => exact ⟨a6, n6, c6, rfl, hl6.below hb6, H6.out, hn6, HS.out.2, HS.out.1, (fun p hp => Nat.le_trans hbA.size (HR6.out p hp)), hbC⟩
end Go.Proofs.Ytpahkpcoinbgcaa

/- The walks of package long's methods Sign, Cmp, Bits, Neg, Add, Mul. -/
namespace Go.Proofs.Ytpahkpcoinbgcaa
open Go.RowKit
theorem Num.zero_iff {w : World} {bl : Bool} {a : Option Addr} {n c : Nat} {z : Int} (h : Num w bl a n c z) : n = 0 ↔ z = 0 := by
 rw [fit_pos h.fit]; omega
/-- How two numbers stand to one another: -1, 0, 1. -/
def cmpI (x y : Int) : Int := if x < y then -1 else if y < x then 1 else 0
theorem only2 (w : World) (b : Nat) (u v : Value) : Only b w ((w.setCell ⟨b, 0, none⟩ u).setCell ⟨b, 1, none⟩ v) := (Only.setCell w b 0 u).trans (Only.setCell _ b 1 v)
theorem far2 {w : World} {b b' o : Nat} {u v x : Value} (h : w.cell? ⟨b, o, none⟩ = some x) (hne : b ≠ b') : ((w.setCell ⟨b', 0, none⟩ u).setCell ⟨b', 1, none⟩ v).cell? ⟨b, o, none⟩ = some x :=
 (World.cell?_of_block (w := w) (a := ⟨b, o, none⟩) ((only2 w b' u v).block b hne)).trans h
theorem Num.only {w w' : World} {bl : Bool} {a : Option Addr} {n c g : Nat} {z : Int} (h : Num w bl a n c z) (ho : Only g w w') (hg : ∀ p, a = some p → p.block ≠ g) : Num w' bl a n c z := ⟨h.lie.only ho hg, h.fit, h.sgn⟩
theorem sg_not {bl : Bool} {z : Int} (h : bl = decide (z < 0)) : sg (!bl) z.natAbs = -z := by
 subst h
 by_cases hz : z < 0
 ·
  simp [sg, hz]; omega
 ·
  simp [sg, hz]; omega
/-- Behind a store of a number into a result's block: it is handed back. -/
theorem pnum_store {w w3 : World} {bl : Bool} {a : Option Addr} {n c r : Nat} {z : Int} (hn : Num w3 bl a n c z) (hB : Below w.heap.size w w3) (hr : w.heap.size ≤ r) (hfr : ∀ p, a = some p → r < p.block) :
  PNum z w (.returned (.agg #[.bool bl, .slice a n c])) ((w3.setCell ⟨r, 0, none⟩ (.bool bl)).setCell ⟨r, 1, none⟩ (.slice a n c)) :=
 ⟨bl, a, n, c, rfl, hn.only (only2 _ _ _ _) (fun p hp => by have := hfr p hp; omega), (fun p hp => by have := hfr p hp; omega), hB.trans ((only2 _ _ _ _).below hr)⟩
end Go.Proofs.Ytpahkpcoinbgcaa

/- The walks of Mul, Add, Sub. -/
namespace Go.Proofs.Ytpahkpcoinbgcaa
open Go.RowKit
/-- Two numbers in boxes of their own, and a place for the result, behind what was there. -/
structure Boxed (w w1 : World) (bl : Bool) (a : Option Addr) (n c : Nat) (bl' : Bool) (a' : Option Addr) (n' c' : Nat) : Prop where
 below : Below w.heap.size w w1
 k0 : w1.cell? ⟨w.heap.size, 0, none⟩ = some (.bool bl)
 k1 : w1.cell? ⟨w.heap.size, 1, none⟩ = some (.slice a n c)
 l0 : w1.cell? ⟨w.heap.size + 1, 0, none⟩ = some (.bool bl')
 l1 : w1.cell? ⟨w.heap.size + 1, 1, none⟩ = some (.slice a' n' c')
 r0 : w1.cell? ⟨w.heap.size + 2, 0, none⟩ = some (.bool false)
 r1 : w1.cell? ⟨w.heap.size + 2, 1, none⟩ = some (.slice none 0 0)
 f0 : w1.frozen? ⟨w.heap.size + 2, 0, none⟩ = false
 f1 : w1.frozen? ⟨w.heap.size + 2, 1, none⟩ = false
 sz : w.heap.size + 2 < w1.heap.size
theorem boxed_mk (w : World) (t : TypeId) (bl : Bool) (a : Option Addr) (n c : Nat) (bl' : Bool) (a' : Option Addr) (n' c' : Nat) :
  Boxed w (((w.alloc (.cells #[.bool bl, .slice a n c] t)).alloc (.cells #[.bool bl', .slice a' n' c'] t)).alloc (.cells #[.bool false, .slice none 0 0] t)) bl a n c bl' a' n' c' :=
 ⟨(((Below.refl w.heap.size w).alloc (Nat.le_refl _) _).alloc (by simp) _).alloc (by simp; omega) _, by simp [go_sem], by simp [go_sem], by simp [go_sem], by simp [go_sem], by simp [go_sem], by simp [go_sem], by simp [go_sem], by simp [go_sem], by simp⟩
theorem Boxed.later {w w1 w2 : World} {bl : Bool} {a : Option Addr} {n c : Nat} {bl' : Bool} {a' : Option Addr} {n' c' : Nat} (h : Boxed w w1 bl a n c bl' a' n' c') (hb : Below w1.heap.size w1 w2) : Boxed w w2 bl a n c bl' a' n' c' := by
 have hs := h.sz
 exact ⟨h.below.trans (hb.mono h.below.size), (hb.cell (p := ⟨w.heap.size, 0, none⟩) (by show w.heap.size < _; omega)).trans h.k0, (hb.cell (p := ⟨w.heap.size, 1, none⟩) (by show w.heap.size < _; omega)).trans h.k1,
  (hb.cell (p := ⟨w.heap.size + 1, 0, none⟩) (by show w.heap.size + 1 < _; omega)).trans h.l0, (hb.cell (p := ⟨w.heap.size + 1, 1, none⟩) (by show w.heap.size + 1 < _; omega)).trans h.l1,
  (hb.cell (p := ⟨w.heap.size + 2, 0, none⟩) hs).trans h.r0, (hb.cell (p := ⟨w.heap.size + 2, 1, none⟩) hs).trans h.r1, (hb.frozen (p := ⟨w.heap.size + 2, 0, none⟩) hs).trans h.f0, (hb.frozen (p := ⟨w.heap.size + 2, 1, none⟩) hs).trans h.f1,
  Nat.lt_of_lt_of_le hs hb.size⟩
theorem below_undrew {B : Nat} {w w' : World} (h : Below B w.drew w') : Below B w w' := ⟨h.os, h.tape, h.output, h.size, h.block⟩
theorem Boxed.drew {w w1 : World} {bl : Bool} {a : Option Addr} {n c : Nat} {bl' : Bool} {a' : Option Addr} {n' c' : Nat} (h : Boxed w w1 bl a n c bl' a' n' c') : Boxed w w1.drew bl a n c bl' a' n' c' := h.later (Below.refl _ _).drew
/-- What the loads of a region read, in a world of its run. -/
def HS (w : World) (bl : Bool) (a : Option Addr) (n c : Nat) (bl' : Bool) (a' : Option Addr) (n' c' : Nat) (w' : World) : Prop :=
 w'.cell? ⟨w.heap.size, 0, none⟩ = some (.bool bl) ∧ w'.cell? ⟨w.heap.size, 1, none⟩ = some (.slice a n c) ∧ w'.cell? ⟨w.heap.size + 1, 0, none⟩ = some (.bool bl') ∧ w'.cell? ⟨w.heap.size + 1, 1, none⟩ = some (.slice a' n' c')
theorem Boxed.hs {w w1 : World} {bl : Bool} {a : Option Addr} {n c : Nat} {bl' : Bool} {a' : Option Addr} {n' c' : Nat} (h : Boxed w w1 bl a n c bl' a' n' c') : HS w bl a n c bl' a' n' c' w1 := ⟨h.k0, h.k1, h.l0, h.l1⟩
theorem Boxed.hs2 {w w1 : World} {bl : Bool} {a : Option Addr} {n c : Nat} {bl' : Bool} {a' : Option Addr} {n' c' : Nat} (h : Boxed w w1 bl a n c bl' a' n' c') (u v : Value) : HS w bl a n c bl' a' n' c' ((w1.setCell ⟨w.heap.size + 2, 0, none⟩ u).setCell ⟨w.heap.size + 2, 1, none⟩ v) :=
 ⟨far2 h.k0 (by omega), far2 h.k1 (by omega), far2 h.l0 (by omega), far2 h.l1 (by omega)⟩
theorem sg_mul {bl bl' : Bool} {x y : Int} (h : bl = decide (x < 0)) (h' : bl' = decide (y < 0)) : sg (!(bl == bl')) (x.natAbs * y.natAbs) = x * y := by
 rw [← Int.natAbs_mul]
 unfold sg
 have e : (x * y).natAbs = x.natAbs * y.natAbs := Int.natAbs_mul x y
 by_cases hx : x < 0 <;> by_cases hy : y < 0
 ·
  have : 0 ≤ x * y := Int.mul_nonneg_of_nonpos_of_nonpos (by omega) (by omega)
  simp [h, h', hx, hy]; omega
 ·
  have : x * y ≤ 0 := Int.mul_nonpos_of_nonpos_of_nonneg (by omega) (by omega)
  simp [h, h', hx, hy]; omega
 ·
  have : x * y ≤ 0 := Int.mul_nonpos_of_nonneg_of_nonpos (by omega) (by omega)
  simp [h, h', hx, hy]; omega
 ·
  have : 0 ≤ x * y := Int.mul_nonneg (by omega) (by omega)
  simp [h, h', hx, hy]; omega
theorem sg_add1 {bl bl' : Bool} {x y : Int} (h : bl = decide (x < 0)) (h' : bl' = decide (y < 0)) (hb : (bl == bl') = true) : sg bl (x.natAbs + y.natAbs) = x + y := by
 by_cases hx : x < 0 <;> by_cases hy : y < 0 <;> simp [h, h', hx, hy] at hb <;> simp [sg, h, hx] <;> omega
theorem sg_add2 {bl bl' : Bool} {x y : Int} (h : bl = decide (x < 0)) (h' : bl' = decide (y < 0)) (hb : (bl == bl') = false) (hc : x.natAbs < y.natAbs) : sg bl' (y.natAbs - x.natAbs) = x + y := by
 by_cases hx : x < 0 <;> by_cases hy : y < 0 <;> simp [h, h', hx, hy] at hb <;> simp [sg, h', hy] <;> omega
theorem sg_add3 {bl bl' : Bool} {x y : Int} (h : bl = decide (x < 0)) (h' : bl' = decide (y < 0)) (hb : (bl == bl') = false) (hc : ¬ x.natAbs < y.natAbs) : sg bl (x.natAbs - y.natAbs) = x + y := by
 by_cases hx : x < 0 <;> by_cases hy : y < 0 <;> simp [h, h', hx, hy] at hb <;> simp [sg, h, hx] <;> omega
end Go.Proofs.Ytpahkpcoinbgcaa

/- The walks of Of, Root, Quo, Small. -/
namespace Go.Proofs.Ytpahkpcoinbgcaa
open Go.RowKit
theorem lmb0 (N : Nat) : lmb N 0 = N % 4294967296 := by unfold lmb; simp; rfl
theorem lmb1 {N : Nat} (h : N < 18446744073709551616) : lmb N 1 = N / 4294967296 := by
 unfold lmb; rw [Nat.pow_one]; exact Nat.mod_eq_of_lt (Nat.div_lt_of_lt_mul h)
theorem two_lt {N : Nat} (h : N < 18446744073709551616) : N < BB ^ 2 := h
/-- A place for a number that is a result, behind what was there. -/
structure ResAt (w w1 : World) (r : Nat) : Prop where
 below : Below w.heap.size w w1
 r0 : w1.cell? ⟨r, 0, none⟩ = some (.bool false)
 r1 : w1.cell? ⟨r, 1, none⟩ = some (.slice none 0 0)
 f0 : w1.frozen? ⟨r, 0, none⟩ = false
 f1 : w1.frozen? ⟨r, 1, none⟩ = false
 lo : w.heap.size ≤ r
 sz : r < w1.heap.size
theorem ResAt.later {w w1 w2 : World} {r : Nat} (h : ResAt w w1 r) (hb : Below w1.heap.size w1 w2) : ResAt w w2 r :=
 ⟨h.below.trans (hb.mono h.below.size), (hb.cell (p := ⟨r, 0, none⟩) h.sz).trans h.r0, (hb.cell (p := ⟨r, 1, none⟩) h.sz).trans h.r1, (hb.frozen (p := ⟨r, 0, none⟩) h.sz).trans h.f0, (hb.frozen (p := ⟨r, 1, none⟩) h.sz).trans h.f1, h.lo, Nat.lt_of_lt_of_le h.sz hb.size⟩
theorem res_mk (w : World) (t : TypeId) (o : Obj) : ResAt w ((w.alloc (.cells #[.bool false, .slice none 0 0] t)).alloc o) w.heap.size :=
 ResAt.later (w1 := w.alloc (.cells #[.bool false, .slice none 0 0] t)) ⟨(Below.refl w.heap.size w).alloc (Nat.le_refl _) _, by simp [go_sem], by simp [go_sem], by simp [go_sem], by simp [go_sem], Nat.le_refl _, by simp⟩ ((Below.refl _ _).alloc (Nat.le_refl _) _)
theorem of_neg {z : Int} (hz : z < 0) (h1 : -9223372036854775808 ≤ z) : IntKind.u64.wrap (-IntKind.u64.wrap z) % 4294967296 = ((lmb z.natAbs 0 : Nat) : Int) ∧ IntKind.u64.wrap (-IntKind.u64.wrap z) / 4294967296 % 4294967296 = ((lmb z.natAbs 1 : Nat) : Int) := by
 rw [IntKind.wrap_u64, IntKind.wrap_u64, lmb0, lmb1 (by omega)]
 omega
theorem of_pos {z : Int} (hz : ¬ z < 0) (h2 : z ≤ 9223372036854775807) : z % 4294967296 = ((lmb z.natAbs 0 : Nat) : Int) ∧ z / 4294967296 = ((lmb z.natAbs 1 : Nat) : Int) := by
 rw [lmb0, lmb1 (by omega)]
 omega
set_option maxRecDepth 100000 in
set_option maxHeartbeats 800000 in
theorem Of_any (z : Int) (w : World) (h1 : -9223372036854775808 ≤ z) (h2 : z ≤ 9223372036854775807) :
  Calls Try.prog 123 #[.int .i64 z] w (PNum z w) := by
 by_cases hz : z < 0
 ·
  have HE := Lib.hid (of_neg hz h1)
  go_enter Try.func123, Try.ntmps123
  go_wp2_with fail
  rw [HE.out.1, HE.out.2]
  have hO := own_lit2 .u32 134 (w.alloc (.cells #[.bool false, .slice none 0 0] 113)) (lmb z.natAbs 0) (lmb z.natAbs 1) (lmb z.natAbs) rfl rfl
  rw [show (w.alloc (.cells #[.bool false, .slice none 0 0] 113)).heap.size = w.heap.size + 1 from by simp] at hO
  have hR := res_mk w 113 (.cells #[.int .u32 (lmb z.natAbs 0), .int .u32 (lmb z.natAbs 1)] 134)
  generalize (w.alloc (.cells #[.bool false, .slice none 0 0] 113)).alloc (.cells #[.int .u32 (lmb z.natAbs 0), .int .u32 (lmb z.natAbs 1)] 134) = w1 at *
  refine (made_any true _ 2 2 z.natAbs _ (hO.lie (Nat.le_refl _) (by unfold maxLen; omega)) (two_lt (by omega))).mono ?_
  rintro e w3 ⟨bl3, a3, n3, c3, rfl, hnum, haa, hb3⟩
  have hR3 := hR.later hb3
  have rB0 := hR3.r0
  have rB1 := hR3.r1
  have fB0 := hR3.f0
  have fB1 := hR3.f1
  go_wp2
  rw [show sg true z.natAbs = z from by simp [sg]; omega] at hnum
  refine bodyPost_ret (v := .agg #[.bool bl3, .slice a3 n3 c3]) (by simp [results, Try.results123, go_sem, rB0, rB1]) rfl ?_
  refine pnum_store hnum hR3.below (Nat.le_refl _) (fun p hp => ?_)
  rcases haa with h | h
  ·
   rw [h] at hp; cases hp
  ·
   rw [h] at hp; cases hp; show _ < w.heap.size + 1; omega
 ·
  have HE := Lib.hid (of_pos hz h2)
  go_enter Try.func123, Try.ntmps123
  go_wp2_with fail
  rw [HE.out.1, HE.out.2]
  have hO := own_lit2 .u32 134 (w.alloc (.cells #[.bool false, .slice none 0 0] 113)) (lmb z.natAbs 0) (lmb z.natAbs 1) (lmb z.natAbs) rfl rfl
  rw [show (w.alloc (.cells #[.bool false, .slice none 0 0] 113)).heap.size = w.heap.size + 1 from by simp] at hO
  have hR := res_mk w 113 (.cells #[.int .u32 (lmb z.natAbs 0), .int .u32 (lmb z.natAbs 1)] 134)
  generalize (w.alloc (.cells #[.bool false, .slice none 0 0] 113)).alloc (.cells #[.int .u32 (lmb z.natAbs 0), .int .u32 (lmb z.natAbs 1)] 134) = w1 at *
  refine (made_any false _ 2 2 z.natAbs _ (hO.lie (Nat.le_refl _) (by unfold maxLen; omega)) (two_lt (by omega))).mono ?_
  rintro e w3 ⟨bl3, a3, n3, c3, rfl, hnum, haa, hb3⟩
  have hR3 := hR.later hb3
  have rB0 := hR3.r0
  have rB1 := hR3.r1
  have fB0 := hR3.f0
  have fB1 := hR3.f1
  go_wp2
  rw [show sg false z.natAbs = z from by simp [sg]; omega] at hnum
  refine bodyPost_ret (v := .agg #[.bool bl3, .slice a3 n3 c3]) (by simp [results, Try.results123, go_sem, rB0, rB1]) rfl ?_
  refine pnum_store hnum hR3.below (Nat.le_refl _) (fun p hp => ?_)
  rcases haa with h | h
  ·
   rw [h] at hp; cases hp
  ·
   rw [h] at hp; cases hp; show _ < w.heap.size + 1; omega
end Go.Proofs.Ytpahkpcoinbgcaa

/- The walk of Root. -/
namespace Go.Proofs.Ytpahkpcoinbgcaa
open Go.RowKit
/-- A number in new memory, and an error's number, are handed back. -/
def PNumE (z : Int) (er : Int) (w : World) (e : Ending) (w' : World) : Prop :=
 ∃ (bl : Bool) (a' : Option Addr) (n c : Nat), e = .returned (.tuple #[.agg #[.bool bl, .slice a' n c], .int .i64 er]) ∧ Num w' bl a' n c z ∧ (∀ p, a' = some p → w.heap.size ≤ p.block) ∧ Below w.heap.size w w'
theorem pnume_store {w w3 : World} {bl : Bool} {a : Option Addr} {n c r : Nat} {z er : Int} (hn : Num w3 bl a n c z) (hB : Below w.heap.size w w3) (hr : w.heap.size ≤ r) (hfr : ∀ p, a = some p → r < p.block) :
  PNumE z er w (.returned (.tuple #[.agg #[.bool bl, .slice a n c], .int .i64 er])) ((w3.setCell ⟨r, 0, none⟩ (.bool bl)).setCell ⟨r, 1, none⟩ (.slice a n c)) :=
 ⟨bl, a, n, c, rfl, hn.only (only2 _ _ _ _) (fun p hp => by have := hfr p hp; omega), (fun p hp => by have := hfr p hp; omega), hB.trans ((only2 _ _ _ _).below hr)⟩
theorem box_res (w : World) (t : TypeId) (o : Obj) : ResAt w ((w.alloc o).alloc (.cells #[.bool false, .slice none 0 0] t)) (w.heap.size + 1) :=
 ⟨((Below.refl w.heap.size w).alloc (Nat.le_refl _) _).alloc (by simp) _, by simp [go_sem], by simp [go_sem], by simp [go_sem], by simp [go_sem], by omega, by simp⟩
/-- The root of a number is handed back. -/
def PIroot (N : Nat) (w : World) (e : Ending) (w' : World) : Prop := ∃ R : Nat, R * R ≤ N ∧ N < (R + 1) * (R + 1) ∧ PNumE (R : Int) 0 w e w'
set_option maxHeartbeats 800000 in
theorem Root_pos (a : Option Addr) (n c : Nat) (z : Int) (w : World) (h : Num w false a n c z) (hn : n ≤ 10000000) :
  Calls Try.prog 124 #[.agg #[.bool false, .slice a n c]] w (PIroot z.natAbs w) := by
 have hl := h.lie
 have hf := Lib.hid h.fit
 clear h
 go_enter Try.func124, Try.ntmps124
 go_wp2_with fail
 have hR := box_res w 113 (.cells #[.bool false, .slice a n c] 113)
 generalize (w.alloc (.cells #[.bool false, .slice a n c] 113)).alloc (.cells #[.bool false, .slice none 0 0] 113) = w1 at *
 refine (root_any a n c z.natAbs _ (hl.below hR.below) hf.out hn).mono ?_
 rintro e w2 ⟨R, hR1, hR2, a2, n2, c2, rfl, hl2, hf2, hfr2, hb2⟩
 have HR := Lib.hid (And.intro hR1 hR2)
 have HF2 := Lib.hid hf2
 have HFR := Lib.hid hfr2
 clear hR1 hR2 hf2 hfr2
 have hX2 := hR.later hb2
 go_wp2_with fail
 refine (made_any false _ n2 c2 R _ hl2 HF2.out.1).mono ?_
 rintro e w3 ⟨bl3, a3, n3, c3, rfl, hnum, haa, hb3⟩
 have hR3 := hX2.later hb3
 have rB0 := hR3.r0
 have rB1 := hR3.r1
 have fB0 := hR3.f0
 have fB1 := hR3.f1
 go_wp2
 rw [show sg false R = (R : Int) from rfl] at hnum
 refine bodyPost_ret (v := .tuple #[.agg #[.bool bl3, .slice a3 n3 c3], .int .i64 0]) (by simp [results, Try.results124, go_sem, rB0, rB1]) rfl ?_
 refine ⟨R, HR.out.1, HR.out.2, pnume_store hnum hR3.below (by omega) (fun p hp => ?_)⟩
 rcases haa with h | h
 ·
  rw [h] at hp; cases hp
 ·
  rw [h] at hp; have h1 := HFR.out p hp; have h2 := hR.sz; omega
end Go.Proofs.Ytpahkpcoinbgcaa

/- The walk of Parse. -/
namespace Go.Proofs.Ytpahkpcoinbgcaa
open Go.RowKit
theorem res_one (w : World) (t : TypeId) : ResAt w (w.alloc (.cells #[.bool false, .slice none 0 0] t)) w.heap.size :=
 ⟨(Below.refl w.heap.size w).alloc (Nat.le_refl _) _, by simp [go_sem], by simp [go_sem], by simp [go_sem], by simp [go_sem], Nat.le_refl _, by simp⟩
end Go.Proofs.Ytpahkpcoinbgcaa

/- The document's own numbers: decimal digits, the lowest first. The walks of its made and Parse. -/
namespace Go.Proofs.Ytpahkpcoinbgcaa
open Go.RowKit
/-- n is how many digits N has. -/
def Fit10 (n N : Nat) : Prop := N < 10 ^ n ∧ (n = 0 ∨ 10 ^ (n - 1) ≤ N)
theorem p10 (k : Nat) : 0 < 10 ^ k := Nat.pow_pos (by decide)
theorem dig_top {N k : Nat} (h : N < 10 ^ (k + 1)) : dig N k = N / 10 ^ k := by
 unfold dig
 exact Nat.mod_eq_of_lt (Nat.div_lt_of_lt_mul (by rw [← Nat.pow_succ]; exact h))
theorem dig_zero {B m i : Nat} (h : B < 10 ^ m) (hi : m ≤ i) : dig B i = 0 := by
 unfold dig
 rw [Nat.div_eq_of_lt (Nat.lt_of_lt_of_le h (Nat.pow_le_pow_right (by decide) hi))]
theorem fit10_step {N k : Nat} (hk : 1 ≤ k) (h : N < 10 ^ k) (hz : dig N (k - 1) = 0) : N < 10 ^ (k - 1) := by
 obtain ⟨j, rfl⟩ : ∃ j, k = j + 1 := ⟨k - 1, by omega⟩
 simp only [Nat.add_sub_cancel] at hz ⊢
 rw [dig_top h] at hz
 rcases Nat.div_eq_zero_iff.1 hz with h0 | h0
 ·
  have := p10 j; omega
 ·
  exact h0
theorem fit10_end {N k : Nat} (hz : dig N (k - 1) ≠ 0) : 10 ^ (k - 1) ≤ N := by
 refine Nat.le_of_not_lt fun h => hz ?_
 unfold dig
 rw [Nat.div_eq_of_lt h]
theorem fit10_zero : Fit10 0 0 := ⟨by simp, .inl rfl⟩
theorem fit10_pos {n N : Nat} (h : Fit10 n N) : n = 0 ↔ N = 0 := by
 constructor
 ·
  intro e; subst e; have := h.1; simp at this; exact this
 ·
  intro e; subst e
  rcases h.2 with h0 | h0
  ·
   exact h0
  ·
   have := p10 (n - 1); omega
/-- A number of the document's: its sign, its digits in memory. -/
structure RNum (w : World) (bl : Bool) (a : Option Addr) (n c : Nat) (z : Int) : Prop where
 lie : Lie .i64 w a n c (dig z.natAbs)
 fit : Fit10 n z.natAbs
 sgn : bl = decide (z < 0)
theorem RNum.below {w w' : World} {bl : Bool} {a : Option Addr} {n c : Nat} {z : Int} (h : RNum w bl a n c z) (hb : Below w.heap.size w w') : RNum w' bl a n c z := ⟨h.lie.below hb, h.fit, h.sgn⟩
theorem RNum.only {w w' : World} {bl : Bool} {a : Option Addr} {n c g : Nat} {z : Int} (h : RNum w bl a n c z) (ho : Only g w w') (hg : ∀ p, a = some p → p.block ≠ g) : RNum w' bl a n c z := ⟨h.lie.only ho hg, h.fit, h.sgn⟩
theorem rnum_zero (w : World) : RNum w false none 0 0 0 := ⟨lie_nil _ _ _, fit10_zero, rfl⟩
/-- A number is handed back whose digits lie in the memory of a. -/
def PRMade (a : Option Addr) (z : Int) (w : World) (e : Ending) (w' : World) : Prop :=
 ∃ (bl : Bool) (n c : Nat), e = .returned (.agg #[.bool bl, .slice a n c]) ∧ RNum w' bl a n c z ∧ Below w.heap.size w w'
theorem below_one (w : World) (t : TypeId) : Below w.heap.size w (w.alloc (.cells #[.bool false, .slice none 0 0] t)) := (Below.refl _ _).alloc (Nat.le_refl _) _
set_option maxHeartbeats 800000 in
theorem rmade_any (bl : Bool) (a : Option Addr) (n c N : Nat) (w : World) (hl : Lie .i64 w a n c (dig N)) (hN : N < 10 ^ n) :
  Calls Try.prog 110 #[.bool bl, .slice a n c] w (PRMade a (sg bl N) w) := by
 have hcm := hl.capm
 have hnc := hl.cap
 unfold maxLen at hcm
 have hB := below_one w 71
 have hl1 := hl.below hB
 have hspot := hl.spot
 go_enter Try.func110, Try.ntmps110
 go_wp2
 go_loop [5] (fun i => ∃ k : Nat, k ≤ n ∧ i = .int .i64 k ∧ N < 10 ^ k) (fun i => (intOf i).toNat)
 case atStart => exact ⟨n, Nat.le_refl _, rfl, hN⟩
 case round =>
  obtain ⟨k, hk, rfl, hNk⟩ := hrel
  have HN := Lib.hid hNk
  clear hNk hN
  by_cases hp : 0 < k
  ·
   obtain ⟨b, o, rfl, hb⟩ := hl.some_of_pos (by omega)
   have hcell := hl1.at (k - 1) (by omega)
   by_cases hz : dig N (k - 1) = 0
   ·
    have hz' : ((dig N (k - 1) : Int) == 0) = true := by rw [hz]; rfl
    have HZ := Lib.hid hz
    clear hz hl hl1 hspot
    go_wp2
    go_round
    case rel => exact ⟨k - 1, by omega, by go_num, fit10_step (by omega) HN.out HZ.out⟩
    case measure => simp [intOf]; omega
   ·
    have hz' : ((dig N (k - 1) : Int) == 0) = false := by simpa using hz
    have HZ := Lib.hid hz
    have HL := Lib.hid (hl.cut hk)
    have HP : Hid (0 < N) := Nat.lt_of_lt_of_le (p10 _) (fit10_end HZ.out)
    clear hz hl hl1 hspot
    have hd : decide (0 < k) = true := decide_eq_true hp
    cases bl
    ·
     go_wp2
     refine bodyPost_ret (v := .agg #[.bool false, .slice (some ⟨b, o, none⟩) k c]) (by simp [results, Try.results110, go_sem]) rfl ?_
     exact ⟨false, k, c, rfl, ⟨by rw [sg_abs]; exact HL.out.below ((Below.refl _ _).alloc (Nat.le_refl _) _), by rw [sg_abs]; exact ⟨HN.out, .inr (fit10_end HZ.out)⟩, (sg_neg false N HP.out).symm⟩, (Below.refl _ _).alloc (Nat.le_refl _) _⟩
    ·
     go_wp2
     refine bodyPost_ret (v := .agg #[.bool true, .slice (some ⟨b, o, none⟩) k c]) (by simp [results, Try.results110, go_sem]) rfl ?_
     exact ⟨true, k, c, rfl, ⟨by rw [sg_abs]; exact HL.out.below ((Below.refl _ _).alloc (Nat.le_refl _) _), by rw [sg_abs]; exact ⟨HN.out, .inr (fit10_end HZ.out)⟩, (sg_neg true N HP.out).symm⟩, (Below.refl _ _).alloc (Nat.le_refl _) _⟩
  ·
   obtain rfl : k = 0 := by omega
   have hN0 : N = 0 := by have := HN.out; rw [Nat.pow_zero] at this; omega
   have HL := Lib.hid (hl.cut hk)
   have HV : Hid (sg bl N = 0) := by show _ = _; rw [hN0]; cases bl <;> rfl
   have hsp : ∃ a' : Option Addr, a' = a ∧ ∀ p, a' = some p → p.spot = none := ⟨a, rfl, fun p hp => (hspot p hp).1⟩
   clear hl1 hl hspot hN0
   rcases a with _ | ⟨b, o, s⟩
   ·
    obtain ⟨e1, e2⟩ := HL.out.nil rfl
    subst e2
    have hn0 : n = 0 := by omega
    subst hn0
    cases bl
    all_goals
     go_wp2
     refine bodyPost_ret (v := .agg #[.bool false, .slice none 0 0]) (by simp [results, Try.results110, go_sem]) rfl ?_
     exact ⟨false, 0, 0, rfl, by rw [HV.out]; exact rnum_zero _, (Below.refl _ _).alloc (Nat.le_refl _) _⟩
   ·
    obtain ⟨a', ha', hs'⟩ := hsp
    have hss : s = none := hs' ⟨b, o, s⟩ ha'
    subst hss
    clear ha' hs'
    cases bl
    all_goals
     go_wp2
     refine bodyPost_ret (v := .agg #[.bool false, .slice (some ⟨b, o, none⟩) 0 c]) (by simp [results, Try.results110, go_sem]) rfl ?_
     refine ⟨false, 0, c, rfl, ?_, (Below.refl _ _).alloc (Nat.le_refl _) _⟩
     rw [HV.out]
     exact ⟨(HL.out.below ((Below.refl _ _).alloc (Nat.le_refl _) _)).congr (fun i hi => by omega), fit10_zero, rfl⟩
end Go.Proofs.Ytpahkpcoinbgcaa

/- The document's numbers: what digits make. -/
namespace Go.Proofs.Ytpahkpcoinbgcaa
open Go.RowKit
theorem tmod_succ (N i : Nat) : N % 10 ^ (i + 1) = N % 10 ^ i + 10 ^ i * dig N i := Nat.mod_pow_succ
theorem tcmp_len_lt {n m A B : Nat} (ha : Fit10 n A) (hb : Fit10 m B) (h : n < m) : cmpN A B = -1 := by
 have : A < B := by
  rcases hb.2 with h0 | h0
  ·
   omega
  ·
   have h1 : 10 ^ n ≤ 10 ^ (m - 1) := Nat.pow_le_pow_right (by decide : 0 < 10) (by omega)
   have := ha.1
   omega
 simp [cmpN, this]
theorem tcmp_len_gt {n m A B : Nat} (ha : Fit10 n A) (hb : Fit10 m B) (h : m < n) : cmpN A B = 1 := by
 have : B < A := by
  rcases ha.2 with h0 | h0
  ·
   omega
  ·
   have h1 : 10 ^ m ≤ 10 ^ (n - 1) := Nat.pow_le_pow_right (by decide : 0 < 10) (by omega)
   have := hb.1
   omega
 have h2 : ¬ A < B := by omega
 simp [cmpN, this, h2]
theorem tup_split (N k : Nat) : N / 10 ^ k = dig N k + 10 * (N / 10 ^ (k + 1)) := by
 unfold dig
 rw [Nat.pow_succ, ← Nat.div_div_eq_div_mul]
 exact (Nat.mod_add_div _ _).symm
theorem tcmp_up {A B k : Nat} (h : A / 10 ^ (k + 1) = B / 10 ^ (k + 1)) :
  (dig A k < dig B k → cmpN A B = -1) ∧ (dig B k < dig A k → cmpN A B = 1) ∧ (dig A k = dig B k → A / 10 ^ k = B / 10 ^ k) := by
 have ha := tup_split A k
 have hb := tup_split B k
 rw [h] at ha
 refine ⟨fun hl => ?_, fun hl => ?_, fun he => by rw [ha, hb, he]⟩
 ·
  have h1 : A / 10 ^ k < B / 10 ^ k := by omega
  have h2 : A < B := Nat.lt_of_not_le fun hc => by have := Nat.div_le_div_right (c := 10 ^ k) hc; omega
  simp [cmpN, h2]
 ·
  have h1 : B / 10 ^ k < A / 10 ^ k := by omega
  have h2 : B < A := Nat.lt_of_not_le fun hc => by have := Nat.div_le_div_right (c := 10 ^ k) hc; omega
  have h3 : ¬ A < B := by omega
  simp [cmpN, h2, h3]
theorem tcmp_all {A B : Nat} (h : A / 10 ^ 0 = B / 10 ^ 0) : cmpN A B = 0 := by
 simp at h; subst h; simp [cmpN]
/-- What a sum carries into its i-th part. -/
def tcy (A B i : Nat) : Nat := (A % 10 ^ i + B % 10 ^ i) / 10 ^ i
theorem tcy_zero (A B : Nat) : tcy A B 0 = 0 := by simp [tcy, Nat.mod_one]
theorem tcy_le (A B i : Nat) : tcy A B i ≤ 1 := by
 unfold tcy
 have h1 := Nat.mod_lt A (p10 i)
 have h2 := Nat.mod_lt B (p10 i)
 exact Nat.le_of_lt_succ (Nat.div_lt_of_lt_mul (by omega))
theorem tcy_step (A B i : Nat) : (tcy A B i + dig A i + dig B i) % 10 = dig (A + B) i ∧ (tcy A B i + dig A i + dig B i) / 10 = tcy A B (i + 1) := by
 have hP := p10 i
 have e1 : (A + B) / 10 ^ i = A / 10 ^ i + B / 10 ^ i + tcy A B i := by
  unfold tcy
  have ha := Nat.div_add_mod A (10 ^ i)
  have hb := Nat.div_add_mod B (10 ^ i)
  have hs : A + B = (A % 10 ^ i + B % 10 ^ i) + 10 ^ i * (A / 10 ^ i + B / 10 ^ i) := by rw [Nat.mul_add]; omega
  rw [hs, Nat.add_mul_div_left _ _ hP]; omega
 have e2 : (A % 10 ^ (i + 1) + B % 10 ^ (i + 1)) / 10 ^ i = tcy A B i + dig A i + dig B i := by
  rw [tmod_succ, tmod_succ]
  have hs : A % 10 ^ i + 10 ^ i * dig A i + (B % 10 ^ i + 10 ^ i * dig B i) = (A % 10 ^ i + B % 10 ^ i) + 10 ^ i * (dig A i + dig B i) := by rw [Nat.mul_add]; omega
  rw [hs, Nat.add_mul_div_left _ _ hP]; unfold tcy; omega
 constructor
 ·
  show _ % 10 = _
  conv => rhs; unfold dig
  rw [e1]
  have ha : A / 10 ^ i % 10 = dig A i := rfl
  have hb : B / 10 ^ i % 10 = dig B i := rfl
  rw [← ha, ← hb]
  omega
 ·
  show _ / 10 = _
  rw [← e2, Nat.div_div_eq_div_mul]; rfl
theorem tlmb_zero {B m i : Nat} (h : B < 10 ^ m) (hi : m ≤ i) : dig B i = 0 := by
 unfold dig
 rw [Nat.div_eq_of_lt (Nat.lt_of_lt_of_le h (Nat.pow_le_pow_right (by decide : 0 < 10) hi))]
theorem tfit_mono {m n B : Nat} (h : B < 10 ^ m) (hm : m ≤ n) : B < 10 ^ n := Nat.lt_of_lt_of_le h (Nat.pow_le_pow_right (by decide : 0 < 10) hm)
/-- What a difference borrows from its i-th part. -/
def tbw (A B i : Nat) : Nat := if A % 10 ^ i < B % 10 ^ i then 1 else 0
theorem tbw_zero (A B : Nat) : tbw A B 0 = 0 := by simp [tbw, Nat.mod_one]
theorem tbw_le (A B i : Nat) : tbw A B i ≤ 1 := by unfold tbw; split <;> omega
theorem tbw_next (A B i : Nat) : tbw A B (i + 1) = if dig A i < tbw A B i + dig B i then 1 else 0 := by
 have h1 := Nat.mod_lt A (p10 i)
 have h2 := Nat.mod_lt B (p10 i)
 have key : A % 10 ^ (i + 1) < B % 10 ^ (i + 1) ↔ dig A i < tbw A B i + dig B i := by
  rw [tmod_succ, tmod_succ]
  unfold tbw
  generalize dig A i = a
  generalize dig B i = b
  generalize hP : 10 ^ i = P at *
  generalize A % P = x at *
  generalize B % P = y at *
  rcases Nat.lt_trichotomy a b with h | h | h
  ·
   have := Nat.mul_le_mul_left P (show a + 1 ≤ b from h)
   rw [Nat.mul_add] at this
   split <;> omega
  ·
   subst h; split <;> omega
  ·
   have := Nat.mul_le_mul_left P (show b + 1 ≤ a from h)
   rw [Nat.mul_add] at this
   split <;> omega
 unfold tbw at key ⊢
 simp only [key]
theorem tbw_part {A B : Nat} (h : B ≤ A) (i : Nat) : dig (A - B) i = (dig A i + 20 - (tbw A B i + dig B i)) % 10 := by
 have h1 := Nat.mod_lt A (p10 i)
 have h2 := Nat.mod_lt B (p10 i)
 have ha := Nat.div_add_mod A (10 ^ i)
 have hb := Nat.div_add_mod B (10 ^ i)
 have hd : (A - B) / 10 ^ i = A / 10 ^ i - B / 10 ^ i - tbw A B i ∧ B / 10 ^ i + tbw A B i ≤ A / 10 ^ i := by
  have hle : B / 10 ^ i ≤ A / 10 ^ i := Nat.div_le_div_right h
  unfold tbw
  generalize hP : 10 ^ i = P at *
  generalize A % P = x at *
  generalize B % P = y at *
  generalize A / P = qa at *
  generalize B / P = qb at *
  obtain ⟨d, rfl⟩ := Nat.exists_eq_add_of_le hle
  rw [Nat.mul_add] at ha
  by_cases hxy : x < y
  ·
   simp only [hxy, if_true]
   have hd : 1 ≤ d := by
    refine Nat.one_le_iff_ne_zero.2 fun h0 => ?_
    subst h0; simp at ha; omega
   obtain ⟨d', rfl⟩ := Nat.exists_eq_add_of_le hd
   rw [Nat.mul_add] at ha
   refine ⟨?_, by omega⟩
   rw [show A - B = (P + x - y) + P * d' from by omega, Nat.add_mul_div_left _ _ (by omega), Nat.div_eq_of_lt (by omega)]
   omega
  ·
   simp only [hxy, if_false]
   refine ⟨?_, by omega⟩
   rw [show A - B = (x - y) + P * d from by omega, Nat.add_mul_div_left _ _ (by omega), Nat.div_eq_of_lt (by omega)]
   omega
 have hbw := tbw_le A B i
 unfold dig
 rw [hd.1]
 have := hd.2
 omega
end Go.Proofs.Ytpahkpcoinbgcaa

/- The document's numbers: the walks of size, plus, less. -/
namespace Go.Proofs.Ytpahkpcoinbgcaa
open Go.RowKit
set_option maxHeartbeats 800000 in
theorem rsize_any (a b : Option Addr) (n c m d A B : Nat) (w : World) (ha : Lie .i64 w a n c (dig A)) (hb : Lie .i64 w b m d (dig B)) (fa : Fit10 n A) (fb : Fit10 m B) :
  Calls Try.prog 112 #[.slice a n c, .slice b m d] w (PVal (.int .i64 (cmpN A B)) w) := by
 have hcm := ha.capm
 have hnc := ha.cap
 have hdm := hb.capm
 have hmd := hb.cap
 unfold maxLen at hcm hdm
 rcases Nat.lt_trichotomy n m with hlt | heq | hgt
 ·
  have hR := Lib.hid (tcmp_len_lt fa fb hlt)
  clear fa fb ha hb
  go_enter Try.func112, Try.ntmps112
  go_wp2
  go_ret
  exact ⟨ret_int hR.out.symm, Below.refl _ _⟩
 ·
  subst heq
  go_enter Try.func112, Try.ntmps112
  have HA := Lib.hid fa
  have HB := Lib.hid fb
  clear fa fb
  go_wp2
  go_loopw [5] (fun i wr => ∃ k : Nat, k ≤ n ∧ i = .int .i64 ((k : Int) - 1) ∧ A / 10 ^ k = B / 10 ^ k ∧ Below w.heap.size w wr) (fun i _ => (intOf i + 1).toNat)
  case atStart => exact ⟨n, Nat.le_refl _, rfl, by rw [Nat.div_eq_of_lt HA.out.1, Nat.div_eq_of_lt HB.out.1], Below.refl _ _⟩
  case round =>
   obtain ⟨k, hk, rfl, hup, hbl⟩ := hrel
   have HU := Lib.hid hup
   clear hup
   by_cases hp : 0 < k
   ·
    obtain ⟨j, rfl⟩ : ∃ j, k = j + 1 := ⟨k - 1, by omega⟩
    obtain ⟨b1, o1, rfl, hb1⟩ := ha.some_of_pos (by omega)
    obtain ⟨b2, o2, rfl, hb2⟩ := hb.some_of_pos (by omega)
    have c1 := (ha.below hbl).at j (by omega)
    have c2 := (hb.below hbl).at j (by omega)
    rcases Nat.lt_trichotomy (dig A j) (dig B j) with hlt | heq | hgt
    ·
     have hR := Lib.hid ((tcmp_up HU.out).1 hlt)
     clear ha hb
     go_wp2
     go_quiet (fail)
     go_wp2
     go_ret
     exact ⟨ret_int hR.out.symm, below_drewN hbl _⟩
    ·
     have hR := Lib.hid ((tcmp_up HU.out).2.2 heq)
     have h1 : ¬ dig A j < dig B j := by omega
     have h2 : ¬ dig B j < dig A j := by omega
     have HE := Lib.hid heq
     clear ha hb heq
     go_wp2
     go_quiet (fail)
     go_wp2
     go_quiet (fail)
     go_wp2
     go_roundw
     case rel => exact ⟨j, by omega, by go_num, hR.out, below_drewN hbl _⟩
     case measure => simp [intOf]
    ·
     have hR := Lib.hid ((tcmp_up HU.out).2.1 hgt)
     have h1 : ¬ dig A j < dig B j := by omega
     clear ha hb
     go_wp2
     go_quiet (fail)
     go_wp2
     go_quiet (fail)
     go_wp2
     go_ret
     exact ⟨ret_int hR.out.symm, below_drewN (below_drewN hbl _) _⟩
   ·
    obtain rfl : k = 0 := by omega
    have hR := Lib.hid (tcmp_all HU.out)
    clear ha hb
    go_wp2
    go_ret
    exact ⟨ret_int hR.out.symm, hbl⟩
 ·
  have hR := Lib.hid (tcmp_len_gt fa fb hgt)
  clear fa fb ha hb
  go_enter Try.func112, Try.ntmps112
  go_wp2
  go_ret
  exact ⟨ret_int hR.out.symm, Below.refl _ _⟩
end Go.Proofs.Ytpahkpcoinbgcaa
