/- The document's own numbers: decimal digits, the lowest first. The walks of its made and Parse. -/
import Derived.Test.YtpacbipencmjnaaDoorGr3
import Derived.Test.YtpacbipencmjnaaDoorGr5
import Derived.Test.YtpacbipencmjnaaDoorGr6
namespace Go.Proofs.YtpacbipencmjnaaDoor
open Go.RowKit

/-- n is how many digits N has. -/
def Fit10 (n N : Nat) : Prop := N < 10 ^ n ∧ (n = 0 ∨ 10 ^ (n - 1) ≤ N)
theorem p10 (k : Nat) : 0 < 10 ^ k := Nat.pow_pos (by decide)
theorem dig_top {N k : Nat} (h : N < 10 ^ (k + 1)) : dig N k = N / 10 ^ k := by
  unfold dig
  exact Nat.mod_eq_of_lt (Nat.div_lt_of_lt_mul (by rw [← Nat.pow_succ]; exact h))
theorem dig_zero {B m i : Nat} (h : B < 10 ^ m) (hi : m ≤ i) : dig B i = 0 := by
  unfold dig
  rw [Nat.div_eq_of_lt (Nat.lt_of_lt_of_le h (Nat.pow_le_pow_right (by decide) hi))]
theorem fit10_step {N k : Nat} (hk : 1 ≤ k) (h : N < 10 ^ k) (hz : dig N (k - 1) = 0) : N < 10 ^ (k - 1) := by
  obtain ⟨j, rfl⟩ : ∃ j, k = j + 1 := ⟨k - 1, by omega⟩
  simp only [Nat.add_sub_cancel] at hz ⊢
  rw [dig_top h] at hz
  rcases Nat.div_eq_zero_iff.1 hz with h0 | h0
  · have := p10 j; omega
  · exact h0
theorem fit10_end {N k : Nat} (hz : dig N (k - 1) ≠ 0) : 10 ^ (k - 1) ≤ N := by
  refine Nat.le_of_not_lt fun h => hz ?_
  unfold dig
  rw [Nat.div_eq_of_lt h]
theorem fit10_zero : Fit10 0 0 := ⟨by simp, .inl rfl⟩
theorem fit10_pos {n N : Nat} (h : Fit10 n N) : n = 0 ↔ N = 0 := by
  constructor
  · intro e; subst e; have := h.1; simp at this; exact this
  · intro e; subst e
    rcases h.2 with h0 | h0
    · exact h0
    · have := p10 (n - 1); omega
theorem dig_add_hi (S x q p : Nat) (h : p < q) : dig (S + 10 ^ q * x) p = dig S p := by
  unfold dig
  obtain ⟨d, rfl⟩ : ∃ d, q = p + 1 + d := ⟨q - (p + 1), by omega⟩
  rw [Nat.pow_add, Nat.pow_succ, Nat.mul_assoc, Nat.mul_assoc, Nat.add_mul_div_left _ _ (p10 p), Nat.add_mul_mod_self_left]
theorem dig_low (W x k : Nat) (hW : W < 10 ^ k) (hx : x < 10) : dig (W + 10 ^ k * x) k = x ∧ W + 10 ^ k * x < 10 ^ (k + 1) := by
  constructor
  · unfold dig
    rw [Nat.add_mul_div_left _ _ (p10 k), Nat.div_eq_of_lt hW, Nat.zero_add]
    exact Nat.mod_eq_of_lt hx
  · rw [Nat.pow_succ]
    have := Nat.mul_le_mul_left (10 ^ k) (show x + 1 ≤ 10 from hx)
    rw [Nat.mul_add] at this
    omega

theorem dval_cons' (c : UInt8) (l : List UInt8) : dval (c :: l) = (c.toNat - 48) * 10 ^ l.length + dval l := by
  rw [show c :: l = [c] ++ l from rfl, dval_append]; unfold dval; rw [dvalF_cons, dvalF_nil, Nat.zero_mul, Nat.zero_add]
/-- A number of the document's: its sign, its digits in memory. -/
structure RNum (w : World) (bl : Bool) (a : Option Addr) (n c : Nat) (z : Int) : Prop where
  lie : Lie .i64 w a n c (dig z.natAbs)
  fit : Fit10 n z.natAbs
  sgn : bl = decide (z < 0)
theorem RNum.below {w w' : World} {bl : Bool} {a : Option Addr} {n c : Nat} {z : Int} (h : RNum w bl a n c z) (hb : Below w.heap.size w w') : RNum w' bl a n c z := ⟨h.lie.below hb, h.fit, h.sgn⟩
theorem RNum.only {w w' : World} {bl : Bool} {a : Option Addr} {n c g : Nat} {z : Int} (h : RNum w bl a n c z) (ho : Only g w w') (hg : ∀ p, a = some p → p.block ≠ g) : RNum w' bl a n c z := ⟨h.lie.only ho hg, h.fit, h.sgn⟩
theorem rnum_zero (w : World) : RNum w false none 0 0 0 := ⟨lie_nil _ _ _, fit10_zero, rfl⟩
/-- A number is handed back whose digits lie in the memory of a. -/
def PRMade (a : Option Addr) (z : Int) (w : World) (e : Ending) (w' : World) : Prop :=
  ∃ (bl : Bool) (n c : Nat), e = .returned (.agg #[.bool bl, .slice a n c]) ∧ RNum w' bl a n c z ∧ Below w.heap.size w w'

theorem below_one (w : World) (t : TypeId) : Below w.heap.size w (w.alloc (.cells #[.bool false, .slice none 0 0] t)) := (Below.refl _ _).alloc (Nat.le_refl _) _
set_option maxHeartbeats 800000 in
theorem rmade_any (bl : Bool) (a : Option Addr) (n c N : Nat) (w : World) (hl : Lie .i64 w a n c (dig N)) (hN : N < 10 ^ n) :
    Calls Tryd.prog 21 #[.bool bl, .slice a n c] w (PRMade a (sg bl N) w) := by
  have hcm := hl.capm
  have hnc := hl.cap
  unfold maxLen at hcm
  have hB := below_one w 28
  have hl1 := hl.below hB
  have hspot := hl.spot
  go_enter Tryd.func21, Tryd.ntmps21
  go_wp2
  go_loop [5] (fun i => ∃ k : Nat, k ≤ n ∧ i = .int .i64 k ∧ N < 10 ^ k) (fun i => (intOf i).toNat)
  case atStart => exact ⟨n, Nat.le_refl _, rfl, hN⟩
  case round =>
    obtain ⟨k, hk, rfl, hNk⟩ := hrel
    have HN := Lib.hid hNk
    clear hNk hN
    by_cases hp : 0 < k
    · obtain ⟨b, o, rfl, hb⟩ := hl.some_of_pos (by omega)
      have hcell := hl1.at (k - 1) (by omega)
      by_cases hz : dig N (k - 1) = 0
      · have hz' : ((dig N (k - 1) : Int) == 0) = true := by rw [hz]; rfl
        have HZ := Lib.hid hz
        clear hz hl hl1 hspot
        go_wp2
        go_round
        case rel => exact ⟨k - 1, by omega, by go_num, fit10_step (by omega) HN.out HZ.out⟩
        case measure => simp [intOf]; omega
      · have hz' : ((dig N (k - 1) : Int) == 0) = false := by simpa using hz
        have HZ := Lib.hid hz
        have HL := Lib.hid (hl.cut hk)
        have HP : Hid (0 < N) := Nat.lt_of_lt_of_le (p10 _) (fit10_end HZ.out)
        clear hz hl hl1 hspot
        have hd : decide (0 < k) = true := decide_eq_true hp
        cases bl
        · go_wp2
          refine bodyPost_ret (v := .agg #[.bool false, .slice (some ⟨b, o, none⟩) k c]) (by simp [results, Tryd.results21, go_sem]) rfl ?_
          exact ⟨false, k, c, rfl, ⟨by rw [sg_abs]; exact HL.out.below ((Below.refl _ _).alloc (Nat.le_refl _) _), by rw [sg_abs]; exact ⟨HN.out, .inr (fit10_end HZ.out)⟩, (sg_neg false N HP.out).symm⟩, (Below.refl _ _).alloc (Nat.le_refl _) _⟩
        · go_wp2
          refine bodyPost_ret (v := .agg #[.bool true, .slice (some ⟨b, o, none⟩) k c]) (by simp [results, Tryd.results21, go_sem]) rfl ?_
          exact ⟨true, k, c, rfl, ⟨by rw [sg_abs]; exact HL.out.below ((Below.refl _ _).alloc (Nat.le_refl _) _), by rw [sg_abs]; exact ⟨HN.out, .inr (fit10_end HZ.out)⟩, (sg_neg true N HP.out).symm⟩, (Below.refl _ _).alloc (Nat.le_refl _) _⟩
    · obtain rfl : k = 0 := by omega
      have hN0 : N = 0 := by have := HN.out; rw [Nat.pow_zero] at this; omega
      have HL := Lib.hid (hl.cut hk)
      have HV : Hid (sg bl N = 0) := by show _ = _; rw [hN0]; cases bl <;> rfl
      have hsp : ∃ a' : Option Addr, a' = a ∧ ∀ p, a' = some p → p.spot = none := ⟨a, rfl, fun p hp => (hspot p hp).1⟩
      clear hl1 hl hspot hN0
      rcases a with _ | ⟨b, o, s⟩
      · obtain ⟨e1, e2⟩ := HL.out.nil rfl
        subst e2
        have hn0 : n = 0 := by omega
        subst hn0
        cases bl
        all_goals
          go_wp2
          refine bodyPost_ret (v := .agg #[.bool false, .slice none 0 0]) (by simp [results, Tryd.results21, go_sem]) rfl ?_
          exact ⟨false, 0, 0, rfl, by rw [HV.out]; exact rnum_zero _, (Below.refl _ _).alloc (Nat.le_refl _) _⟩
      · obtain ⟨a', ha', hs'⟩ := hsp
        have hss : s = none := hs' ⟨b, o, s⟩ ha'
        subst hss
        clear ha' hs'
        cases bl
        all_goals
          go_wp2
          refine bodyPost_ret (v := .agg #[.bool false, .slice (some ⟨b, o, none⟩) 0 c]) (by simp [results, Tryd.results21, go_sem]) rfl ?_
          refine ⟨false, 0, c, rfl, ?_, (Below.refl _ _).alloc (Nat.le_refl _) _⟩
          rw [HV.out]
          exact ⟨(HL.out.below ((Below.refl _ _).alloc (Nat.le_refl _) _)).congr (fun i hi => by omega), fit10_zero, rfl⟩

/-- The last k of a text's bytes. -/
theorem dval_drop (l : List UInt8) (hd : l.all isDig = true) (k : Nat) (hk : k < l.length) :
    dval (l.drop (l.length - (k + 1))) = dval (l.drop (l.length - k)) + 10 ^ k * ((l[l.length - 1 - k]).toNat - 48) ∧ dval (l.drop (l.length - k)) < 10 ^ k ∧ (l[l.length - 1 - k]).toNat - 48 < 10 := by
  have hlen : (l.drop (l.length - k)).length = k := by rw [List.length_drop]; omega
  have hall : (l.drop (l.length - k)).all isDig = true := by rw [List.all_eq_true] at hd ⊢; exact fun c hc => hd c (List.mem_of_mem_drop hc)
  have e : l.drop (l.length - (k + 1)) = l[l.length - 1 - k] :: l.drop (l.length - k) := by
    have := List.drop_eq_getElem_cons (l := l) (i := l.length - 1 - k) (by omega)
    rw [show l.length - 1 - k + 1 = l.length - k from by omega] at this
    rw [← this]
    congr 1
    omega
  refine ⟨?_, ?_, ?_⟩
  · rw [e, dval_cons', hlen, Nat.mul_comm]; omega
  · have := dval_lt _ hall; rwa [hlen] at this
  · have := isDig_le ((List.all_eq_true.1 hd) (l[l.length - 1 - k]) (List.getElem_mem _)); omega
end Go.Proofs.YtpacbipencmjnaaDoor

/- The walk of the document's Parse. -/
namespace Go.Proofs.YtpacbipencmjnaaDoor
open Go.RowKit

theorem Tryd.u26 : Tryd.prog.underlying 26 = some (.slice 3) := by kernel_rfl
theorem Tryd.info3 : (Tryd.prog.info? 3).map (fun i => (i.zero, i.size, i.bytes)) = some (some (.int .i64 0), 1, 8) := by kernel_rfl

/-- A number of the document's in new memory, and an error's number, are handed back. -/
def PRNumE (z : Int) (er : Int) (w : World) (e : Ending) (w' : World) : Prop :=
  ∃ (bl : Bool) (a' : Option Addr) (n c : Nat), e = .returned (.tuple #[.agg #[.bool bl, .slice a' n c], .int .i64 er]) ∧ RNum w' bl a' n c z ∧ (∀ p, a' = some p → w.heap.size ≤ p.block) ∧ Below w.heap.size w w'

/-- The last k + 1 of a text's bytes. -/
theorem dval_suffix (l : List UInt8) (k : Nat) (hk : k < l.length) (hd : (l.drop (l.length - k)).all isDig = true) (hc : isDig l[l.length - 1 - k] = true) :
    dval (l.drop (l.length - (k + 1))) = dval (l.drop (l.length - k)) + 10 ^ k * ((l[l.length - 1 - k]).toNat - 48) ∧ dval (l.drop (l.length - k)) < 10 ^ k ∧ (l[l.length - 1 - k]).toNat - 48 < 10 ∧ (l.drop (l.length - (k + 1))).all isDig = true := by
  have hlen : (l.drop (l.length - k)).length = k := by rw [List.length_drop]; omega
  have e : l.drop (l.length - (k + 1)) = l[l.length - 1 - k] :: l.drop (l.length - k) := by
    have := List.drop_eq_getElem_cons (l := l) (i := l.length - 1 - k) (by omega)
    rw [show l.length - 1 - k + 1 = l.length - k from by omega] at this
    rw [← this]
    congr 1
    omega
  refine ⟨?_, ?_, ?_, ?_⟩
  · rw [e, dval_cons', hlen, Nat.mul_comm]; omega
  · have := dval_lt _ hd; rwa [hlen] at this
  · have := isDig_le hc; omega
  · rw [e, List.all_cons, hd, hc]; rfl
theorem vals_dig {V V' x k : Nat} (h : V' = V + 10 ^ k * x) (hV : V < 10 ^ k) (hx : x < 10) : vals .i64 (dig V) k ++ [Value.int .i64 (x : Nat)] = vals .i64 (dig V') (k + 1) := by
  rw [← vals_succ]
  congr 1
  · unfold vals
    refine List.map_congr_left fun i hi => ?_
    rw [h, dig_add_hi V x k i (by simpa using hi)]
  · rw [h, (dig_low V x k hV hx).1]

set_option maxHeartbeats 800000 in
theorem rParse_long (s : ByteArray) (w : World) (hs : 2000 < s.size) (hs' : s.size ≤ maxLen) :
    Calls Tryd.prog 18 #[.string s] w (PRNumE 0 2 w) := by
  unfold maxLen at hs'
  go_enter Tryd.func18, Tryd.ntmps18
  go_wp2
  refine bodyPost_ret (v := .tuple #[.agg #[.bool false, .slice none 0 0], .int .i64 2]) (by simp [results, Tryd.results18, go_sem]) rfl ?_
  exact ⟨false, none, 0, 0, rfl, rnum_zero _, (fun p hp => by cases hp), (Below.refl w.heap.size w).alloc (Nat.le_refl _) _⟩

/-- The error's number, and the number, of a text. -/
def parseE (l : List UInt8) : Int := if parsesB l = true then 0 else 10
def parseZ (l : List UInt8) : Int := if parsesB l = true then zval l else 0

theorem zval_48 : parsesB [48] = true ∧ zval [48] = 0 := by decide

theorem bad_of {l : List UInt8} (h : parsesB l = false) : parseZ l = 0 ∧ parseE l = 10 := by unfold parseZ parseE; rw [h]; exact ⟨rfl, rfl⟩
theorem good_of {l : List UInt8} (h : parsesB l = true) : parseZ l = zval l ∧ parseE l = 0 := by unfold parseZ parseE; rw [if_pos h, if_pos h]; exact ⟨rfl, rfl⟩
theorem pB_of {s : ByteArray} (h : 0 < s.size) : pB s.data.toList = (s[0].toNat == 45) := by
  unfold pB Lib.hasPrefix
  have e : s.data.toList = s[0] :: s.data.toList.drop 1 := by
    have := List.drop_eq_getElem_cons (l := s.data.toList) (i := 0) (by simpa using h)
    rw [List.drop_zero] at this
    exact this
  rw [e]
  simp only [List.isPrefixOf, Bool.and_true]
  rw [Bool.eq_iff_iff]
  simp only [beq_iff_eq]
  constructor
  · intro h; rw [← h]; rfl
  · intro h; exact UInt8.toNat.inj (by rw [h]; rfl)
theorem get_eq (s : ByteArray) (i j : Nat) (hi : i < s.data.toList.length) (hj : j < s.size) (e : i = j) : s.data.toList[i] = s[j] := by subst e; rfl
theorem get_eq0 (s : ByteArray) (D : List UInt8) (hD : D = s.data.toList) (i j : Nat) (hi : i < D.length) (hj : j < s.size) (e : i = j) : D[i] = s[j] := by subst hD; exact get_eq s i j hi hj e
theorem get_eq1 (s : ByteArray) (D : List UInt8) (hD : D = s.data.toList.drop 1) (i j : Nat) (hi : i < D.length) (hj : j < s.size) (e : 1 + i = j) : D[i] = s[j] := by subst hD; rw [List.getElem_drop]; exact get_eq s _ j _ hj e
theorem pD_of {s : ByteArray} : pD s.data.toList = if pB s.data.toList = true then s.data.toList.drop 1 else s.data.toList := rfl
theorem rpnume_store {w w3 : World} {bl : Bool} {a : Option Addr} {n c r : Nat} {z er : Int} (hn : RNum w3 bl a n c z) (hB : Below w.heap.size w w3) (hr : w.heap.size ≤ r) (hfr : ∀ p, a = some p → r < p.block) :
    PRNumE z er w (.returned (.tuple #[.agg #[.bool bl, .slice a n c], .int .i64 er])) ((w3.setCell ⟨r, 0, none⟩ (.bool bl)).setCell ⟨r, 1, none⟩ (.slice a n c)) :=
  ⟨bl, a, n, c, rfl, hn.only (only2 _ _ _ _) (fun p hp => by have := hfr p hp; omega), (fun p hp => by have := hfr p hp; omega), hB.trans ((only2 _ _ _ _).below hr)⟩


set_option maxHeartbeats 3200000 in
theorem rParse_0 (s : ByteArray) (w : World) (hs : s.size ≤ 2000) (hne : s.data.toList ≠ [48]) (hp : 0 < s.size) (h45 : pB s.data.toList = false) :
    Calls Tryd.prog 18 #[.string s] w (PRNumE (parseZ s.data.toList) (parseE s.data.toList) w) := by
  have hp0 : 0 < s.size := by omega
  have hne1 : (s.toList == [48]) = false := by rw [Lib.toList_data]; exact beq_eq_false_iff_ne.2 hne
  have h450 : ((s[0].toNat : Int) == 45) = false := by
    have h := pB_of hp0
    rw [h45] at h
    rw [h, Bool.eq_iff_iff]; simp; omega
  have hpD : pD s.data.toList = s.data.toList := by rw [pD_of, h45]; rfl
  have hDl : (s.data.toList).length = s.size := by rw [size_list]
  have hhd : (s.data.toList).head? = some s[0] := by
    rw [List.head?_eq_getElem?, List.getElem?_eq_getElem (by simpa using hp)]; rfl
  have hempty : (s.data.toList).isEmpty = false := by
    cases hq : s.data.toList with
    | nil => rw [hq] at hDl; simp at hDl; omega
    | cons c l => rfl
  obtain ⟨Dl, hDe⟩ : ∃ Dl : List UInt8, Dl = s.data.toList := ⟨_, rfl⟩
  have hpD' : pD s.data.toList = Dl := hpD.trans hDe.symm
  rw [← hDe] at hDl hhd hempty
  have HDE := Lib.hid hDe
  have HX := Lib.hid (And.intro hpD' (And.intro hDl (And.intro hhd hempty)))
  have HP := Lib.hid h45
  have HNE := Lib.hid hne
  clear hne hpD hpD' hDl hhd hempty h45 hDe
  by_cases hz : s[0].toNat = 48
  · have HR : Hid (parsesB s.data.toList = false) := by
      obtain ⟨e1, e2, e3, e4⟩ := HX.out
      show _ = _
      unfold parsesB
      rw [e1, HP.out]
      have h48 : s[0] = 48 := UInt8.toNat.inj (by rw [hz]; rfl)
      rw [h48] at e3
      have hlen : (Dl.length == 1 && !false) = false := by
        rw [Bool.and_eq_false_iff]; left; rw [beq_eq_false_iff_ne]; intro h1
        rw [HDE.out] at h1 e3
        have hcs : s.data.toList = [48] := by
          cases hq : s.data.toList with
          | nil => rw [hq] at h1; simp at h1
          | cons c l => rw [hq] at h1 e3; simp at h1 e3; rw [h1, e3]
        exact HNE.out hcs
      have h3 : (Dl.head? != some 48) = false := by rw [e3]; rfl
      unfold wwB
      rw [h3, hlen]
      simp
    have hz1 : ((s[0].toNat : Int) == 48) = true := by simp; omega
    have hsz1 : ((s.size : Int) == 0) = false := beq_eq_false_iff_ne.2 (by omega)
    have hsz2 : ((0 : Int) == (s.size : Int)) = false := beq_eq_false_iff_ne.2 (by omega)
    clear hz
    go_enter Tryd.func18, Tryd.ntmps18
    go_wp2
    refine bodyPost_ret (v := .tuple #[.agg #[.bool false, .slice none 0 0], .int .i64 10]) (by simp [results, Tryd.results18, go_sem]) rfl ?_
    rw [(bad_of HR.out).1, (bad_of HR.out).2]
    exact ⟨false, none, 0, 0, rfl, rnum_zero _, (fun p hp => by cases hp), (Below.refl w.heap.size w).alloc (Nat.le_refl _) _⟩
  · have hz1 : ((s[0].toNat : Int) == 48) = false := by simp; omega
    have hz3 : (Dl.head? != some 48) = true := by
      rw [HX.out.2.2.1]; simp; intro h; exact hz (by rw [h]; rfl)
    have HZ3 := Lib.hid hz3
    have hsz1 : ((s.size : Int) == 0) = false := beq_eq_false_iff_ne.2 (by omega)
    have hsz2 : ((0 : Int) == (s.size : Int)) = false := beq_eq_false_iff_ne.2 (by omega)
    obtain ⟨i0, hi0, hz0, hzz1, hzz2⟩ := info_parts Tryd.info3
    have HI := Lib.hid (And.intro hi0 (And.intro hz0 (And.intro hzz1 hzz2)))
    clear hi0 hz0 hzz1 hzz2 hz hz3
    have hR := res_one w 28
    go_enter Tryd.func18, Tryd.ntmps18
    go_wp2
    generalize w.alloc (.cells #[.bool false, .slice none 0 0] 28) = w1 at *
    go_loopw [6, 7] (fun dv iv wr => ∃ k : Nat, k ≤ s.size ∧ iv = .int .i64 ((s.size : Int) - 1 - (k : Int)) ∧ wr.ownsRow w1.heap.size 3 1 dv k (vals .i64 (dig (dval (Dl.drop (Dl.length - k)))) k) ∧ (Dl.drop (Dl.length - k)).all isDig = true ∧ Below w1.heap.size w1 wr) (fun _ iv _ => (intOf iv + 1).toNat)
    case atStart =>
      refine ⟨0, Nat.zero_le _, by go_num, World.ownsRow_nil _ _ _ _, ?_, Below.refl _ _⟩
      rw [Nat.sub_zero, List.drop_length]; rfl
    case round =>
      obtain ⟨k, hk, rfl, how, hall, hbl⟩ := hrel
      have HA := Lib.hid hall
      clear hall
      by_cases hlt : k < s.size
      · have hDk : k < Dl.length := by rw [HX.out.2.1]; exact hlt
        have hcc : Dl[Dl.length - 1 - k] = s[s.size - 1 - k] := by
          exact get_eq0 s Dl HDE.out _ _ _ _ (by rw [HX.out.2.1])
        have HCC := Lib.hid hcc
        have HDK := Lib.hid hDk
        clear hcc
        by_cases hdg : isDig s[s.size - 1 - k] = true
        · obtain ⟨h48, h57⟩ := isDig_le hdg
          obtain ⟨f1, f2, f3, f4⟩ := dval_suffix Dl k HDK.out HA.out (by rw [HCC.out]; exact hdg)
          rw [HCC.out] at f1 f3
          have HV := Lib.hid (vals_dig f1 f2 f3)
          have HN : Hid (((s[s.size - 1 - k].toNat - 48 : Nat) : Int) = (s[s.size - 1 - k].toNat : Int) - 48) := by show _ = _; omega
          have HF4 := Lib.hid f4
          have hcl : ¬ (s[s.size - 1 - k].toNat : Int) < 48 := by omega
          have hcu : ¬ (57 : Int) < (s[s.size - 1 - k].toNat : Int) := by omega
          clear hdg f1 f2 f3 f4 h48 h57
          go_wp2_with (first
            | (at_builtin; refine wpList_append_own _ rfl _ _ 26 rfl w1.heap.size 3 i0 (.int .i64 0) 1 8 Tryd.u26 HI.out.1 HI.out.2.1 HI.out.2.2.1 HI.out.2.2.2 rfl (by decide) _ _ _ rfl (how.alloc _) ⟨wr.heap.size, 0, none⟩ 1 1 [.int .i64 ((s[s.size - 1 - k].toNat : Int) - 48)] rfl rfl ?c1 ?c2 ?c3 ?c4 ?c5 ?_)
            | fail)
          case c1 => exact cell_one_new _ _ _
          case c2 => intro u hu; simp at hu; subst hu; rfl
          case c3 => unfold maxLen; omega
          case c4 => omega
          case c5 => have := hbl.size; simp; omega
          intro v' w3 hown' hgrow _
          rw [← HN.out] at hown'
          have hown2 : w3.ownsRow w1.heap.size 3 1 v' (k + 1) (vals .i64 (dig (dval (Dl.drop (Dl.length - (k + 1))))) (k + 1)) := by rw [← HV.out]; exact hown'
          have hb3 : Below w1.heap.size w1 w3 := (hbl.alloc hbl.size _).grown hgrow (by have := hbl.size; simp; omega) (fun q hq => (how.lt q hq).1)
          clear hgrow how
          go_wp2
          go_roundw
          case rel => exact ⟨k + 1, by omega, by go_num, hown2, HF4.out, hb3⟩
          case measure => simp [intOf]; omega
        · have HR : Hid (parsesB s.data.toList = false) := by
            show _ = _
            unfold parsesB
            rw [HX.out.1]
            have : Dl.all isDig = false := by
              rw [Bool.eq_false_iff]; intro h
              refine hdg ?_
              rw [← HCC.out]
              exact (List.all_eq_true.1 h) _ (List.getElem_mem _)
            unfold wwB
            rw [this]; simp
          have hcase : (s[s.size - 1 - k].toNat : Int) < 48 ∨ (57 : Int) < (s[s.size - 1 - k].toNat : Int) := by
            unfold isDig at hdg; simp at hdg; omega
          clear hdg
          have hRw := hR.later hbl
          have rB0 := hRw.r0
          have rB1 := hRw.r1
          have fB0 := hRw.f0
          have fB1 := hRw.f1
          rcases hcase with hc | hc
          · go_wp2
            refine bodyPost_ret (v := .tuple #[.agg #[.bool false, .slice none 0 0], .int .i64 10]) (by simp [results, Tryd.results18, go_sem, rB0, rB1]) rfl ?_
            rw [(bad_of HR.out).1, (bad_of HR.out).2]
            exact rpnume_store (rnum_zero _) hRw.below (Nat.le_refl _) (fun p hp => by cases hp)
          · have hc2 : ¬ (s[s.size - 1 - k].toNat : Int) < 48 := by omega
            go_wp2
            refine bodyPost_ret (v := .tuple #[.agg #[.bool false, .slice none 0 0], .int .i64 10]) (by simp [results, Tryd.results18, go_sem, rB0, rB1]) rfl ?_
            rw [(bad_of HR.out).1, (bad_of HR.out).2]
            exact rpnume_store (rnum_zero _) hRw.below (Nat.le_refl _) (fun p hp => by cases hp)
      · obtain rfl : k = s.size := by omega
        have hall : Dl.all isDig = true := by
          have := HA.out; rw [HX.out.2.1, Nat.sub_self, List.drop_zero] at this; exact this
        have HR : Hid (parsesB s.data.toList = true ∧ zval s.data.toList = sg false (dval Dl)) := by
          obtain ⟨e1, e2, e3, e4⟩ := HX.out
          refine ⟨?_, ?_⟩
          · unfold parsesB wwB; rw [e1, e4, hall, HZ3.out]; rfl
          · unfold zval; rw [e1, HP.out]
        rw [HX.out.2.1, Nat.sub_self, List.drop_zero] at how
        have hlt10 : dval Dl < 10 ^ (s.size) := by have := dval_lt _ hall; rwa [HX.out.2.1] at this
        obtain ⟨da, dc, hv, hlie⟩ := lie_owned how
        have hdfr : ∀ p, da = some p → w1.heap.size ≤ p.block := fun p hp => (how.lt p.block (by rw [hv, hp]; rfl)).1
        have HDF := Lib.hid hdfr
        have HLT := Lib.hid hlt10
        rw [hv]
        clear how hv hdfr hlt10 hall HA
        go_wp2_with fail
        refine (rmade_any false da _ dc (dval Dl) _ hlie HLT.out).mono ?_
        rintro e w4 ⟨b4, n4, c4, rfl, hnum, hb4⟩
        have hRw := (hR.later hbl).later hb4
        have rB0 := hRw.r0
        have rB1 := hRw.r1
        have fB0 := hRw.f0
        have fB1 := hRw.f1
        go_wp2
        refine bodyPost_ret (v := .tuple #[.agg #[.bool b4, .slice da n4 c4], .int .i64 0]) (by simp [results, Tryd.results18, go_sem, rB0, rB1]) rfl ?_
        rw [(good_of HR.out.1).1, (good_of HR.out.1).2, HR.out.2]
        exact rpnume_store hnum hRw.below (Nat.le_refl _) (fun p hp => by have h1 := HDF.out p hp; have h2 := hR.sz; omega)

set_option maxHeartbeats 3200000 in
theorem rParse_1 (s : ByteArray) (w : World) (hs : s.size ≤ 2000) (hne : s.data.toList ≠ [48]) (hp : 1 < s.size) (h45 : pB s.data.toList = true) :
    Calls Tryd.prog 18 #[.string s] w (PRNumE (parseZ s.data.toList) (parseE s.data.toList) w) := by
  have hp0 : 0 < s.size := by omega
  have hne1 : (s.toList == [48]) = false := by rw [Lib.toList_data]; exact beq_eq_false_iff_ne.2 hne
  have h450 : ((s[0].toNat : Int) == 45) = true := by
    have h := pB_of hp0
    rw [h45] at h
    rw [h, Bool.eq_iff_iff]; simp; omega
  have hpD : pD s.data.toList = (s.data.toList.drop 1) := by rw [pD_of, h45]; rfl
  have hDl : ((s.data.toList.drop 1)).length = s.size - 1 := by rw [List.length_drop, size_list]
  have hhd : ((s.data.toList.drop 1)).head? = some s[1] := by
    rw [List.head?_eq_getElem?, List.getElem?_drop, List.getElem?_eq_getElem (by simpa using hp)]; rfl
  have hempty : ((s.data.toList.drop 1)).isEmpty = false := by
    cases hq : (s.data.toList.drop 1) with
    | nil => rw [hq] at hDl; simp at hDl; omega
    | cons c l => rfl
  obtain ⟨Dl, hDe⟩ : ∃ Dl : List UInt8, Dl = (s.data.toList.drop 1) := ⟨_, rfl⟩
  have hpD' : pD s.data.toList = Dl := hpD.trans hDe.symm
  rw [← hDe] at hDl hhd hempty
  have HDE := Lib.hid hDe
  have HX := Lib.hid (And.intro hpD' (And.intro hDl (And.intro hhd hempty)))
  have HP := Lib.hid h45
  have HNE := Lib.hid hne
  clear hne hpD hpD' hDl hhd hempty h45 hDe
  by_cases hz : s[1].toNat = 48
  · have HR : Hid (parsesB s.data.toList = false) := by
      obtain ⟨e1, e2, e3, e4⟩ := HX.out
      show _ = _
      unfold parsesB
      rw [e1, HP.out]
      have h48 : s[1] = 48 := UInt8.toNat.inj (by rw [hz]; rfl)
      rw [h48] at e3
      have hlen : (Dl.length == 1 && !true) = false := by
        simp
      have h3 : (Dl.head? != some 48) = false := by rw [e3]; rfl
      unfold wwB
      rw [h3, hlen]
      simp
    have hz1 : ((s[1].toNat : Int) == 48) = true := by simp; omega
    have hsz1 : ((s.size : Int) == 1) = false := beq_eq_false_iff_ne.2 (by omega)
    have hsz2 : ((1 : Int) == (s.size : Int)) = false := beq_eq_false_iff_ne.2 (by omega)
    clear hz
    go_enter Tryd.func18, Tryd.ntmps18
    go_wp2
    refine bodyPost_ret (v := .tuple #[.agg #[.bool false, .slice none 0 0], .int .i64 10]) (by simp [results, Tryd.results18, go_sem]) rfl ?_
    rw [(bad_of HR.out).1, (bad_of HR.out).2]
    exact ⟨false, none, 0, 0, rfl, rnum_zero _, (fun p hp => by cases hp), (Below.refl w.heap.size w).alloc (Nat.le_refl _) _⟩
  · have hz1 : ((s[1].toNat : Int) == 48) = false := by simp; omega
    have hz3 : (Dl.head? != some 48) = true := by
      rw [HX.out.2.2.1]; simp; intro h; exact hz (by rw [h]; rfl)
    have HZ3 := Lib.hid hz3
    have hsz1 : ((s.size : Int) == 1) = false := beq_eq_false_iff_ne.2 (by omega)
    have hsz2 : ((1 : Int) == (s.size : Int)) = false := beq_eq_false_iff_ne.2 (by omega)
    obtain ⟨i0, hi0, hz0, hzz1, hzz2⟩ := info_parts Tryd.info3
    have HI := Lib.hid (And.intro hi0 (And.intro hz0 (And.intro hzz1 hzz2)))
    clear hi0 hz0 hzz1 hzz2 hz hz3
    have hR := res_one w 28
    go_enter Tryd.func18, Tryd.ntmps18
    go_wp2
    generalize w.alloc (.cells #[.bool false, .slice none 0 0] 28) = w1 at *
    go_loopw [6, 7] (fun dv iv wr => ∃ k : Nat, k ≤ s.size - 1 ∧ iv = .int .i64 ((s.size : Int) - 1 - (k : Int)) ∧ wr.ownsRow w1.heap.size 3 1 dv k (vals .i64 (dig (dval (Dl.drop (Dl.length - k)))) k) ∧ (Dl.drop (Dl.length - k)).all isDig = true ∧ Below w1.heap.size w1 wr) (fun _ iv _ => (intOf iv + 1).toNat)
    case atStart =>
      refine ⟨0, Nat.zero_le _, by go_num, World.ownsRow_nil _ _ _ _, ?_, Below.refl _ _⟩
      rw [Nat.sub_zero, List.drop_length]; rfl
    case round =>
      obtain ⟨k, hk, rfl, how, hall, hbl⟩ := hrel
      have HA := Lib.hid hall
      clear hall
      by_cases hlt : k < s.size - 1
      · have hDk : k < Dl.length := by rw [HX.out.2.1]; exact hlt
        have hcc : Dl[Dl.length - 1 - k] = s[s.size - 1 - k] := by
          exact get_eq1 s Dl HDE.out _ _ _ _ (by rw [HX.out.2.1]; omega)
        have HCC := Lib.hid hcc
        have HDK := Lib.hid hDk
        clear hcc
        by_cases hdg : isDig s[s.size - 1 - k] = true
        · obtain ⟨h48, h57⟩ := isDig_le hdg
          obtain ⟨f1, f2, f3, f4⟩ := dval_suffix Dl k HDK.out HA.out (by rw [HCC.out]; exact hdg)
          rw [HCC.out] at f1 f3
          have HV := Lib.hid (vals_dig f1 f2 f3)
          have HN : Hid (((s[s.size - 1 - k].toNat - 48 : Nat) : Int) = (s[s.size - 1 - k].toNat : Int) - 48) := by show _ = _; omega
          have HF4 := Lib.hid f4
          have hcl : ¬ (s[s.size - 1 - k].toNat : Int) < 48 := by omega
          have hcu : ¬ (57 : Int) < (s[s.size - 1 - k].toNat : Int) := by omega
          clear hdg f1 f2 f3 f4 h48 h57
          go_wp2_with (first
            | (at_builtin; refine wpList_append_own _ rfl _ _ 26 rfl w1.heap.size 3 i0 (.int .i64 0) 1 8 Tryd.u26 HI.out.1 HI.out.2.1 HI.out.2.2.1 HI.out.2.2.2 rfl (by decide) _ _ _ rfl (how.alloc _) ⟨wr.heap.size, 0, none⟩ 1 1 [.int .i64 ((s[s.size - 1 - k].toNat : Int) - 48)] rfl rfl ?c1 ?c2 ?c3 ?c4 ?c5 ?_)
            | fail)
          case c1 => exact cell_one_new _ _ _
          case c2 => intro u hu; simp at hu; subst hu; rfl
          case c3 => unfold maxLen; omega
          case c4 => omega
          case c5 => have := hbl.size; simp; omega
          intro v' w3 hown' hgrow _
          rw [← HN.out] at hown'
          have hown2 : w3.ownsRow w1.heap.size 3 1 v' (k + 1) (vals .i64 (dig (dval (Dl.drop (Dl.length - (k + 1))))) (k + 1)) := by rw [← HV.out]; exact hown'
          have hb3 : Below w1.heap.size w1 w3 := (hbl.alloc hbl.size _).grown hgrow (by have := hbl.size; simp; omega) (fun q hq => (how.lt q hq).1)
          clear hgrow how
          go_wp2
          go_roundw
          case rel => exact ⟨k + 1, by omega, by go_num, hown2, HF4.out, hb3⟩
          case measure => simp [intOf]; omega
        · have HR : Hid (parsesB s.data.toList = false) := by
            show _ = _
            unfold parsesB
            rw [HX.out.1]
            have : Dl.all isDig = false := by
              rw [Bool.eq_false_iff]; intro h
              refine hdg ?_
              rw [← HCC.out]
              exact (List.all_eq_true.1 h) _ (List.getElem_mem _)
            unfold wwB
            rw [this]; simp
          have hcase : (s[s.size - 1 - k].toNat : Int) < 48 ∨ (57 : Int) < (s[s.size - 1 - k].toNat : Int) := by
            unfold isDig at hdg; simp at hdg; omega
          clear hdg
          have hRw := hR.later hbl
          have rB0 := hRw.r0
          have rB1 := hRw.r1
          have fB0 := hRw.f0
          have fB1 := hRw.f1
          rcases hcase with hc | hc
          · go_wp2
            refine bodyPost_ret (v := .tuple #[.agg #[.bool false, .slice none 0 0], .int .i64 10]) (by simp [results, Tryd.results18, go_sem, rB0, rB1]) rfl ?_
            rw [(bad_of HR.out).1, (bad_of HR.out).2]
            exact rpnume_store (rnum_zero _) hRw.below (Nat.le_refl _) (fun p hp => by cases hp)
          · have hc2 : ¬ (s[s.size - 1 - k].toNat : Int) < 48 := by omega
            go_wp2
            refine bodyPost_ret (v := .tuple #[.agg #[.bool false, .slice none 0 0], .int .i64 10]) (by simp [results, Tryd.results18, go_sem, rB0, rB1]) rfl ?_
            rw [(bad_of HR.out).1, (bad_of HR.out).2]
            exact rpnume_store (rnum_zero _) hRw.below (Nat.le_refl _) (fun p hp => by cases hp)
      · obtain rfl : k = s.size - 1 := by omega
        have hall : Dl.all isDig = true := by
          have := HA.out; rw [HX.out.2.1, Nat.sub_self, List.drop_zero] at this; exact this
        have HR : Hid (parsesB s.data.toList = true ∧ zval s.data.toList = sg true (dval Dl)) := by
          obtain ⟨e1, e2, e3, e4⟩ := HX.out
          refine ⟨?_, ?_⟩
          · unfold parsesB wwB; rw [e1, e4, hall, HZ3.out]; rfl
          · unfold zval; rw [e1, HP.out]
        rw [HX.out.2.1, Nat.sub_self, List.drop_zero] at how
        have hlt10 : dval Dl < 10 ^ (s.size - 1) := by have := dval_lt _ hall; rwa [HX.out.2.1] at this
        obtain ⟨da, dc, hv, hlie⟩ := lie_owned how
        have hdfr : ∀ p, da = some p → w1.heap.size ≤ p.block := fun p hp => (how.lt p.block (by rw [hv, hp]; rfl)).1
        have HDF := Lib.hid hdfr
        have HLT := Lib.hid hlt10
        rw [hv]
        clear how hv hdfr hlt10 hall HA
        go_wp2_with fail
        refine (rmade_any true da _ dc (dval Dl) _ hlie HLT.out).mono ?_
        rintro e w4 ⟨b4, n4, c4, rfl, hnum, hb4⟩
        have hRw := (hR.later hbl).later hb4
        have rB0 := hRw.r0
        have rB1 := hRw.r1
        have fB0 := hRw.f0
        have fB1 := hRw.f1
        go_wp2
        refine bodyPost_ret (v := .tuple #[.agg #[.bool b4, .slice da n4 c4], .int .i64 0]) (by simp [results, Tryd.results18, go_sem, rB0, rB1]) rfl ?_
        rw [(good_of HR.out.1).1, (good_of HR.out.1).2, HR.out.2]
        exact rpnume_store hnum hRw.below (Nat.le_refl _) (fun p hp => by have h1 := HDF.out p hp; have h2 := hR.sz; omega)

set_option maxHeartbeats 1600000 in
theorem rParse_nil (s : ByteArray) (w : World) (hs : s.size = 0) :
    Calls Tryd.prog 18 #[.string s] w (PRNumE 0 10 w) := by
  have hne1 : (s.toList == [48]) = false := by
    rw [Lib.toList_data]; refine beq_eq_false_iff_ne.2 (fun h => ?_)
    have := congrArg List.length h; simp [hs] at this
  go_enter Tryd.func18, Tryd.ntmps18
  go_wp2
  refine bodyPost_ret (v := .tuple #[.agg #[.bool false, .slice none 0 0], .int .i64 10]) (by simp [results, Tryd.results18, go_sem]) rfl ?_
  exact ⟨false, none, 0, 0, rfl, rnum_zero _, (fun p hp => by cases hp), (Below.refl w.heap.size w).alloc (Nat.le_refl _) _⟩
set_option maxHeartbeats 1600000 in
theorem rParse_dash (s : ByteArray) (w : World) (hs : s.size = 1) (h45 : pB s.data.toList = true) (hne : s.data.toList ≠ [48]) :
    Calls Tryd.prog 18 #[.string s] w (PRNumE 0 10 w) := by
  have hne1 : (s.toList == [48]) = false := by
    rw [Lib.toList_data]; exact beq_eq_false_iff_ne.2 hne
  have hp0 : 0 < s.size := by omega
  have h450 : ((s[0].toNat : Int) == 45) = true := by
    have h := pB_of hp0
    rw [h45] at h
    rw [h, Bool.eq_iff_iff]; simp; omega
  clear hne h45
  go_enter Tryd.func18, Tryd.ntmps18
  go_wp2
  refine bodyPost_ret (v := .tuple #[.agg #[.bool false, .slice none 0 0], .int .i64 10]) (by simp [results, Tryd.results18, go_sem]) rfl ?_
  exact ⟨false, none, 0, 0, rfl, rnum_zero _, (fun p hp => by cases hp), (Below.refl w.heap.size w).alloc (Nat.le_refl _) _⟩
set_option maxHeartbeats 1600000 in
theorem rParse_zero (s : ByteArray) (w : World) (hs : s.data.toList = [48]) :
    Calls Tryd.prog 18 #[.string s] w (PRNumE 0 0 w) := by
  have hne1 : (s.toList == [48]) = true := by
    rw [Lib.toList_data, hs]; rfl
  have hsz : s.size = 1 := by rw [← size_list, hs]; rfl
  clear hs
  go_enter Tryd.func18, Tryd.ntmps18
  go_wp2
  refine bodyPost_ret (v := .tuple #[.agg #[.bool false, .slice none 0 0], .int .i64 0]) (by simp [results, Tryd.results18, go_sem]) rfl ?_
  exact ⟨false, none, 0, 0, rfl, rnum_zero _, (fun p hp => by cases hp), (Below.refl w.heap.size w).alloc (Nat.le_refl _) _⟩

theorem rParse_any (s : ByteArray) (w : World) (hs : s.size ≤ 2000) :
    Calls Tryd.prog 18 #[.string s] w (PRNumE (parseZ s.data.toList) (parseE s.data.toList) w) := by
  by_cases h48 : s.data.toList = [48]
  · have h := good_of (l := s.data.toList) (by rw [h48]; exact zval_48.1)
    rw [h.1, h.2, h48, zval_48.2]
    exact rParse_zero s w h48
  · by_cases h0 : s.size = 0
    · have e : s.data.toList = [] := List.eq_nil_of_length_eq_zero (by rw [size_list]; exact h0)
      have h := bad_of (l := s.data.toList) (by rw [e]; decide)
      rw [h.1, h.2]
      exact rParse_nil s w h0
    · by_cases h45 : pB s.data.toList = true
      · by_cases h1 : s.size = 1
        · have h := bad_of (l := s.data.toList) (by
            unfold parsesB wwB
            have : (pD s.data.toList).isEmpty = true := by
              rw [pD_of, if_pos h45, List.isEmpty_iff_length_eq_zero, List.length_drop, size_list, h1]
            rw [this]; rfl)
          rw [h.1, h.2]
          exact rParse_dash s w h1 h45 h48
        · exact rParse_1 s w hs h48 (by omega) h45
      · exact rParse_0 s w hs h48 (by omega) (by simpa using h45)
end Go.Proofs.YtpacbipencmjnaaDoor

/- The walk of the law LongReads. -/
namespace Go.Proofs.YtpacbipencmjnaaDoor
open Go.RowKit

theorem Parse_any (s : ByteArray) (w : World) (hs : s.size ≤ 2000) :
    Calls Tryd.prog 14 #[.string s] w (PNumE (parseZ s.data.toList) (parseE s.data.toList) w) := by
  by_cases h : parsesB s.data.toList = true
  · rw [(good_of h).1, (good_of h).2]; exact Parse_good s w hs h
  · have h' : parsesB s.data.toList = false := by simpa using h
    rw [(bad_of h').1, (bad_of h').2]; exact Parse_bad s w hs h'
theorem zval_lt {l : List UInt8} (h : parsesB l = true) : (zval l).natAbs < 10 ^ l.length := by
  have hd := wwB_dig h
  have h1 := dval_lt _ hd
  have h2 := Nat.pow_le_pow_right (by decide : 0 < 10) (pD_le l)
  unfold zval
  rw [sg_abs]
  omega
theorem ten_le (k : Nat) : 10 ^ k ≤ BB ^ k := Nat.pow_le_pow_left (by decide) k
theorem zval_bb {l : List UInt8} (h : parsesB l = true) : (zval l).natAbs < BB ^ l.length := Nat.lt_of_lt_of_le (zval_lt h) (ten_le _)

end Go.Proofs.YtpacbipencmjnaaDoor
