/- Parts of the proof. -/
import Derived.Test.YtpahkpcoinbgcaaGreatDoorGq20
import Derived.Test.YtpahkpcoinbgcaaGreatDoorGq21
import Derived.Test.YtpahkpcoinbgcaaGreatDoorGq13
/- Fixed numbers' texts, as numbers: what is printed is read (no walk). No statement of the seat is proved here. -/
namespace Go.Proofs.YtpahkpcoinbgcaaGreatDoor
open Go.RowKit
theorem dig_of {d : Nat} (h : d < 10) : isDig (UInt8.ofNat (48 + d)) = true ∧ (UInt8.ofNat (48 + d)).toNat - 48 = d ∧ (UInt8.ofNat (48 + d) = 48 ↔ d = 0) := by
 have h1 : (UInt8.ofNat (48 + d)).toNat = 48 + d := by
  rw [UInt8.toNat_ofNat']
  omega
 refine ⟨?_, by omega, ?_⟩
 ·
  unfold isDig
  rw [h1]
  simp
  omega
 ·
  constructor
  ·
   intro e
   have := congrArg UInt8.toNat e
   rw [h1] at this
   change 48 + d = 48 at this
   omega
  ·
   intro e
   subst e
   rfl
/-- The digits of a number, as the library tells them. -/
theorem dd_facts : ∀ (k u : Nat), u < k → digB (Lib.decDigits u) = true ∧ dval (Lib.decDigits u) = u ∧ Lib.decDigits u ≠ [] ∧ (u ≠ 0 → (Lib.decDigits u).head? ≠ some 48)
 | 0, _, h => by omega
 | k + 1, u, hk => by
  by_cases h : u < 10
  ·
   rw [Lib.decDigits_one h]
   obtain ⟨d1, d2, d3⟩ := dig_of h
   refine ⟨?_, ?_, by simp, fun hu => ?_⟩
   ·
    show (isDig _ && true) = true
    rw [d1]
    rfl
   ·
    show dval ([] ++ [_]) = u
    rw [dval_snoc, d2]
    simp [dval, dvalF]
   ·
    simp only [List.head?_cons]
    intro e
    exact hu (d3.1 (Option.some.inj e))
  ·
   obtain ⟨i1, i2, i3, i4⟩ := dd_facts k (u / 10) (by omega)
   obtain ⟨d1, d2, _⟩ := dig_of (show u % 10 < 10 by omega)
   rw [Lib.decDigits, dif_neg h]
   refine ⟨?_, ?_, by simp, fun _ => ?_⟩
   ·
    unfold digB at i1 ⊢
    rw [List.all_append, i1]
    show (true && (isDig _ && true)) = true
    rw [d1]
    rfl
   ·
    rw [dval_snoc, i2, d2]
    omega
   ·
    cases e : Lib.decDigits (u / 10) with
    | nil => exact absurd e i3
    | cons c r =>
     have := i4 (by omega)
     rw [e] at this
     exact this
theorem dd_txt (u : Nat) : Txt (u : Int) (Lib.itoa (u : Int)) := by
 rw [Lib.itoa_nonneg]
 obtain ⟨h1, h2, h3, h4⟩ := dd_facts (u + 1) u (by omega)
 by_cases h : u = 0
 ·
  subst h
  rw [Lib.decDigits_one (by decide)]
  exact ⟨by decide, by decide⟩
 ·
  exact txt_pos ⟨h1, h2, by cases e : Lib.decDigits u with
   | nil => exact absurd e h3
   | cons _ _ => rfl, h4 h⟩
/-- The digits of a fraction. -/
theorem frL_succ (r k : Nat) : frL r (k + 1) = frL r k ++ [(48 + fd r k).toUInt8] := by
 unfold frL
 rw [List.range_succ, List.map_append]
 rfl
theorem frL_len (r k : Nat) : (frL r k).length = k := by unfold frL; simp
theorem frL_dig (r k : Nat) : digB (frL r k) = true := by
 unfold digB frL
 rw [List.all_eq_true]
 intro c hc
 obtain ⟨i, _, rfl⟩ := List.mem_map.1 hc
 exact (dig_of (fd_lt r i)).1
theorem frL_key {D F X : Nat} (h : D * 1048576 + F = X) : (D * 10 + F * 10 / 1048576) * 1048576 + F * 10 % 1048576 = X * 10 := by
 have e := Nat.div_add_mod (F * 10) 1048576
 subst h
 rw [Nat.add_mul, Nat.add_mul, Nat.mul_comm (F * 10 / 1048576), Nat.add_assoc, e, Nat.mul_assoc, Nat.mul_assoc, Nat.mul_comm 10]
theorem frL_val (r : Nat) : ∀ k, dval (frL r k) * 1048576 + fr r k = r % 1048576 * 10 ^ k
 | 0 => by
  unfold fr
  rw [Nat.pow_zero, Nat.mul_one, Nat.mul_one]
  show dval [] * 1048576 + _ = _
  rw [show dval [] = 0 from rfl]
  omega
 | k + 1 => by
  have ih := frL_val r k
  rw [frL_succ, dval_snoc, (show ((48 + fd r k).toUInt8).toNat - 48 = fd r k from (dig_of (fd_lt r k)).2.1), ← fr_next, Nat.pow_succ, ← Nat.mul_assoc]
  unfold fd
  exact frL_key ih
/-- The digits ahead of the point, and those behind it. -/
theorem no_dot {c : UInt8} (h : isDig c = true) : (46 == c) = false := by
 rw [beq_eq_false_iff_ne]
 rintro rfl
 exact absurd h (by decide)
theorem idx_dot (B : List UInt8) : ∀ {W : List UInt8}, digB W = true → Lib.index (W ++ 46 :: B) [46] = (W.length : Int)
 | [], _ => by simp [Lib.index, List.isPrefixOf]
 | c :: W, h => by
  unfold digB at h
  rw [List.all_cons, Bool.and_eq_true] at h
  have ih := idx_dot B (W := W) h.2
  have hn := no_dot h.1
  show (if [46].isPrefixOf (c :: (W ++ 46 :: B)) then 0 else if Lib.index (W ++ 46 :: B) [46] == -1 then -1 else Lib.index (W ++ 46 :: B) [46] + 1) = _
  rw [ih, if_neg (by simp [List.isPrefixOf, hn]), if_neg (by simp)]
  simp
theorem idx_none : ∀ {W : List UInt8}, digB W = true → Lib.index W [46] = -1
 | [], _ => by simp [Lib.index]
 | c :: W, h => by
  unfold digB at h
  rw [List.all_cons, Bool.and_eq_true] at h
  have ih := idx_none (W := W) h.2
  have hn := no_dot h.1
  show (if [46].isPrefixOf (c :: W) then 0 else if Lib.index W [46] == -1 then -1 else Lib.index W [46] + 1) = _
  rw [ih, if_neg (by simp [List.isPrefixOf, hn]), if_pos (by simp)]
theorem cut_dot {W B : List UInt8} (h : digB W = true) : Lib.cut (W ++ 46 :: B) [46] = (W, B, true) := by
 unfold Lib.cut
 rw [idx_dot B h, if_pos (by omega)]
 simp
theorem cut_none {W : List UInt8} (h : digB W = true) : Lib.cut W [46] = (W, [], false) := by
 unfold Lib.cut
 rw [idx_none h, if_neg (by omega)]
end Go.Proofs.YtpahkpcoinbgcaaGreatDoor

/- What is printed is read: the number that a printed text tells (no walk). No statement of the seat is proved here. -/
namespace Go.Proofs.YtpahkpcoinbgcaaGreatDoor
open Go.RowKit
theorem frN_frK (r : Nat) : FrN r (frK r) := by
 have h20 := fr_twenty r
 cases e : (List.range 21).find? (fun k => fr r k == 0) with
 | none =>
  rw [List.find?_eq_none] at e
  have := e 20 (List.mem_range.2 (by decide))
  rw [h20] at this
  exact absurd rfl this
 | some n =>
  have e' := e
  rw [List.find?_range_eq_some] at e'
  obtain ⟨h1, h2, h3⟩ := e'
  have hn : frK r = n := by unfold frK; rw [e]; rfl
  rw [hn]
  exact ⟨by have := List.mem_range.1 h2; omega, by simpa using h1, fun j hj => by simpa using h3 j hj⟩
/-- The digits behind the point. -/
def bhL (N : Nat) : List UInt8 := if N % 1048576 = 0 then [] else frL (N % 1048576) (frK (N % 1048576))
theorem bh_dig (N : Nat) : digB (bhL N) = true := by
 unfold bhL
 split
 ·
  rfl
 ·
  exact frL_dig _ _
theorem bh_len (N : Nat) : (bhL N).length ≤ 20 := by
 unfold bhL
 split
 ·
  exact Nat.zero_le _
 ·
  rw [frL_len]
  exact (frN_frK _).1
theorem bh_ne {N : Nat} (h : N % 1048576 ≠ 0) : (bhL N).isEmpty = false := by
 unfold bhL
 rw [if_neg h]
 cases e : frL (N % 1048576) (frK (N % 1048576)) with
 | cons _ _ => rfl
 | nil =>
  have h1 := congrArg List.length e
  rw [frL_len] at h1
  have h2 := (frN_frK (N % 1048576)).2.1
  rw [show frK (N % 1048576) = 0 from h1, fr_zero (Nat.mod_lt _ (by decide))] at h2
  exact absurd h2 h
theorem bh_val (N : Nat) : dval (bhL N) * 1048576 = N % 1048576 * 10 ^ (bhL N).length := by
 unfold bhL
 split
 ·
  next h => rw [h, Nat.zero_mul]; rfl
 ·
  rw [frL_len]
  have h1 := frL_val (N % 1048576) (frK (N % 1048576))
  rw [(frN_frK (N % 1048576)).2.1, Nat.add_zero, Nat.mod_mod] at h1
  exact h1
theorem wh_facts (u : Nat) : digB (Lib.itoa (u : Int)) = true ∧ dval (Lib.itoa (u : Int)) = u ∧ (Lib.itoa (u : Int)).isEmpty = false ∧ ((Lib.itoa (u : Int)).head? == some 48 && decide (1 < (Lib.itoa (u : Int)).length)) = false := by
 rw [Lib.itoa_nonneg]
 obtain ⟨h1, h2, h3, h4⟩ := dd_facts (u + 1) u (by omega)
 refine ⟨h1, h2, ?_, ?_⟩
 ·
  cases e : Lib.decDigits u with
  | nil => exact absurd e h3
  | cons _ _ => rfl
 ·
  by_cases hu : u = 0
  ·
   subst hu
   rw [Lib.decDigits_one (by decide)]
   rfl
  ·
   rw [show ((Lib.decDigits u).head? == some 48) = false from beq_eq_false_iff_ne.2 (h4 hu)]
   rfl
theorem all_val (N : Nat) : dval (Lib.itoa ((N / 1048576 : Nat) : Int) ++ bhL N) * 1048576 = N * 10 ^ (bhL N).length := by
 rw [dval_append, (wh_facts _).2.1, Nat.add_mul, bh_val]
 have e : N = 1048576 * (N / 1048576) + N % 1048576 := (Nat.div_add_mod _ _).symm
 generalize N / 1048576 = u at *
 generalize N % 1048576 = r at *
 generalize 10 ^ (bhL N).length = T at *
 subst e
 rw [Nat.add_mul, Nat.mul_assoc, Nat.mul_comm T, ← Nat.mul_assoc, Nat.mul_comm u]
theorem cut_abs (N : Nat) : Lib.cut (absL N) [46] = (Lib.itoa ((N / 1048576 : Nat) : Int), bhL N, !decide (N % 1048576 = 0)) := by
 unfold absL bhL
 by_cases h : N % 1048576 = 0
 ·
  rw [if_pos h, if_pos h, List.append_nil, cut_none (wh_facts _).1]
  simp [h]
 ·
  rw [if_neg h, if_neg h, cut_dot (wh_facts _).1]
  simp [h]
theorem abs_head (N : Nat) : Lib.hasPrefix (absL N) [45] = false := by
 obtain ⟨h1, _, h3, _⟩ := wh_facts (N / 1048576)
 unfold absL Lib.hasPrefix
 cases e : Lib.itoa ((N / 1048576 : Nat) : Int) with
 | nil => rw [e] at h3; cases h3
 | cons c l =>
  rw [e] at h1
  unfold digB at h1
  rw [List.all_cons, Bool.and_eq_true] at h1
  show (45 == c && _) = false
  rw [show (45 == c) = false from by
   rw [beq_eq_false_iff_ne]
   rintro rfl
   exact absurd h1.1 (by decide)]
  rfl
theorem parts_abs {N : Nat} {b : Bool} (h : b = true → N ≠ 0) : partsB (Lib.itoa ((N / 1048576 : Nat) : Int)) (bhL N) b (!decide (N % 1048576 = 0)) = true := by
 obtain ⟨h1, h2, h3, h4⟩ := wh_facts (N / 1048576)
 unfold partsB
 rw [h3, h1, bh_dig, h4, decide_eq_true (bh_len N)]
 have e1 : (!decide (N % 1048576 = 0) && (bhL N).isEmpty) = false := by
  by_cases hz : N % 1048576 = 0
  ·
   simp [hz]
  ·
   rw [bh_ne hz, Bool.and_false]
 have e2 : (b && wnL (Lib.itoa ((N / 1048576 : Nat) : Int) ++ bhL N) == [48]) = false := by
  cases b with
  | false => rfl
  | true =>
   rw [Bool.true_and, beq_eq_false_iff_ne]
   intro he
   have hd : digB (Lib.itoa ((N / 1048576 : Nat) : Int) ++ bhL N) = true := by
    unfold digB at *
    rw [List.all_append, h1]
    exact bh_dig N
   have hw := (wn_parses hd).2.1
   rw [he, show zval [48] = 0 from by decide] at hw
   have hv := all_val N
   rw [show dval (Lib.itoa ((N / 1048576 : Nat) : Int) ++ bhL N) = 0 by omega, Nat.zero_mul] at hv
   rcases Nat.mul_eq_zero.1 hv.symm with hz | hz
   ·
    exact h rfl hz
   ·
    exact absurd hz (Nat.ne_of_gt (Nat.pow_pos (by decide)))
 rw [e1, e2]
 rfl
theorem flo_back {T : Nat} (hT : 0 < T) (z : Int) : flo (z * (T : Int)) (T : Int) = z := by
 unfold flo
 rw [if_pos (by omega), Int.mul_ediv_cancel _ (by omega)]
theorem prn_back (n : Int) : fxV (prL n) = cutI n ∧ fxC (prL n) = false ∧ fxE (prL n) = 0 := by
 have hb := cut_bd n
 have cc : cutI (cutI n) = cutI n ∧ cutB (cutI n) = false := by
  generalize cutI n = x at *
  unfold cutI cutB
  refine ⟨by omega, ?_⟩
  simp
  omega
 have key : ∀ (b : Bool) (l : List UInt8) (N : Nat), (b = true → N ≠ 0) → pB l = b → pD l = absL N → sg b N = cutI n → fxV l = cutI n ∧ fxC l = false ∧ fxE l = 0 := by
  intro b l N h0 h1 h2 h3
  have w1 : fW l = Lib.itoa ((N / 1048576 : Nat) : Int) := by unfold fW fC; rw [h2, cut_abs]
  have w2 : fB l = bhL N := by unfold fB fC; rw [h2, cut_abs]
  have w3 : fP l = !decide (N % 1048576 = 0) := by unfold fP fC; rw [h2, cut_abs]
  have hr : readsB l = true := by unfold readsB; rw [w1, w2, w3, h1]; exact parts_abs h0
  have hq : fQ l = cutI n := by
   unfold fQ
   rw [w1, w2, h1]
   have hv := all_val N
   have hT : 0 < 10 ^ (bhL N).length := Nat.pow_pos (by decide)
   have e : sg b (dval (Lib.itoa ((N / 1048576 : Nat) : Int) ++ bhL N)) * 1048576 = sg b N * ((10 ^ (bhL N).length : Nat) : Int) := by
    have hv' : ((dval (Lib.itoa ((N / 1048576 : Nat) : Int) ++ bhL N) : Nat) : Int) * 1048576 = (N : Int) * ((10 ^ (bhL N).length : Nat) : Int) := by
     rw [← Int.natCast_mul, ← hv]
     rfl
    cases b
    ·
     exact hv'
    ·
     show -((dval _ : Nat) : Int) * 1048576 = -(N : Int) * _
     rw [Int.neg_mul, Int.neg_mul, hv']
   rw [e, flo_back hT, h3]
  obtain ⟨g1, g2, g3⟩ := fx_good hr
  rw [g1, g2, g3, hq]
  exact ⟨cc.1, cc.2, rfl⟩
 unfold prL
 by_cases hn : cutI n < 0
 ·
  rw [if_pos hn]
  refine key true _ (cutI n).natAbs (fun _ => by omega) ?_ ?_ ?_
  ·
   unfold pB Lib.hasPrefix; simp [List.isPrefixOf]
  ·
   unfold pD Lib.trimPrefix Lib.hasPrefix; simp [List.isPrefixOf]
  ·
   show -(((cutI n).natAbs : Nat) : Int) = cutI n
   omega
 ·
  rw [if_neg hn]
  refine key false _ (cutI n).natAbs (fun h => by cases h) ?_ ?_ ?_
  ·
   exact abs_head _
  ·
   unfold pD Lib.trimPrefix
   rw [abs_head]
   rfl
  ·
   show (((cutI n).natAbs : Nat) : Int) = cutI n
   omega
theorem prn_len (n : Int) : (prL n).length ≤ 40 := by
 have hb := cut_bd n
 have h1 : ∀ N : Nat, N ≤ 2147483647 → (absL N).length ≤ 25 := by
  intro N hN
  have hl := itoa_len (n := N / 1048576) (by omega)
  unfold absL
  rw [List.length_append]
  split
  ·
   rw [List.length_nil]
   omega
  ·
   have := (frN_frK (N % 1048576)).1
   rw [List.length_cons, frL_len]
   omega
 have := h1 (cutI n).natAbs (by omega)
 unfold prL
 split
 ·
  rw [List.length_cons]; omega
 ·
  omega
end Go.Proofs.YtpahkpcoinbgcaaGreatDoor
