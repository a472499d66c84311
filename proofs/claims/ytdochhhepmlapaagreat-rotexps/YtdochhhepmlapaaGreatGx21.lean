/- Parts of the proof. -/
import Derived.Test.YtdochhhepmlapaaGreatGx18
import Derived.Test.YtdochhhepmlapaaGreatGx20
/- Spans: the walks of unlessCut, product, root, and of the rules that Add and Div hand over. -/
namespace Go.Proofs.YtdochhhepmlapaaGreat
open Go.RowKit
theorem unless_eq {p q : Int} (h : p ≤ -q) : (if (cutB p || cutB q) = true then lineS else ofS (cutI p) (-cutI q)) = mkS ⟨p, -q, false⟩ := by
 cases h1 : cutB p
 ·
  cases h2 : cutB q
  ·
   rw [cut_false h1, cut_false h2, if_neg (by decide), ofS_le h]
  ·
   rw [if_pos (by decide)]
   refine (mkS_no ?_).symm
   cases hk : okB ⟨p, -q, false⟩
   ·
    rfl
   ·
    obtain ⟨k1, k2, k3, _⟩ := ok_of hk
    have k1 : -2147483647 ≤ p := k1
    have k3 : -q ≤ 2147483647 := k3
    have k2 : p ≤ -q := k2
    rw [(cut_in (n := q) (by omega) (by omega)).2] at h2
    cases h2
 ·
  rw [if_pos (by simp)]
  refine (mkS_no ?_).symm
  cases hk : okB ⟨p, -q, false⟩
  ·
   rfl
  ·
   obtain ⟨k1, k2, k3, _⟩ := ok_of hk
   have k1 : -2147483647 ≤ p := k1
   have k3 : -q ≤ 2147483647 := k3
   have k2 : p ≤ -q := k2
   rw [(cut_in (n := p) (by omega) (by omega)).2] at h1
   cases h1
set_option maxHeartbeats 400000 in
theorem unl_any (p q : Int) (c : Bool) (w : World) : Calls Tryz.prog 68 #[.int .i64 p, .int .i64 q, .bool c] w (PSp (if c = true then lineS else ofS p q) w) := by
 cases c
 ·
  rw [if_neg (by decide)]
  go_enter Tryz.func68, Tryz.ntmps68
  go_wp2_with fail
  refine (sOf_any p q _).mono ?_
  rintro e w1 ⟨rfl, hB⟩
  generalize ofS p q = z at *
  have hX := (bs1 w 0 0 false).later hB
  obtain ⟨c0, c1, c2, f0, f1, f2⟩ := hX.c0
  go_wp2
  have h := hX.put 0 (by simp) z
  rw [Nat.add_zero] at h
  exact bodyPost_ret (v := .agg #[.int .i64 z.lo, .int .i64 z.hi, .bool z.all]) (by simp [results, Tryz.results68, go_sem, c0, c1, c2]) rfl ⟨rfl, h.below⟩
 ·
  rw [if_pos rfl]
  go_enter Tryz.func68, Tryz.ntmps68
  go_wp2_with fail
  refine (whole_any _).mono ?_
  rintro e w1 ⟨rfl, hB⟩
  generalize lineS = z at *
  have hX := (bs1 w 0 0 false).later hB
  obtain ⟨c0, c1, c2, f0, f1, f2⟩ := hX.c0
  go_wp2
  have h := hX.put 0 (by simp) z
  rw [Nat.add_zero] at h
  exact bodyPost_ret (v := .agg #[.int .i64 z.lo, .int .i64 z.hi, .bool z.all]) (by simp [results, Tryz.results68, go_sem, c0, c1, c2]) rfl ⟨rfl, h.below⟩
theorem fxMul_fix (a b : Int) (w : World) (a1 : -2147483647 ≤ a) (a2 : a ≤ 2147483647) (b1 : -2147483647 ≤ b) (b2 : b ≤ 2147483647) :
  Calls Tryz.prog 95 #[.int .i64 a, .int .i64 b] w (PVal2 (.int .i64 (cutI (a * b / 1048576))) (.bool (cutB (a * b / 1048576))) w) := by
 have h := fxMul_any a b w
 rw [(cut_in a1 a2).1, (cut_in b1 b2).1, (cut_in a1 a2).2, (cut_in b1 b2).2, flo_pos (by decide)] at h
 exact h
theorem fxAdd_fix (a b : Int) (w : World) (a1 : -2147483647 ≤ a) (a2 : a ≤ 2147483647) (b1 : -2147483647 ≤ b) (b2 : b ≤ 2147483647) :
  Calls Tryz.prog 67 #[.int .i64 a, .int .i64 b] w (PVal2 (.int .i64 (cutI (a + b))) (.bool (cutB (a + b))) w) := by
 have h := fxAdd_any a b w
 rw [(cut_in a1 a2).1, (cut_in b1 b2).1, (cut_in a1 a2).2, (cut_in b1 b2).2] at h
 exact h
set_option maxHeartbeats 800000 in
theorem sAdd1_any (a b : Int) (w : World) (a1 : -2147483647 ≤ a) (a2 : a ≤ 2147483647) (b1 : -2147483647 ≤ b) (b2 : b ≤ 2147483647) : Calls Tryz.prog 66 #[.int .i64 a, .int .i64 b] w (PSp (addR a b) w) := by
 have hE : (if (cutB (a + b)) = true then lineS else ofS (cutI (a + b)) (cutI (a + b))) = addR a b := by
  unfold addR
  cases h : cutB (a + b)
  ·
   rw [if_neg (by decide), cut_false h, ofS_le (Int.le_refl _)]
  ·
   rw [if_pos rfl]
   refine (mkS_no ?_).symm
   cases hk : okB ⟨a + b, a + b, false⟩
   ·
    rfl
   ·
    obtain ⟨k1, k2, k3, _⟩ := ok_of hk
    have k1 : -2147483647 ≤ a + b := k1
    have k3 : a + b ≤ 2147483647 := k3
    rw [(cut_in k1 k3).2] at h
    cases h
 have HF := Lib.hid (fun W => fxAdd_fix a b W a1 a2 b1 b2)
 generalize addR a b = z at *
 generalize cutI (a + b) = p at *
 generalize cutB (a + b) = c at *
 have HE := Lib.hid hE
 clear hE
 go_enter Tryz.func66, Tryz.ntmps66
 go_wp2_with fail
 refine (HF.out _).mono ?_
 rintro e w1 ⟨rfl, hB1⟩
 go_wp2_with fail
 refine (unl_any p p c _).mono ?_
 rw [HE.out]
 rintro e w2 ⟨rfl, hB2⟩
 have hX := ((bs1 w 0 0 false).later hB1).later hB2
 obtain ⟨c0, c1, c2, f0, f1, f2⟩ := hX.c0
 clear hB1 hB2
 go_wp2
 have h := hX.put 0 (by simp) z
 rw [Nat.add_zero] at h
 exact bodyPost_ret (v := .agg #[.int .i64 z.lo, .int .i64 z.hi, .bool z.all]) (by simp [results, Tryz.results66, go_sem, c0, c1, c2]) rfl ⟨rfl, h.below⟩
set_option maxHeartbeats 800000 in
theorem sproduct_any (a b : Int) (w : World) (a1 : -2147483647 ≤ a) (a2 : a ≤ 2147483647) (b1 : -2147483647 ≤ b) (b2 : b ≤ 2147483647) : Calls Tryz.prog 69 #[.int .i64 a, .int .i64 b] w (PSp (mulR a b) w) := by
 have hE : (if (cutB (a * b / 1048576) || cutB (-(a * b) / 1048576)) = true then lineS else ofS (cutI (a * b / 1048576)) (-cutI (-(a * b) / 1048576))) = mulR a b := unless_eq (by omega)
 have HF := Lib.hid (fun W => fxMul_fix a b W a1 a2 b1 b2)
 have hG := fun W => fxMul_fix (-a) b W (by omega) (by omega) b1 b2
 rw [Int.neg_mul] at hG
 have HG := Lib.hid hG
 clear hG
 have hq := cut_bd (-(a * b) / 1048576)
 generalize mulR a b = z at *
 generalize cutI (a * b / 1048576) = p at *
 generalize cutB (a * b / 1048576) = c at *
 generalize cutI (-(a * b) / 1048576) = q at *
 generalize cutB (-(a * b) / 1048576) = d at *
 obtain ⟨q1, q2⟩ := hq
 have HE := Lib.hid hE
 clear hE
 go_enter Tryz.func69, Tryz.ntmps69
 go_wp2_with fail
 refine (HF.out _).mono ?_
 rintro e w1 ⟨rfl, hB1⟩
 go_wp2_with fail
 refine (HG.out _).mono ?_
 rintro e w2 ⟨rfl, hB2⟩
 have hu : ∀ W, Calls Tryz.prog 68 #[.int .i64 p, .int .i64 (-q), .bool (c || d)] W (PSp z W) := fun W => by have := unl_any p (-q) (c || d) W; rw [HE.out] at this; exact this
 have hX := ((bs1 w 0 0 false).later hB1).later hB2
 have HU := Lib.hid hu
 clear hu hB1 hB2
 cases c
 all_goals
  go_wp2_with fail
  refine (HU.out _).mono ?_
  rintro e w3 ⟨rfl, hB3⟩
  have hX3 := hX.later hB3
  obtain ⟨c0, c1, c2, f0, f1, f2⟩ := hX3.c0
  go_wp2
  have h := hX3.put 0 (by simp) z
  rw [Nat.add_zero] at h
  exact bodyPost_ret (v := .agg #[.int .i64 z.lo, .int .i64 z.hi, .bool z.all]) (by simp [results, Tryz.results69, go_sem, c0, c1, c2]) rfl ⟨rfl, h.below⟩
end Go.Proofs.YtdochhhepmlapaaGreat

/- The document's spans: the walks of Right, Of, Has, In, Join, Meet, Mid, Rad. -/
namespace Go.Proofs.YtdochhhepmlapaaGreat
open Go.RowKit
theorem bel2 (w : World) (o o' : Obj) : Below w.heap.size w ((w.alloc o).alloc o') := ((Below.refl _ _).alloc (Nat.le_refl _) _).alloc (by simp) _
set_option maxHeartbeats 800000 in
theorem rRight_any (x : Sp) (w : World) : Calls Tryz.prog 44 #[.agg #[.int .i64 x.lo, .int .i64 x.hi, .bool x.all]] w (PDp (mkS x) w) := by
 obtain ⟨l, h, a⟩ := x
 cases a
 case true =>
  rw [mkS_no (by unfold okB; simp)]
  go_enter Tryz.func44, Tryz.ntmps44
  go_wp2
  exact bodyPost_ret (v := .agg #[.int .i64 0, .int .i64 0, .bool true]) (by simp [results, Tryz.results44, go_sem]) rfl ⟨rfl, bel2 _ _ _⟩
 by_cases h1 : l < -2147483647
 ·
  rw [mkS_no (by unfold okB; simp; omega)]
  have d1 : decide (l < -2147483647) = true := decide_eq_true h1
  go_enter Tryz.func44, Tryz.ntmps44
  go_wp2
  exact bodyPost_ret (v := .agg #[.int .i64 0, .int .i64 0, .bool true]) (by simp [results, Tryz.results44, go_sem]) rfl ⟨rfl, bel2 _ _ _⟩
 have d1 : decide (l < -2147483647) = false := decide_eq_false h1
 by_cases h2 : 2147483647 < h
 ·
  rw [mkS_no (by unfold okB; simp; omega)]
  have d2 : decide (2147483647 < h) = true := decide_eq_true h2
  go_enter Tryz.func44, Tryz.ntmps44
  go_wp2
  exact bodyPost_ret (v := .agg #[.int .i64 0, .int .i64 0, .bool true]) (by simp [results, Tryz.results44, go_sem]) rfl ⟨rfl, bel2 _ _ _⟩
 have d2 : decide (2147483647 < h) = false := decide_eq_false h2
 by_cases h3 : h < l
 ·
  rw [mkS_no (by unfold okB; simp; omega)]
  have d3 : decide (h < l) = true := decide_eq_true h3
  go_enter Tryz.func44, Tryz.ntmps44
  go_wp2
  exact bodyPost_ret (v := .agg #[.int .i64 0, .int .i64 0, .bool true]) (by simp [results, Tryz.results44, go_sem]) rfl ⟨rfl, bel2 _ _ _⟩
 have d3 : decide (h < l) = false := decide_eq_false h3
 rw [mkS_ok (ok_mk (by show -2147483647 ≤ l; omega) (by show l ≤ h; omega) (by show h ≤ 2147483647; omega) rfl)]
 go_enter Tryz.func44, Tryz.ntmps44
 go_wp2
 exact bodyPost_ret (v := .agg #[.int .i64 l, .int .i64 h, .bool false]) (by simp [results, Tryz.results44, go_sem]) rfl ⟨rfl, bel2 _ _ _⟩
set_option maxHeartbeats 800000 in
theorem rdOf_any (a b : Int) (w : World) : Calls Tryz.prog 38 #[.int .i64 a, .int .i64 b] w (PDp (ofS a b) w) := by
 have hR : ∀ W : World, Calls Tryz.prog 44 #[.agg #[.int .i64 (min a b), .int .i64 (max a b), .bool false]] W (PDp (ofS a b) W) := rRight_any ⟨min a b, max a b, false⟩
 generalize ofS a b = z at *
 have HR := Lib.hid hR
 clear hR
 go_enter Tryz.func38, Tryz.ntmps38
 go_wp2_with fail
 refine (HR.out _).mono ?_
 rintro e W ⟨rfl, hB⟩
 have hX := (ds1 w 0 0 false).later hB
 obtain ⟨c0, c1, c2, f0, f1, f2⟩ := hX.c0
 go_wp2
 have h := hX.put 0 (by simp) z
 rw [Nat.add_zero] at h
 exact bodyPost_ret (v := .agg #[.int .i64 z.lo, .int .i64 z.hi, .bool z.all]) (by simp [results, Tryz.results38, go_sem, c0, c1, c2]) rfl ⟨rfl, h.below⟩
end Go.Proofs.YtdochhhepmlapaaGreat
