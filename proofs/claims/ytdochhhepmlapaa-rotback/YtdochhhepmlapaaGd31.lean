/- Parts of the proof. -/
import Derived.Test.YtdochhhepmlapaaGd27
/- Turns, as numbers: the true turn is in what is enclosed; a turn and its turned one make none; the axis, lengths and angles stay. No statement of the seat is proved here. -/
namespace Go.Proofs.Ytdochhhepmlapaa
open Go.RowKit
def DD : Int := 26 * KK * 1048576
theorem dd_pos : 0 < DD := by
  have := kk_pos
  unfold DD
  omega
theorem k2_40 : ((uQ (1048576 * 1048576) 2 12 : Nat) : Int) = 26 * KK := by kernel_rfl
/-- What the rule of sine and cosine lacks. -/
def EE (A B S : Int) : Int := 2 * 1048576 * DD * B - 676 * 1099511627776 * (A * A) - S * (B * B)
/-- p times none, q times across n, r times across n twice. -/
def abc3 (n : V3) (p q r : Int) : M3 :=
  ⟨⟨p - r * (n.y * n.y + n.z * n.z), r * (n.x * n.y) - q * n.z, r * (n.x * n.z) + q * n.y⟩,
   ⟨r * (n.x * n.y) + q * n.z, p - r * (n.x * n.x + n.z * n.z), r * (n.y * n.z) - q * n.x⟩,
   ⟨r * (n.x * n.z) - q * n.y, r * (n.y * n.z) + q * n.x, p - r * (n.x * n.x + n.y * n.y)⟩⟩
def nn3 (n : V3) : Int := n.x * n.x + n.y * n.y + n.z * n.z
theorem abc_turn (n : V3) (p q r : Int) : turn3 (abc3 n p q r) = abc3 n p (-q) r := by
  unfold turn3 abc3
  dsimp only
  congr 2 <;> grind
theorem abc_mul (n : V3) (p q r p' q' r' : Int) : mul3 (abc3 n p q r) (abc3 n p' q' r') = abc3 n (p * p') (p * q' + q * p' - nn3 n * (q * r' + r * q')) (p * r' + r * p' + q * q' - nn3 n * (r * r')) := by
  unfold mul3 turn3 abc3 dot3 nn3
  dsimp only
  congr 2 <;> grind
theorem abc_det (n : V3) (p q r : Int) : dot3 (abc3 n p q r).a (cross3 (abc3 n p q r).b (abc3 n p q r).c) = p * (p * p - nn3 n * (2 * p * r - q * q - nn3 n * (r * r))) := by
  unfold cross3 abc3 dot3 nn3
  dsimp only
  grind
theorem abc_own (n : V3) (p q r : Int) : app3 (abc3 n p q r) n = ⟨p * n.x, p * n.y, p * n.z⟩ := by
  unfold app3 abc3 dot3
  dsimp only
  congr 1 <;> grind
theorem abc_dot (n : V3) (p q r : Int) (v u : V3) : dot3 (app3 (abc3 n p q r) v) (app3 (abc3 n p q r) u) = dot3 v (app3 (mul3 (turn3 (abc3 n p q r)) (abc3 n p q r)) u) := by
  generalize abc3 n p q r = m
  unfold mul3 app3 turn3 dot3
  dsimp only
  grind
/-- The turn about n. -/
def tr3 (n : V3) (A B : Int) : M3 := abc3 n (1048576 * DD) (27262976 * A) B
def lE6 : List Int := addP (addP (sclP (2 * 1048576 * DD) (hP (1048576 * 1048576) 2 12)) (sclP (-(676 * 1099511627776)) (mulP (hP (1048576 * 1048576) 1 12) (hP (1048576 * 1048576) 1 12)))) (0 :: sclP (-1) (mulP (hP (1048576 * 1048576) 2 12) (hP (1048576 * 1048576) 2 12)))
theorem c6 : ev (absP lE6) 4398046511104 * 4398046511104 * 65536 < DD * DD := of_decide_eq_true (by kernel_rfl)
theorem lE6_ev (p : Int) : ev lE6 p = EE (hV (1048576 * 1048576) 1 p 12) (hV (1048576 * 1048576) 2 p 12) p := by
  unfold lE6
  rw [ev_add, ev_add, ev_scl, ev_scl, ev_mul, hP_ev, hP_ev]
  show _ + _ + (0 + p * ev (sclP _ _) p) = _
  rw [ev_scl, ev_mul, hP_ev]
  unfold EE
  generalize hV (1048576 * 1048576) 1 p 12 = A
  generalize hV (1048576 * 1048576) 2 p 12 = B
  generalize DD = D
  grind
theorem rw_plc {i a k b l : Sp} {I A K B L : Int} (hi : Rw i I 1) (ha : Rw a (A * 1048576) KK) (hk : Rw k K 1) (hb : Rw b (B * 1048576) (26 * KK)) (hl : Rw l L 1048576) : Rw (plcS i a k b l) (I * DD + 27262976 * A * K + B * L) DD := by
  have hD := dd_pos
  have hK := kk_pos
  have h1 : Rw i (I * DD) DD := rw_to (by decide) hD (by grind) hi
  have h2 : Rw (mulS a k) (27262976 * A * K) DD := rw_to (Int.mul_pos (Int.mul_pos hK (by decide)) (by decide)) hD (by unfold DD; grind) (rw_mul hK (by decide) ha hk)
  have h3 : Rw (mulS b l) (B * L) DD := rw_to (Int.mul_pos (Int.mul_pos (by omega) (by decide)) (by decide)) hD (by unfold DD; grind) (rw_mul (by omega) (by decide) hb hl)
  exact rw_add (rw_add h1 h2) h3
theorem rw_one (n : Int) : Rw (ofS n n) n 1 := by
  intro hk
  rw [one_of hk]
  exact ⟨by show n * 1 ≤ n; omega, by show n ≤ n * 1; omega⟩
theorem rw_cong {x : Sp} {N M U : Int} (h : Rw x N U) (e : N = M) : Rw x M U := e ▸ h
/-- The true turn is in what is enclosed. -/
theorem rw_exp {w : Vc} {n : V3} (hw : RwV w n 1) {A B : Int} (ha : Rw (encS 1 (normV w)) (A * 1048576) KK) (hb : Rw (encS 2 (normV w)) (B * 1048576) (26 * KK)) : RwT (expT w) (tr3 n A B) DD := by
  obtain ⟨h0, h1, h2⟩ := hw
  have s0 : Rw (sqrS w.x) (n.x * n.x) 1048576 := rw_sqr (by decide) h0
  have s1 : Rw (sqrS w.y) (n.y * n.y) 1048576 := rw_sqr (by decide) h1
  have s2 : Rw (sqrS w.z) (n.z * n.z) 1048576 := rw_sqr (by decide) h2
  have m01 : Rw (mulS w.x w.y) (n.x * n.y) 1048576 := rw_mul (by decide) (by decide) h0 h1
  have m02 : Rw (mulS w.x w.z) (n.x * n.z) 1048576 := rw_mul (by decide) (by decide) h0 h2
  have m12 : Rw (mulS w.y w.z) (n.y * n.z) 1048576 := rw_mul (by decide) (by decide) h1 h2
  have o := rw_one 1048576
  have z := rw_one 0
  refine ⟨⟨?_, ?_, ?_⟩, ⟨?_, ?_, ?_⟩, ⟨?_, ?_, ?_⟩⟩
  · exact rw_cong (rw_plc o ha z hb (rw_neg (rw_add s1 s2))) (by simp only [tr3, abc3]; grind)
  · exact rw_cong (rw_plc z ha (rw_neg h2) hb m01) (by simp only [tr3, abc3]; grind)
  · exact rw_cong (rw_plc z ha h1 hb m02) (by simp only [tr3, abc3]; grind)
  · exact rw_cong (rw_plc z ha h2 hb m01) (by simp only [tr3, abc3]; grind)
  · exact rw_cong (rw_plc o ha z hb (rw_neg (rw_add s0 s2))) (by simp only [tr3, abc3]; grind)
  · exact rw_cong (rw_plc z ha (rw_neg h0) hb m12) (by simp only [tr3, abc3]; grind)
  · exact rw_cong (rw_plc z ha (rw_neg h1) hb m02) (by simp only [tr3, abc3]; grind)
  · exact rw_cong (rw_plc z ha h0 hb m12) (by simp only [tr3, abc3]; grind)
  · exact rw_cong (rw_plc o ha z hb (rw_neg (rw_add s0 s1))) (by simp only [tr3, abc3]; grind)
/-- How small what lacks is. -/
def Sml (E S : Int) : Prop := ∀ t, -S ≤ t → t ≤ S → -(DD * DD) ≤ E * t * 65536 ∧ E * t * 65536 ≤ DD * DD
/-- A true turn of each vector. -/
theorem true_ab {w : Vc} {n : V3} (hw : RwV w n 1) : ∃ A B : Int, Rw (encS 1 (normV w)) (A * 1048576) KK ∧ Rw (encS 2 (normV w)) (B * 1048576) (26 * KK) ∧ Sml (EE A B (nn3 n)) (nn3 n) := by
  cases hin : inB (normV w) fourS
  · refine ⟨0, 0, ?_, ?_, ?_⟩
    · rw [enc_out hin]; intro h; cases h
    · rw [enc_out hin]; intro h; cases h
    · intro t _ _
      have e : EE 0 0 (nn3 n) = 0 := by unfold EE; simp
      rw [e]
      have := Int.mul_pos dd_pos dd_pos
      omega
  · obtain ⟨hk, h0, h1, h4⟩ := four_of hin
    obtain ⟨g1, g2⟩ := (rw_norm (by decide) hw.1 hw.2.1 hw.2.2) hk
    replace g1 : (normV w).lo * ((1048576 : Nat) : Int) ≤ nn3 n := g1
    replace g2 : nn3 n ≤ (normV w).hi * ((1048576 : Nat) : Int) := g2
    have s0 : 0 ≤ nn3 n := by
      have := sq_pos n.x
      have := sq_pos n.y
      have := sq_pos n.z
      unfold nn3
      omega
    have s4 : nn3 n ≤ 4398046511104 := by omega
    have ra := rin_enc (c := 1) (by decide) hin g1 g2
    have rb := rin_enc (c := 2) (by decide) hin g1 g2
    rw [k2_40] at rb
    refine ⟨hV (1048576 * 1048576) 1 (nn3 n) 12, hV (1048576 * 1048576) 2 (nn3 n) 12, fun _ => ra, fun _ => rb, ?_⟩
    intro t t1 t2
    have a := ev_abs (x := nn3 n) (B := 4398046511104) (by omega) s4 lE6
    rw [lE6_ev] at a
    have c := c6
    have b := abs_mul_le (x := EE (hV (1048576 * 1048576) 1 (nn3 n) 12) (hV (1048576 * 1048576) 2 (nn3 n) 12) (nn3 n)) (r := t) (R := 4398046511104) a.1 a.2 (by omega) (by omega)
    generalize EE (hV (1048576 * 1048576) 1 (nn3 n) 12) (hV (1048576 * 1048576) 2 (nn3 n) 12) (nn3 n) * t = y at *
    generalize ev (absP lE6) 4398046511104 * 4398046511104 = z at *
    generalize DD * DD = d at *
    clear a
    omega
theorem two_xy (x y : Int) : -(x * x + y * y) ≤ x * y ∧ x * y ≤ x * x + y * y := by
  have h1 := sq_pos (x + y)
  have h2 := sq_pos (x - y)
  have h3 := sq_pos x
  have h4 := sq_pos y
  have e1 : (x + y) * (x + y) = x * x + 2 * (x * y) + y * y := by grind
  have e2 : (x - y) * (x - y) = x * x - 2 * (x * y) + y * y := by grind
  omega
theorem has_near {e : Sp} {N n E l : Int} (h : Rw e N (DD * DD * 1048576)) (hn : N = n * (DD * DD * 1048576) + E * l) (hb : -(DD * DD) ≤ E * l * 65536 ∧ E * l * 65536 ≤ DD * DD) : hasB e n = true := by
  have hd := Int.mul_pos dd_pos dd_pos
  refine has_of_rin (D := DD * DD * 1048576) (by omega) (N := N) fun hk => ⟨h hk, ?_, ?_⟩
  · rw [hn]
    generalize n * (DD * DD * 1048576) = y
    generalize E * l = x at *
    generalize DD * DD = d at *
    omega
  · rw [hn]
    generalize n * (DD * DD * 1048576) = y
    generalize E * l = x at *
    generalize DD * DD = d at *
    omega
theorem in_hasS {e : Sp} {n : Int} (h : hasB e n = true) (hn : okB (ofS n n) = true) : inB (ofS n n) e = true := by
  cases he : okB e
  · exact in_not he
  · refine (in_ok he).2 ⟨hn, ?_⟩
    rw [one_of hn]
    unfold hasB at h
    rw [he] at h
    simp only [Bool.not_true, Bool.false_or, Bool.and_eq_true, decide_eq_true_eq] at h
    exact h
theorem near_T {e : Tu} {n : V3} {E : Int} (h : RwT e (abc3 n (1048576 * DD * (1048576 * DD)) 0 E) (DD * DD * 1048576)) (hs : Sml E (nn3 n)) : inT idT e = true := by
  have h1 := two_xy n.x n.y
  have h2 := two_xy n.x n.z
  have h3 := two_xy n.y n.z
  have q1 := sq_pos n.x
  have q2 := sq_pos n.y
  have q3 := sq_pos n.z
  unfold Sml nn3 at hs
  have s1 := hs (-(n.y * n.y + n.z * n.z)) (by omega) (by omega)
  have s2 := hs (-(n.x * n.x + n.z * n.z)) (by omega) (by omega)
  have s3 := hs (-(n.x * n.x + n.y * n.y)) (by omega) (by omega)
  have s4 := hs (n.x * n.y) (by omega) (by omega)
  have s5 := hs (n.x * n.z) (by omega) (by omega)
  have s6 := hs (n.y * n.z) (by omega) (by omega)
  obtain ⟨⟨a0, a1, a2⟩, ⟨b0, b1, b2⟩, ⟨c0, c1, c2⟩⟩ := h
  refine inT_mk (inV_mk (in_hasS (has_near a0 ?_ s1) rfl) (in_hasS (has_near a1 ?_ s4) rfl) (in_hasS (has_near a2 ?_ s5) rfl)) (inV_mk (in_hasS (has_near b0 ?_ s4) rfl) (in_hasS (has_near b1 ?_ s2) rfl) (in_hasS (has_near b2 ?_ s6) rfl)) (inV_mk (in_hasS (has_near c0 ?_ s5) rfl) (in_hasS (has_near c1 ?_ s6) rfl) (in_hasS (has_near c2 ?_ s3) rfl))
  all_goals (simp only [abc3]; generalize DD = D; grind)
theorem abc_cong (n : V3) {p q r p' q' r' : Int} (h1 : p = p') (h2 : q = q') (h3 : r = r') : abc3 n p q r = abc3 n p' q' r' := by rw [h1, h2, h3]
theorem tr_back (n : V3) (A B : Int) : mul3 (tr3 n A B) (turn3 (tr3 n A B)) = abc3 n (1048576 * DD * (1048576 * DD)) 0 (EE A B (nn3 n)) ∧ mul3 (turn3 (tr3 n A B)) (tr3 n A B) = abc3 n (1048576 * DD * (1048576 * DD)) 0 (EE A B (nn3 n)) := by
  unfold tr3
  rw [abc_turn, abc_mul, abc_mul]
  constructor <;> (refine abc_cong n rfl (by grind) ?_; unfold EE; grind)
/-- RotBack, as numbers. -/
theorem back_a (w : Vc) : inT idT (mulT (expT w) (turnT (expT w))) = true ∧ inT idT (mulT (turnT (expT w)) (expT w)) = true := by
  obtain ⟨A, B, ha, hb, hs⟩ := true_ab (rwV_pt w)
  have h := rw_exp (rwV_pt w) ha hb
  have t := rwT_turn h
  obtain ⟨e1, e2⟩ := tr_back (lo3 w) A B
  have m1 := rwT_mul dd_pos dd_pos h t
  have m2 := rwT_mul dd_pos dd_pos t h
  rw [e1] at m1
  rw [e2] at m2
  exact ⟨near_T m1 hs, near_T m2 hs⟩
theorem back_d (w : Vc) : hasB (detT (expT w)) 1048576 = true := by
  obtain ⟨A, B, ha, hb, hs⟩ := true_ab (rwV_pt w)
  have h := rwT_det dd_pos (rw_exp (rwV_pt w) ha hb)
  have hd := dd_pos
  have e : dot3 (tr3 (lo3 w) A B).a (cross3 (tr3 (lo3 w) A B).b (tr3 (lo3 w) A B).c) = 1048576 * (DD * (DD * DD * 1048576) * 1048576) - DD * (1048576 * (EE A B (nn3 (lo3 w)) * nn3 (lo3 w))) := by
    unfold tr3
    rw [abc_det]
    unfold EE
    generalize nn3 (lo3 w) = S
    generalize DD = D
    grind
  rw [e] at h
  have s0 : 0 ≤ nn3 (lo3 w) := by
    have := sq_pos (lo3 w).x
    have := sq_pos (lo3 w).y
    have := sq_pos (lo3 w).z
    unfold nn3
    omega
  have s := hs (nn3 (lo3 w)) (by omega) (by omega)
  generalize EE A B (nn3 (lo3 w)) * nn3 (lo3 w) = y at *
  have hdd := Int.mul_pos hd hd
  have u1 : -(DD * DD * 1099511627776) < 1048576 * y := by
    generalize DD * DD = d at *
    omega
  have u2 : 1048576 * y < DD * DD * 1099511627776 := by
    generalize DD * DD = d at *
    omega
  have v1 := Int.mul_lt_mul_of_pos_left u1 hd
  have v2 := Int.mul_lt_mul_of_pos_left u2 hd
  have e2 : DD * (DD * DD * 1048576) * 1048576 = DD * (DD * DD * 1099511627776) := by
    generalize DD = D
    grind
  have e3 : DD * -(DD * DD * 1099511627776) = -(DD * (DD * DD * 1099511627776)) := Int.mul_neg _ _
  rw [e3] at v1
  refine has_of_rin (D := DD * (DD * DD * 1048576) * 1048576) (Int.mul_pos (Int.mul_pos hd (Int.mul_pos hdd (by decide))) (by decide)) (N := 1048576 * (DD * (DD * DD * 1048576) * 1048576) - DD * (1048576 * y)) fun hk => ⟨h hk, ?_, ?_⟩
  · rw [e2]
    generalize DD * (DD * DD * 1099511627776) = z at *
    generalize DD * (1048576 * y) = x at *
    omega
  · rw [e2]
    generalize DD * (DD * DD * 1099511627776) = z at *
    generalize DD * (1048576 * y) = x at *
    omega
theorem tr3_neg (n : V3) (A B : Int) : turn3 (tr3 n A B) = tr3 ⟨0 - n.x, 0 - n.y, 0 - n.z⟩ A B := by
  unfold tr3
  rw [abc_turn]
  unfold abc3
  dsimp only
  congr 2 <;> grind
theorem back_m (w : Vc) : meetT (expT (subV (ofV 0 0 0) w)) (turnT (expT w)) := by
  cases hin : inB (normV w) fourS
  · -- whole lines
    have hl : ∀ i k l, plcS i (encS 1 (normV w)) k (encS 2 (normV w)) l = lineS := by
      intro i k l
      unfold plcS
      rw [enc_out hin, (line_no (x := lineS) rfl).1, addS_comm i, (line_no (x := lineS) rfl).2, (line_no (x := lineS) rfl).2]
    have hm : ∀ x, meetB x lineS = true := by
      intro x
      unfold meetB
      rw [ok_line]
      simp
    have e : expT w = ⟨⟨lineS, lineS, lineS⟩, ⟨lineS, lineS, lineS⟩, ⟨lineS, lineS, lineS⟩⟩ := by
      unfold expT plcT plcV
      simp only [hl]
    rw [e]
    exact ⟨⟨hm _, hm _, hm _⟩, ⟨hm _, hm _, hm _⟩, ⟨hm _, hm _, hm _⟩⟩
  · cases hin2 : inB (normV (subV (ofV 0 0 0) w)) fourS
    · have hl : ∀ i k l, plcS i (encS 1 (normV (subV (ofV 0 0 0) w))) k (encS 2 (normV (subV (ofV 0 0 0) w))) l = lineS := by
        intro i k l
        unfold plcS
        rw [enc_out hin2, (line_no (x := lineS) rfl).1, addS_comm i, (line_no (x := lineS) rfl).2, (line_no (x := lineS) rfl).2]
      have e : expT (subV (ofV 0 0 0) w) = ⟨⟨lineS, lineS, lineS⟩, ⟨lineS, lineS, lineS⟩, ⟨lineS, lineS, lineS⟩⟩ := by
        unfold expT plcT plcV
        simp only [hl]
      have hm : ∀ x, meetB lineS x = true := fun x => by unfold meetB; rw [ok_line]; rfl
      rw [e]
      exact ⟨⟨hm _, hm _, hm _⟩, ⟨hm _, hm _, hm _⟩, ⟨hm _, hm _, hm _⟩⟩
    · have hw := rwV_pt w
      have hw2 : RwV (subV (ofV 0 0 0) w) ⟨0 - (lo3 w).x, 0 - (lo3 w).y, 0 - (lo3 w).z⟩ 1 := ⟨rw_sub (rw_one 0) hw.1, rw_sub (rw_one 0) hw.2.1, rw_sub (rw_one 0) hw.2.2⟩
      have k1 := (four_of hin).1
      have k2 := (four_of hin2).1
      obtain ⟨g1, g2⟩ := (rw_norm (by decide) hw.1 hw.2.1 hw.2.2) k1
      obtain ⟨f1, f2⟩ := (rw_norm (by decide) hw2.1 hw2.2.1 hw2.2.2) k2
      replace g1 : (normV w).lo * ((1048576 : Nat) : Int) ≤ nn3 (lo3 w) := g1
      replace g2 : nn3 (lo3 w) ≤ (normV w).hi * ((1048576 : Nat) : Int) := g2
      have en : (0 - (lo3 w).x) * (0 - (lo3 w).x) + (0 - (lo3 w).y) * (0 - (lo3 w).y) + (0 - (lo3 w).z) * (0 - (lo3 w).z) = nn3 (lo3 w) := by
        unfold nn3
        grind
      rw [en] at f1 f2
      replace f1 : (normV (subV (ofV 0 0 0) w)).lo * ((1048576 : Nat) : Int) ≤ nn3 (lo3 w) := f1
      replace f2 : nn3 (lo3 w) ≤ (normV (subV (ofV 0 0 0) w)).hi * ((1048576 : Nat) : Int) := f2
      have ra := rin_enc (c := 1) (by decide) hin g1 g2
      have rb := rin_enc (c := 2) (by decide) hin g1 g2
      have qa := rin_enc (c := 1) (by decide) hin2 f1 f2
      have qb := rin_enc (c := 2) (by decide) hin2 f1 f2
      rw [k2_40] at rb qb
      have h1 := rw_exp hw (fun _ => ra) (fun _ => rb)
      have h2 := rw_exp hw2 (fun _ => qa) (fun _ => qb)
      have t := rwT_turn h1
      rw [tr3_neg] at t
      exact meet_T dd_pos h2 t
/-- RotAxis, as numbers. -/
theorem own_in {e : Sp} {n : Int} (hn : okB e = true → okB (ofS n n) = true) (h : Rw e n 1) : inB (ofS n n) e = true := by
  cases he : okB e
  · exact in_not he
  · obtain ⟨h1, h2⟩ := h he
    refine (in_ok he).2 ⟨hn he, ?_⟩
    rw [one_of (hn he)]
    exact ⟨by show e.lo ≤ n; omega, by show n ≤ e.hi; omega⟩
theorem dot_oks {v w : Vc} (h : okB (dotV v w) = true) : (okB v.x = true ∧ okB v.y = true ∧ okB v.z = true) ∧ okB w.x = true ∧ okB w.y = true ∧ okB w.z = true := by
  obtain ⟨h1, h2⟩ := add_oks h
  obtain ⟨h3, h4⟩ := add_oks h1
  exact ⟨⟨(mul_oks h3).1, (mul_oks h4).1, (mul_oks h2).1⟩, (mul_oks h3).2, (mul_oks h4).2, (mul_oks h2).2⟩
theorem norm_oks {v : Vc} (h : okB (normV v) = true) : okB v.x = true ∧ okB v.y = true ∧ okB v.z = true := by
  obtain ⟨h1, h2⟩ := add_oks h
  obtain ⟨h3, h4⟩ := add_oks h1
  exact ⟨sqr_oks h3, sqr_oks h4, sqr_oks h2⟩
theorem axis_own (x y z : Int) : inV (ofV x y z) (appT (expT (ofV x y z)) (ofV x y z)) = true := by
  have hw : RwV (ofV x y z) ⟨x, y, z⟩ 1 := ⟨rw_one x, rw_one y, rw_one z⟩
  obtain ⟨A, B, ha, hb, _⟩ := true_ab hw
  have h := rwT_app dd_pos (by decide) (rw_exp hw ha hb) hw
  unfold tr3 at h
  rw [abc_own] at h
  have hd := dd_pos
  have hU : 0 < DD * 1 * 1048576 := Int.mul_pos (Int.mul_pos hd (by decide)) (by decide)
  obtain ⟨h0, h1, h2⟩ := h
  exact inV_mk (own_in (fun hk => (dot_oks hk).2.1) (rw_to hU (by decide) (by grind) h0)) (own_in (fun hk => (dot_oks hk).2.2.1) (rw_to hU (by decide) (by grind) h1)) (own_in (fun hk => (dot_oks hk).2.2.2) (rw_to hU (by decide) (by grind) h2))
theorem meet_near {x y : Sp} {N M U : Int} (hU : 0 < U) (hx : Rw x N U) (hy : Rw y M U) (h1 : okB x = true → okB y = true → N - M < U ∧ M - N < U) : meetB x y = true :=
  meet_of fun kx ky => ⟨rin_le hU (hx kx) (hy ky) (h1 kx ky).1, rin_le hU (hy ky) (hx kx) (h1 kx ky).2⟩
def Lim (v : V3) : Prop := (-2147483648 ≤ v.x ∧ v.x ≤ 2147483648) ∧ (-2147483648 ≤ v.y ∧ v.y ≤ 2147483648) ∧ (-2147483648 ≤ v.z ∧ v.z ≤ 2147483648)
theorem lim_lo {v : Vc} (h1 : okB v.x = true) (h2 : okB v.y = true) (h3 : okB v.z = true) : Lim (lo3 v) := by
  have k1 := ok_of h1
  have k2 := ok_of h2
  have k3 := ok_of h3
  unfold Lim lo3
  dsimp only
  omega
theorem near_dot {n v u : V3} {P E : Int} (hs : Sml E (nn3 n)) (hv : Lim v) (hu : Lim u) : ∃ y, dot3 v (app3 (abc3 n P 0 E) u) = P * dot3 v u + y ∧ -(DD * DD * 1152921504606846976) < y ∧ y < DD * DD * 1152921504606846976 := by
  have h1 := two_xy n.x n.y
  have h2 := two_xy n.x n.z
  have h3 := two_xy n.y n.z
  have q1 := sq_pos n.x
  have q2 := sq_pos n.y
  have q3 := sq_pos n.z
  unfold Sml nn3 at hs
  have s1 := hs (-(n.y * n.y + n.z * n.z)) (by omega) (by omega)
  have s2 := hs (-(n.x * n.x + n.z * n.z)) (by omega) (by omega)
  have s3 := hs (-(n.x * n.x + n.y * n.y)) (by omega) (by omega)
  have s4 := hs (n.x * n.y) (by omega) (by omega)
  have s5 := hs (n.x * n.z) (by omega) (by omega)
  have s6 := hs (n.y * n.z) (by omega) (by omega)
  clear hs h1 h2 h3 q1 q2 q3
  refine ⟨_, (by unfold app3 abc3 dot3; dsimp only; grind : dot3 v (app3 (abc3 n P 0 E) u) = P * dot3 v u + (E * (-(n.y * n.y + n.z * n.z)) * (v.x * u.x) + E * (-(n.x * n.x + n.z * n.z)) * (v.y * u.y) + E * (-(n.x * n.x + n.y * n.y)) * (v.z * u.z) + E * (n.x * n.y) * (v.x * u.y) + E * (n.x * n.y) * (v.y * u.x) + E * (n.x * n.z) * (v.x * u.z) + E * (n.x * n.z) * (v.z * u.x) + E * (n.y * n.z) * (v.y * u.z) + E * (n.y * n.z) * (v.z * u.y))), ?_⟩
  have hd := Int.mul_pos dd_pos dd_pos
  generalize DD * DD = d at *
  generalize E * (-(n.y * n.y + n.z * n.z)) = e1 at *
  generalize E * (-(n.x * n.x + n.z * n.z)) = e2 at *
  generalize E * (-(n.x * n.x + n.y * n.y)) = e3 at *
  generalize E * (n.x * n.y) = e4 at *
  generalize E * (n.x * n.z) = e5 at *
  generalize E * (n.y * n.z) = e6 at *
  obtain ⟨⟨v1, v2⟩, ⟨v3, v4⟩, v5, v6⟩ := hv
  obtain ⟨⟨u1, u2⟩, ⟨u3, u4⟩, u5, u6⟩ := hu
  have pr : ∀ {e a b : Int}, (-d ≤ e * 65536 ∧ e * 65536 ≤ d) → -2147483648 ≤ a → a ≤ 2147483648 → -2147483648 ≤ b → b ≤ 2147483648 → -(d * 4611686018427387904) ≤ e * (a * b) * 65536 ∧ e * (a * b) * 65536 ≤ d * 4611686018427387904 := by
    intro e a b he a1 a2 b1 b2
    have m1 := abs_mul_le a1 a2 b1 b2
    have m2 := abs_mul_le (x := e * 65536) (r := a * b) he.1 he.2 m1.1 m1.2
    have eq : e * (a * b) * 65536 = e * 65536 * (a * b) := by ac_rfl
    rw [eq]
    exact m2
  have p1 := pr s1 v1 v2 u1 u2
  have p2 := pr s2 v3 v4 u3 u4
  have p3 := pr s3 v5 v6 u5 u6
  have p4 := pr s4 v1 v2 u3 u4
  have p5 := pr s4 v3 v4 u1 u2
  have p6 := pr s5 v1 v2 u5 u6
  have p7 := pr s5 v5 v6 u1 u2
  have p8 := pr s6 v3 v4 u5 u6
  have p9 := pr s6 v5 v6 u3 u4
  clear pr s1 s2 s3 s4 s5 s6
  generalize e1 * (v.x * u.x) = y1 at *
  generalize e2 * (v.y * u.y) = y2 at *
  generalize e3 * (v.z * u.z) = y3 at *
  generalize e4 * (v.x * u.y) = y4 at *
  generalize e4 * (v.y * u.x) = y5 at *
  generalize e5 * (v.x * u.z) = y6 at *
  generalize e5 * (v.z * u.x) = y7 at *
  generalize e6 * (v.y * u.z) = y8 at *
  generalize e6 * (v.z * u.y) = y9 at *
  constructor <;> omega
theorem tr_dot (n : V3) (A B : Int) (v u : V3) : dot3 (app3 (tr3 n A B) v) (app3 (tr3 n A B) u) = dot3 v (app3 (abc3 n (1048576 * DD * (1048576 * DD)) 0 (EE A B (nn3 n))) u) := by
  rw [← (tr_back n A B).2]
  unfold tr3
  rw [abc_dot]
theorem axis_dot (w v u : Vc) : meetB (dotV (appT (expT w) v) (appT (expT w) u)) (dotV v u) = true := by
  obtain ⟨A, B, ha, hb, hs⟩ := true_ab (rwV_pt w)
  have h := rw_exp (rwV_pt w) ha hb
  have hd := dd_pos
  have hU : 0 < DD * 1 * 1048576 := Int.mul_pos (Int.mul_pos hd (by decide)) (by decide)
  have x1 := rwV_dot hU hU (rwT_app hd (by decide) h (rwV_pt v)) (rwT_app hd (by decide) h (rwV_pt u))
  have y1 := rwV_dot (by decide) (by decide) (rwV_pt v) (rwV_pt u)
  have hUU : 0 < DD * 1 * 1048576 * (DD * 1 * 1048576) * 1048576 := Int.mul_pos (Int.mul_pos hU hU) (by decide)
  have y2 : Rw (dotV v u) (1048576 * DD * (1048576 * DD) * dot3 (lo3 v) (lo3 u)) (DD * 1 * 1048576 * (DD * 1 * 1048576) * 1048576) := rw_to (by decide) hUU (by generalize dot3 (lo3 v) (lo3 u) = y; generalize DD = D; grind) y1
  refine meet_near hUU x1 y2 fun _ ky => ?_
  obtain ⟨⟨k1, k2, k3⟩, k4, k5, k6⟩ := dot_oks ky
  obtain ⟨y, e, b1, b2⟩ := near_dot (P := 1048576 * DD * (1048576 * DD)) hs (lim_lo k1 k2 k3) (lim_lo k4 k5 k6)
  rw [tr_dot, e]
  have eU : DD * 1 * 1048576 * (DD * 1 * 1048576) * 1048576 = DD * DD * 1152921504606846976 := by
    generalize DD = D
    grind
  rw [eU]
  generalize 1048576 * DD * (1048576 * DD) * dot3 (lo3 v) (lo3 u) = z
  generalize DD * DD * 1152921504606846976 = d at *
  omega
theorem rwV_norm {v : Vc} {n : V3} {U : Int} (hU : 0 < U) (h : RwV v n U) : Rw (normV v) (dot3 n n) (U * U * 1048576) := rw_norm hU h.1 h.2.1 h.2.2
theorem axis_norm (w v : Vc) : meetB (normV (appT (expT w) v)) (normV v) = true := by
  obtain ⟨A, B, ha, hb, hs⟩ := true_ab (rwV_pt w)
  have h := rw_exp (rwV_pt w) ha hb
  have hd := dd_pos
  have hU : 0 < DD * 1 * 1048576 := Int.mul_pos (Int.mul_pos hd (by decide)) (by decide)
  have x1 := rwV_norm hU (rwT_app hd (by decide) h (rwV_pt v))
  have y1 := rwV_norm (by decide) (rwV_pt v)
  have hUU : 0 < DD * 1 * 1048576 * (DD * 1 * 1048576) * 1048576 := Int.mul_pos (Int.mul_pos hU hU) (by decide)
  have y2 : Rw (normV v) (1048576 * DD * (1048576 * DD) * dot3 (lo3 v) (lo3 v)) (DD * 1 * 1048576 * (DD * 1 * 1048576) * 1048576) := rw_to (by decide) hUU (by generalize dot3 (lo3 v) (lo3 v) = y; generalize DD = D; grind) y1
  refine meet_near hUU x1 y2 fun _ ky => ?_
  obtain ⟨k1, k2, k3⟩ := norm_oks ky
  obtain ⟨y, e, b1, b2⟩ := near_dot (P := 1048576 * DD * (1048576 * DD)) hs (lim_lo k1 k2 k3) (lim_lo k1 k2 k3)
  rw [tr_dot, e]
  have eU : DD * 1 * 1048576 * (DD * 1 * 1048576) * 1048576 = DD * DD * 1152921504606846976 := by
    generalize DD = D
    grind
  rw [eU]
  generalize 1048576 * DD * (1048576 * DD) * dot3 (lo3 v) (lo3 v) = z
  generalize DD * DD * 1152921504606846976 = d at *
  omega
end Go.Proofs.Ytdochhhepmlapaa
