/- The walk of guessed. -/
import Derived.Test.YtohdfialnaegcaaTake
import Derived.Test.YtohdfialnaegcaaDivb
namespace Go.Proofs.Ytohdfialnaegcaa
open Go.RowKit

/-- A guess of R / D that is right or 1 too great. -/
def PGuess (R D : Nat) (w : World) (e : Ending) (w' : World) : Prop := ∃ G : Nat, e = .returned (.int .u64 G) ∧ R / D ≤ G ∧ G ≤ R / D + 1 ∧ G < 4294967296 ∧ Below w.heap.size w w'

/-- What is known of the upper parts: D has tp, nx at its head, R has H, r2. -/
structure Heads (R D tp nx H r2 : Nat) : Prop where
  top : 1 ≤ tp
  qlt : R / D < 4294967296
  k1 : R / D * (tp * 4294967296 + nx) ≤ H * 4294967296 + r2
  k2 : H * 4294967296 + r2 < (R / D + 1) * (tp * 4294967296 + nx + 1)
  nxl : nx < 4294967296
  r2l : r2 < 4294967296

theorem heads_k1 {R D P d2 h3 x y : Nat} (dD : P * d2 + x = D) (dR : P * h3 + y = R) (lR : y < P) (hP : 0 < P) : R / D * d2 ≤ h3 := by
  have e3 : R / D * D ≤ R := Nat.div_mul_le_self _ _
  generalize R / D = q at *
  refine Nat.le_of_lt_succ (Nat.lt_of_mul_lt_mul_left (a := P) ?_)
  have e1 : P * (q * d2) = q * (P * d2) := Nat.mul_left_comm _ _ _
  have e2 : q * (P * d2) ≤ q * D := Nat.mul_le_mul_left _ (by omega)
  rw [Nat.mul_succ]
  omega
theorem heads_k2 {R D P d2 h3 x y z : Nat} (dD : P * d2 + x = D) (dR : P * h3 + y = R) (lD : x < P) (hz : z < D) (hq : D * (R / D) + z = R) : h3 < (R / D + 1) * (d2 + 1) := by
  generalize R / D = q at *
  refine Nat.lt_of_mul_lt_mul_left (a := P) ?_
  have e1 : P * ((q + 1) * (d2 + 1)) = (q + 1) * (P * (d2 + 1)) := Nat.mul_left_comm _ _ _
  have e2 : (q + 1) * D ≤ (q + 1) * (P * (d2 + 1)) := Nat.mul_le_mul_left _ (by rw [Nat.mul_add]; omega)
  have e3 : R < (q + 1) * D := by rw [Nat.add_mul, Nat.mul_comm q]; omega
  omega
theorem heads_of {R D n : Nat} (hn : 2 ≤ n) (hD : Fit n D) (hR : R < D * BB) : Heads R D (lmb D (n - 1)) (lmb D (n - 2)) (lmb R n * 4294967296 + lmb R (n - 1)) (lmb R (n - 2)) := by
  obtain ⟨m, rfl⟩ : ∃ m, n = m + 2 := ⟨n - 2, by omega⟩
  have hD1 := hD.1
  have hD2 := hD.2
  simp only [show m + 2 - 1 = m + 1 from rfl, show m + 2 - 2 = m from rfl] at *
  have hDp : BB ^ (m + 1) ≤ D := by rcases hD2 with h | h <;> omega
  have hpos : 0 < D := Nat.lt_of_lt_of_le (BBp _) hDp
  have hRlt : R < BB ^ (m + 2 + 1) := by
    refine Nat.lt_of_lt_of_le hR ?_
    rw [Nat.pow_succ _ (m + 2)]
    exact Nat.mul_le_mul_right _ (Nat.le_of_lt hD1)
  have eD : D / BB ^ m = lmb D (m + 1) * 4294967296 + lmb D m := by
    rw [up_split, ← lmb_top hD1]; show _ + 4294967296 * _ = _; omega
  have eR : R / BB ^ m = (lmb R (m + 2) * 4294967296 + lmb R (m + 1)) * 4294967296 + lmb R m := by
    rw [up_split, up_split R (m + 1), ← lmb_top hRlt]; show _ + 4294967296 * (_ + 4294967296 * _) = _; omega
  have dD := Nat.div_add_mod D (BB ^ m)
  have dR := Nat.div_add_mod R (BB ^ m)
  have lD := Nat.mod_lt D (BBp m)
  have lR := Nat.mod_lt R (BBp m)
  have hq := Nat.div_add_mod R D
  have hql := Nat.mod_lt R hpos
  rw [eD] at dD
  rw [eR] at dR
  have hP := BBp m
  refine ⟨?_, ?_, ?_, ?_, lmb_lt _ _, lmb_lt _ _⟩
  · rw [lmb_top hD1]
    exact Nat.div_pos hDp (BBp _)
  · exact Nat.div_lt_of_lt_mul hR
  · exact heads_k1 dD dR lR hP
  · exact heads_k2 dD dR lD hql hq
theorem guess_start {R D tp nx H r2 : Nat} (h : Heads R D tp nx H r2) : R / D ≤ H / tp := by
  refine (Nat.le_div_iff_mul_le h.top).2 ?_
  have h1 := h.k1
  have h2 := h.r2l
  rw [Nat.mul_add, ← Nat.mul_assoc] at h1
  omega
theorem guess_down {R D tp nx H r2 G L : Nat} (h : Heads R D tp nx H r2) (hG : G * tp + L = H) (hc : L * 4294967296 + r2 < G * nx) : R / D + 1 ≤ G := by
  have h1 := h.k1
  have e : G * (tp * 4294967296 + nx) = G * tp * 4294967296 + G * nx := by rw [Nat.mul_add, Nat.mul_assoc]
  have : R / D * (tp * 4294967296 + nx) < G * (tp * 4294967296 + nx) := by rw [e]; omega
  exact Nat.lt_of_mul_lt_mul_right this
theorem guess_end {R D tp nx H r2 G L : Nat} (h : Heads R D tp nx H r2) (hG : G * tp + L = H) (hGl : G < 4294967296) (hc : 4294967296 ≤ L ∨ G * nx ≤ L * 4294967296 + r2) : G ≤ R / D + 1 := by
  have hc' : G * nx ≤ L * 4294967296 + r2 := by
    rcases hc with hc | hc
    · have := Nat.mul_le_mul (show G ≤ 4294967295 by omega) (show nx ≤ 4294967295 by have := h.nxl; omega)
      omega
    · exact hc
  have h1 := h.k2
  have h2 := h.qlt
  have h3 := h.top
  have e : G * (tp * 4294967296 + nx) = G * tp * 4294967296 + G * nx := by rw [Nat.mul_add, Nat.mul_assoc]
  refine Nat.le_of_not_lt fun hlt => ?_
  have h4 := Nat.mul_le_mul_right (tp * 4294967296 + nx) (show R / D + 1 + 1 ≤ G by omega)
  rw [Nat.add_mul (R / D + 1) 1] at h4
  rw [Nat.mul_add (R / D + 1) (tp * 4294967296 + nx) 1] at h1
  omega

set_option maxRecDepth 100000 in
set_option maxHeartbeats 1600000 in
theorem guessed_any (g u n cp R D b1 o1 dc : Nat) (w : World) (hr : Lie .u32 w (some ⟨g, u, none⟩) (n + 1) cp (lmb R)) (hd : Lie .u32 w (some ⟨b1, o1, none⟩) n dc (lmb D)) (hn : 2 ≤ n) (hnb : n ≤ 1000000000)
    (hR : R < D * BB) (hD : Fit n D) :
    Calls Try.prog 117 #[.slice (some ⟨g, u, none⟩) ((n + 1 : Nat)) cp, .slice (some ⟨b1, o1, none⟩) n dc] w (PGuess R D w) := by
  have HH := heads_of hn hD hR
  clear hR hD
  have c1 := hd.at (n - 1) (by omega)
  have c2 := hd.at (n - 2) (by omega)
  have c3 := hr.at n (by omega)
  have c4 := hr.at (n - 1) (by omega)
  have c5 := hr.at (n - 2) (by omega)
  have l1 := lmb_lt D (n - 1)
  have l2 := lmb_lt D (n - 2)
  have l3 := lmb_lt R n
  have l4 := lmb_lt R (n - 1)
  have l5 := lmb_lt R (n - 2)
  have hor := or64 l3 l4
  have hH : lmb R n * 4294967296 + lmb R (n - 1) ≤ 18446744073709551615 := by omega
  generalize lmb R n * 4294967296 + lmb R (n - 1) = H at *
  generalize lmb D (n - 1) = tp at *
  generalize lmb D (n - 2) = nx at *
  generalize lmb R (n - 2) = r2 at *
  have htp := HH.top
  have hgs := guess_start HH
  have hql := HH.qlt
  clear hr hd
  obtain ⟨Q, hQ⟩ : ∃ Q, Q = H / tp := ⟨_, rfl⟩
  have hq : (H : Int) / (tp : Int) = (Q : Int) := by rw [hQ, Int.natCast_ediv]
  have hQt : Q * tp ≤ H := by rw [hQ]; exact Nat.div_mul_le_self _ _
  have hQH : Q ≤ H := Nat.le_trans (by rw [hQ]; exact Nat.div_le_self _ _) (Nat.le_refl _)
  rw [← hQ] at hgs
  have HQt := Lib.hid hQt
  have hQt0 : (0 : Int) ≤ (Q : Int) * (tp : Int) := Int.mul_nonneg (by omega) (by omega)
  have hQt1 : (Q : Int) * (tp : Int) ≤ (H : Int) := by rw [← Int.natCast_mul]; omega
  clear hQ hQt
  rcases Nat.lt_or_ge 4294967295 Q with hcq | hcq
  · have hb := Nat.mul_le_mul_right tp (show 4294967296 ≤ Q from hcq)
    have h2 := HQt.out
    have hb2 : (4294967295 : Int) * (tp : Int) ≤ H := by omega
    have hb3 : 4294967295 * tp ≤ H := by omega
    clear hb h2
    go_enter Try.func117, Try.ntmps117
    go_wp2
    go_quiet (fail)
    go_wp2
    go_quiet (fail)
    go_wp2
    go_loop [9, 10] (fun gv lv => ∃ G L : Nat, gv = .int .u64 G ∧ lv = .int .u64 L ∧ G * tp + L = H ∧ R / D ≤ G ∧ G ≤ 4294967295) (fun gv _ => (intOf gv).toNat)
    case atStart => exact ⟨4294967295, H - 4294967295 * tp, rfl, congrArg (Value.int .u64) (by omega), by omega, by omega, by omega⟩
    case round =>
      obtain ⟨G, L, rfl, rfl, hGL, hqG, hGu⟩ := hrel
      have hLH : L ≤ H := by omega
      have hGn : (0 : Int) ≤ (G : Int) * (nx : Int) ∧ (G : Int) * (nx : Int) ≤ 18446744065119617025 := mul_u32 (by omega) l2
      obtain ⟨hGn0, hGn1⟩ := hGn
      have HGL := Lib.hid hGL
      clear hGL
      by_cases hL : L < 4294967296
      · have hor2 := or64 hL l5
        obtain ⟨X, hXe⟩ : ∃ X, X = L * 4294967296 + r2 := ⟨_, rfl⟩
        rw [← hXe] at hor2
        have hX : X ≤ 18446744073709551615 := by omega
        by_cases hc : L * 4294967296 + r2 < G * nx
        · have hdn := guess_down HH HGL.out hc
          have hG1 : 1 ≤ G := Nat.le_trans (Nat.le_add_left 1 _) hdn
          have hcI : (X : Int) < (G : Int) * (nx : Int) := by rw [← Int.natCast_mul]; omega
          have HN : Hid ((G - 1) * tp + (L + tp) = H) := by
            show _ = _
            have h1 := HGL.out
            obtain ⟨G', rfl⟩ : ∃ G', G = G' + 1 := ⟨G - 1, by omega⟩
            rw [Nat.add_mul] at h1
            simp only [Nat.add_sub_cancel]
            omega
          have hLd : decide ((L : Int) < 4294967296) = true := by simp; omega
          clear hc hXe
          go_wp2
          go_round
          case rel => exact ⟨G - 1, L + tp, by go_num, by go_num, HN.out, by omega, by omega⟩
          case measure => simp [intOf]; omega
        · have hend := guess_end HH HGL.out (by omega) (.inr (by omega))
          have hcI : ¬ (X : Int) < (G : Int) * (nx : Int) := by rw [← Int.natCast_mul]; omega
          have hLd : decide ((L : Int) < 4294967296) = true := by simp; omega
          clear hc hXe
          go_wp2
          go_ret
          exact ⟨G, rfl, hqG, hend, by omega, below_drewN (Below.refl _ _) _⟩
      · have hend := guess_end HH HGL.out (by omega) (.inl (by omega))
        have hLd : decide ((L : Int) < 4294967296) = false := by simp; omega
        go_wp2
        go_ret
        exact ⟨G, rfl, hqG, hend, by omega, below_drewN (Below.refl _ _) _⟩
  · have h2 := HQt.out
    have HL : Hid ((H : Int) - (Q : Int) * (tp : Int) = ((H - Q * tp : Nat) : Int)) := by show _ = _; rw [← Int.natCast_mul]; omega
    clear h2
    go_enter Try.func117, Try.ntmps117
    go_wp2
    go_quiet (fail)
    go_wp2
    go_quiet (fail)
    go_wp2
    go_loop [9, 10] (fun gv lv => ∃ G L : Nat, gv = .int .u64 G ∧ lv = .int .u64 L ∧ G * tp + L = H ∧ R / D ≤ G ∧ G ≤ 4294967295) (fun gv _ => (intOf gv).toNat)
    case atStart => exact ⟨Q, H - Q * tp, rfl, congrArg (Value.int .u64) HL.out, by have := HQt.out; omega, by omega, by omega⟩
    case round =>
      obtain ⟨G, L, rfl, rfl, hGL, hqG, hGu⟩ := hrel
      have hLH : L ≤ H := by omega
      have hGn : (0 : Int) ≤ (G : Int) * (nx : Int) ∧ (G : Int) * (nx : Int) ≤ 18446744065119617025 := mul_u32 (by omega) l2
      obtain ⟨hGn0, hGn1⟩ := hGn
      have HGL := Lib.hid hGL
      clear hGL
      by_cases hL : L < 4294967296
      · have hor2 := or64 hL l5
        obtain ⟨X, hXe⟩ : ∃ X, X = L * 4294967296 + r2 := ⟨_, rfl⟩
        rw [← hXe] at hor2
        have hX : X ≤ 18446744073709551615 := by omega
        by_cases hc : L * 4294967296 + r2 < G * nx
        · have hdn := guess_down HH HGL.out hc
          have hG1 : 1 ≤ G := Nat.le_trans (Nat.le_add_left 1 _) hdn
          have hcI : (X : Int) < (G : Int) * (nx : Int) := by rw [← Int.natCast_mul]; omega
          have HN : Hid ((G - 1) * tp + (L + tp) = H) := by
            show _ = _
            have h1 := HGL.out
            obtain ⟨G', rfl⟩ : ∃ G', G = G' + 1 := ⟨G - 1, by omega⟩
            rw [Nat.add_mul] at h1
            simp only [Nat.add_sub_cancel]
            omega
          have hLd : decide ((L : Int) < 4294967296) = true := by simp; omega
          clear hc hXe
          go_wp2
          go_round
          case rel => exact ⟨G - 1, L + tp, by go_num, by go_num, HN.out, by omega, by omega⟩
          case measure => simp [intOf]; omega
        · have hend := guess_end HH HGL.out (by omega) (.inr (by omega))
          have hcI : ¬ (X : Int) < (G : Int) * (nx : Int) := by rw [← Int.natCast_mul]; omega
          have hLd : decide ((L : Int) < 4294967296) = true := by simp; omega
          clear hc hXe
          go_wp2
          go_ret
          exact ⟨G, rfl, hqG, hend, by omega, below_drewN (Below.refl _ _) _⟩
      · have hend := guess_end HH HGL.out (by omega) (.inl (by omega))
        have hLd : decide ((L : Int) < 4294967296) = false := by simp; omega
        go_wp2
        go_ret
        exact ⟨G, rfl, hqG, hend, by omega, below_drewN (Below.refl _ _) _⟩
end Go.Proofs.Ytohdfialnaegcaa
