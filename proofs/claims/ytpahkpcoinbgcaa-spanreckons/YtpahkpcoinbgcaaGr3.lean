/- The walks of takeTimes and addBack. -/
import Derived.Test.YtpahkpcoinbgcaaGr2
import Derived.Deep.LoopGhost
namespace Go.Proofs.Ytpahkpcoinbgcaa
open Go.RowKit

/-- A window of n + 1 parts from u on: the first k out of W, the others out of R; elsewhere f. -/
def winK (u n k W R : Nat) (f : Nat → Nat) (p : Nat) : Nat := if u ≤ p ∧ p ≤ u + n then (if p - u < k then lmb W (p - u) else lmb R (p - u)) else f p

theorem winK_next {u n k W W' R T : Nat} {f : Nat → Nat} (h : ∀ j, j < k → lmb W j = lmb W' j) : ∀ p, p < T → p ≠ u + k → winK u n k W R f p = winK u n (k + 1) W' R f p := by
  intro p _ hne
  unfold winK
  by_cases h1 : u ≤ p ∧ p ≤ u + n
  · rw [if_pos h1, if_pos h1]
    by_cases h2 : p - u < k
    · rw [if_pos h2, if_pos (by omega), h _ h2]
    · rw [if_neg h2, if_neg (by omega)]
  · rw [if_neg h1, if_neg h1]
theorem winK_at {u n k W R : Nat} {f : Nat → Nat} (hk : k ≤ n) : winK u n k W R f (u + k) = lmb R k := by
  unfold winK
  rw [if_pos (by omega), if_neg (by omega), show u + k - u = k from by omega]
theorem winK_put {u n k W R : Nat} {f : Nat → Nat} (hk : k ≤ n) : winK u n (k + 1) W R f (u + k) = lmb W k := by
  unfold winK
  rw [if_pos (by omega), if_pos (by omega), show u + k - u = k from by omega]
theorem winK_zero {u n W R T : Nat} {f : Nat → Nat} (h : ∀ j, j ≤ n → f (u + j) = lmb R j) : ∀ p, p < T → f p = winK u n 0 W R f p := by
  intro p _
  unfold winK
  by_cases h1 : u ≤ p ∧ p ≤ u + n
  · rw [if_pos h1, if_neg (by omega), ← h (p - u) (by omega), show u + (p - u) = p from by omega]
  · rw [if_neg h1]
theorem lmb_low (W x k : Nat) (hW : W < BB ^ k) (hx : x < 4294967296) : lmb (W + BB ^ k * x) k = x ∧ W + BB ^ k * x < BB ^ (k + 1) := by
  constructor
  · unfold lmb
    rw [Nat.add_mul_div_left _ _ (BBp k), Nat.div_eq_of_lt hW, Nat.zero_add]
    exact Nat.mod_eq_of_lt hx
  · rw [Nat.pow_succ]
    have := Nat.mul_le_mul_left (BB ^ k) (show x + 1 ≤ BB from hx)
    rw [Nat.mul_add] at this
    omega

/-- What stands after k parts were taken. -/
def Took (R D t k W cr : Nat) : Prop := cr * BB ^ k + R % BB ^ k = W + t * (D % BB ^ k) ∧ W < BB ^ k
theorem took_zero (R D t : Nat) : Took R D t 0 0 0 := ⟨by simp [Nat.mod_one], by simp⟩
theorem took_le {R D t k W cr : Nat} (h : Took R D t k W cr) : cr ≤ t := by
  obtain ⟨h1, h2⟩ := h
  have hd := Nat.mod_lt D (BBp k)
  have h3 : t * (D % BB ^ k) ≤ t * BB ^ k := Nat.mul_le_mul_left _ (Nat.le_of_lt hd)
  refine Nat.le_of_lt_succ (Nat.lt_of_mul_lt_mul_right (a := BB ^ k) ?_)
  rw [Nat.succ_mul]
  generalize R % BB ^ k = r at *
  omega
theorem took_step {R D t k W cr : Nat} (h : Took R D t k W cr) {x cr' : Nat} (hx : x < 4294967296) (he : cr' * 4294967296 + lmb R k = x + (cr + t * lmb D k)) :
    Took R D t (k + 1) (W + BB ^ k * x) cr' := by
  refine ⟨?_, (lmb_low W x k h.2 hx).2⟩
  rw [mod_succ, mod_succ, Nat.pow_succ]
  have h1 := h.1
  have e1 : cr' * (BB ^ k * BB) + BB ^ k * lmb R k = BB ^ k * x + BB ^ k * cr + BB ^ k * (t * lmb D k) := by
    have : BB ^ k * (cr' * 4294967296 + lmb R k) = BB ^ k * (x + (cr + t * lmb D k)) := by rw [he]
    rw [Nat.mul_add, Nat.mul_add, Nat.mul_add, ← Nat.add_assoc] at this
    rw [← this, ← Nat.mul_assoc, Nat.mul_comm cr' (BB ^ k), Nat.mul_assoc]; rfl
  have e2 : t * (D % BB ^ k + BB ^ k * lmb D k) = t * (D % BB ^ k) + BB ^ k * (t * lmb D k) := by rw [Nat.mul_add, Nat.mul_left_comm]
  have e3 : cr * BB ^ k = BB ^ k * cr := Nat.mul_comm _ _
  rw [e2]
  omega
/-- What was taken off: U, and whether that wrapped round. -/
def Off (R X n U : Nat) (bl : Bool) : Prop := (bl = true → U + X = R + BB ^ (n + 1) ∧ R < X) ∧ (bl = false → U + X = R) ∧ U < BB ^ (n + 1)
theorem took_end {R D t n W cr : Nat} (h : Took R D t n W cr) (hR : R < BB ^ (n + 1)) (hD : D < BB ^ n) {x : Nat} (hx : x < 4294967296)
    (hc : (cr ≤ lmb R n → x + cr = lmb R n) ∧ (lmb R n < cr → x + cr = lmb R n + 4294967296)) : Off R (t * D) n (W + BB ^ n * x) (decide (lmb R n < cr)) := by
  have h1 := h.1
  rw [Nat.mod_eq_of_lt hD] at h1
  have hr : R % BB ^ n + BB ^ n * lmb R n = R := by rw [lmb_top hR]; exact Nat.mod_add_div _ _
  refine ⟨fun hb => ?_, fun hb => ?_, (lmb_low W x n h.2 hx).2⟩
  · have hlt := of_decide_eq_true hb
    have he := hc.2 hlt
    have e1 : BB ^ n * x + BB ^ n * cr = BB ^ n * lmb R n + BB ^ (n + 1) := by
      rw [← Nat.mul_add, he, Nat.mul_add, Nat.pow_succ]; rfl
    rw [Nat.mul_comm cr] at h1
    have hlow := (lmb_low W x n h.2 hx).2
    omega
  · have hge := of_decide_eq_false hb
    have he := hc.1 (by omega)
    have e1 : BB ^ n * x + BB ^ n * cr = BB ^ n * lmb R n := by rw [← Nat.mul_add, he]
    rw [Nat.mul_comm cr] at h1
    omega

theorem take_num1 {r cr p : Nat} (hr : r < 4294967296) (hc : (r : Int) < ((cr : Int) + (p : Int)) % 4294967296) :
    ∃ x cr' : Nat, x < 4294967296 ∧ cr' * 4294967296 + r = x + (cr + p) ∧ ((r : Int) - ((cr : Int) + (p : Int))) % 4294967296 = (x : Int) ∧ ((cr : Int) + (p : Int)) / 4294967296 + 1 = (cr' : Int) :=
  ⟨r + 4294967296 - (cr + p) % 4294967296, (cr + p) / 4294967296 + 1, by omega, by omega, by omega, by omega⟩
theorem take_num2 {r cr p : Nat} (hr : r < 4294967296) (hc : ¬ (r : Int) < ((cr : Int) + (p : Int)) % 4294967296) :
    ∃ x cr' : Nat, x < 4294967296 ∧ cr' * 4294967296 + r = x + (cr + p) ∧ (r : Int) - ((cr : Int) + (p : Int)) % 4294967296 = (x : Int) ∧ ((cr : Int) + (p : Int)) / 4294967296 = (cr' : Int) :=
  ⟨r - (cr + p) % 4294967296, (cr + p) / 4294967296, by omega, by omega, by omega, by omega⟩

/-- Block g holds a window that U fills; a bool is told. -/
def PTake (t : TypeId) (g T u n R X : Nat) (f : Nat → Nat) (w : World) (e : Ending) (w' : World) : Prop :=
  ∃ (U : Nat) (bl : Bool), e = .returned (.bool bl) ∧ Off R X n U bl ∧ Own .u32 t w' g T (winK u n (n + 1) U R f) ∧ Only g w w'

set_option maxHeartbeats 1600000 in
theorem takeTimes_any (g T u n cp R D t : Nat) (da : Option Addr) (dc : Nat) (f : Nat → Nat) (w : World) (hown : Own .u32 134 w g T f) (hT : u + n < T) (hTb : T ≤ 1000000000)
    (hf : ∀ j, j ≤ n → f (u + j) = lmb R j) (hR : R < BB ^ (n + 1)) (hd : Lie .u32 w da n dc (lmb D)) (hne : ∀ p, da = some p → p.block ≠ g) (hD : D < BB ^ n) (ht : t < 4294967296) :
    Calls Try.prog 150 #[.slice (some ⟨g, u, none⟩) ((n + 1 : Nat)) cp, .slice da n dc, .int .u64 t] w (PTake 134 g T u n R (t * D) f w) := by
  have HF := Lib.hid hf
  have HR := Lib.hid hR
  have HD := Lib.hid hD
  have HNE := Lib.hid hne
  clear hf hR hD hne
  go_enter Try.func150, Try.ntmps150
  go_wp2
  go_loopw [7, 15] (fun cv iv wr => ∃ k cr W : Nat, k ≤ n ∧ iv = .int .i64 k ∧ cv = .int .u64 cr ∧ Took R D t k W cr ∧ Own .u32 134 wr g T (winK u n k W R f) ∧ Only g w wr) (fun _ iv _ => n - (intOf iv).toNat)
  case atStart => exact ⟨0, 0, 0, Nat.zero_le _, rfl, rfl, took_zero _ _ _, hown.congr (winK_zero HF.out), Only.refl _ _⟩
  case round =>
    obtain ⟨k, cr, W, hk, rfl, rfl, htk, hown1, ho1⟩ := hrel
    have hcr := took_le htk
    have c1 : wr.cell? ⟨g, u + k, none⟩ = some (.int .u32 (lmb R k)) := by rw [hown1.cell (u + k) (by omega), winK_at hk]
    have c2 := hown1.free (u + k)
    have hlr := lmb_lt R k
    have hld := lmb_lt D k
    by_cases hlt : k < n
    · obtain ⟨b1, o1, rfl, hb1⟩ := hd.some_of_pos (by omega)
      have c3 := (hd.only ho1 HNE.out).at k hlt
      obtain ⟨hpm0, hpm⟩ := mul_u32 ht hld
      have hmod : ((t : Int) * (lmb D k : Int)) = ((t * lmb D k : Nat) : Int) := (Int.natCast_mul _ _).symm
      rw [show ((t : Int) * (lmb D k : Int)) = ((t * lmb D k : Nat) : Int) from (Int.natCast_mul _ _).symm] at hpm0 hpm
      by_cases hc : (lmb R k : Int) < ((cr : Int) + ((t * lmb D k : Nat) : Int)) % 4294967296
      · obtain ⟨x, cr', hx, he, hv, hcv⟩ := take_num1 hlr hc
        have HX := Lib.hid (And.intro hv hcv)
        have HE := Lib.hid he
        rw [Int.natCast_mul] at HX hc hpm0 hpm
        clear hd hmod hv hcv he
        go_wp2
        go_roundw
        case rel => exact ⟨k + 1, cr', W + BB ^ k * x, by omega, by go_num, by rw [HX.out.2], took_step htk hx HE.out, hown1.put (by omega) (by rw [HX.out.1, winK_put (by omega), (lmb_low W x k htk.2 hx).1]) (winK_next (fun j hj => (lmb_add_hi W x k j hj).symm)), ho1.trans (Only.setCell _ _ _ _)⟩
        case measure => simp [intOf]; omega
      · obtain ⟨x, cr', hx, he, hv, hcv⟩ := take_num2 hlr hc
        have HX := Lib.hid (And.intro hv hcv)
        have HE := Lib.hid he
        rw [Int.natCast_mul] at HX hc hpm0 hpm
        clear hd hmod hv hcv he
        go_wp2
        go_roundw
        case rel => exact ⟨k + 1, cr', W + BB ^ k * x, by omega, by go_num, by rw [HX.out.2], took_step htk hx HE.out, hown1.put (by omega) (by rw [HX.out.1, winK_put (by omega), (lmb_low W x k htk.2 hx).1]) (winK_next (fun j hj => (lmb_add_hi W x k j hj).symm)), ho1.trans (Only.setCell _ _ _ _)⟩
        case measure => simp [intOf]; omega
    · obtain rfl : k = n := by omega
      by_cases hc : lmb R k < cr
      · have HO := Lib.hid (took_end htk HR.out HD.out (x := lmb R k + 4294967296 - cr) (by omega) ⟨fun _ => by omega, fun _ => by omega⟩)
        have HX : Hid (((lmb R k : Int) - (cr : Int)) % 4294967296 = ((lmb R k + 4294967296 - cr : Nat) : Int)) := by show _ = _; omega
        have hc' : decide (lmb R k < cr) = true := decide_eq_true hc
        clear hd
        go_wp2
        go_ret
        exact ⟨_, true, rfl, by rw [hc'] at HO; exact HO.out, hown1.put (by omega) (by rw [HX.out, winK_put (by omega), (lmb_low W _ k htk.2 (by omega)).1]) (winK_next (fun j hj => (lmb_add_hi W _ k j hj).symm)), ho1.trans (Only.setCell _ _ _ _)⟩
      · have HO := Lib.hid (took_end htk HR.out HD.out (x := lmb R k - cr) (by omega) ⟨fun _ => by omega, fun _ => by omega⟩)
        have HX : Hid ((lmb R k : Int) - (cr : Int) = ((lmb R k - cr : Nat) : Int)) := by show _ = _; omega
        have hc' : decide (lmb R k < cr) = false := decide_eq_false hc
        clear hd
        go_wp2
        go_ret
        exact ⟨_, false, rfl, by rw [hc'] at HO; exact HO.out, hown1.put (by omega) (by rw [HX.out, winK_put (by omega), (lmb_low W _ k htk.2 (by omega)).1]) (winK_next (fun j hj => (lmb_add_hi W _ k j hj).symm)), ho1.trans (Only.setCell _ _ _ _)⟩
end Go.Proofs.Ytpahkpcoinbgcaa

/- The walk of guessed. -/
namespace Go.Proofs.Ytpahkpcoinbgcaa
open Go.RowKit

/-- A guess of R / D that is right or 1 too great. -/
def PGuess (R D : Nat) (w : World) (e : Ending) (w' : World) : Prop := ∃ G : Nat, e = .returned (.int .u64 G) ∧ R / D ≤ G ∧ G ≤ R / D + 1 ∧ G < 4294967296 ∧ Below w.heap.size w w'

/-- What is known of the upper parts: D has tp, nx at its head, R has H, r2. -/
structure Heads (R D tp nx H r2 : Nat) : Prop where
  top : 1 ≤ tp
  qlt : R / D < 4294967296
  k1 : R / D * (tp * 4294967296 + nx) ≤ H * 4294967296 + r2
  k2 : H * 4294967296 + r2 < (R / D + 1) * (tp * 4294967296 + nx + 1)
  nxl : nx < 4294967296
  r2l : r2 < 4294967296

theorem heads_k1 {R D P d2 h3 x y : Nat} (dD : P * d2 + x = D) (dR : P * h3 + y = R) (lR : y < P) (hP : 0 < P) : R / D * d2 ≤ h3 := by
  have e3 : R / D * D ≤ R := Nat.div_mul_le_self _ _
  generalize R / D = q at *
  refine Nat.le_of_lt_succ (Nat.lt_of_mul_lt_mul_left (a := P) ?_)
  have e1 : P * (q * d2) = q * (P * d2) := Nat.mul_left_comm _ _ _
  have e2 : q * (P * d2) ≤ q * D := Nat.mul_le_mul_left _ (by omega)
  rw [Nat.mul_succ]
  omega
theorem heads_k2 {R D P d2 h3 x y z : Nat} (dD : P * d2 + x = D) (dR : P * h3 + y = R) (lD : x < P) (hz : z < D) (hq : D * (R / D) + z = R) : h3 < (R / D + 1) * (d2 + 1) := by
  generalize R / D = q at *
  refine Nat.lt_of_mul_lt_mul_left (a := P) ?_
  have e1 : P * ((q + 1) * (d2 + 1)) = (q + 1) * (P * (d2 + 1)) := Nat.mul_left_comm _ _ _
  have e2 : (q + 1) * D ≤ (q + 1) * (P * (d2 + 1)) := Nat.mul_le_mul_left _ (by rw [Nat.mul_add]; omega)
  have e3 : R < (q + 1) * D := by rw [Nat.add_mul, Nat.mul_comm q]; omega
  omega
theorem heads_of {R D n : Nat} (hn : 2 ≤ n) (hD : Fit n D) (hR : R < D * BB) : Heads R D (lmb D (n - 1)) (lmb D (n - 2)) (lmb R n * 4294967296 + lmb R (n - 1)) (lmb R (n - 2)) := by
  obtain ⟨m, rfl⟩ : ∃ m, n = m + 2 := ⟨n - 2, by omega⟩
  have hD1 := hD.1
  have hD2 := hD.2
  simp only [show m + 2 - 1 = m + 1 from rfl, show m + 2 - 2 = m from rfl] at *
  have hDp : BB ^ (m + 1) ≤ D := by rcases hD2 with h | h <;> omega
  have hpos : 0 < D := Nat.lt_of_lt_of_le (BBp _) hDp
  have hRlt : R < BB ^ (m + 2 + 1) := by
    refine Nat.lt_of_lt_of_le hR ?_
    rw [Nat.pow_succ _ (m + 2)]
    exact Nat.mul_le_mul_right _ (Nat.le_of_lt hD1)
  have eD : D / BB ^ m = lmb D (m + 1) * 4294967296 + lmb D m := by
    rw [up_split, ← lmb_top hD1]; show _ + 4294967296 * _ = _; omega
  have eR : R / BB ^ m = (lmb R (m + 2) * 4294967296 + lmb R (m + 1)) * 4294967296 + lmb R m := by
    rw [up_split, up_split R (m + 1), ← lmb_top hRlt]; show _ + 4294967296 * (_ + 4294967296 * _) = _; omega
  have dD := Nat.div_add_mod D (BB ^ m)
  have dR := Nat.div_add_mod R (BB ^ m)
  have lD := Nat.mod_lt D (BBp m)
  have lR := Nat.mod_lt R (BBp m)
  have hq := Nat.div_add_mod R D
  have hql := Nat.mod_lt R hpos
  rw [eD] at dD
  rw [eR] at dR
  have hP := BBp m
  refine ⟨?_, ?_, ?_, ?_, lmb_lt _ _, lmb_lt _ _⟩
  · rw [lmb_top hD1]
    exact Nat.div_pos hDp (BBp _)
  · exact Nat.div_lt_of_lt_mul hR
  · exact heads_k1 dD dR lR hP
  · exact heads_k2 dD dR lD hql hq
theorem guess_start {R D tp nx H r2 : Nat} (h : Heads R D tp nx H r2) : R / D ≤ H / tp := by
  refine (Nat.le_div_iff_mul_le h.top).2 ?_
  have h1 := h.k1
  have h2 := h.r2l
  rw [Nat.mul_add, ← Nat.mul_assoc] at h1
  omega
theorem guess_down {R D tp nx H r2 G L : Nat} (h : Heads R D tp nx H r2) (hG : G * tp + L = H) (hc : L * 4294967296 + r2 < G * nx) : R / D + 1 ≤ G := by
  have h1 := h.k1
  have e : G * (tp * 4294967296 + nx) = G * tp * 4294967296 + G * nx := by rw [Nat.mul_add, Nat.mul_assoc]
  have : R / D * (tp * 4294967296 + nx) < G * (tp * 4294967296 + nx) := by rw [e]; omega
  exact Nat.lt_of_mul_lt_mul_right this
theorem guess_end {R D tp nx H r2 G L : Nat} (h : Heads R D tp nx H r2) (hG : G * tp + L = H) (hGl : G < 4294967296) (hc : 4294967296 ≤ L ∨ G * nx ≤ L * 4294967296 + r2) : G ≤ R / D + 1 := by
  have hc' : G * nx ≤ L * 4294967296 + r2 := by
    rcases hc with hc | hc
    · have := Nat.mul_le_mul (show G ≤ 4294967295 by omega) (show nx ≤ 4294967295 by have := h.nxl; omega)
      omega
    · exact hc
  have h1 := h.k2
  have h2 := h.qlt
  have h3 := h.top
  have e : G * (tp * 4294967296 + nx) = G * tp * 4294967296 + G * nx := by rw [Nat.mul_add, Nat.mul_assoc]
  refine Nat.le_of_not_lt fun hlt => ?_
  have h4 := Nat.mul_le_mul_right (tp * 4294967296 + nx) (show R / D + 1 + 1 ≤ G by omega)
  rw [Nat.add_mul (R / D + 1) 1] at h4
  rw [Nat.mul_add (R / D + 1) (tp * 4294967296 + nx) 1] at h1
  omega

set_option maxRecDepth 100000 in
set_option maxHeartbeats 1600000 in
theorem guessed_any (g u n cp R D b1 o1 dc : Nat) (w : World) (hr : Lie .u32 w (some ⟨g, u, none⟩) (n + 1) cp (lmb R)) (hd : Lie .u32 w (some ⟨b1, o1, none⟩) n dc (lmb D)) (hn : 2 ≤ n) (hnb : n ≤ 1000000000)
    (hR : R < D * BB) (hD : Fit n D) :
    Calls Try.prog 149 #[.slice (some ⟨g, u, none⟩) ((n + 1 : Nat)) cp, .slice (some ⟨b1, o1, none⟩) n dc] w (PGuess R D w) := by
  have HH := heads_of hn hD hR
  clear hR hD
  have c1 := hd.at (n - 1) (by omega)
  have c2 := hd.at (n - 2) (by omega)
  have c3 := hr.at n (by omega)
  have c4 := hr.at (n - 1) (by omega)
  have c5 := hr.at (n - 2) (by omega)
  have l1 := lmb_lt D (n - 1)
  have l2 := lmb_lt D (n - 2)
  have l3 := lmb_lt R n
  have l4 := lmb_lt R (n - 1)
  have l5 := lmb_lt R (n - 2)
  have hor := or64 l3 l4
  have hH : lmb R n * 4294967296 + lmb R (n - 1) ≤ 18446744073709551615 := by omega
  generalize lmb R n * 4294967296 + lmb R (n - 1) = H at *
  generalize lmb D (n - 1) = tp at *
  generalize lmb D (n - 2) = nx at *
  generalize lmb R (n - 2) = r2 at *
  have htp := HH.top
  have hgs := guess_start HH
  have hql := HH.qlt
  clear hr hd
  obtain ⟨Q, hQ⟩ : ∃ Q, Q = H / tp := ⟨_, rfl⟩
  have hq : (H : Int) / (tp : Int) = (Q : Int) := by rw [hQ, Int.natCast_ediv]
  have hQt : Q * tp ≤ H := by rw [hQ]; exact Nat.div_mul_le_self _ _
  have hQH : Q ≤ H := Nat.le_trans (by rw [hQ]; exact Nat.div_le_self _ _) (Nat.le_refl _)
  rw [← hQ] at hgs
  have HQt := Lib.hid hQt
  have hQt0 : (0 : Int) ≤ (Q : Int) * (tp : Int) := Int.mul_nonneg (by omega) (by omega)
  have hQt1 : (Q : Int) * (tp : Int) ≤ (H : Int) := by rw [← Int.natCast_mul]; omega
  clear hQ hQt
  rcases Nat.lt_or_ge 4294967295 Q with hcq | hcq
  · have hb := Nat.mul_le_mul_right tp (show 4294967296 ≤ Q from hcq)
    have h2 := HQt.out
    have hb2 : (4294967295 : Int) * (tp : Int) ≤ H := by omega
    have hb3 : 4294967295 * tp ≤ H := by omega
    clear hb h2
    go_enter Try.func149, Try.ntmps149
    go_wp2
    go_quiet (fail)
    go_wp2
    go_quiet (fail)
    go_wp2
    go_loop [9, 10] (fun gv lv => ∃ G L : Nat, gv = .int .u64 G ∧ lv = .int .u64 L ∧ G * tp + L = H ∧ R / D ≤ G ∧ G ≤ 4294967295) (fun gv _ => (intOf gv).toNat)
    case atStart => exact ⟨4294967295, H - 4294967295 * tp, rfl, congrArg (Value.int .u64) (by omega), by omega, by omega, by omega⟩
    case round =>
      obtain ⟨G, L, rfl, rfl, hGL, hqG, hGu⟩ := hrel
      have hLH : L ≤ H := by omega
      have hGn : (0 : Int) ≤ (G : Int) * (nx : Int) ∧ (G : Int) * (nx : Int) ≤ 18446744065119617025 := mul_u32 (by omega) l2
      obtain ⟨hGn0, hGn1⟩ := hGn
      have HGL := Lib.hid hGL
      clear hGL
      by_cases hL : L < 4294967296
      · have hor2 := or64 hL l5
        obtain ⟨X, hXe⟩ : ∃ X, X = L * 4294967296 + r2 := ⟨_, rfl⟩
        rw [← hXe] at hor2
        have hX : X ≤ 18446744073709551615 := by omega
        by_cases hc : L * 4294967296 + r2 < G * nx
        · have hdn := guess_down HH HGL.out hc
          have hG1 : 1 ≤ G := Nat.le_trans (Nat.le_add_left 1 _) hdn
          have hcI : (X : Int) < (G : Int) * (nx : Int) := by rw [← Int.natCast_mul]; omega
          have HN : Hid ((G - 1) * tp + (L + tp) = H) := by
            show _ = _
            have h1 := HGL.out
            obtain ⟨G', rfl⟩ : ∃ G', G = G' + 1 := ⟨G - 1, by omega⟩
            rw [Nat.add_mul] at h1
            simp only [Nat.add_sub_cancel]
            omega
          have hLd : decide ((L : Int) < 4294967296) = true := by simp; omega
          clear hc hXe
          go_wp2
          go_round
          case rel => exact ⟨G - 1, L + tp, by go_num, by go_num, HN.out, by omega, by omega⟩
          case measure => simp [intOf]; omega
        · have hend := guess_end HH HGL.out (by omega) (.inr (by omega))
          have hcI : ¬ (X : Int) < (G : Int) * (nx : Int) := by rw [← Int.natCast_mul]; omega
          have hLd : decide ((L : Int) < 4294967296) = true := by simp; omega
          clear hc hXe
          go_wp2
          go_ret
          exact ⟨G, rfl, hqG, hend, by omega, below_drewN (Below.refl _ _) _⟩
      · have hend := guess_end HH HGL.out (by omega) (.inl (by omega))
        have hLd : decide ((L : Int) < 4294967296) = false := by simp; omega
        go_wp2
        go_ret
        exact ⟨G, rfl, hqG, hend, by omega, below_drewN (Below.refl _ _) _⟩
  · have h2 := HQt.out
    have HL : Hid ((H : Int) - (Q : Int) * (tp : Int) = ((H - Q * tp : Nat) : Int)) := by show _ = _; rw [← Int.natCast_mul]; omega
    clear h2
    go_enter Try.func149, Try.ntmps149
    go_wp2
    go_quiet (fail)
    go_wp2
    go_quiet (fail)
    go_wp2
    go_loop [9, 10] (fun gv lv => ∃ G L : Nat, gv = .int .u64 G ∧ lv = .int .u64 L ∧ G * tp + L = H ∧ R / D ≤ G ∧ G ≤ 4294967295) (fun gv _ => (intOf gv).toNat)
    case atStart => exact ⟨Q, H - Q * tp, rfl, congrArg (Value.int .u64) HL.out, by have := HQt.out; omega, by omega, by omega⟩
    case round =>
      obtain ⟨G, L, rfl, rfl, hGL, hqG, hGu⟩ := hrel
      have hLH : L ≤ H := by omega
      have hGn : (0 : Int) ≤ (G : Int) * (nx : Int) ∧ (G : Int) * (nx : Int) ≤ 18446744065119617025 := mul_u32 (by omega) l2
      obtain ⟨hGn0, hGn1⟩ := hGn
      have HGL := Lib.hid hGL
      clear hGL
      by_cases hL : L < 4294967296
      · have hor2 := or64 hL l5
        obtain ⟨X, hXe⟩ : ∃ X, X = L * 4294967296 + r2 := ⟨_, rfl⟩
        rw [← hXe] at hor2
        have hX : X ≤ 18446744073709551615 := by omega
        by_cases hc : L * 4294967296 + r2 < G * nx
        · have hdn := guess_down HH HGL.out hc
          have hG1 : 1 ≤ G := Nat.le_trans (Nat.le_add_left 1 _) hdn
          have hcI : (X : Int) < (G : Int) * (nx : Int) := by rw [← Int.natCast_mul]; omega
          have HN : Hid ((G - 1) * tp + (L + tp) = H) := by
            show _ = _
            have h1 := HGL.out
            obtain ⟨G', rfl⟩ : ∃ G', G = G' + 1 := ⟨G - 1, by omega⟩
            rw [Nat.add_mul] at h1
            simp only [Nat.add_sub_cancel]
            omega
          have hLd : decide ((L : Int) < 4294967296) = true := by simp; omega
          clear hc hXe
          go_wp2
          go_round
          case rel => exact ⟨G - 1, L + tp, by go_num, by go_num, HN.out, by omega, by omega⟩
          case measure => simp [intOf]; omega
        · have hend := guess_end HH HGL.out (by omega) (.inr (by omega))
          have hcI : ¬ (X : Int) < (G : Int) * (nx : Int) := by rw [← Int.natCast_mul]; omega
          have hLd : decide ((L : Int) < 4294967296) = true := by simp; omega
          clear hc hXe
          go_wp2
          go_ret
          exact ⟨G, rfl, hqG, hend, by omega, below_drewN (Below.refl _ _) _⟩
      · have hend := guess_end HH HGL.out (by omega) (.inl (by omega))
        have hLd : decide ((L : Int) < 4294967296) = false := by simp; omega
        go_wp2
        go_ret
        exact ⟨G, rfl, hqG, hend, by omega, below_drewN (Below.refl _ _) _⟩
end Go.Proofs.Ytpahkpcoinbgcaa

/- The walk of addBack. -/
namespace Go.Proofs.Ytpahkpcoinbgcaa
open Go.RowKit

def PAddb (t : TypeId) (g T u n S R : Nat) (f : Nat → Nat) (w : World) (e : Ending) (w' : World) : Prop :=
  e = .returned (.tuple #[]) ∧ Own .u32 t w' g T (winK u n (n + 1) S R f) ∧ Only g w w'

set_option maxHeartbeats 1600000 in
theorem addBack_any (g T u n cp U D : Nat) (da : Option Addr) (dc : Nat) (f : Nat → Nat) (w : World) (hown : Own .u32 134 w g T f) (hT : u + n < T) (hTb : T ≤ 1000000000)
    (hf : ∀ j, j ≤ n → f (u + j) = lmb U j) (hd : Lie .u32 w da n dc (lmb D)) (hne : ∀ p, da = some p → p.block ≠ g) (hD : D < BB ^ n) :
    Calls Try.prog 151 #[.slice (some ⟨g, u, none⟩) ((n + 1 : Nat)) cp, .slice da n dc] w (PAddb 134 g T u n (U + D) U f w) := by
  have HF := Lib.hid hf
  have HD := Lib.hid hD
  have HNE := Lib.hid hne
  clear hf hD hne
  go_enter Try.func151, Try.ntmps151
  go_wp2
  go_loopw [4, 9] (fun cv iv wr => ∃ k : Nat, k ≤ n ∧ iv = .int .i64 k ∧ cv = .int .u64 (cy U D k) ∧ Own .u32 134 wr g T (winK u n k (U + D) U f) ∧ Only g w wr) (fun _ iv _ => n - (intOf iv).toNat)
  case atStart => exact ⟨0, Nat.zero_le _, rfl, by rw [cy_zero]; rfl, hown.congr (winK_zero HF.out), Only.refl _ _⟩
  case round =>
    obtain ⟨k, hk, rfl, rfl, hown1, ho1⟩ := hrel
    have hcb := cy_le U D k
    have hst := cy_step U D k
    have c1 : wr.cell? ⟨g, u + k, none⟩ = some (.int .u32 (lmb U k)) := by rw [hown1.cell (u + k) (by omega), winK_at hk]
    have c2 := hown1.free (u + k)
    have hlr := lmb_lt U k
    have hld := lmb_lt D k
    by_cases hlt : k < n
    · obtain ⟨b1, o1, rfl, hb1⟩ := hd.some_of_pos (by omega)
      have c3 := (hd.only ho1 HNE.out).at k hlt
      have HX : Hid (((cy U D k : Int) + ((lmb U k : Int) + (lmb D k : Int))) % 4294967296 = ((lmb (U + D) k : Nat) : Int) ∧ ((cy U D k : Int) + ((lmb U k : Int) + (lmb D k : Int))) / 4294967296 = ((cy U D (k + 1) : Nat) : Int)) := by
        show _ ∧ _; omega
      clear hd hst
      go_wp2
      go_roundw
      case rel => exact ⟨k + 1, by omega, by go_num, by rw [HX.out.2], hown1.put (by omega) (by rw [HX.out.1, winK_put (by omega)]) (winK_next (fun j hj => rfl)), ho1.trans (Only.setCell _ _ _ _)⟩
      case measure => simp [intOf]; omega
    · obtain rfl : k = n := by omega
      have h0 := lmb_zero HD.out (Nat.le_refl k)
      have HX : Hid (((lmb U k : Int) + (cy U D k : Int)) % 4294967296 = ((lmb (U + D) k : Nat) : Int)) := by
        show _ = _; rw [h0] at hst; omega
      clear hd hst h0
      go_wp2
      go_end0
      exact ⟨rfl, hown1.put (by omega) (by rw [HX.out, winK_put (by omega)]) (winK_next (fun j hj => rfl)), ho1.trans (Only.setCell _ _ _ _)⟩
end Go.Proofs.Ytpahkpcoinbgcaa

/- The walk of nextPart. -/
namespace Go.Proofs.Ytpahkpcoinbgcaa
open Go.RowKit

theorem grown_below {w w' : World} (g : Nat) (h : Below w.heap.size w w') : w.grownBy w' (some g) := ⟨h.os, h.tape, h.output, h.size, fun k hk _ => h.block k hk⟩
theorem grown_only {w w' : World} {g : Nat} (h : Only g w w') : w.grownBy w' (some g) := ⟨h.os, h.tape, h.output, by rw [h.size]; exact Nat.le_refl _, fun k _ hk => h.block k (fun e => hk (by rw [e]))⟩
theorem grown_trans {a b c : World} {r : Option Nat} (h : a.grownBy b r) (k : b.grownBy c r) : a.grownBy c r :=
  ⟨k.os.trans h.os, k.tape.trans h.tape, k.output.trans h.output, Nat.le_trans h.size k.size, fun i hi hr => (k.block i (Nat.lt_of_lt_of_le hi h.size) hr).trans (h.block i hi hr)⟩

/-- A part of a quotient is told; the window holds what is left. -/
def PNext (t : TypeId) (g T u n R D : Nat) (f : Nat → Nat) (w : World) (e : Ending) (w' : World) : Prop :=
  e = .returned (.int .u32 ((R / D : Nat) : Int)) ∧ Own .u32 t w' g T (winK u n (n + 1) (R % D) R f) ∧ w.grownBy w' (some g)

theorem winK_all {u n U R j : Nat} {f : Nat → Nat} (hj : j ≤ n) : winK u n (n + 1) U R f (u + j) = lmb U j := by
  unfold winK
  rw [if_pos (by omega), if_pos (by omega), show u + j - u = j from by omega]
theorem winK_win {u n U V S R T : Nat} {f : Nat → Nat} (h : ∀ j, j ≤ n → lmb V j = lmb S j) : ∀ p, p < T → winK u n (n + 1) V U (winK u n (n + 1) U R f) p = winK u n (n + 1) S R f p := by
  intro p _
  unfold winK
  by_cases h1 : u ≤ p ∧ p ≤ u + n
  · rw [if_pos h1, if_pos h1, if_pos (by omega), if_pos (by omega), h _ (by omega)]
  · rw [if_neg h1, if_neg h1, if_neg h1]
theorem off_no {R D n U G : Nat} (h : Off R (G * D) n U false) (hD : 0 < D) (hG : R / D ≤ G) : G = R / D ∧ U = R % D := by
  have h1 := h.2.1 rfl
  have h2 : G ≤ R / D := (Nat.le_div_iff_mul_le hD).2 (by omega)
  have h3 : G = R / D := by omega
  subst h3
  have := Nat.div_add_mod R D
  rw [Nat.mul_comm] at this
  exact ⟨rfl, by omega⟩
theorem off_yes {R D n U G : Nat} (h : Off R (G * D) n U true) (hD : 0 < D) (hG : G ≤ R / D + 1) : G = R / D + 1 ∧ ∀ j, j ≤ n → lmb (U + D) j = lmb (R % D) j := by
  obtain ⟨h1, h2⟩ := h.1 rfl
  have h3 : R / D < G := (Nat.div_lt_iff_lt_mul hD).2 h2
  have h4 : G = R / D + 1 := by omega
  refine ⟨h4, fun j hj => ?_⟩
  have := Nat.div_add_mod R D
  rw [h4, Nat.add_mul, Nat.mul_comm] at h1
  rw [show U + D = R % D + BB ^ (n + 1) * 1 from by omega]
  exact lmb_add_hi _ _ _ _ (by omega)

set_option maxHeartbeats 800000 in
theorem nextPart_any (g T u n cp R D b1 o1 dc : Nat) (f : Nat → Nat) (w : World) (hown : Own .u32 134 w g T f) (hT : u + n < T) (hTb : T ≤ 1000000000) (hcp : n + 1 ≤ cp) (hcm : cp ≤ maxLen)
    (hf : ∀ j, j ≤ n → f (u + j) = lmb R j) (hd : Lie .u32 w (some ⟨b1, o1, none⟩) n dc (lmb D)) (hne : b1 ≠ g) (hn : 2 ≤ n) (hR : R < D * BB) (hD : Fit n D) :
    Calls Try.prog 147 #[.slice (some ⟨g, u, none⟩) ((n + 1 : Nat)) cp, .slice (some ⟨b1, o1, none⟩) n dc] w (PNext 134 g T u n R D f w) := by
  have HF := Lib.hid hf
  have HD := Lib.hid hD
  have HR := Lib.hid hR
  have hDp : 0 < D := by
    refine Nat.pos_of_ne_zero fun h => ?_
    have := (fit_pos hD).2 h
    omega
  have HRl : Hid (R < BB ^ (n + 1)) := Nat.lt_of_lt_of_le hR (by rw [Nat.pow_succ]; exact Nat.mul_le_mul_right _ (Nat.le_of_lt hD.1))
  have hr : Lie .u32 w (some ⟨g, u, none⟩) (n + 1) cp (lmb R) :=
    ⟨hcp, hcm, (fun e => by cases e), (fun p hp => by cases hp; exact ⟨rfl, hown.lt⟩), (fun p hp i hi => by cases hp; rw [hown.cell (u + i) (by omega), hf i (by omega)])⟩
  have HNE : Hid (∀ p : Addr, some (⟨b1, o1, none⟩ : Addr) = some p → p.block ≠ g) := fun p hp => by cases hp; exact hne
  clear hf hD hR hne
  go_enter Try.func147, Try.ntmps147
  go_wp2_with fail
  refine (guessed_any g u n cp R D b1 o1 dc _ hr hd hn (by omega) HR.out HD.out).mono ?_
  rintro e w1 ⟨G, rfl, hG1, hG2, hG3, hb1⟩
  have hown1 := hown.below hb1
  have hd1 := hd.below hb1
  clear hr hown hd
  go_wp2_with fail
  refine (takeTimes_any g T u n cp R D G (some ⟨b1, o1, none⟩) dc f _ hown1 hT hTb HF.out HRl.out hd1 HNE.out HD.out.1 hG3).mono ?_
  rintro e w2 ⟨U, bl, rfl, hoff, hown2, ho2⟩
  cases bl
  · obtain ⟨e1, e2⟩ := off_no hoff hDp hG1
    have H1 := Lib.hid e1
    have H2 := Lib.hid e2
    clear e1 e2 hG1 hG2
    go_wp2
    go_ret
    exact ⟨by rw [← H1.out]; rfl, by rw [← H2.out]; exact hown2, grown_trans (grown_below g hb1) (grown_only ho2)⟩
  · obtain ⟨e1, e2⟩ := off_yes hoff hDp hG2
    have H1 := Lib.hid e1
    have H2 := Lib.hid e2
    have hGp : 1 ≤ G := by rw [e1]; exact Nat.le_add_left _ _
    have hd2 := hd1.only ho2 HNE.out
    have HE : Hid ((G : Int) - 1 = ((R / D : Nat) : Int)) := by show _ = _; rw [e1]; omega
    clear e1 e2 hG1 hG2 hd1
    go_wp2_with fail
    refine (addBack_any g T u n cp U D (some ⟨b1, o1, none⟩) dc _ _ hown2 hT hTb (fun j hj => winK_all hj) hd2 HNE.out HD.out.1).mono ?_
    rintro e w3 ⟨rfl, hown3, ho3⟩
    go_wp2
    go_ret
    exact ⟨ret_int HE.out, hown3.congr (winK_win H2.out), grown_trans (grown_trans (grown_below g hb1) (grown_only ho2)) (grown_only ho3)⟩
end Go.Proofs.Ytpahkpcoinbgcaa

/- The walk of groupsOf. -/
namespace Go.Proofs.Ytpahkpcoinbgcaa
open Go.RowKit

/-- The i-th group of nine digits. -/
def grp (N i : Nat) : Nat := N / 1000000000 ^ i % 1000000000
theorem grp_bound {N n i : Nat} (hN : N < BB ^ n) (h : 0 < N / 1000000000 ^ i) : i < 2 * n := by
  have h1 : 1000000000 ^ i ≤ N := by
    rcases Nat.lt_or_ge N (1000000000 ^ i) with h2 | h2
    · rw [Nat.div_eq_of_lt h2] at h; omega
    · exact h2
  refine Nat.lt_of_not_le fun hc => ?_
  have h3 : BB ^ n ≤ 1000000000 ^ i := by
    refine Nat.le_trans ?_ (Nat.pow_le_pow_right (by decide) hc)
    rw [Nat.pow_mul]
    exact Nat.pow_le_pow_left (by decide) n
  omega
theorem grp_next (N i : Nat) : N / 1000000000 ^ i / 1000000000 = N / 1000000000 ^ (i + 1) := by rw [Nat.div_div_eq_div_mul, Nat.pow_succ]

/-- Groups of a number are handed back. -/
def PGrp (N n : Nat) (w : World) (e : Ending) (w' : World) : Prop :=
  ∃ (a : Option Addr) (i c : Nat), e = .returned (.slice a i c) ∧ Lie .u32 w' a i c (grp N) ∧ N < 1000000000 ^ i ∧ i ≤ 2 * n ∧ Below w.heap.size w w'

/-- The values of a list's numbers. -/
def vals (k : IntKind) (f : Nat → Nat) (n : Nat) : List Value := (List.range n).map fun i => Value.int k (f i : Nat)
theorem vals_len (k : IntKind) (f : Nat → Nat) (n : Nat) : (vals k f n).length = n := by simp [vals]
theorem vals_succ (k : IntKind) (f : Nat → Nat) (n : Nat) : vals k f n ++ [Value.int k (f n : Nat)] = vals k f (n + 1) := by simp [vals, List.range_succ]
theorem vals_get (k : IntKind) (f : Nat → Nat) (n i : Nat) (h : i < n) : (vals k f n)[i]? = some (Value.int k (f i : Nat)) := by simp [vals, h]
/-- What is owned by append's laws lies there. -/
theorem lie_owned {k : IntKind} {w : World} {base : Nat} {e : TypeId} {v : Value} {n : Nat} {f : Nat → Nat} (h : w.ownsRow base e 1 v n (vals k f n)) :
    ∃ (a : Option Addr) (c : Nat), v = .slice a n c ∧ Lie k w a n c f := by
  have hcs := h.2
  rcases hcs with ⟨rfl, rfl⟩ | ⟨g, cap, cur, rfl, hb, hg, hc, hm, hs, ht⟩
  · exact ⟨none, 0, rfl, lie_nil _ _ _⟩
  · refine ⟨_, cap, rfl, hc, hm, (fun e => by cases e), (fun p hp => by cases hp; exact ⟨rfl, (Array.getElem?_eq_some_iff.1 hg).1⟩), (fun p hp i hi => ?_)⟩
    cases hp
    have := h.cells (g := g) rfl i _ (vals_get k f n i hi)
    rw [show (⟨g, 0, none⟩ : Addr).add i = ⟨g, 0 + i, none⟩ from by unfold Addr.add; split <;> simp_all] at this
    exact this

theorem Lie.congr {k : IntKind} {w : World} {a : Option Addr} {n c : Nat} {f f' : Nat → Nat} (h : Lie k w a n c f) (hf : ∀ i, i < n → f i = f' i) : Lie k w a n c f' :=
  ⟨h.cap, h.capm, h.nil, h.spot, fun p hp i hi => by rw [← hf i hi]; exact h.cell p hp i hi⟩
theorem Own.grown' {k : IntKind} {e : TypeId} {w w' : World} {g n : Nat} {f : Nat → Nat} {r : Option Nat} (h : Own k e w g n f) (hg : w.grownBy w' r) (hr : r ≠ some g) : Own k e w' g n f := by
  unfold Own at h ⊢
  rw [hg.block g (Array.getElem?_eq_some_iff.1 h).1 (fun e => hr e.symm)]; exact h

end Go.Proofs.Ytpahkpcoinbgcaa
