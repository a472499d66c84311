/- Parts of the proof. -/
import Derived.Test.YtpahkpcoinbgcaaGs1
import Derived.Deep.LoopGhost
import Derived.Test.YtpahkpcoinbgcaaShelf
import Derived.Lib.Strings
import Derived.Lib.ItoaNum
/- The walks of takeTimes and addBack. -/
namespace Go.Proofs.Ytpahkpcoinbgcaa
open Go.RowKit
/-- A window of n + 1 parts from u on: the first k out of W, the others out of R; elsewhere f. -/
def winK (u n k W R : Nat) (f : Nat → Nat) (p : Nat) : Nat := if u ≤ p ∧ p ≤ u + n then (if p - u < k then lmb W (p - u) else lmb R (p - u)) else f p
theorem winK_next {u n k W W' R T : Nat} {f : Nat → Nat} (h : ∀ j, j < k → lmb W j = lmb W' j) : ∀ p, p < T → p ≠ u + k → winK u n k W R f p = winK u n (k + 1) W' R f p := by
 intro p _ hne
 unfold winK
 by_cases h1 : u ≤ p ∧ p ≤ u + n
 ·
  rw [if_pos h1, if_pos h1]
  by_cases h2 : p - u < k
  ·
   rw [if_pos h2, if_pos (by omega), h _ h2]
  ·
   rw [if_neg h2, if_neg (by omega)]
 ·
  rw [if_neg h1, if_neg h1]
theorem winK_at {u n k W R : Nat} {f : Nat → Nat} (hk : k ≤ n) : winK u n k W R f (u + k) = lmb R k := by
 unfold winK
 rw [if_pos (by omega), if_neg (by omega), show u + k - u = k from by omega]
theorem winK_put {u n k W R : Nat} {f : Nat → Nat} (hk : k ≤ n) : winK u n (k + 1) W R f (u + k) = lmb W k := by
 unfold winK
 rw [if_pos (by omega), if_pos (by omega), show u + k - u = k from by omega]
theorem winK_zero {u n W R T : Nat} {f : Nat → Nat} (h : ∀ j, j ≤ n → f (u + j) = lmb R j) : ∀ p, p < T → f p = winK u n 0 W R f p := by
 intro p _
 unfold winK
 by_cases h1 : u ≤ p ∧ p ≤ u + n
 ·
  rw [if_pos h1, if_neg (by omega), ← h (p - u) (by omega), show u + (p - u) = p from by omega]
 ·
  rw [if_neg h1]
theorem lmb_low (W x k : Nat) (hW : W < BB ^ k) (hx : x < 4294967296) : lmb (W + BB ^ k * x) k = x ∧ W + BB ^ k * x < BB ^ (k + 1) := by
 constructor
 ·
  unfold lmb
  rw [Nat.add_mul_div_left _ _ (BBp k), Nat.div_eq_of_lt hW, Nat.zero_add]
  exact Nat.mod_eq_of_lt hx
 ·
  rw [Nat.pow_succ]
  have := Nat.mul_le_mul_left (BB ^ k) (show x + 1 ≤ BB from hx)
  rw [Nat.mul_add] at this
  omega
/-- What stands after k parts were taken. -/
def Took (R D t k W cr : Nat) : Prop := cr * BB ^ k + R % BB ^ k = W + t * (D % BB ^ k) ∧ W < BB ^ k
theorem took_zero (R D t : Nat) : Took R D t 0 0 0 := ⟨by simp [Nat.mod_one], by simp⟩
theorem took_le {R D t k W cr : Nat} (h : Took R D t k W cr) : cr ≤ t := by
 obtain ⟨h1, h2⟩ := h
 have hd := Nat.mod_lt D (BBp k)
 have h3 : t * (D % BB ^ k) ≤ t * BB ^ k := Nat.mul_le_mul_left _ (Nat.le_of_lt hd)
 refine Nat.le_of_lt_succ (Nat.lt_of_mul_lt_mul_right (a := BB ^ k) ?_)
 rw [Nat.succ_mul]
 generalize R % BB ^ k = r at *
 omega
theorem took_step {R D t k W cr : Nat} (h : Took R D t k W cr) {x cr' : Nat} (hx : x < 4294967296) (he : cr' * 4294967296 + lmb R k = x + (cr + t * lmb D k)) :
  Took R D t (k + 1) (W + BB ^ k * x) cr' := by
 refine ⟨?_, (lmb_low W x k h.2 hx).2⟩
 rw [mod_succ, mod_succ, Nat.pow_succ]
 have h1 := h.1
 have e1 : cr' * (BB ^ k * BB) + BB ^ k * lmb R k = BB ^ k * x + BB ^ k * cr + BB ^ k * (t * lmb D k) := by
  have : BB ^ k * (cr' * 4294967296 + lmb R k) = BB ^ k * (x + (cr + t * lmb D k)) := by rw [he]
  rw [Nat.mul_add, Nat.mul_add, Nat.mul_add, ← Nat.add_assoc] at this
  rw [← this, ← Nat.mul_assoc, Nat.mul_comm cr' (BB ^ k), Nat.mul_assoc]; rfl
 have e2 : t * (D % BB ^ k + BB ^ k * lmb D k) = t * (D % BB ^ k) + BB ^ k * (t * lmb D k) := by rw [Nat.mul_add, Nat.mul_left_comm]
 have e3 : cr * BB ^ k = BB ^ k * cr := Nat.mul_comm _ _
 rw [e2]
 omega
/-- What was taken off: U, and whether that wrapped round. -/
def Off (R X n U : Nat) (bl : Bool) : Prop := (bl = true → U + X = R + BB ^ (n + 1) ∧ R < X) ∧ (bl = false → U + X = R) ∧ U < BB ^ (n + 1)
theorem took_end {R D t n W cr : Nat} (h : Took R D t n W cr) (hR : R < BB ^ (n + 1)) (hD : D < BB ^ n) {x : Nat} (hx : x < 4294967296)
  (hc : (cr ≤ lmb R n → x + cr = lmb R n) ∧ (lmb R n < cr → x + cr = lmb R n + 4294967296)) : Off R (t * D) n (W + BB ^ n * x) (decide (lmb R n < cr)) := by
 have h1 := h.1
 rw [Nat.mod_eq_of_lt hD] at h1
 have hr : R % BB ^ n + BB ^ n * lmb R n = R := by rw [lmb_top hR]; exact Nat.mod_add_div _ _
 refine ⟨fun hb => ?_, fun hb => ?_, (lmb_low W x n h.2 hx).2⟩
 ·
  have hlt := of_decide_eq_true hb
  have he := hc.2 hlt
  have e1 : BB ^ n * x + BB ^ n * cr = BB ^ n * lmb R n + BB ^ (n + 1) := by
   rw [← Nat.mul_add, he, Nat.mul_add, Nat.pow_succ]; rfl
  rw [Nat.mul_comm cr] at h1
  have hlow := (lmb_low W x n h.2 hx).2
  omega
 ·
  have hge := of_decide_eq_false hb
  have he := hc.1 (by omega)
  have e1 : BB ^ n * x + BB ^ n * cr = BB ^ n * lmb R n := by rw [← Nat.mul_add, he]
  rw [Nat.mul_comm cr] at h1
  omega
theorem take_num1 {r cr p : Nat} (hr : r < 4294967296) (hc : (r : Int) < ((cr : Int) + (p : Int)) % 4294967296) :
  ∃ x cr' : Nat, x < 4294967296 ∧ cr' * 4294967296 + r = x + (cr + p) ∧ ((r : Int) - ((cr : Int) + (p : Int))) % 4294967296 = (x : Int) ∧ ((cr : Int) + (p : Int)) / 4294967296 + 1 = (cr' : Int) :=
 ⟨r + 4294967296 - (cr + p) % 4294967296, (cr + p) / 4294967296 + 1, by omega, by omega, by omega, by omega⟩
theorem take_num2 {r cr p : Nat} (hr : r < 4294967296) (hc : ¬ (r : Int) < ((cr : Int) + (p : Int)) % 4294967296) :
  ∃ x cr' : Nat, x < 4294967296 ∧ cr' * 4294967296 + r = x + (cr + p) ∧ (r : Int) - ((cr : Int) + (p : Int)) % 4294967296 = (x : Int) ∧ ((cr : Int) + (p : Int)) / 4294967296 = (cr' : Int) :=
 ⟨r - (cr + p) % 4294967296, (cr + p) / 4294967296, by omega, by omega, by omega, by omega⟩
/-- Block g holds a window that U fills; a bool is told. -/
def PTake (t : TypeId) (g T u n R X : Nat) (f : Nat → Nat) (w : World) (e : Ending) (w' : World) : Prop :=
 ∃ (U : Nat) (bl : Bool), e = .returned (.bool bl) ∧ Off R X n U bl ∧ Own .u32 t w' g T (winK u n (n + 1) U R f) ∧ Only g w w'
set_option maxHeartbeats 1600000 in
theorem takeTimes_any (g T u n cp R D t : Nat) (da : Option Addr) (dc : Nat) (f : Nat → Nat) (w : World) (hown : Own .u32 134 w g T f) (hT : u + n < T) (hTb : T ≤ 1000000000)
  (hf : ∀ j, j ≤ n → f (u + j) = lmb R j) (hR : R < BB ^ (n + 1)) (hd : Lie .u32 w da n dc (lmb D)) (hne : ∀ p, da = some p → p.block ≠ g) (hD : D < BB ^ n) (ht : t < 4294967296) :
  Calls Try.prog 150 #[.slice (some ⟨g, u, none⟩) ((n + 1 : Nat)) cp, .slice da n dc, .int .u64 t] w (PTake 134 g T u n R (t * D) f w) := by
 have HF := Lib.hid hf
 have HR := Lib.hid hR
 have HD := Lib.hid hD
 have HNE := Lib.hid hne
 clear hf hR hD hne
 go_enter Try.func150, Try.ntmps150
 go_wp2
 go_loopw [7, 15] (fun cv iv wr => ∃ k cr W : Nat, k ≤ n ∧ iv = .int .i64 k ∧ cv = .int .u64 cr ∧ Took R D t k W cr ∧ Own .u32 134 wr g T (winK u n k W R f) ∧ Only g w wr) (fun _ iv _ => n - (intOf iv).toNat)
 case atStart => exact ⟨0, 0, 0, Nat.zero_le _, rfl, rfl, took_zero _ _ _, hown.congr (winK_zero HF.out), Only.refl _ _⟩
 case round =>
  obtain ⟨k, cr, W, hk, rfl, rfl, htk, hown1, ho1⟩ := hrel
  have hcr := took_le htk
  have c1 : wr.cell? ⟨g, u + k, none⟩ = some (.int .u32 (lmb R k)) := by rw [hown1.cell (u + k) (by omega), winK_at hk]
  have c2 := hown1.free (u + k)
  have hlr := lmb_lt R k
  have hld := lmb_lt D k
  by_cases hlt : k < n
  ·
   obtain ⟨b1, o1, rfl, hb1⟩ := hd.some_of_pos (by omega)
   have c3 := (hd.only ho1 HNE.out).at k hlt
   obtain ⟨hpm0, hpm⟩ := mul_u32 ht hld
   have hmod : ((t : Int) * (lmb D k : Int)) = ((t * lmb D k : Nat) : Int) := (Int.natCast_mul _ _).symm
   rw [show ((t : Int) * (lmb D k : Int)) = ((t * lmb D k : Nat) : Int) from (Int.natCast_mul _ _).symm] at hpm0 hpm
   by_cases hc : (lmb R k : Int) < ((cr : Int) + ((t * lmb D k : Nat) : Int)) % 4294967296
   ·
    obtain ⟨x, cr', hx, he, hv, hcv⟩ := take_num1 hlr hc
    have HX := Lib.hid (And.intro hv hcv)
    have HE := Lib.hid he
    rw [Int.natCast_mul] at HX hc hpm0 hpm
    clear hd hmod hv hcv he
    go_wp2
    go_roundw
    case rel => exact ⟨k + 1, cr', W + BB ^ k * x, by omega, by go_num, by rw [HX.out.2], took_step htk hx HE.out, hown1.put (by omega) (by rw [HX.out.1, winK_put (by omega), (lmb_low W x k htk.2 hx).1]) (winK_next (fun j hj => (lmb_add_hi W x k j hj).symm)), ho1.trans (Only.setCell _ _ _ _)⟩
    case measure => simp [intOf]; omega
   ·
    obtain ⟨x, cr', hx, he, hv, hcv⟩ := take_num2 hlr hc
    have HX := Lib.hid (And.intro hv hcv)
    have HE := Lib.hid he
    rw [Int.natCast_mul] at HX hc hpm0 hpm
    clear hd hmod hv hcv he
    go_wp2
    go_roundw
    case rel => exact ⟨k + 1, cr', W + BB ^ k * x, by omega, by go_num, by rw [HX.out.2], took_step htk hx HE.out, hown1.put (by omega) (by rw [HX.out.1, winK_put (by omega), (lmb_low W x k htk.2 hx).1]) (winK_next (fun j hj => (lmb_add_hi W x k j hj).symm)), ho1.trans (Only.setCell _ _ _ _)⟩
    case measure => simp [intOf]; omega
  ·
   obtain rfl : k = n := by omega
   by_cases hc : lmb R k < cr
   ·
    have HO := Lib.hid (took_end htk HR.out HD.out (x := lmb R k + 4294967296 - cr) (by omega) ⟨fun _ => by omega, fun _ => by omega⟩)
    have HX : Hid (((lmb R k : Int) - (cr : Int)) % 4294967296 = ((lmb R k + 4294967296 - cr : Nat) : Int)) := by show _ = _; omega
    have hc' : decide (lmb R k < cr) = true := decide_eq_true hc
    clear hd
    go_wp2
    go_ret
    exact ⟨_, true, rfl, by rw [hc'] at HO; exact HO.out, hown1.put (by omega) (by rw [HX.out, winK_put (by omega), (lmb_low W _ k htk.2 (by omega)).1]) (winK_next (fun j hj => (lmb_add_hi W _ k j hj).symm)), ho1.trans (Only.setCell _ _ _ _)⟩
   ·
    have HO := Lib.hid (took_end htk HR.out HD.out (x := lmb R k - cr) (by omega) ⟨fun _ => by omega, fun _ => by omega⟩)
    have HX : Hid ((lmb R k : Int) - (cr : Int) = ((lmb R k - cr : Nat) : Int)) := by show _ = _; omega
    have hc' : decide (lmb R k < cr) = false := decide_eq_false hc
    clear hd
    go_wp2
    go_ret
    exact ⟨_, false, rfl, by rw [hc'] at HO; exact HO.out, hown1.put (by omega) (by rw [HX.out, winK_put (by omega), (lmb_low W _ k htk.2 (by omega)).1]) (winK_next (fun j hj => (lmb_add_hi W _ k j hj).symm)), ho1.trans (Only.setCell _ _ _ _)⟩
end Go.Proofs.Ytpahkpcoinbgcaa

/- The walk of guessed. -/
namespace Go.Proofs.Ytpahkpcoinbgcaa
open Go.RowKit
/-- A guess of R / D that is right or 1 too great. -/
def PGuess (R D : Nat) (w : World) (e : Ending) (w' : World) : Prop := ∃ G : Nat, e = .returned (.int .u64 G) ∧ R / D ≤ G ∧ G ≤ R / D + 1 ∧ G < 4294967296 ∧ Below w.heap.size w w'
/-- What is known of the upper parts: D has tp, nx at its head, R has H, r2. -/
structure Heads (R D tp nx H r2 : Nat) : Prop where
 top : 1 ≤ tp
 qlt : R / D < 4294967296
 k1 : R / D * (tp * 4294967296 + nx) ≤ H * 4294967296 + r2
 k2 : H * 4294967296 + r2 < (R / D + 1) * (tp * 4294967296 + nx + 1)
 nxl : nx < 4294967296
 r2l : r2 < 4294967296
theorem heads_k1 {R D P d2 h3 x y : Nat} (dD : P * d2 + x = D) (dR : P * h3 + y = R) (lR : y < P) (hP : 0 < P) : R / D * d2 ≤ h3 := by
 have e3 : R / D * D ≤ R := Nat.div_mul_le_self _ _
 generalize R / D = q at *
 refine Nat.le_of_lt_succ (Nat.lt_of_mul_lt_mul_left (a := P) ?_)
 have e1 : P * (q * d2) = q * (P * d2) := Nat.mul_left_comm _ _ _
 have e2 : q * (P * d2) ≤ q * D := Nat.mul_le_mul_left _ (by omega)
 rw [Nat.mul_succ]
 omega
theorem heads_k2 {R D P d2 h3 x y z : Nat} (dD : P * d2 + x = D) (dR : P * h3 + y = R) (lD : x < P) (hz : z < D) (hq : D * (R / D) + z = R) : h3 < (R / D + 1) * (d2 + 1) := by
 generalize R / D = q at *
 refine Nat.lt_of_mul_lt_mul_left (a := P) ?_
 have e1 : P * ((q + 1) * (d2 + 1)) = (q + 1) * (P * (d2 + 1)) := Nat.mul_left_comm _ _ _
 have e2 : (q + 1) * D ≤ (q + 1) * (P * (d2 + 1)) := Nat.mul_le_mul_left _ (by rw [Nat.mul_add]; omega)
 have e3 : R < (q + 1) * D := by rw [Nat.add_mul, Nat.mul_comm q]; omega
 omega
theorem heads_of {R D n : Nat} (hn : 2 ≤ n) (hD : Fit n D) (hR : R < D * BB) : Heads R D (lmb D (n - 1)) (lmb D (n - 2)) (lmb R n * 4294967296 + lmb R (n - 1)) (lmb R (n - 2)) := by
 obtain ⟨m, rfl⟩ : ∃ m, n = m + 2 := ⟨n - 2, by omega⟩
 have hD1 := hD.1
 have hD2 := hD.2
 simp only [show m + 2 - 1 = m + 1 from rfl, show m + 2 - 2 = m from rfl] at *
 have hDp : BB ^ (m + 1) ≤ D := by rcases hD2 with h | h <;> omega
 have hpos : 0 < D := Nat.lt_of_lt_of_le (BBp _) hDp
 have hRlt : R < BB ^ (m + 2 + 1) := by
  refine Nat.lt_of_lt_of_le hR ?_
  rw [Nat.pow_succ _ (m + 2)]
  exact Nat.mul_le_mul_right _ (Nat.le_of_lt hD1)
 have eD : D / BB ^ m = lmb D (m + 1) * 4294967296 + lmb D m := by
  rw [up_split, ← lmb_top hD1]; show _ + 4294967296 * _ = _; omega
 have eR : R / BB ^ m = (lmb R (m + 2) * 4294967296 + lmb R (m + 1)) * 4294967296 + lmb R m := by
  rw [up_split, up_split R (m + 1), ← lmb_top hRlt]; show _ + 4294967296 * (_ + 4294967296 * _) = _; omega
 have dD := Nat.div_add_mod D (BB ^ m)
 have dR := Nat.div_add_mod R (BB ^ m)
 have lD := Nat.mod_lt D (BBp m)
 have lR := Nat.mod_lt R (BBp m)
 have hq := Nat.div_add_mod R D
 have hql := Nat.mod_lt R hpos
 rw [eD] at dD
 rw [eR] at dR
 have hP := BBp m
 refine ⟨?_, ?_, ?_, ?_, lmb_lt _ _, lmb_lt _ _⟩
 ·
  rw [lmb_top hD1]
  exact Nat.div_pos hDp (BBp _)
 ·
  exact Nat.div_lt_of_lt_mul hR
 ·
  exact heads_k1 dD dR lR hP
 ·
  exact heads_k2 dD dR lD hql hq
theorem guess_start {R D tp nx H r2 : Nat} (h : Heads R D tp nx H r2) : R / D ≤ H / tp := by
 refine (Nat.le_div_iff_mul_le h.top).2 ?_
 have h1 := h.k1
 have h2 := h.r2l
 rw [Nat.mul_add, ← Nat.mul_assoc] at h1
 omega
theorem guess_down {R D tp nx H r2 G L : Nat} (h : Heads R D tp nx H r2) (hG : G * tp + L = H) (hc : L * 4294967296 + r2 < G * nx) : R / D + 1 ≤ G := by
 have h1 := h.k1
 have e : G * (tp * 4294967296 + nx) = G * tp * 4294967296 + G * nx := by rw [Nat.mul_add, Nat.mul_assoc]
 have : R / D * (tp * 4294967296 + nx) < G * (tp * 4294967296 + nx) := by rw [e]; omega
 exact Nat.lt_of_mul_lt_mul_right this
theorem guess_end {R D tp nx H r2 G L : Nat} (h : Heads R D tp nx H r2) (hG : G * tp + L = H) (hGl : G < 4294967296) (hc : 4294967296 ≤ L ∨ G * nx ≤ L * 4294967296 + r2) : G ≤ R / D + 1 := by
 have hc' : G * nx ≤ L * 4294967296 + r2 := by
  rcases hc with hc | hc
  ·
   have := Nat.mul_le_mul (show G ≤ 4294967295 by omega) (show nx ≤ 4294967295 by have := h.nxl; omega)
   omega
  ·
   exact hc
 have h1 := h.k2
 have h2 := h.qlt
 have h3 := h.top
 have e : G * (tp * 4294967296 + nx) = G * tp * 4294967296 + G * nx := by rw [Nat.mul_add, Nat.mul_assoc]
 refine Nat.le_of_not_lt fun hlt => ?_
 have h4 := Nat.mul_le_mul_right (tp * 4294967296 + nx) (show R / D + 1 + 1 ≤ G by omega)
 rw [Nat.add_mul (R / D + 1) 1] at h4
 rw [Nat.mul_add (R / D + 1) (tp * 4294967296 + nx) 1] at h1
 omega
set_option maxRecDepth 100000 in
set_option maxHeartbeats 1600000 in
theorem guessed_any (g u n cp R D b1 o1 dc : Nat) (w : World) (hr : Lie .u32 w (some ⟨g, u, none⟩) (n + 1) cp (lmb R)) (hd : Lie .u32 w (some ⟨b1, o1, none⟩) n dc (lmb D)) (hn : 2 ≤ n) (hnb : n ≤ 1000000000)
  (hR : R < D * BB) (hD : Fit n D) :
  Calls Try.prog 149 #[.slice (some ⟨g, u, none⟩) ((n + 1 : Nat)) cp, .slice (some ⟨b1, o1, none⟩) n dc] w (PGuess R D w) := by
 have HH := heads_of hn hD hR
 clear hR hD
 have c1 := hd.at (n - 1) (by omega)
 have c2 := hd.at (n - 2) (by omega)
 have c3 := hr.at n (by omega)
 have c4 := hr.at (n - 1) (by omega)
 have c5 := hr.at (n - 2) (by omega)
 have l1 := lmb_lt D (n - 1)
 have l2 := lmb_lt D (n - 2)
 have l3 := lmb_lt R n
 have l4 := lmb_lt R (n - 1)
 have l5 := lmb_lt R (n - 2)
 have hor := or64 l3 l4
 have hH : lmb R n * 4294967296 + lmb R (n - 1) ≤ 18446744073709551615 := by omega
 generalize lmb R n * 4294967296 + lmb R (n - 1) = H at *
 generalize lmb D (n - 1) = tp at *
 generalize lmb D (n - 2) = nx at *
 generalize lmb R (n - 2) = r2 at *
 have htp := HH.top
 have hgs := guess_start HH
 have hql := HH.qlt
 clear hr hd
 obtain ⟨Q, hQ⟩ : ∃ Q, Q = H / tp := ⟨_, rfl⟩
 have hq : (H : Int) / (tp : Int) = (Q : Int) := by rw [hQ, Int.natCast_ediv]
 have hQt : Q * tp ≤ H := by rw [hQ]; exact Nat.div_mul_le_self _ _
 have hQH : Q ≤ H := Nat.le_trans (by rw [hQ]; exact Nat.div_le_self _ _) (Nat.le_refl _)
 rw [← hQ] at hgs
 have HQt := Lib.hid hQt
 have hQt0 : (0 : Int) ≤ (Q : Int) * (tp : Int) := Int.mul_nonneg (by omega) (by omega)
 have hQt1 : (Q : Int) * (tp : Int) ≤ (H : Int) := by rw [← Int.natCast_mul]; omega
 clear hQ hQt
 rcases Nat.lt_or_ge 4294967295 Q with hcq | hcq
 ·
  have hb := Nat.mul_le_mul_right tp (show 4294967296 ≤ Q from hcq)
  have h2 := HQt.out
  have hb2 : (4294967295 : Int) * (tp : Int) ≤ H := by omega
  have hb3 : 4294967295 * tp ≤ H := by omega
  clear hb h2
  go_enter Try.func149, Try.ntmps149
  go_wp2
  go_quiet (fail)
  go_wp2
  go_quiet (fail)
  go_wp2
  go_loop [9, 10] (fun gv lv => ∃ G L : Nat, gv = .int .u64 G ∧ lv = .int .u64 L ∧ G * tp + L = H ∧ R / D ≤ G ∧ G ≤ 4294967295) (fun gv _ => (intOf gv).toNat)
  case atStart => exact ⟨4294967295, H - 4294967295 * tp, rfl, congrArg (Value.int .u64) (by omega), by omega, by omega, by omega⟩
  case round =>
   obtain ⟨G, L, rfl, rfl, hGL, hqG, hGu⟩ := hrel
   have hLH : L ≤ H := by omega
   have hGn : (0 : Int) ≤ (G : Int) * (nx : Int) ∧ (G : Int) * (nx : Int) ≤ 18446744065119617025 := mul_u32 (by omega) l2
   obtain ⟨hGn0, hGn1⟩ := hGn
   have HGL := Lib.hid hGL
   clear hGL
   by_cases hL : L < 4294967296
   ·
    have hor2 := or64 hL l5
    obtain ⟨X, hXe⟩ : ∃ X, X = L * 4294967296 + r2 := ⟨_, rfl⟩
    rw [← hXe] at hor2
    have hX : X ≤ 18446744073709551615 := by omega
    by_cases hc : L * 4294967296 + r2 < G * nx
    ·
     have hdn := guess_down HH HGL.out hc
     have hG1 : 1 ≤ G := Nat.le_trans (Nat.le_add_left 1 _) hdn
     have hcI : (X : Int) < (G : Int) * (nx : Int) := by rw [← Int.natCast_mul]; omega
     have HN : Hid ((G - 1) * tp + (L + tp) = H) := by
      show _ = _
      have h1 := HGL.out
      obtain ⟨G', rfl⟩ : ∃ G', G = G' + 1 := ⟨G - 1, by omega⟩
      rw [Nat.add_mul] at h1
      simp only [Nat.add_sub_cancel]
      omega
     have hLd : decide ((L : Int) < 4294967296) = true := by simp; omega
     clear hc hXe
     go_wp2
     go_round
     case rel => exact ⟨G - 1, L + tp, by go_num, by go_num, HN.out, by omega, by omega⟩
     case measure => simp [intOf]; omega
    ·
     have hend := guess_end HH HGL.out (by omega) (.inr (by omega))
     have hcI : ¬ (X : Int) < (G : Int) * (nx : Int) := by rw [← Int.natCast_mul]; omega
     have hLd : decide ((L : Int) < 4294967296) = true := by simp; omega
     clear hc hXe
     go_wp2
     go_ret
     exact ⟨G, rfl, hqG, hend, by omega, below_drewN (Below.refl _ _) _⟩
   ·
    have hend := guess_end HH HGL.out (by omega) (.inl (by omega))
    have hLd : decide ((L : Int) < 4294967296) = false := by simp; omega
    go_wp2
    go_ret
    exact ⟨G, rfl, hqG, hend, by omega, below_drewN (Below.refl _ _) _⟩
 ·
  have h2 := HQt.out
  have HL : Hid ((H : Int) - (Q : Int) * (tp : Int) = ((H - Q * tp : Nat) : Int)) := by show _ = _; rw [← Int.natCast_mul]; omega
  clear h2
  go_enter Try.func149, Try.ntmps149
  go_wp2
  go_quiet (fail)
  go_wp2
  go_quiet (fail)
  go_wp2
  go_loop [9, 10] (fun gv lv => ∃ G L : Nat, gv = .int .u64 G ∧ lv = .int .u64 L ∧ G * tp + L = H ∧ R / D ≤ G ∧ G ≤ 4294967295) (fun gv _ => (intOf gv).toNat)
  case atStart => exact ⟨Q, H - Q * tp, rfl, congrArg (Value.int .u64) HL.out, by have := HQt.out; omega, by omega, by omega⟩
  case round =>
   obtain ⟨G, L, rfl, rfl, hGL, hqG, hGu⟩ := hrel
   have hLH : L ≤ H := by omega
   have hGn : (0 : Int) ≤ (G : Int) * (nx : Int) ∧ (G : Int) * (nx : Int) ≤ 18446744065119617025 := mul_u32 (by omega) l2
   obtain ⟨hGn0, hGn1⟩ := hGn
   have HGL := Lib.hid hGL
   clear hGL
   by_cases hL : L < 4294967296
   ·
    have hor2 := or64 hL l5
    obtain ⟨X, hXe⟩ : ∃ X, X = L * 4294967296 + r2 := ⟨_, rfl⟩
    rw [← hXe] at hor2
    have hX : X ≤ 18446744073709551615 := by omega
    by_cases hc : L * 4294967296 + r2 < G * nx
    ·
     have hdn := guess_down HH HGL.out hc
     have hG1 : 1 ≤ G := Nat.le_trans (Nat.le_add_left 1 _) hdn
     have hcI : (X : Int) < (G : Int) * (nx : Int) := by rw [← Int.natCast_mul]; omega
     have HN : Hid ((G - 1) * tp + (L + tp) = H) := by
      show _ = _
      have h1 := HGL.out
      obtain ⟨G', rfl⟩ : ∃ G', G = G' + 1 := ⟨G - 1, by omega⟩
      rw [Nat.add_mul] at h1
      simp only [Nat.add_sub_cancel]
      omega
     have hLd : decide ((L : Int) < 4294967296) = true := by simp; omega
     clear hc hXe
     go_wp2
     go_round
     case rel => exact ⟨G - 1, L + tp, by go_num, by go_num, HN.out, by omega, by omega⟩
     case measure => simp [intOf]; omega
    ·
     have hend := guess_end HH HGL.out (by omega) (.inr (by omega))
     have hcI : ¬ (X : Int) < (G : Int) * (nx : Int) := by rw [← Int.natCast_mul]; omega
     have hLd : decide ((L : Int) < 4294967296) = true := by simp; omega
     clear hc hXe
     go_wp2
     go_ret
     exact ⟨G, rfl, hqG, hend, by omega, below_drewN (Below.refl _ _) _⟩
   ·
    have hend := guess_end HH HGL.out (by omega) (.inl (by omega))
    have hLd : decide ((L : Int) < 4294967296) = false := by simp; omega
    go_wp2
    go_ret
    exact ⟨G, rfl, hqG, hend, by omega, below_drewN (Below.refl _ _) _⟩
end Go.Proofs.Ytpahkpcoinbgcaa

/- The walk of addBack. -/
namespace Go.Proofs.Ytpahkpcoinbgcaa
open Go.RowKit
def PAddb (t : TypeId) (g T u n S R : Nat) (f : Nat → Nat) (w : World) (e : Ending) (w' : World) : Prop :=
 e = .returned (.tuple #[]) ∧ Own .u32 t w' g T (winK u n (n + 1) S R f) ∧ Only g w w'
set_option maxHeartbeats 1600000 in
theorem addBack_any (g T u n cp U D : Nat) (da : Option Addr) (dc : Nat) (f : Nat → Nat) (w : World) (hown : Own .u32 134 w g T f) (hT : u + n < T) (hTb : T ≤ 1000000000)
  (hf : ∀ j, j ≤ n → f (u + j) = lmb U j) (hd : Lie .u32 w da n dc (lmb D)) (hne : ∀ p, da = some p → p.block ≠ g) (hD : D < BB ^ n) :
  Calls Try.prog 151 #[.slice (some ⟨g, u, none⟩) ((n + 1 : Nat)) cp, .slice da n dc] w (PAddb 134 g T u n (U + D) U f w) := by
 have HF := Lib.hid hf
 have HD := Lib.hid hD
 have HNE := Lib.hid hne
 clear hf hD hne
 go_enter Try.func151, Try.ntmps151
 go_wp2
 go_loopw [4, 9] (fun cv iv wr => ∃ k : Nat, k ≤ n ∧ iv = .int .i64 k ∧ cv = .int .u64 (cy U D k) ∧ Own .u32 134 wr g T (winK u n k (U + D) U f) ∧ Only g w wr) (fun _ iv _ => n - (intOf iv).toNat)
 case atStart => exact ⟨0, Nat.zero_le _, rfl, by rw [cy_zero]; rfl, hown.congr (winK_zero HF.out), Only.refl _ _⟩
 case round =>
  obtain ⟨k, hk, rfl, rfl, hown1, ho1⟩ := hrel
  have hcb := cy_le U D k
  have hst := cy_step U D k
  have c1 : wr.cell? ⟨g, u + k, none⟩ = some (.int .u32 (lmb U k)) := by rw [hown1.cell (u + k) (by omega), winK_at hk]
  have c2 := hown1.free (u + k)
  have hlr := lmb_lt U k
  have hld := lmb_lt D k
  by_cases hlt : k < n
  ·
   obtain ⟨b1, o1, rfl, hb1⟩ := hd.some_of_pos (by omega)
   have c3 := (hd.only ho1 HNE.out).at k hlt
   have HX : Hid (((cy U D k : Int) + ((lmb U k : Int) + (lmb D k : Int))) % 4294967296 = ((lmb (U + D) k : Nat) : Int) ∧ ((cy U D k : Int) + ((lmb U k : Int) + (lmb D k : Int))) / 4294967296 = ((cy U D (k + 1) : Nat) : Int)) := by
    show _ ∧ _; omega
   clear hd hst
   go_wp2
   go_roundw
   case rel => exact ⟨k + 1, by omega, by go_num, by rw [HX.out.2], hown1.put (by omega) (by rw [HX.out.1, winK_put (by omega)]) (winK_next (fun j hj => rfl)), ho1.trans (Only.setCell _ _ _ _)⟩
   case measure => simp [intOf]; omega
  ·
   obtain rfl : k = n := by omega
   have h0 := lmb_zero HD.out (Nat.le_refl k)
   have HX : Hid (((lmb U k : Int) + (cy U D k : Int)) % 4294967296 = ((lmb (U + D) k : Nat) : Int)) := by
    show _ = _; rw [h0] at hst; omega
   clear hd hst h0
   go_wp2
   go_end0
   exact ⟨rfl, hown1.put (by omega) (by rw [HX.out, winK_put (by omega)]) (winK_next (fun j hj => rfl)), ho1.trans (Only.setCell _ _ _ _)⟩
end Go.Proofs.Ytpahkpcoinbgcaa

/- The walk of nextPart. -/
namespace Go.Proofs.Ytpahkpcoinbgcaa
open Go.RowKit
theorem grown_below {w w' : World} (g : Nat) (h : Below w.heap.size w w') : w.grownBy w' (some g) := ⟨h.os, h.tape, h.output, h.size, fun k hk _ => h.block k hk⟩
theorem grown_only {w w' : World} {g : Nat} (h : Only g w w') : w.grownBy w' (some g) := ⟨h.os, h.tape, h.output, by rw [h.size]; exact Nat.le_refl _, fun k _ hk => h.block k (fun e => hk (by rw [e]))⟩
theorem grown_trans {a b c : World} {r : Option Nat} (h : a.grownBy b r) (k : b.grownBy c r) : a.grownBy c r :=
 ⟨k.os.trans h.os, k.tape.trans h.tape, k.output.trans h.output, Nat.le_trans h.size k.size, fun i hi hr => (k.block i (Nat.lt_of_lt_of_le hi h.size) hr).trans (h.block i hi hr)⟩
/-- A part of a quotient is told; the window holds what is left. -/
def PNext (t : TypeId) (g T u n R D : Nat) (f : Nat → Nat) (w : World) (e : Ending) (w' : World) : Prop :=
 e = .returned (.int .u32 ((R / D : Nat) : Int)) ∧ Own .u32 t w' g T (winK u n (n + 1) (R % D) R f) ∧ w.grownBy w' (some g)
theorem winK_all {u n U R j : Nat} {f : Nat → Nat} (hj : j ≤ n) : winK u n (n + 1) U R f (u + j) = lmb U j := by
 unfold winK
 rw [if_pos (by omega), if_pos (by omega), show u + j - u = j from by omega]
theorem winK_win {u n U V S R T : Nat} {f : Nat → Nat} (h : ∀ j, j ≤ n → lmb V j = lmb S j) : ∀ p, p < T → winK u n (n + 1) V U (winK u n (n + 1) U R f) p = winK u n (n + 1) S R f p := by
 intro p _
 unfold winK
 by_cases h1 : u ≤ p ∧ p ≤ u + n
 ·
  rw [if_pos h1, if_pos h1, if_pos (by omega), if_pos (by omega), h _ (by omega)]
 ·
  rw [if_neg h1, if_neg h1, if_neg h1]
theorem off_no {R D n U G : Nat} (h : Off R (G * D) n U false) (hD : 0 < D) (hG : R / D ≤ G) : G = R / D ∧ U = R % D := by
 have h1 := h.2.1 rfl
 have h2 : G ≤ R / D := (Nat.le_div_iff_mul_le hD).2 (by omega)
 have h3 : G = R / D := by omega
 subst h3
 have := Nat.div_add_mod R D
 rw [Nat.mul_comm] at this
 exact ⟨rfl, by omega⟩
theorem off_yes {R D n U G : Nat} (h : Off R (G * D) n U true) (hD : 0 < D) (hG : G ≤ R / D + 1) : G = R / D + 1 ∧ ∀ j, j ≤ n → lmb (U + D) j = lmb (R % D) j := by
 obtain ⟨h1, h2⟩ := h.1 rfl
 have h3 : R / D < G := (Nat.div_lt_iff_lt_mul hD).2 h2
 have h4 : G = R / D + 1 := by omega
 refine ⟨h4, fun j hj => ?_⟩
 have := Nat.div_add_mod R D
 rw [h4, Nat.add_mul, Nat.mul_comm] at h1
 rw [show U + D = R % D + BB ^ (n + 1) * 1 from by omega]
 exact lmb_add_hi _ _ _ _ (by omega)
set_option maxHeartbeats 800000 in
theorem nextPart_any (g T u n cp R D b1 o1 dc : Nat) (f : Nat → Nat) (w : World) (hown : Own .u32 134 w g T f) (hT : u + n < T) (hTb : T ≤ 1000000000) (hcp : n + 1 ≤ cp) (hcm : cp ≤ maxLen)
  (hf : ∀ j, j ≤ n → f (u + j) = lmb R j) (hd : Lie .u32 w (some ⟨b1, o1, none⟩) n dc (lmb D)) (hne : b1 ≠ g) (hn : 2 ≤ n) (hR : R < D * BB) (hD : Fit n D) :
  Calls Try.prog 147 #[.slice (some ⟨g, u, none⟩) ((n + 1 : Nat)) cp, .slice (some ⟨b1, o1, none⟩) n dc] w (PNext 134 g T u n R D f w) := by
 have HF := Lib.hid hf
 have HD := Lib.hid hD
 have HR := Lib.hid hR
 have hDp : 0 < D := by
  refine Nat.pos_of_ne_zero fun h => ?_
  have := (fit_pos hD).2 h
  omega
 have HRl : Hid (R < BB ^ (n + 1)) := Nat.lt_of_lt_of_le hR (by rw [Nat.pow_succ]; exact Nat.mul_le_mul_right _ (Nat.le_of_lt hD.1))
 have hr : Lie .u32 w (some ⟨g, u, none⟩) (n + 1) cp (lmb R) :=
  ⟨hcp, hcm, (fun e => by cases e), (fun p hp => by cases hp; exact ⟨rfl, hown.lt⟩), (fun p hp i hi => by cases hp; rw [hown.cell (u + i) (by omega), hf i (by omega)])⟩
 have HNE : Hid (∀ p : Addr, some (⟨b1, o1, none⟩ : Addr) = some p → p.block ≠ g) := fun p hp => by cases hp; exact hne
 clear hf hD hR hne
 go_enter Try.func147, Try.ntmps147
 go_wp2_with fail
 refine (guessed_any g u n cp R D b1 o1 dc _ hr hd hn (by omega) HR.out HD.out).mono ?_
 rintro e w1 ⟨G, rfl, hG1, hG2, hG3, hb1⟩
 have hown1 := hown.below hb1
 have hd1 := hd.below hb1
 clear hr hown hd
 go_wp2_with fail
 refine (takeTimes_any g T u n cp R D G (some ⟨b1, o1, none⟩) dc f _ hown1 hT hTb HF.out HRl.out hd1 HNE.out HD.out.1 hG3).mono ?_
 rintro e w2 ⟨U, bl, rfl, hoff, hown2, ho2⟩
 cases bl
 ·
  obtain ⟨e1, e2⟩ := off_no hoff hDp hG1
  have H1 := Lib.hid e1
  have H2 := Lib.hid e2
  clear e1 e2 hG1 hG2
  go_wp2
  go_ret
  exact ⟨by rw [← H1.out]; rfl, by rw [← H2.out]; exact hown2, grown_trans (grown_below g hb1) (grown_only ho2)⟩
 ·
  obtain ⟨e1, e2⟩ := off_yes hoff hDp hG2
  have H1 := Lib.hid e1
  have H2 := Lib.hid e2
  have hGp : 1 ≤ G := by rw [e1]; exact Nat.le_add_left _ _
  have hd2 := hd1.only ho2 HNE.out
  have HE : Hid ((G : Int) - 1 = ((R / D : Nat) : Int)) := by show _ = _; rw [e1]; omega
  clear e1 e2 hG1 hG2 hd1
  go_wp2_with fail
  refine (addBack_any g T u n cp U D (some ⟨b1, o1, none⟩) dc _ _ hown2 hT hTb (fun j hj => winK_all hj) hd2 HNE.out HD.out.1).mono ?_
  rintro e w3 ⟨rfl, hown3, ho3⟩
  go_wp2
  go_ret
  exact ⟨ret_int HE.out, hown3.congr (winK_win H2.out), grown_trans (grown_trans (grown_below g hb1) (grown_only ho2)) (grown_only ho3)⟩
end Go.Proofs.Ytpahkpcoinbgcaa

/- The walk of groupsOf. -/
namespace Go.Proofs.Ytpahkpcoinbgcaa
open Go.RowKit
/-- The values of a list's numbers. -/
def vals (k : IntKind) (f : Nat → Nat) (n : Nat) : List Value := (List.range n).map fun i => Value.int k (f i : Nat)
theorem vals_len (k : IntKind) (f : Nat → Nat) (n : Nat) : (vals k f n).length = n := by simp [vals]
theorem vals_succ (k : IntKind) (f : Nat → Nat) (n : Nat) : vals k f n ++ [Value.int k (f n : Nat)] = vals k f (n + 1) := by simp [vals, List.range_succ]
theorem vals_get (k : IntKind) (f : Nat → Nat) (n i : Nat) (h : i < n) : (vals k f n)[i]? = some (Value.int k (f i : Nat)) := by simp [vals, h]
/-- What is owned by append's laws lies there. -/
theorem lie_owned {k : IntKind} {w : World} {base : Nat} {e : TypeId} {v : Value} {n : Nat} {f : Nat → Nat} (h : w.ownsRow base e 1 v n (vals k f n)) :
  ∃ (a : Option Addr) (c : Nat), v = .slice a n c ∧ Lie k w a n c f := by
 have hcs := h.2
 rcases hcs with ⟨rfl, rfl⟩ | ⟨g, cap, cur, rfl, hb, hg, hc, hm, hs, ht⟩
 ·
  exact ⟨none, 0, rfl, lie_nil _ _ _⟩
 ·
  refine ⟨_, cap, rfl, hc, hm, (fun e => by cases e), (fun p hp => by cases hp; exact ⟨rfl, (Array.getElem?_eq_some_iff.1 hg).1⟩), (fun p hp i hi => ?_)⟩
  cases hp
  have := h.cells (g := g) rfl i _ (vals_get k f n i hi)
  rw [show (⟨g, 0, none⟩ : Addr).add i = ⟨g, 0 + i, none⟩ from by unfold Addr.add; split <;> simp_all] at this
  exact this
theorem Lie.congr {k : IntKind} {w : World} {a : Option Addr} {n c : Nat} {f f' : Nat → Nat} (h : Lie k w a n c f) (hf : ∀ i, i < n → f i = f' i) : Lie k w a n c f' :=
 ⟨h.cap, h.capm, h.nil, h.spot, fun p hp i hi => by rw [← hf i hi]; exact h.cell p hp i hi⟩
end Go.Proofs.Ytpahkpcoinbgcaa

/- The walk of written. -/
namespace Go.Proofs.Ytpahkpcoinbgcaa
open Go.RowKit
/-- The k-th digit, from the lowest one on. -/
def dig (N k : Nat) : Nat := N / 10 ^ k % 10
theorem dig_lt (N k : Nat) : dig N k < 10 := Nat.mod_lt _ (by decide)
end Go.Proofs.Ytpahkpcoinbgcaa

/- The walks of compare, sum, difference, product. -/
namespace Go.Proofs.Ytpahkpcoinbgcaa
open Go.RowKit
set_option maxHeartbeats 800000 in
theorem compare_any (a b : Option Addr) (n c m d A B : Nat) (w : World) (ha : Lie .u32 w a n c (lmb A)) (hb : Lie .u32 w b m d (lmb B)) (fa : Fit n A) (fb : Fit m B) :
  Calls Try.prog 135 #[.slice a n c, .slice b m d] w (PVal (.int .i64 (cmpN A B)) w) := by
 have hcm := ha.capm
 have hnc := ha.cap
 have hdm := hb.capm
 have hmd := hb.cap
 unfold maxLen at hcm hdm
 rcases Nat.lt_trichotomy n m with hlt | heq | hgt
 ·
  have hR := Lib.hid (cmp_len_lt fa fb hlt)
  clear fa fb ha hb
  go_enter Try.func135, Try.ntmps135
  go_wp2
  go_ret
  exact ⟨ret_int hR.out.symm, Below.refl _ _⟩
 ·
  subst heq
  go_enter Try.func135, Try.ntmps135
  have HA := Lib.hid fa
  have HB := Lib.hid fb
  clear fa fb
  go_wp2
  go_loopw [5] (fun i wr => ∃ k : Nat, k ≤ n ∧ i = .int .i64 ((k : Int) - 1) ∧ A / BB ^ k = B / BB ^ k ∧ Below w.heap.size w wr) (fun i _ => (intOf i + 1).toNat)
  case atStart => exact ⟨n, Nat.le_refl _, rfl, by rw [Nat.div_eq_of_lt HA.out.1, Nat.div_eq_of_lt HB.out.1], Below.refl _ _⟩
  case round =>
   obtain ⟨k, hk, rfl, hup, hbl⟩ := hrel
   have HU := Lib.hid hup
   clear hup
   by_cases hp : 0 < k
   ·
    obtain ⟨j, rfl⟩ : ∃ j, k = j + 1 := ⟨k - 1, by omega⟩
    obtain ⟨b1, o1, rfl, hb1⟩ := ha.some_of_pos (by omega)
    obtain ⟨b2, o2, rfl, hb2⟩ := hb.some_of_pos (by omega)
    have c1 := (ha.below hbl).at j (by omega)
    have c2 := (hb.below hbl).at j (by omega)
    rcases Nat.lt_trichotomy (lmb A j) (lmb B j) with hlt | heq | hgt
    ·
     have hR := Lib.hid ((cmp_up HU.out).1 hlt)
     clear ha hb
     go_wp2
     go_quiet (fail)
     go_wp2
     go_ret
     exact ⟨ret_int hR.out.symm, below_drewN hbl _⟩
    ·
     have hR := Lib.hid ((cmp_up HU.out).2.2 heq)
     have h1 : ¬ lmb A j < lmb B j := by omega
     have h2 : ¬ lmb B j < lmb A j := by omega
     have HE := Lib.hid heq
     clear ha hb heq
     go_wp2
     go_quiet (fail)
     go_wp2
     go_quiet (fail)
     go_wp2
     go_roundw
     case rel => exact ⟨j, by omega, by go_num, hR.out, below_drewN hbl _⟩
     case measure => simp [intOf]
    ·
     have hR := Lib.hid ((cmp_up HU.out).2.1 hgt)
     have h1 : ¬ lmb A j < lmb B j := by omega
     clear ha hb
     go_wp2
     go_quiet (fail)
     go_wp2
     go_quiet (fail)
     go_wp2
     go_ret
     exact ⟨ret_int hR.out.symm, below_drewN (below_drewN hbl _) _⟩
   ·
    obtain rfl : k = 0 := by omega
    have hR := Lib.hid (cmp_all HU.out)
    clear ha hb
    go_wp2
    go_ret
    exact ⟨ret_int hR.out.symm, hbl⟩
 ·
  have hR := Lib.hid (cmp_len_gt fa fb hgt)
  clear fa fb ha hb
  go_enter Try.func135, Try.ntmps135
  go_wp2
  go_ret
  exact ⟨ret_int hR.out.symm, Below.refl _ _⟩
def sumF (A B n i : Nat) (j : Nat) : Nat := if j < i then lmb (A + B) j else if j < n then lmb A j else 0
set_option maxHeartbeats 800000 in
theorem sum_core (sw : Bool) (a b : Option Addr) (n c m d A B : Nat) (w : World) (ha : Lie .u32 w a n c (lmb A)) (hb : Lie .u32 w b m d (lmb B)) (fa : Fit n A) (fb : Fit m B) (hmn : m ≤ n) (hsw : sw = true → m < n) (hn : n ≤ 1000000000) :
  Calls Try.prog 134 (if sw then #[.slice b m d, .slice a n c] else #[.slice a n c, .slice b m d]) w (PPart (A + B) w) := by
 have hcm := ha.capm
 have hnc := ha.cap
 have hdm := hb.capm
 have hmd := hb.cap
 unfold maxLen at hcm hdm
 have hn4 : 4 * (n + 1) ≤ 281474976710656 := by omega
 have hn6 : n + 1 ≤ 9223372036854775807 := by omega
 have HA := Lib.hid fa
 have HB := Lib.hid fb
 clear fa fb
 cases sw
 all_goals
  simp only [if_true, if_false, Bool.false_eq_true]
  try (have hsw' := hsw rfl)
  clear hsw
  go_enter Try.func134, Try.ntmps134
  go_wp2_with (first | (at_make; refine wpList_mk _ rfl (.tmp 17) (.tmp 17) 111 rfl 134 .u32 4 Try.u111 Try.info134 _ _ (n + 1) rfl rfl (by omega) (by omega) hn4 hn6 ?_; intro g w1 hg hown hb1; have hl1 := ha.below hb1) | (with_reducible refine wpList_cp rfl (.tmp 19) (.tmp 20) 111 rfl 134 Try.u111 Try.size134 g (n + 1) (n + 1) .u32 _ (lmb A) a n c rfl rfl hown hl1 (by omega) ?_; intro w2 hown2 ho2))
  have hbw := hb1.trans (ho2.below hg)
  have hB2 := hb.below hbw
  have hb0 := hb
  clear hl1 hown ha hb
  go_loopw [6, 24] (fun cv i wr => ∃ k : Nat, k ≤ n ∧ i = .int .i64 k ∧ cv = .int .u64 (cy A B k) ∧ Own .u32 134 wr g (n + 1) (sumF A B n k) ∧ Below w.heap.size w wr) (fun _ i _ => n - (intOf i).toNat)
  case atStart => exact ⟨0, Nat.zero_le _, rfl, by rw [cy_zero]; rfl, hown2.congr (fun j hj => by simp [sumF]), hbw⟩
  case round =>
   obtain ⟨k, hk, rfl, rfl, hown, hbl⟩ := hrel
   have hcb := cy_le A B k
   have hst := Lib.hid (cy_step A B k)
   have hla := lmb_lt A k
   have hlb := lmb_lt B k
   by_cases hlt : k < n
   ·
    have c1 : wr.cell? ⟨g, k, none⟩ = some (.int .u32 (lmb A k)) := by rw [hown.cell k (by omega)]; simp [sumF, hlt]
    have c2 := hown.free k
    have hbs := hbl.setCell (p := ⟨g, k, none⟩) hg
    by_cases hm : k < m
    ·
     obtain ⟨b2, o2, rfl, hb2⟩ := hB2.some_of_pos (by omega)
     have c3 := (hb0.below hbl).at k hm
     have HX : Hid (((cy A B k : Int) + (lmb A k : Int) + (lmb B k : Int)) % 4294967296 = ((lmb (A + B) k : Nat) : Int) ∧ ((cy A B k : Int) + (lmb A k : Int) + (lmb B k : Int)) / 4294967296 = ((cy A B (k + 1) : Nat) : Int)) := by
      have := hst.out; show _ ∧ _; omega
     clear hst hB2
     go_wp2
     go_roundw
     case rel => exact ⟨k + 1, by omega, by go_num, by rw [HX.out.2], hown.put (by omega) (by rw [HX.out.1]; simp [sumF]) (fun j hj hne => by unfold sumF; by_cases h1 : j < k <;> by_cases h2 : j < k + 1 <;> simp [h1, h2] <;> omega), hbs _⟩
     case measure => simp [intOf]; omega
    ·
     have HX : Hid (((cy A B k : Int) + (lmb A k : Int)) % 4294967296 = ((lmb (A + B) k : Nat) : Int) ∧ ((cy A B k : Int) + (lmb A k : Int)) / 4294967296 = ((cy A B (k + 1) : Nat) : Int)) := by
      have := hst.out; have h0 := lmb_zero HB.out.1 (i := k) (by omega); rw [h0] at this; show _ ∧ _; omega
     clear hst hB2
     go_wp2
     go_roundw
     case rel => exact ⟨k + 1, by omega, by go_num, by rw [HX.out.2], hown.put (by omega) (by rw [HX.out.1]; simp [sumF]) (fun j hj hne => by unfold sumF; by_cases h1 : j < k <;> by_cases h2 : j < k + 1 <;> simp [h1, h2] <;> omega), hbs _⟩
     case measure => simp [intOf]; omega
   ·
    obtain rfl : k = n := by omega
    have c1 : wr.cell? ⟨g, k, none⟩ = some (.int .u32 (0 : Nat)) := by rw [hown.cell k (by omega)]; simp [sumF]
    have c2 := hown.free k
    have hE := Lib.hid (cy_end HA.out.1 (fit_mono HB.out.1 hmn))
    clear hst
    go_wp2_with fail
    have hO : Own .u32 134 (wr.setCell ⟨g, k, none⟩ (.int .u32 (cy A B k))) g (k + 1) (lmb (A + B)) := hown.put (by omega) (by rw [hE.out.1]) (fun j hj hne => by rw [sumF, if_pos (by omega)])
    refine (trimmed_any _ _ _ (A + B) _ (hO.lie (Nat.le_refl _) (by unfold maxLen; omega)) hE.out.2).mono ?_
    rintro e w3 ⟨mm, rfl, hmm, hfit, rfl⟩
    have hbs := hbl.setCell (p := ⟨g, k, none⟩) hg (.int .u32 (cy A B k))
    go_wp2
    go_ret
    exact ppart_own hO hg hbs hmm hn6 hfit
theorem sum_any (a b : Option Addr) (n c m d A B : Nat) (w : World) (ha : Lie .u32 w a n c (lmb A)) (hb : Lie .u32 w b m d (lmb B)) (fa : Fit n A) (fb : Fit m B) (hn : n ≤ 1000000000) (hm : m ≤ 1000000000) :
  Calls Try.prog 134 #[.slice a n c, .slice b m d] w (PPart (A + B) w) := by
 by_cases h : n < m
 ·
  have := sum_core true b a m d n c B A w hb ha fb fa (by omega) (fun _ => h) hm
  rw [Nat.add_comm]
  simpa using this
 ·
  simpa using sum_core false a b n c m d A B w ha hb fa fb (by omega) (fun h => by cases h) hn
end Go.Proofs.Ytpahkpcoinbgcaa

/- The walks of raised and lowered. -/
namespace Go.Proofs.Ytpahkpcoinbgcaa
open Go.RowKit
/-- What is carried when a number is raised by s binary digits. -/
def rc (N s k : Nat) : Nat := N % BB ^ k * 2 ^ s / BB ^ k
theorem rc_zero (N s : Nat) : rc N s 0 = 0 := by simp [rc, Nat.mod_one]
theorem rc_lt (N s k : Nat) : rc N s k < 2 ^ s := by
 unfold rc
 refine Nat.div_lt_of_lt_mul ?_
 exact (Nat.mul_lt_mul_right (Nat.pow_pos (by decide))).2 (Nat.mod_lt _ (BBp k))
theorem pow_split {s : Nat} (hs : s < 32) : 2 ^ s * 2 ^ (32 - s) = 4294967296 := by
 rw [← Nat.pow_add, show s + (32 - s) = 32 from by omega]
theorem raise_parts {s : Nat} (hs : s < 32) (a c : Nat) (hc : c < 2 ^ s) :
  a * 2 ^ s % 4294967296 = 2 ^ s * (a % 2 ^ (32 - s)) ∧ (a * 2 ^ s + c) / 4294967296 = a / 2 ^ (32 - s) ∧ (a * 2 ^ s + c) % 4294967296 = 2 ^ s * (a % 2 ^ (32 - s)) + c ∧ 2 ^ s * (a % 2 ^ (32 - s)) + c < 4294967296 := by
 have hp := pow_split hs
 have hU : 0 < 2 ^ (32 - s) := Nat.pow_pos (by decide)
 have hd := Nat.div_add_mod a (2 ^ (32 - s))
 have hl := Nat.mod_lt a hU
 generalize (2 : Nat) ^ s = T at *
 generalize (2 : Nat) ^ (32 - s) = U at *
 generalize a % U = l at *
 generalize a / U = h at *
 have e1 : a * T = 4294967296 * h + T * l := by
  rw [← hd, ← hp, Nat.add_mul, Nat.mul_comm (U * h), Nat.mul_assoc, Nat.mul_comm l]
 have e2 : T * (l + 1) ≤ T * U := Nat.mul_le_mul_left _ hl
 rw [Nat.mul_add, hp] at e2
 omega
theorem rc_step {s : Nat} (hs : s < 32) (N k : Nat) : rc N s (k + 1) = lmb N k / 2 ^ (32 - s) ∧ lmb (N * 2 ^ s) k = 2 ^ s * (lmb N k % 2 ^ (32 - s)) + rc N s k := by
 obtain ⟨-, h2, h3, -⟩ := raise_parts hs (lmb N k) (rc N s k) (rc_lt N s k)
 constructor
 ·
  rw [← h2]
  unfold rc
  rw [mod_succ, Nat.pow_succ, ← Nat.div_div_eq_div_mul, Nat.add_mul, Nat.mul_assoc, Nat.add_mul_div_left _ _ (BBp k), Nat.add_comm]; rfl
 ·
  rw [← h3]
  have e : N * 2 ^ s / BB ^ k = N / BB ^ k * 2 ^ s + rc N s k := by
   have hd := Nat.div_add_mod N (BB ^ k)
   conv => lhs; rw [← hd]
   rw [Nat.add_mul, Nat.mul_assoc, Nat.add_comm, Nat.add_mul_div_left _ _ (BBp k), Nat.add_comm]; rfl
  have e2 : lmb (N * 2 ^ s) k = (N / BB ^ k * 2 ^ s + rc N s k) % 4294967296 := by rw [← e]; rfl
  rw [e2]
  have hu := up_split N k
  rw [hu, Nat.add_mul]
  show (_ + 4294967296 * _ * _ + _) % _ = _
  rw [Nat.mul_assoc]
  omega
theorem raise_or {s : Nat} (hs : s < 32) (N k : Nat) : bits .or .u32 ((lmb N k : Int) * 2 ^ s % 4294967296) (rc N s k : Int) = ((lmb (N * 2 ^ s) k : Nat) : Int) := by
 obtain ⟨h1, -, -, h4⟩ := raise_parts hs (lmb N k) (rc N s k) (rc_lt N s k)
 have e : (lmb N k : Int) * 2 ^ s % 4294967296 = ((2 ^ s * (lmb N k % 2 ^ (32 - s)) : Nat) : Int) := by
  rw [← h1, Int.natCast_emod, Int.natCast_mul, Int.natCast_pow]; rfl
 rw [e, u32_or_nat _ _ (by omega) (by omega), (rc_step hs N k).2, ← Nat.two_pow_add_eq_or_of_lt (rc_lt N s k)]
theorem raise_shr {s : Nat} (hs : s < 32) (N k : Nat) : (lmb N k : Int) / 2 ^ (32 - s) = ((rc N s (k + 1) : Nat) : Int) := by
 rw [(rc_step hs N k).1, Int.natCast_ediv, Int.natCast_pow]; rfl
theorem rc_end {N s n : Nat} (hs : s < 32) (h : N < BB ^ n) : rc N s n = lmb (N * 2 ^ s) n ∧ N * 2 ^ s < BB ^ (n + 1) := by
 have h1 : (2 : Nat) ^ s < BB := Nat.pow_lt_pow_right (by decide) hs
 have h2 : N * 2 ^ s < BB ^ (n + 1) := by
  rw [Nat.pow_succ]; exact Nat.mul_lt_mul'' h h1
 refine ⟨?_, h2⟩
 rw [lmb_top h2]
 unfold rc
 rw [Nat.mod_eq_of_lt h]
set_option maxHeartbeats 1600000 in
theorem raised_any (a : Option Addr) (n c N s : Nat) (w : World) (ha : Lie .u32 w a n c (lmb N)) (hN : N < BB ^ n) (hs : s < 32) (hn : n ≤ 1000000000) :
  Calls Try.prog 146 #[.slice a n c, .int .i64 s] w (PNew .u32 134 (n + 1) (lmb (N * 2 ^ s)) w) := by
 have hcm := ha.capm
 have hnc := ha.cap
 unfold maxLen at hcm
 have hn4 : 4 * (n + 1) ≤ 281474976710656 := by omega
 have hn6 : n + 1 ≤ 9223372036854775807 := by omega
 have HN := Lib.hid hN
 clear hN
 go_enter Try.func146, Try.ntmps146
 go_wp2_with (first | (at_make; refine wpList_mk _ rfl (.tmp 11) (.tmp 11) 111 rfl 134 .u32 4 Try.u111 Try.info134 _ _ (n + 1) rfl rfl (by omega) (by omega) hn4 hn6 ?_; intro g w1 hg hown hb1))
 go_loopw [6, 15] (fun cv iv wr => ∃ k : Nat, k ≤ n ∧ iv = .int .i64 k ∧ cv = .int .u32 (rc N s k) ∧ Own .u32 134 wr g (n + 1) (fun j => if j < k then lmb (N * 2 ^ s) j else 0) ∧ Below w.heap.size w wr) (fun _ iv _ => n - (intOf iv).toNat)
 case atStart => exact ⟨0, Nat.zero_le _, rfl, by rw [rc_zero]; rfl, hown.congr (fun j hj => by simp), hb1⟩
 case round =>
  obtain ⟨k, hk, rfl, rfl, hown1, hbl⟩ := hrel
  by_cases hlt : k < n
  ·
   obtain ⟨b1, o1, rfl, hb1'⟩ := ha.some_of_pos (by omega)
   have c1 := (ha.below hbl).at k hlt
   have c2 : wr.cell? ⟨g, k, none⟩ = some (.int .u32 (0 : Nat)) := by rw [hown1.cell k (by omega)]; simp
   have c3 := hown1.free k
   have hla := lmb_lt N k
   have HX := Lib.hid (raise_or hs N k)
   have HY := Lib.hid (raise_shr hs N k)
   have hbs := hbl.setCell (p := ⟨g, k, none⟩) hg
   clear ha
   go_wp2
   go_roundw
   case rel => exact ⟨k + 1, by omega, by go_num, by rw [HY.out], hown1.put (by omega) (by rw [HX.out, if_pos (by omega)]) (fun j _ hne => by by_cases h1 : j < k <;> by_cases h2 : j < k + 1 <;> simp [h1, h2] <;> omega), hbs _⟩
   case measure => simp [intOf]; omega
  ·
   obtain rfl : k = n := by omega
   have c2 : wr.cell? ⟨g, k, none⟩ = some (.int .u32 (0 : Nat)) := by rw [hown1.cell k (by omega)]; simp
   have c3 := hown1.free k
   have HE := Lib.hid (rc_end hs HN.out)
   have hbs := hbl.setCell (p := ⟨g, k, none⟩) hg
   clear ha
   go_wp2
   go_ret
   exact ⟨g, rfl, hg, hown1.put (by omega) (by rw [HE.out.1]) (fun j hj hne => by rw [if_pos (by omega)]), hbs _⟩
def lowF (N s i : Nat) (j : Nat) : Nat := if j < i then lmb (N / 2 ^ s) j else lmb N j
theorem low_mul {s : Nat} (hs : s < 32) (b : Nat) : b * 2 ^ (32 - s) % 4294967296 = 2 ^ (32 - s) * (b % 2 ^ s) := by
 have hp := pow_split hs
 have hd := Nat.div_add_mod b (2 ^ s)
 have hl := Nat.mod_lt b (Nat.pow_pos (n := s) (show 0 < 2 by decide))
 generalize (2 : Nat) ^ s = T at *
 generalize (2 : Nat) ^ (32 - s) = U at *
 generalize b % T = l at *
 generalize b / T = h at *
 have e1 : b * U = 4294967296 * h + U * l := by
  rw [← hd, ← hp, Nat.add_mul, Nat.mul_comm (T * h), Nat.mul_comm l, ← Nat.mul_assoc, Nat.mul_comm U T]
 have e2 : U * (l + 1) ≤ U * T := Nat.mul_le_mul_left _ hl
 rw [Nat.mul_add, Nat.mul_comm U T, hp] at e2
 have : 0 < U := Nat.pos_of_ne_zero fun h => by subst h; simp at hp
 omega
theorem low_part {s : Nat} (hs : s < 32) (N k : Nat) : lmb (N / 2 ^ s) k = 2 ^ (32 - s) * (lmb N (k + 1) % 2 ^ s) + lmb N k / 2 ^ s := by
 have hp := pow_split hs
 have h1 := low_mul hs (lmb N (k + 1))
 have hlo : lmb N k / 2 ^ s < 2 ^ (32 - s) := Nat.div_lt_of_lt_mul (by rw [hp]; exact lmb_lt N k)
 have e0 : lmb (N / 2 ^ s) k = N / BB ^ k / 2 ^ s % 4294967296 := by
  unfold lmb; rw [Nat.div_div_eq_div_mul, Nat.mul_comm, ← Nat.div_div_eq_div_mul]; rfl
 have hU : 2 ^ (32 - s) * (lmb N (k + 1) % 2 ^ s) + 2 ^ (32 - s) ≤ 4294967296 := by
  have hl := Nat.mod_lt (lmb N (k + 1)) (Nat.pow_pos (n := s) (show 0 < 2 by decide))
  have e2 : 2 ^ (32 - s) * (lmb N (k + 1) % 2 ^ s + 1) ≤ 2 ^ (32 - s) * 2 ^ s := Nat.mul_le_mul_left _ hl
  rw [Nat.mul_comm (2 ^ (32 - s)) (2 ^ s), hp, Nat.mul_add] at e2
  omega
 rw [e0, up_split N k, up_split N (k + 1)]
 show (_ + 4294967296 * (_ + 4294967296 * _)) / _ % _ = _
 generalize N / BB ^ (k + 1 + 1) = Q
 rw [← hp, Nat.mul_assoc, Nat.add_mul_div_left _ _ (Nat.pow_pos (by decide)), hp]
 have e3 : 2 ^ (32 - s) * (lmb N (k + 1) + 4294967296 * Q) = lmb N (k + 1) * 2 ^ (32 - s) + 4294967296 * (2 ^ (32 - s) * Q) := by
  rw [Nat.mul_add, Nat.mul_comm _ (lmb N (k + 1)), Nat.mul_left_comm]
 rw [e3]
 clear e3 e0 hp hs
 generalize lmb N (k + 1) * 2 ^ (32 - s) = X at *
 generalize 2 ^ (32 - s) * Q = Y at *
 generalize 2 ^ (32 - s) * (lmb N (k + 1) % 2 ^ s) = R at *
 generalize lmb N k / 2 ^ s = l at *
 generalize (2 : Nat) ^ (32 - s) = U at *
 omega
theorem low_or {s : Nat} (hs : s < 32) (N k : Nat) : bits .or .u32 ((lmb N k : Int) / 2 ^ s) ((lmb N (k + 1) : Int) * 2 ^ (32 - s) % 4294967296) = ((lmb (N / 2 ^ s) k : Nat) : Int) := by
 have hp := pow_split hs
 have hlo : lmb N k / 2 ^ s < 2 ^ (32 - s) := Nat.div_lt_of_lt_mul (by rw [hp]; exact lmb_lt N k)
 have e1 : (lmb N k : Int) / 2 ^ s = ((lmb N k / 2 ^ s : Nat) : Int) := by rw [Int.natCast_ediv, Int.natCast_pow]; rfl
 have e2 : (lmb N (k + 1) : Int) * 2 ^ (32 - s) % 4294967296 = ((2 ^ (32 - s) * (lmb N (k + 1) % 2 ^ s) : Nat) : Int) := by
  rw [← low_mul hs, Int.natCast_emod, Int.natCast_mul, Int.natCast_pow]; rfl
 have hlt := lmb_lt (N / 2 ^ s) k
 rw [low_part hs] at hlt
 rw [e1, e2, u32_or_nat _ _ (by omega) (by omega), low_part hs, Nat.or_comm, ← Nat.two_pow_add_eq_or_of_lt hlo]
theorem low_last {s : Nat} (hs : s < 32) (N k : Nat) (h : lmb N (k + 1) = 0) : (lmb N k : Int) / 2 ^ s = ((lmb (N / 2 ^ s) k : Nat) : Int) := by
 rw [low_part hs, h, Nat.zero_mod, Nat.mul_zero, Nat.zero_add, Int.natCast_ediv, Int.natCast_pow]; rfl
theorem low_fst (N k s : Nat) : (lmb N k : Int) / 2 ^ s = ((lmb N k / 2 ^ s : Nat) : Int) := by rw [Int.natCast_ediv, Int.natCast_pow]; rfl
theorem lowF_next {N s n : Nat} (k : Nat) : ∀ j, j < n → j ≠ k → lowF N s k j = lowF N s (k + 1) j := by
 intro j _ hne
 unfold lowF
 by_cases h1 : j < k <;> by_cases h2 : j < k + 1 <;> simp [h1, h2] <;> omega
theorem Own.put2 {k : IntKind} {e : TypeId} {w : World} {g n : Nat} {f : Nat → Nat} (h : Own k e w g n f) {i X : Nat} {x y : Int} {F : Nat → Nat} (hi : i < n) (hx : x = (X : Nat)) (hy : y = (F i : Nat)) (hf : ∀ j, j < n → j ≠ i → f j = F j) :
  Own k e ((w.setCell ⟨g, i, none⟩ (.int k x)).setCell ⟨g, i, none⟩ (.int k y)) g n F := by
 subst hx
 exact (h.set X hi).put hi hy (fun j hj hne => by simp [hne, hf j hj hne])
set_option maxHeartbeats 1600000 in
theorem lowered_any (a : Option Addr) (n c N s : Nat) (w : World) (ha : Lie .u32 w a n c (lmb N)) (hN : N < BB ^ n) (hs : s < 32) (hn : n ≤ 1000000000) :
  Calls Try.prog 143 #[.slice a n c, .int .i64 s] w (PPart (N / 2 ^ s) w) := by
 have hcm := ha.capm
 have hnc := ha.cap
 unfold maxLen at hcm
 have hn6 : n ≤ 9223372036854775807 := by omega
 have HN := Lib.hid hN
 clear hN
 go_enter Try.func143, Try.ntmps143
 go_wp2_with fail
 refine (copied_any a n c (lmb N) _ ha hn).mono ?_
 rintro e w1 ⟨g, rfl, hg, hown1, hb1⟩
 go_wp2
 go_loopw [11] (fun iv wr => ∃ k : Nat, k ≤ n ∧ iv = .int .i64 k ∧ Own .u32 134 wr g n (lowF N s k) ∧ Below w.heap.size w wr) (fun iv _ => n - (intOf iv).toNat)
 case atStart => exact ⟨0, Nat.zero_le _, rfl, hown1.congr (fun j hj => by simp [lowF]), hb1⟩
 case round =>
  obtain ⟨k, hk, rfl, hown, hbl⟩ := hrel
  by_cases hlt : k < n
  ·
   obtain ⟨b1, o1, rfl, hb1'⟩ := ha.some_of_pos (by omega)
   have c1 : wr.cell? ⟨g, k, none⟩ = some (.int .u32 (lmb N k)) := by rw [hown.cell k (by omega)]; simp [lowF]
   have c2 := hown.free k
   have hla := lmb_lt N k
   have hbg : b1 < g := by omega
   by_cases hk1 : k + 1 < n
   ·
    have c3 := (ha.below hbl).at (k + 1) hk1
    have hla1 := lmb_lt N (k + 1)
    have HX := Lib.hid (low_or hs N k)
    have hbs := fun u v => (hbl.setCell (p := ⟨g, k, none⟩) hg u).setCell (p := ⟨g, k, none⟩) hg v
    have HB := Lib.hid hbs
    clear ha hbs
    go_wp2
    go_region
    all_goals go_wp2
    all_goals go_roundw
    case rel => exact ⟨k + 1, by omega, by go_num, (hown.put2 (by omega) (low_fst N k s) (by rw [HX.out, lowF, if_pos (by omega)]) (lowF_next k)).drew, (HB.out _ _).drew⟩
    case measure => simp [intOf]; omega
   ·
    have HX := Lib.hid (low_last hs N k (lmb_zero HN.out (by omega)))
    have hbs := hbl.setCell (p := ⟨g, k, none⟩) hg
    clear ha
    go_wp2
    go_roundw
    case rel => exact ⟨k + 1, by omega, by go_num, hown.put (by omega) (by rw [HX.out, lowF, if_pos (by omega)]) (lowF_next k), hbs _⟩
    case measure => simp [intOf]; omega
  ·
   obtain rfl : k = n := by omega
   have hO : Own .u32 134 wr g k (lmb (N / 2 ^ s)) := hown.congr (fun j hj => by rw [lowF, if_pos hj])
   clear ha
   go_wp2_with fail
   refine (trimmed_any _ _ _ (N / 2 ^ s) _ (hO.lie (Nat.le_refl _) (by unfold maxLen; omega)) (Nat.lt_of_le_of_lt (Nat.div_le_self _ _) HN.out)).mono ?_
   rintro e w3 ⟨mm, rfl, hmm, hfit, rfl⟩
   go_wp2
   go_ret
   exact ppart_own hO hg hbl hmm hn6 hfit
end Go.Proofs.Ytpahkpcoinbgcaa

/- The walk of quotient. -/
namespace Go.Proofs.Ytpahkpcoinbgcaa
open Go.RowKit
/-- Parts of a quotient and of what is left are handed back, in new memory. -/
def PQuo (A B : Nat) (w : World) (e : Ending) (w' : World) : Prop :=
 ∃ (a1 : Option Addr) (n1 c1 : Nat) (a2 : Option Addr) (n2 c2 : Nat), e = .returned (.tuple #[.slice a1 n1 c1, .slice a2 n2 c2]) ∧
  (Lie .u32 w' a1 n1 c1 (lmb (A / B)) ∧ Fit n1 (A / B) ∧ ∀ p, a1 = some p → w.heap.size ≤ p.block) ∧
  (Lie .u32 w' a2 n2 c2 (lmb (A % B)) ∧ Fit n2 (A % B) ∧ ∀ p, a2 = some p → w.heap.size ≤ p.block) ∧ Below w.heap.size w w'
theorem bitLen_in {x : Nat} (h0 : 1 ≤ x) (h : x < 4294967296) : 1 ≤ Lib.bitLen x ∧ Lib.bitLen x ≤ 32 ∧ 2 ^ (Lib.bitLen x - 1) ≤ x ∧ x < 2 ^ Lib.bitLen x := by
 obtain ⟨h1, h2, h3⟩ := Lib.bitLenAux_bounds 64 x (by omega) (by omega)
 exact ⟨h1, Lib.bitLen_le x 32 (by omega) h, h2, h3⟩
theorem top_lead {B n s : Nat} (hB : Fit n B) (hn : 1 ≤ n) (hs : s = 32 - Lib.bitLen (lmb B (n - 1))) : s < 32 ∧ Fit n (B * 2 ^ s) ∧ 1 ≤ lmb B (n - 1) := by
 obtain ⟨m, rfl⟩ : ∃ m, n = m + 1 := ⟨n - 1, by omega⟩
 simp only [Nat.add_sub_cancel] at *
 have hB1 := hB.1
 have hB2 : BB ^ m ≤ B := by rcases hB.2 with h | h <;> simp at h ⊢; exact h
 have htop : 1 ≤ lmb B m := by rw [lmb_top hB1]; exact Nat.div_pos hB2 (BBp _)
 obtain ⟨h1, h2, h3, h4⟩ := bitLen_in htop (lmb_lt B m)
 have hs32 : s < 32 := by omega
 refine ⟨hs32, ⟨?_, .inr ?_⟩, htop⟩
 ·
  have e : B < BB ^ m * (lmb B m + 1) := by
   rw [lmb_top hB1, Nat.mul_add, Nat.mul_one]
   have := Nat.div_add_mod B (BB ^ m)
   have h5 := Nat.mod_lt B (BBp m)
   omega
  have e2 : (lmb B m + 1) * 2 ^ s ≤ 4294967296 := by
   have : (lmb B m + 1) * 2 ^ s ≤ 2 ^ Lib.bitLen (lmb B m) * 2 ^ s := Nat.mul_le_mul_right _ h4
   rw [← Nat.pow_add, show Lib.bitLen (lmb B m) + s = 32 from by omega] at this
   exact this
  calc B * 2 ^ s < BB ^ m * (lmb B m + 1) * 2 ^ s := (Nat.mul_lt_mul_right (Nat.pow_pos (by decide))).2 e
   _ = BB ^ m * ((lmb B m + 1) * 2 ^ s) := Nat.mul_assoc _ _ _
   _ ≤ BB ^ m * 4294967296 := Nat.mul_le_mul_left _ e2
   _ = BB ^ (m + 1) := by rw [Nat.pow_succ]; rfl
 ·
  exact Nat.le_trans hB2 (Nat.le_mul_of_pos_right _ (Nat.pow_pos (by decide)))
theorem own_lit1 (k : IntKind) (e : TypeId) (w : World) (x : Nat) (f : Nat → Nat) (h : f 0 = x) : Own k e (w.alloc (.cells #[.int k (x : Nat)] e)) w.heap.size 1 f := by
 unfold Own
 rw [heap_alloc_new]
 simp [List.range_succ, h]
theorem own_lit2 (k : IntKind) (e : TypeId) (w : World) (x y : Nat) (f : Nat → Nat) (h : f 0 = x) (h' : f 1 = y) : Own k e (w.alloc (.cells #[.int k (x : Nat), .int k (y : Nat)] e)) w.heap.size 2 f := by
 unfold Own
 rw [heap_alloc_new]
 simp [List.range_succ, h, h']
set_option maxHeartbeats 1600000 in
theorem quotient_lt (a b : Option Addr) (n c m d A B : Nat) (w : World) (ha : Lie .u32 w a n c (lmb A)) (hb : Lie .u32 w b m d (lmb B)) (fa : Fit n A) (fb : Fit m B) (hn : n ≤ 1000000000) (hlt : A < B) :
  Calls Try.prog 138 #[.slice a n c, .slice b m d] w (PQuo A B w) := by
 go_enter Try.func138, Try.ntmps138
 go_wp2_with fail
 refine (compare_any a b n c m d A B _ ha hb fa fb).mono ?_
 rintro e w1 ⟨rfl, hb1⟩
 have ha1 := ha.below hb1
 rw [show cmpN A B = -1 from by simp [cmpN, hlt]]
 clear ha hb
 go_wp2_with fail
 refine (copied_any a n c (lmb A) _ ha1 hn).mono ?_
 rintro e w2 ⟨g, rfl, hg, hown2, hb2⟩
 have HQ : Hid (A / B = 0 ∧ A % B = A) := ⟨Nat.div_eq_of_lt hlt, Nat.mod_eq_of_lt hlt⟩
 go_wp2
 go_ret2
 refine ⟨none, 0, 0, some ⟨g, 0, none⟩, n, n, rfl, ?_, ?_, hb1.trans (hb2.mono hb1.size)⟩
 ·
  rw [HQ.out.1]; exact ⟨lie_nil _ _ _, fit_zero, fun p hp => by cases hp⟩
 ·
  rw [HQ.out.2]; exact ⟨hown2.lie (Nat.le_refl _) (by unfold maxLen; omega), fa, fun p hp => by cases hp; have := hb1.size; show _ ≤ g; omega⟩
set_option maxHeartbeats 1600000 in
theorem quotient_one (a b : Option Addr) (n c d A B : Nat) (w : World) (ha : Lie .u32 w a n c (lmb A)) (hb : Lie .u32 w b 1 d (lmb B)) (fa : Fit n A) (fb : Fit 1 B) (hn : n ≤ 1000000000) (hlt : B ≤ A) :
  Calls Try.prog 138 #[.slice a n c, .slice b (1 : Nat) d] w (PQuo A B w) := by
 have hBl : B < 4294967296 := by have := fb.1; rw [Nat.pow_one] at this; exact this
 have hBp : 0 < B := by
  refine Nat.pos_of_ne_zero fun h => ?_
  have := (fit_pos fb).2 h
  omega
 have hB0 : lmb B 0 = B := by unfold lmb; simp; exact Nat.mod_eq_of_lt hBl
 obtain ⟨b1, o1, rfl, hb1'⟩ := hb.some_of_pos (by omega)
 have hcmp : 0 ≤ cmpN A B := by unfold cmpN; rw [if_neg (by omega)]; split <;> omega
 go_enter Try.func138, Try.ntmps138
 go_wp2_with fail
 refine (compare_any a _ n c 1 d A B _ ha hb fa fb).mono ?_
 rintro e w1 ⟨rfl, hb1⟩
 have ha1 := ha.below hb1
 have hbb1 := hb.below hb1
 generalize cmpN A B = cc at *
 clear ha hb
 go_wp2_with fail
 refine (copied_any a n c (lmb A) _ ha1 hn).mono ?_
 rintro e w2 ⟨g, rfl, hg, hown2, hb2⟩
 have hbb2 := hbb1.below hb2
 have c0 := hbb2.at 0 (by omega)
 rw [hB0, Nat.add_zero] at c0
 clear hbb1 hbb2 ha1
 go_wp2_with fail
 refine (divideBy_any g n n A B (lmb A) _ hown2 (Nat.le_refl _) (fun i hi => rfl) fa.1 hBp hBl hn).mono ?_
 rintro e w3 ⟨rfl, hown3, ho3⟩
 have hown4 : Own .u32 134 w3 g n (lmb (A / B)) := hown3.congr (fun i hi => by rw [hiF, if_pos (by omega)])
 clear hown3
 obtain ⟨r, hr⟩ : ∃ r, r = A % B := ⟨_, rfl⟩
 have hrB : r < 4294967296 := by rw [hr]; exact Nat.lt_trans (Nat.mod_lt _ hBp) hBl
 rw [← hr]
 have HR := Lib.hid hr
 clear hr
 go_wp2_with fail
 refine (trimmed_any _ _ _ (A / B) _ (hown4.lie (Nat.le_refl _) (by unfold maxLen; omega)) (Nat.lt_of_le_of_lt (Nat.div_le_self _ _) fa.1)).mono ?_
 rintro e w4 ⟨m1, rfl, hm1, hfit1, rfl⟩
 have hown5 := own_lit1 .u32 134 w3 r (lmb r) (by unfold lmb; simp; exact Nat.mod_eq_of_lt hrB)
 go_wp2_with fail
 refine (trimmed_any _ _ _ r _ (hown5.lie (Nat.le_refl _) (by unfold maxLen; omega)) (by rw [Nat.pow_one]; exact hrB)).mono ?_
 rintro e w5 ⟨m2, rfl, hm2, hfit2, rfl⟩
 go_wp2
 go_ret2
 have hb3 : Below w.heap.size w w3 := (hb1.trans (hb2.mono hb1.size)).trans (ho3.below (by have := hb1.size; omega))
 have hb4 : Below w3.heap.size w3 (w3.alloc (.cells #[.int .u32 (r : Nat)] 134)) := (Below.refl _ _).alloc (Nat.le_refl _) _
 refine ⟨some ⟨g, 0, none⟩, m1, n, some ⟨w3.heap.size, 0, none⟩, m2, 1, rfl, ⟨(hown4.lie hm1 (by unfold maxLen; omega)).below hb4, hfit1, fun p hp => ?_⟩, ?_, hb3.trans (hb4.mono hb3.size)⟩
 ·
  cases hp; have := hb1.size; show _ ≤ g; omega
 ·
  rw [← HR.out]
  exact ⟨hown5.lie hm2 (by unfold maxLen; omega), hfit2, fun p hp => by cases hp; exact hb3.size⟩
end Go.Proofs.Ytpahkpcoinbgcaa
