/- The walks of takeTimes and addBack. -/
import Derived.Test.YtohdfialnaegcaaProd
namespace Go.Proofs.Ytohdfialnaegcaa
open Go.RowKit

/-- A window of n + 1 parts from u on: the first k out of W, the others out of R; elsewhere f. -/
def winK (u n k W R : Nat) (f : Nat → Nat) (p : Nat) : Nat := if u ≤ p ∧ p ≤ u + n then (if p - u < k then lmb W (p - u) else lmb R (p - u)) else f p

theorem winK_next {u n k W W' R T : Nat} {f : Nat → Nat} (h : ∀ j, j < k → lmb W j = lmb W' j) : ∀ p, p < T → p ≠ u + k → winK u n k W R f p = winK u n (k + 1) W' R f p := by
  intro p _ hne
  unfold winK
  by_cases h1 : u ≤ p ∧ p ≤ u + n
  · rw [if_pos h1, if_pos h1]
    by_cases h2 : p - u < k
    · rw [if_pos h2, if_pos (by omega), h _ h2]
    · rw [if_neg h2, if_neg (by omega)]
  · rw [if_neg h1, if_neg h1]
theorem winK_at {u n k W R : Nat} {f : Nat → Nat} (hk : k ≤ n) : winK u n k W R f (u + k) = lmb R k := by
  unfold winK
  rw [if_pos (by omega), if_neg (by omega), show u + k - u = k from by omega]
theorem winK_put {u n k W R : Nat} {f : Nat → Nat} (hk : k ≤ n) : winK u n (k + 1) W R f (u + k) = lmb W k := by
  unfold winK
  rw [if_pos (by omega), if_pos (by omega), show u + k - u = k from by omega]
theorem winK_zero {u n W R T : Nat} {f : Nat → Nat} (h : ∀ j, j ≤ n → f (u + j) = lmb R j) : ∀ p, p < T → f p = winK u n 0 W R f p := by
  intro p _
  unfold winK
  by_cases h1 : u ≤ p ∧ p ≤ u + n
  · rw [if_pos h1, if_neg (by omega), ← h (p - u) (by omega), show u + (p - u) = p from by omega]
  · rw [if_neg h1]
theorem lmb_low (W x k : Nat) (hW : W < BB ^ k) (hx : x < 4294967296) : lmb (W + BB ^ k * x) k = x ∧ W + BB ^ k * x < BB ^ (k + 1) := by
  constructor
  · unfold lmb
    rw [Nat.add_mul_div_left _ _ (BBp k), Nat.div_eq_of_lt hW, Nat.zero_add]
    exact Nat.mod_eq_of_lt hx
  · rw [Nat.pow_succ]
    have := Nat.mul_le_mul_left (BB ^ k) (show x + 1 ≤ BB from hx)
    rw [Nat.mul_add] at this
    omega

/-- What stands after k parts were taken. -/
def Took (R D t k W cr : Nat) : Prop := cr * BB ^ k + R % BB ^ k = W + t * (D % BB ^ k) ∧ W < BB ^ k
theorem took_zero (R D t : Nat) : Took R D t 0 0 0 := ⟨by simp [Nat.mod_one], by simp⟩
theorem took_le {R D t k W cr : Nat} (h : Took R D t k W cr) : cr ≤ t := by
  obtain ⟨h1, h2⟩ := h
  have hd := Nat.mod_lt D (BBp k)
  have h3 : t * (D % BB ^ k) ≤ t * BB ^ k := Nat.mul_le_mul_left _ (Nat.le_of_lt hd)
  refine Nat.le_of_lt_succ (Nat.lt_of_mul_lt_mul_right (a := BB ^ k) ?_)
  rw [Nat.succ_mul]
  generalize R % BB ^ k = r at *
  omega
theorem took_step {R D t k W cr : Nat} (h : Took R D t k W cr) {x cr' : Nat} (hx : x < 4294967296) (he : cr' * 4294967296 + lmb R k = x + (cr + t * lmb D k)) :
    Took R D t (k + 1) (W + BB ^ k * x) cr' := by
  refine ⟨?_, (lmb_low W x k h.2 hx).2⟩
  rw [mod_succ, mod_succ, Nat.pow_succ]
  have h1 := h.1
  have e1 : cr' * (BB ^ k * BB) + BB ^ k * lmb R k = BB ^ k * x + BB ^ k * cr + BB ^ k * (t * lmb D k) := by
    have : BB ^ k * (cr' * 4294967296 + lmb R k) = BB ^ k * (x + (cr + t * lmb D k)) := by rw [he]
    rw [Nat.mul_add, Nat.mul_add, Nat.mul_add, ← Nat.add_assoc] at this
    rw [← this, ← Nat.mul_assoc, Nat.mul_comm cr' (BB ^ k), Nat.mul_assoc]; rfl
  have e2 : t * (D % BB ^ k + BB ^ k * lmb D k) = t * (D % BB ^ k) + BB ^ k * (t * lmb D k) := by rw [Nat.mul_add, Nat.mul_left_comm]
  have e3 : cr * BB ^ k = BB ^ k * cr := Nat.mul_comm _ _
  rw [e2]
  omega
/-- What was taken off: U, and whether that wrapped round. -/
def Off (R X n U : Nat) (bl : Bool) : Prop := (bl = true → U + X = R + BB ^ (n + 1) ∧ R < X) ∧ (bl = false → U + X = R) ∧ U < BB ^ (n + 1)
theorem took_end {R D t n W cr : Nat} (h : Took R D t n W cr) (hR : R < BB ^ (n + 1)) (hD : D < BB ^ n) {x : Nat} (hx : x < 4294967296)
    (hc : (cr ≤ lmb R n → x + cr = lmb R n) ∧ (lmb R n < cr → x + cr = lmb R n + 4294967296)) : Off R (t * D) n (W + BB ^ n * x) (decide (lmb R n < cr)) := by
  have h1 := h.1
  rw [Nat.mod_eq_of_lt hD] at h1
  have hr : R % BB ^ n + BB ^ n * lmb R n = R := by rw [lmb_top hR]; exact Nat.mod_add_div _ _
  refine ⟨fun hb => ?_, fun hb => ?_, (lmb_low W x n h.2 hx).2⟩
  · have hlt := of_decide_eq_true hb
    have he := hc.2 hlt
    have e1 : BB ^ n * x + BB ^ n * cr = BB ^ n * lmb R n + BB ^ (n + 1) := by
      rw [← Nat.mul_add, he, Nat.mul_add, Nat.pow_succ]; rfl
    rw [Nat.mul_comm cr] at h1
    have hlow := (lmb_low W x n h.2 hx).2
    omega
  · have hge := of_decide_eq_false hb
    have he := hc.1 (by omega)
    have e1 : BB ^ n * x + BB ^ n * cr = BB ^ n * lmb R n := by rw [← Nat.mul_add, he]
    rw [Nat.mul_comm cr] at h1
    omega

theorem take_num1 {r cr p : Nat} (hr : r < 4294967296) (hc : (r : Int) < ((cr : Int) + (p : Int)) % 4294967296) :
    ∃ x cr' : Nat, x < 4294967296 ∧ cr' * 4294967296 + r = x + (cr + p) ∧ ((r : Int) - ((cr : Int) + (p : Int))) % 4294967296 = (x : Int) ∧ ((cr : Int) + (p : Int)) / 4294967296 + 1 = (cr' : Int) :=
  ⟨r + 4294967296 - (cr + p) % 4294967296, (cr + p) / 4294967296 + 1, by omega, by omega, by omega, by omega⟩
theorem take_num2 {r cr p : Nat} (hr : r < 4294967296) (hc : ¬ (r : Int) < ((cr : Int) + (p : Int)) % 4294967296) :
    ∃ x cr' : Nat, x < 4294967296 ∧ cr' * 4294967296 + r = x + (cr + p) ∧ (r : Int) - ((cr : Int) + (p : Int)) % 4294967296 = (x : Int) ∧ ((cr : Int) + (p : Int)) / 4294967296 = (cr' : Int) :=
  ⟨r - (cr + p) % 4294967296, (cr + p) / 4294967296, by omega, by omega, by omega, by omega⟩

/-- Block g holds a window that U fills; a bool is told. -/
def PTake (t : TypeId) (g T u n R X : Nat) (f : Nat → Nat) (w : World) (e : Ending) (w' : World) : Prop :=
  ∃ (U : Nat) (bl : Bool), e = .returned (.bool bl) ∧ Off R X n U bl ∧ Own .u32 t w' g T (winK u n (n + 1) U R f) ∧ Only g w w'

set_option maxHeartbeats 1600000 in
theorem takeTimes_any (g T u n cp R D t : Nat) (da : Option Addr) (dc : Nat) (f : Nat → Nat) (w : World) (hown : Own .u32 103 w g T f) (hT : u + n < T) (hTb : T ≤ 1000000000)
    (hf : ∀ j, j ≤ n → f (u + j) = lmb R j) (hR : R < BB ^ (n + 1)) (hd : Lie .u32 w da n dc (lmb D)) (hne : ∀ p, da = some p → p.block ≠ g) (hD : D < BB ^ n) (ht : t < 4294967296) :
    Calls Try.prog 118 #[.slice (some ⟨g, u, none⟩) ((n + 1 : Nat)) cp, .slice da n dc, .int .u64 t] w (PTake 103 g T u n R (t * D) f w) := by
  have HF := Lib.hid hf
  have HR := Lib.hid hR
  have HD := Lib.hid hD
  have HNE := Lib.hid hne
  clear hf hR hD hne
  go_enter Try.func118, Try.ntmps118
  go_wp2
  go_loopw [7, 15] (fun cv iv wr => ∃ k cr W : Nat, k ≤ n ∧ iv = .int .i64 k ∧ cv = .int .u64 cr ∧ Took R D t k W cr ∧ Own .u32 103 wr g T (winK u n k W R f) ∧ Only g w wr) (fun _ iv _ => n - (intOf iv).toNat)
  case atStart => exact ⟨0, 0, 0, Nat.zero_le _, rfl, rfl, took_zero _ _ _, hown.congr (winK_zero HF.out), Only.refl _ _⟩
  case round =>
    obtain ⟨k, cr, W, hk, rfl, rfl, htk, hown1, ho1⟩ := hrel
    have hcr := took_le htk
    have c1 : wr.cell? ⟨g, u + k, none⟩ = some (.int .u32 (lmb R k)) := by rw [hown1.cell (u + k) (by omega), winK_at hk]
    have c2 := hown1.free (u + k)
    have hlr := lmb_lt R k
    have hld := lmb_lt D k
    by_cases hlt : k < n
    · obtain ⟨b1, o1, rfl, hb1⟩ := hd.some_of_pos (by omega)
      have c3 := (hd.only ho1 HNE.out).at k hlt
      obtain ⟨hpm0, hpm⟩ := mul_u32 ht hld
      have hmod : ((t : Int) * (lmb D k : Int)) = ((t * lmb D k : Nat) : Int) := (Int.natCast_mul _ _).symm
      rw [show ((t : Int) * (lmb D k : Int)) = ((t * lmb D k : Nat) : Int) from (Int.natCast_mul _ _).symm] at hpm0 hpm
      by_cases hc : (lmb R k : Int) < ((cr : Int) + ((t * lmb D k : Nat) : Int)) % 4294967296
      · obtain ⟨x, cr', hx, he, hv, hcv⟩ := take_num1 hlr hc
        have HX := Lib.hid (And.intro hv hcv)
        have HE := Lib.hid he
        rw [Int.natCast_mul] at HX hc hpm0 hpm
        clear hd hmod hv hcv he
        go_wp2
        go_roundw
        case rel => exact ⟨k + 1, cr', W + BB ^ k * x, by omega, by go_num, by rw [HX.out.2], took_step htk hx HE.out, hown1.put (by omega) (by rw [HX.out.1, winK_put (by omega), (lmb_low W x k htk.2 hx).1]) (winK_next (fun j hj => (lmb_add_hi W x k j hj).symm)), ho1.trans (Only.setCell _ _ _ _)⟩
        case measure => simp [intOf]; omega
      · obtain ⟨x, cr', hx, he, hv, hcv⟩ := take_num2 hlr hc
        have HX := Lib.hid (And.intro hv hcv)
        have HE := Lib.hid he
        rw [Int.natCast_mul] at HX hc hpm0 hpm
        clear hd hmod hv hcv he
        go_wp2
        go_roundw
        case rel => exact ⟨k + 1, cr', W + BB ^ k * x, by omega, by go_num, by rw [HX.out.2], took_step htk hx HE.out, hown1.put (by omega) (by rw [HX.out.1, winK_put (by omega), (lmb_low W x k htk.2 hx).1]) (winK_next (fun j hj => (lmb_add_hi W x k j hj).symm)), ho1.trans (Only.setCell _ _ _ _)⟩
        case measure => simp [intOf]; omega
    · obtain rfl : k = n := by omega
      by_cases hc : lmb R k < cr
      · have HO := Lib.hid (took_end htk HR.out HD.out (x := lmb R k + 4294967296 - cr) (by omega) ⟨fun _ => by omega, fun _ => by omega⟩)
        have HX : Hid (((lmb R k : Int) - (cr : Int)) % 4294967296 = ((lmb R k + 4294967296 - cr : Nat) : Int)) := by show _ = _; omega
        have hc' : decide (lmb R k < cr) = true := decide_eq_true hc
        clear hd
        go_wp2
        go_ret
        exact ⟨_, true, rfl, by rw [hc'] at HO; exact HO.out, hown1.put (by omega) (by rw [HX.out, winK_put (by omega), (lmb_low W _ k htk.2 (by omega)).1]) (winK_next (fun j hj => (lmb_add_hi W _ k j hj).symm)), ho1.trans (Only.setCell _ _ _ _)⟩
      · have HO := Lib.hid (took_end htk HR.out HD.out (x := lmb R k - cr) (by omega) ⟨fun _ => by omega, fun _ => by omega⟩)
        have HX : Hid ((lmb R k : Int) - (cr : Int) = ((lmb R k - cr : Nat) : Int)) := by show _ = _; omega
        have hc' : decide (lmb R k < cr) = false := decide_eq_false hc
        clear hd
        go_wp2
        go_ret
        exact ⟨_, false, rfl, by rw [hc'] at HO; exact HO.out, hown1.put (by omega) (by rw [HX.out, winK_put (by omega), (lmb_low W _ k htk.2 (by omega)).1]) (winK_next (fun j hj => (lmb_add_hi W _ k j hj).symm)), ho1.trans (Only.setCell _ _ _ _)⟩
end Go.Proofs.Ytohdfialnaegcaa
