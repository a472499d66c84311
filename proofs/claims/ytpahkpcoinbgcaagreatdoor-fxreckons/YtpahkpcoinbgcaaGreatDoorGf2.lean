/- Parts of the proof. -/
import Derived.Test.YtpahkpcoinbgcaaGreatDoorGf1
import Derived.Deep.LoopGhost
import Derived.Test.YtpahkpcoinbgcaaGreatDoorShelf
import Derived.Lib.Strings
/- The walk of product. -/
namespace Go.Proofs.YtpahkpcoinbgcaaGreatDoor
open Go.RowKit
/-- Parts below q out of S, the others out of T. -/
def mixF (S T q : Nat) (p : Nat) : Nat := if p < q then lmb S p else lmb T p
/-- What is reached within a row: the rows ahead, and j parts of this one. -/
def rowS (A B i j : Nat) : Nat := (A % BB ^ i) * B + BB ^ i * (lmb A i * (B % BB ^ j))
/-- What is carried within a row. -/
def rowC (A B i j : Nat) : Nat := rowS A B i j / BB ^ (i + j) - (A % BB ^ i) * B / BB ^ (i + j)
theorem rowS_zero (A B i : Nat) : rowS A B i 0 = (A % BB ^ i) * B := by simp [rowS, Nat.mod_one]
theorem rowC_zero (A B i : Nat) : rowC A B i 0 = 0 := by simp [rowC, rowS_zero]
theorem rowS_next (A B i j : Nat) : rowS A B i (j + 1) = rowS A B i j + BB ^ (i + j) * (lmb A i * lmb B j) := by
 unfold rowS
 rw [mod_succ, Nat.pow_add]
 generalize lmb A i = x
 generalize lmb B j = y
 rw [Nat.mul_add, Nat.mul_add, ← Nat.add_assoc]
 congr 1
 simp only [Nat.mul_assoc, Nat.mul_left_comm, Nat.mul_comm]
theorem rowS_le (A B i j : Nat) : (A % BB ^ i) * B ≤ rowS A B i j := Nat.le_add_right _ _
theorem rowC_eq (A B i j : Nat) : rowS A B i j / BB ^ (i + j) = rowC A B i j + (A % BB ^ i) * B / BB ^ (i + j) := by
 unfold rowC
 have := Nat.div_le_div_right (c := BB ^ (i + j)) (rowS_le A B i j)
 omega
theorem rowC_lt (A B i j : Nat) : rowC A B i j < 4294967296 := by
 have hlt : rowS A B i j < (A % BB ^ i) * B + BB ^ (i + j) * 4294967295 + 1 := by
  have h1 : lmb A i * (B % BB ^ j) ≤ 4294967295 * BB ^ j := Nat.mul_le_mul (by have := lmb_lt A i; omega) (Nat.le_of_lt (Nat.mod_lt _ (BBp j)))
  have h2 : BB ^ i * (lmb A i * (B % BB ^ j)) ≤ BB ^ i * (4294967295 * BB ^ j) := Nat.mul_le_mul_left _ h1
  have h3 : BB ^ i * (4294967295 * BB ^ j) = BB ^ (i + j) * 4294967295 := by rw [Nat.pow_add, Nat.mul_comm 4294967295, Nat.mul_assoc]
  unfold rowS
  omega
 have hle : rowS A B i j / BB ^ (i + j) ≤ (A % BB ^ i) * B / BB ^ (i + j) + 4294967295 := by
  rw [← Nat.add_mul_div_left _ _ (BBp (i + j))]
  exact Nat.div_le_div_right (by omega)
 unfold rowC
 omega
theorem rowC_step (A B i j : Nat) :
  (rowC A B i j + (lmb A i * lmb B j + lmb ((A % BB ^ i) * B) (i + j))) % 4294967296 = lmb (rowS A B i (j + 1)) (i + j) ∧
  (rowC A B i j + (lmb A i * lmb B j + lmb ((A % BB ^ i) * B) (i + j))) / 4294967296 = rowC A B i (j + 1) := by
 have e1 : rowS A B i (j + 1) / BB ^ (i + j) = rowC A B i j + (A % BB ^ i) * B / BB ^ (i + j) + lmb A i * lmb B j := by
  rw [rowS_next, Nat.add_mul_div_left _ _ (BBp _), rowC_eq]
 have e2 := rowC_eq A B i (j + 1)
 rw [show i + (j + 1) = (i + j) + 1 from by omega, Nat.pow_succ, ← Nat.div_div_eq_div_mul, ← Nat.div_div_eq_div_mul, e1] at e2
 constructor
 ·
  show _ = rowS A B i (j + 1) / BB ^ (i + j) % BB
  rw [e1]
  show (_ + (_ + (A % BB ^ i) * B / BB ^ (i + j) % BB)) % BB = _
  simp only [BB] at *
  omega
 ·
  show (_ + (_ + (A % BB ^ i) * B / BB ^ (i + j) % BB)) / BB = _
  simp only [BB] at *
  omega
theorem lmb_add_hi (S x q p : Nat) (h : p < q) : lmb (S + BB ^ q * x) p = lmb S p := by
 unfold lmb
 obtain ⟨d, rfl⟩ : ∃ d, q = p + 1 + d := ⟨q - (p + 1), by omega⟩
 rw [Nat.pow_add, Nat.pow_succ, Nat.mul_assoc, Nat.mul_assoc, Nat.add_mul_div_left _ _ (BBp p), Nat.add_mul_mod_self_left]
theorem mix_next (A B i j n : Nat) : ∀ p, p < n → p ≠ i + j → mixF (rowS A B i j) ((A % BB ^ i) * B) (i + j) p = mixF (rowS A B i (j + 1)) ((A % BB ^ i) * B) (i + (j + 1)) p := by
 intro p _ hne
 unfold mixF
 by_cases h1 : p < i + j
 ·
  rw [if_pos h1, if_pos (by omega), rowS_next, lmb_add_hi _ _ _ _ h1]
 ·
  rw [if_neg h1, if_neg (by omega)]
theorem rowS_end (A B i m : Nat) (hB : B < BB ^ m) : rowS A B i m = (A % BB ^ (i + 1)) * B := by
 unfold rowS
 rw [Nat.mod_eq_of_lt hB, mod_succ, Nat.add_mul, Nat.mul_assoc]
theorem row_lt (A B i m : Nat) (hB : B < BB ^ m) : (A % BB ^ i) * B < BB ^ (i + m) := by
 rw [Nat.pow_add]
 exact Nat.mul_lt_mul'' (Nat.mod_lt _ (BBp i)) hB
theorem rowC_end (A B i m : Nat) (hB : B < BB ^ m) : rowC A B i m = lmb ((A % BB ^ (i + 1)) * B) (i + m) := by
 unfold rowC
 rw [rowS_end A B i m hB, Nat.div_eq_of_lt (row_lt A B i m hB), Nat.sub_zero]
 have h : (A % BB ^ (i + 1)) * B < BB ^ (i + m + 1) := by
  have := row_lt A B (i + 1) m hB
  rwa [show i + 1 + m = i + m + 1 from by omega] at this
 rw [lmb_top h]
theorem mix_end (A B i m n : Nat) (hB : B < BB ^ m) : ∀ p, p < n → p ≠ i + m → mixF (rowS A B i m) ((A % BB ^ i) * B) (i + m) p = lmb ((A % BB ^ (i + 1)) * B) p := by
 intro p _ hne
 unfold mixF
 by_cases h1 : p < i + m
 ·
  rw [if_pos h1, rowS_end A B i m hB]
 ·
  rw [if_neg h1, lmb_zero (row_lt A B i m hB) (by omega)]
  have := row_lt A B (i + 1) m hB
  rw [lmb_zero this (by omega)]
theorem mul_u32 {x y : Nat} (hx : x < 4294967296) (hy : y < 4294967296) : (0 : Int) ≤ (x : Int) * (y : Int) ∧ (x : Int) * (y : Int) ≤ 18446744065119617025 := by
 have := Nat.mul_le_mul (show x ≤ 4294967295 by omega) (show y ≤ 4294967295 by omega)
 rw [← Int.natCast_mul]
 omega
set_option maxHeartbeats 1600000 in
theorem product_any (a b : Option Addr) (n c m d A B : Nat) (w : World) (ha : Lie .u32 w a n c (lmb A)) (hb : Lie .u32 w b m d (lmb B)) (fa : Fit n A) (fb : Fit m B) (hn : n ≤ 1000000000) (hm : m ≤ 1000000000) :
  Calls Tryz.prog 82 #[.slice a n c, .slice b m d] w (PPart (A * B) w) := by
 have hcm := ha.capm
 have hnc := ha.cap
 have hdm := hb.capm
 have hmd := hb.cap
 unfold maxLen at hcm hdm
 have hn4 : 4 * (n + m) ≤ 281474976710656 := by omega
 have hn6 : n + m ≤ 9223372036854775807 := by omega
 have HA := Lib.hid fa
 have HB := Lib.hid fb
 clear fa fb
 go_enter Tryz.func82, Tryz.ntmps82
 go_wp2_with (first | (at_make; refine wpList_mk _ rfl (.tmp 15) (.tmp 15) 51 rfl 77 .u32 4 Tryz.u51 Tryz.info77 _ _ (n + m) rfl rfl (by omega) (by omega) hn4 hn6 ?_; intro g w1 hg hown hb1))
 go_loopw [19] (fun i wr => ∃ k : Nat, k ≤ n ∧ i = .int .i64 k ∧ Own .u32 77 wr g (n + m) (lmb ((A % BB ^ k) * B)) ∧ Below w.heap.size w wr) (fun i _ => n - (intOf i).toNat)
 case atStart => exact ⟨0, Nat.zero_le _, rfl, hown.congr (fun j hj => by simp [Nat.mod_one, lmb]), hb1⟩
 case round =>
  obtain ⟨k, hk, rfl, hown, hbl⟩ := hrel
  by_cases hlt : k < n
  ·
   obtain ⟨b1, o1, rfl, hb1'⟩ := ha.some_of_pos (by omega)
   have c1 := (ha.below hbl).at k hlt
   obtain ⟨wo, rfl⟩ : ∃ wo : World, wo = wr := ⟨_, rfl⟩
   go_wp2
   go_loopw [8, 26] (fun cv jv wr => ∃ j : Nat, j ≤ m ∧ jv = .int .i64 j ∧ cv = .int .u64 (rowC A B k j) ∧ Own .u32 77 wr g (n + m) (mixF (rowS A B k j) ((A % BB ^ k) * B) (k + j)) ∧ Below w.heap.size w wr) (fun _ jv _ => m - (intOf jv).toNat)
   case atStart => exact ⟨0, Nat.zero_le _, rfl, by rw [rowC_zero]; rfl, hown.congr (fun p hp => by unfold mixF; rw [rowS_zero]; split <;> rfl), hbl⟩
   case round =>
    obtain ⟨j, hj, rfl, rfl, hown2, hbl2⟩ := hrel
    have hcl := rowC_lt A B k j
    have hst := Lib.hid (rowC_step A B k j)
    have hla := lmb_lt A k
    have hlb := lmb_lt B j
    have hlt2 := lmb_lt ((A % BB ^ k) * B) (k + j)
    by_cases hjm : j < m
    ·
     obtain ⟨b2, o2, rfl, hb2⟩ := hb.some_of_pos (by omega)
     have c3 := (hb.below hbl2).at j hjm
     have c4 : wr.cell? ⟨g, k + j, none⟩ = some (.int .u32 (lmb ((A % BB ^ k) * B) (k + j))) := by rw [hown2.cell (k + j) (by omega)]; simp [mixF]
     have c5 := hown2.free (k + j)
     obtain ⟨hpm0, hpm⟩ := mul_u32 hla hlb
     have HX : Hid (((rowC A B k j : Int) + ((lmb A k : Int) * (lmb B j : Int) + (lmb ((A % BB ^ k) * B) (k + j) : Int))) % 4294967296 = ((lmb (rowS A B k (j + 1)) (k + j) : Nat) : Int) ∧ ((rowC A B k j : Int) + ((lmb A k : Int) * (lmb B j : Int) + (lmb ((A % BB ^ k) * B) (k + j) : Int))) / 4294967296 = ((rowC A B k (j + 1) : Nat) : Int)) := by
      have := hst.out; show _ ∧ _; rw [← Int.natCast_mul]; omega
     have hbs := hbl2.setCell (p := ⟨g, k + j, none⟩) hg
     clear ha hb hst
     go_wp2
     go_roundw
     case rel => exact ⟨j + 1, by omega, by go_num, by rw [HX.out.2], hown2.put (by omega) (by rw [HX.out.1]; rw [mixF, if_pos (by omega)]) (mix_next A B k j (n + m)), hbs _⟩
     case measure => simp [intOf]; omega
    ·
     obtain rfl : j = m := by omega
     have c4 : wr.cell? ⟨g, k + j, none⟩ = some (.int .u32 (lmb ((A % BB ^ k) * B) (k + j))) := by rw [hown2.cell (k + j) (by omega)]; simp [mixF]
     have c5 := hown2.free (k + j)
     have hE := Lib.hid (rowC_end A B k j HB.out.1)
     have hbs := hbl2.setCell (p := ⟨g, k + j, none⟩) hg
     clear ha hb hst
     go_wp2
     go_roundw
     case rel => exact ⟨k + 1, by omega, by go_num, hown2.put (by omega) (by rw [hE.out]) (mix_end A B k j (n + j) HB.out.1), hbs _⟩
     case measure => simp [intOf]; omega
  ·
   obtain rfl : k = n := by omega
   have hO : Own .u32 77 wr g (k + m) (lmb (A * B)) := by rw [Nat.mod_eq_of_lt HA.out.1] at hown; exact hown
   have hAB : A * B < BB ^ (k + m) := by rw [Nat.pow_add]; exact Nat.mul_lt_mul'' HA.out.1 HB.out.1
   have HAB := Lib.hid hAB
   clear ha hb hAB
   go_wp2_with fail
   refine (trimmed_any _ _ _ (A * B) _ (hO.lie (Nat.le_refl _) (by unfold maxLen; omega)) HAB.out).mono ?_
   rintro e w3 ⟨mm, rfl, hmm, hfit, rfl⟩
   go_wp2
   go_ret
   exact ppart_own hO hg hbl hmm hn6 hfit
end Go.Proofs.YtpahkpcoinbgcaaGreatDoor

/- The walks of takeTimes and addBack. -/
namespace Go.Proofs.YtpahkpcoinbgcaaGreatDoor
open Go.RowKit
/-- A window of n + 1 parts from u on: the first k out of W, the others out of R; elsewhere f. -/
def winK (u n k W R : Nat) (f : Nat → Nat) (p : Nat) : Nat := if u ≤ p ∧ p ≤ u + n then (if p - u < k then lmb W (p - u) else lmb R (p - u)) else f p
theorem winK_next {u n k W W' R T : Nat} {f : Nat → Nat} (h : ∀ j, j < k → lmb W j = lmb W' j) : ∀ p, p < T → p ≠ u + k → winK u n k W R f p = winK u n (k + 1) W' R f p := by
 intro p _ hne
 unfold winK
 by_cases h1 : u ≤ p ∧ p ≤ u + n
 ·
  rw [if_pos h1, if_pos h1]
  by_cases h2 : p - u < k
  ·
   rw [if_pos h2, if_pos (by omega), h _ h2]
  ·
   rw [if_neg h2, if_neg (by omega)]
 ·
  rw [if_neg h1, if_neg h1]
theorem winK_at {u n k W R : Nat} {f : Nat → Nat} (hk : k ≤ n) : winK u n k W R f (u + k) = lmb R k := by
 unfold winK
 rw [if_pos (by omega), if_neg (by omega), show u + k - u = k from by omega]
theorem winK_put {u n k W R : Nat} {f : Nat → Nat} (hk : k ≤ n) : winK u n (k + 1) W R f (u + k) = lmb W k := by
 unfold winK
 rw [if_pos (by omega), if_pos (by omega), show u + k - u = k from by omega]
theorem winK_zero {u n W R T : Nat} {f : Nat → Nat} (h : ∀ j, j ≤ n → f (u + j) = lmb R j) : ∀ p, p < T → f p = winK u n 0 W R f p := by
 intro p _
 unfold winK
 by_cases h1 : u ≤ p ∧ p ≤ u + n
 ·
  rw [if_pos h1, if_neg (by omega), ← h (p - u) (by omega), show u + (p - u) = p from by omega]
 ·
  rw [if_neg h1]
theorem lmb_low (W x k : Nat) (hW : W < BB ^ k) (hx : x < 4294967296) : lmb (W + BB ^ k * x) k = x ∧ W + BB ^ k * x < BB ^ (k + 1) := by
 constructor
 ·
  unfold lmb
  rw [Nat.add_mul_div_left _ _ (BBp k), Nat.div_eq_of_lt hW, Nat.zero_add]
  exact Nat.mod_eq_of_lt hx
 ·
  rw [Nat.pow_succ]
  have := Nat.mul_le_mul_left (BB ^ k) (show x + 1 ≤ BB from hx)
  rw [Nat.mul_add] at this
  omega
/-- What stands after k parts were taken. -/
def Took (R D t k W cr : Nat) : Prop := cr * BB ^ k + R % BB ^ k = W + t * (D % BB ^ k) ∧ W < BB ^ k
theorem took_zero (R D t : Nat) : Took R D t 0 0 0 := ⟨by simp [Nat.mod_one], by simp⟩
theorem took_le {R D t k W cr : Nat} (h : Took R D t k W cr) : cr ≤ t := by
 obtain ⟨h1, h2⟩ := h
 have hd := Nat.mod_lt D (BBp k)
 have h3 : t * (D % BB ^ k) ≤ t * BB ^ k := Nat.mul_le_mul_left _ (Nat.le_of_lt hd)
 refine Nat.le_of_lt_succ (Nat.lt_of_mul_lt_mul_right (a := BB ^ k) ?_)
 rw [Nat.succ_mul]
 generalize R % BB ^ k = r at *
 omega
theorem took_step {R D t k W cr : Nat} (h : Took R D t k W cr) {x cr' : Nat} (hx : x < 4294967296) (he : cr' * 4294967296 + lmb R k = x + (cr + t * lmb D k)) :
  Took R D t (k + 1) (W + BB ^ k * x) cr' := by
 refine ⟨?_, (lmb_low W x k h.2 hx).2⟩
 rw [mod_succ, mod_succ, Nat.pow_succ]
 have h1 := h.1
 have e1 : cr' * (BB ^ k * BB) + BB ^ k * lmb R k = BB ^ k * x + BB ^ k * cr + BB ^ k * (t * lmb D k) := by
  have : BB ^ k * (cr' * 4294967296 + lmb R k) = BB ^ k * (x + (cr + t * lmb D k)) := by rw [he]
  rw [Nat.mul_add, Nat.mul_add, Nat.mul_add, ← Nat.add_assoc] at this
  rw [← this, ← Nat.mul_assoc, Nat.mul_comm cr' (BB ^ k), Nat.mul_assoc]; rfl
 have e2 : t * (D % BB ^ k + BB ^ k * lmb D k) = t * (D % BB ^ k) + BB ^ k * (t * lmb D k) := by rw [Nat.mul_add, Nat.mul_left_comm]
 have e3 : cr * BB ^ k = BB ^ k * cr := Nat.mul_comm _ _
 rw [e2]
 omega
/-- What was taken off: U, and whether that wrapped round. -/
def Off (R X n U : Nat) (bl : Bool) : Prop := (bl = true → U + X = R + BB ^ (n + 1) ∧ R < X) ∧ (bl = false → U + X = R) ∧ U < BB ^ (n + 1)
theorem took_end {R D t n W cr : Nat} (h : Took R D t n W cr) (hR : R < BB ^ (n + 1)) (hD : D < BB ^ n) {x : Nat} (hx : x < 4294967296)
  (hc : (cr ≤ lmb R n → x + cr = lmb R n) ∧ (lmb R n < cr → x + cr = lmb R n + 4294967296)) : Off R (t * D) n (W + BB ^ n * x) (decide (lmb R n < cr)) := by
 have h1 := h.1
 rw [Nat.mod_eq_of_lt hD] at h1
 have hr : R % BB ^ n + BB ^ n * lmb R n = R := by rw [lmb_top hR]; exact Nat.mod_add_div _ _
 refine ⟨fun hb => ?_, fun hb => ?_, (lmb_low W x n h.2 hx).2⟩
 ·
  have hlt := of_decide_eq_true hb
  have he := hc.2 hlt
  have e1 : BB ^ n * x + BB ^ n * cr = BB ^ n * lmb R n + BB ^ (n + 1) := by
   rw [← Nat.mul_add, he, Nat.mul_add, Nat.pow_succ]; rfl
  rw [Nat.mul_comm cr] at h1
  have hlow := (lmb_low W x n h.2 hx).2
  omega
 ·
  have hge := of_decide_eq_false hb
  have he := hc.1 (by omega)
  have e1 : BB ^ n * x + BB ^ n * cr = BB ^ n * lmb R n := by rw [← Nat.mul_add, he]
  rw [Nat.mul_comm cr] at h1
  omega
theorem take_num1 {r cr p : Nat} (hr : r < 4294967296) (hc : (r : Int) < ((cr : Int) + (p : Int)) % 4294967296) :
  ∃ x cr' : Nat, x < 4294967296 ∧ cr' * 4294967296 + r = x + (cr + p) ∧ ((r : Int) - ((cr : Int) + (p : Int))) % 4294967296 = (x : Int) ∧ ((cr : Int) + (p : Int)) / 4294967296 + 1 = (cr' : Int) :=
 ⟨r + 4294967296 - (cr + p) % 4294967296, (cr + p) / 4294967296 + 1, by omega, by omega, by omega, by omega⟩
theorem take_num2 {r cr p : Nat} (hr : r < 4294967296) (hc : ¬ (r : Int) < ((cr : Int) + (p : Int)) % 4294967296) :
  ∃ x cr' : Nat, x < 4294967296 ∧ cr' * 4294967296 + r = x + (cr + p) ∧ (r : Int) - ((cr : Int) + (p : Int)) % 4294967296 = (x : Int) ∧ ((cr : Int) + (p : Int)) / 4294967296 = (cr' : Int) :=
 ⟨r - (cr + p) % 4294967296, (cr + p) / 4294967296, by omega, by omega, by omega, by omega⟩
/-- Block g holds a window that U fills; a bool is told. -/
def PTake (t : TypeId) (g T u n R X : Nat) (f : Nat → Nat) (w : World) (e : Ending) (w' : World) : Prop :=
 ∃ (U : Nat) (bl : Bool), e = .returned (.bool bl) ∧ Off R X n U bl ∧ Own .u32 t w' g T (winK u n (n + 1) U R f) ∧ Only g w w'
set_option maxHeartbeats 1600000 in
theorem takeTimes_any (g T u n cp R D t : Nat) (da : Option Addr) (dc : Nat) (f : Nat → Nat) (w : World) (hown : Own .u32 77 w g T f) (hT : u + n < T) (hTb : T ≤ 1000000000)
  (hf : ∀ j, j ≤ n → f (u + j) = lmb R j) (hR : R < BB ^ (n + 1)) (hd : Lie .u32 w da n dc (lmb D)) (hne : ∀ p, da = some p → p.block ≠ g) (hD : D < BB ^ n) (ht : t < 4294967296) :
  Calls Tryz.prog 114 #[.slice (some ⟨g, u, none⟩) ((n + 1 : Nat)) cp, .slice da n dc, .int .u64 t] w (PTake 77 g T u n R (t * D) f w) := by
 have HF := Lib.hid hf
 have HR := Lib.hid hR
 have HD := Lib.hid hD
 have HNE := Lib.hid hne
 clear hf hR hD hne
 go_enter Tryz.func114, Tryz.ntmps114
 go_wp2
 go_loopw [7, 15] (fun cv iv wr => ∃ k cr W : Nat, k ≤ n ∧ iv = .int .i64 k ∧ cv = .int .u64 cr ∧ Took R D t k W cr ∧ Own .u32 77 wr g T (winK u n k W R f) ∧ Only g w wr) (fun _ iv _ => n - (intOf iv).toNat)
 case atStart => exact ⟨0, 0, 0, Nat.zero_le _, rfl, rfl, took_zero _ _ _, hown.congr (winK_zero HF.out), Only.refl _ _⟩
 case round =>
  obtain ⟨k, cr, W, hk, rfl, rfl, htk, hown1, ho1⟩ := hrel
  have hcr := took_le htk
  have c1 : wr.cell? ⟨g, u + k, none⟩ = some (.int .u32 (lmb R k)) := by rw [hown1.cell (u + k) (by omega), winK_at hk]
  have c2 := hown1.free (u + k)
  have hlr := lmb_lt R k
  have hld := lmb_lt D k
  by_cases hlt : k < n
  ·
   obtain ⟨b1, o1, rfl, hb1⟩ := hd.some_of_pos (by omega)
   have c3 := (hd.only ho1 HNE.out).at k hlt
   obtain ⟨hpm0, hpm⟩ := mul_u32 ht hld
   have hmod : ((t : Int) * (lmb D k : Int)) = ((t * lmb D k : Nat) : Int) := (Int.natCast_mul _ _).symm
   rw [show ((t : Int) * (lmb D k : Int)) = ((t * lmb D k : Nat) : Int) from (Int.natCast_mul _ _).symm] at hpm0 hpm
   by_cases hc : (lmb R k : Int) < ((cr : Int) + ((t * lmb D k : Nat) : Int)) % 4294967296
   ·
    obtain ⟨x, cr', hx, he, hv, hcv⟩ := take_num1 hlr hc
    have HX := Lib.hid (And.intro hv hcv)
    have HE := Lib.hid he
    rw [Int.natCast_mul] at HX hc hpm0 hpm
    clear hd hmod hv hcv he
    go_wp2
    go_roundw
    case rel => exact ⟨k + 1, cr', W + BB ^ k * x, by omega, by go_num, by rw [HX.out.2], took_step htk hx HE.out, hown1.put (by omega) (by rw [HX.out.1, winK_put (by omega), (lmb_low W x k htk.2 hx).1]) (winK_next (fun j hj => (lmb_add_hi W x k j hj).symm)), ho1.trans (Only.setCell _ _ _ _)⟩
    case measure => simp [intOf]; omega
   ·
    obtain ⟨x, cr', hx, he, hv, hcv⟩ := take_num2 hlr hc
    have HX := Lib.hid (And.intro hv hcv)
    have HE := Lib.hid he
    rw [Int.natCast_mul] at HX hc hpm0 hpm
    clear hd hmod hv hcv he
    go_wp2
    go_roundw
    case rel => exact ⟨k + 1, cr', W + BB ^ k * x, by omega, by go_num, by rw [HX.out.2], took_step htk hx HE.out, hown1.put (by omega) (by rw [HX.out.1, winK_put (by omega), (lmb_low W x k htk.2 hx).1]) (winK_next (fun j hj => (lmb_add_hi W x k j hj).symm)), ho1.trans (Only.setCell _ _ _ _)⟩
    case measure => simp [intOf]; omega
  ·
   obtain rfl : k = n := by omega
   by_cases hc : lmb R k < cr
   ·
    have HO := Lib.hid (took_end htk HR.out HD.out (x := lmb R k + 4294967296 - cr) (by omega) ⟨fun _ => by omega, fun _ => by omega⟩)
    have HX : Hid (((lmb R k : Int) - (cr : Int)) % 4294967296 = ((lmb R k + 4294967296 - cr : Nat) : Int)) := by show _ = _; omega
    have hc' : decide (lmb R k < cr) = true := decide_eq_true hc
    clear hd
    go_wp2
    go_ret
    exact ⟨_, true, rfl, by rw [hc'] at HO; exact HO.out, hown1.put (by omega) (by rw [HX.out, winK_put (by omega), (lmb_low W _ k htk.2 (by omega)).1]) (winK_next (fun j hj => (lmb_add_hi W _ k j hj).symm)), ho1.trans (Only.setCell _ _ _ _)⟩
   ·
    have HO := Lib.hid (took_end htk HR.out HD.out (x := lmb R k - cr) (by omega) ⟨fun _ => by omega, fun _ => by omega⟩)
    have HX : Hid ((lmb R k : Int) - (cr : Int) = ((lmb R k - cr : Nat) : Int)) := by show _ = _; omega
    have hc' : decide (lmb R k < cr) = false := decide_eq_false hc
    clear hd
    go_wp2
    go_ret
    exact ⟨_, false, rfl, by rw [hc'] at HO; exact HO.out, hown1.put (by omega) (by rw [HX.out, winK_put (by omega), (lmb_low W _ k htk.2 (by omega)).1]) (winK_next (fun j hj => (lmb_add_hi W _ k j hj).symm)), ho1.trans (Only.setCell _ _ _ _)⟩
end Go.Proofs.YtpahkpcoinbgcaaGreatDoor

/- The walk of guessed. -/
namespace Go.Proofs.YtpahkpcoinbgcaaGreatDoor
open Go.RowKit
/-- A guess of R / D that is right or 1 too great. -/
def PGuess (R D : Nat) (w : World) (e : Ending) (w' : World) : Prop := ∃ G : Nat, e = .returned (.int .u64 G) ∧ R / D ≤ G ∧ G ≤ R / D + 1 ∧ G < 4294967296 ∧ Below w.heap.size w w'
/-- What is known of the upper parts: D has tp, nx at its head, R has H, r2. -/
structure Heads (R D tp nx H r2 : Nat) : Prop where
 top : 1 ≤ tp
 qlt : R / D < 4294967296
 k1 : R / D * (tp * 4294967296 + nx) ≤ H * 4294967296 + r2
 k2 : H * 4294967296 + r2 < (R / D + 1) * (tp * 4294967296 + nx + 1)
 nxl : nx < 4294967296
 r2l : r2 < 4294967296
theorem heads_k1 {R D P d2 h3 x y : Nat} (dD : P * d2 + x = D) (dR : P * h3 + y = R) (lR : y < P) (hP : 0 < P) : R / D * d2 ≤ h3 := by
 have e3 : R / D * D ≤ R := Nat.div_mul_le_self _ _
 generalize R / D = q at *
 refine Nat.le_of_lt_succ (Nat.lt_of_mul_lt_mul_left (a := P) ?_)
 have e1 : P * (q * d2) = q * (P * d2) := Nat.mul_left_comm _ _ _
 have e2 : q * (P * d2) ≤ q * D := Nat.mul_le_mul_left _ (by omega)
 rw [Nat.mul_succ]
 omega
theorem heads_k2 {R D P d2 h3 x y z : Nat} (dD : P * d2 + x = D) (dR : P * h3 + y = R) (lD : x < P) (hz : z < D) (hq : D * (R / D) + z = R) : h3 < (R / D + 1) * (d2 + 1) := by
 generalize R / D = q at *
 refine Nat.lt_of_mul_lt_mul_left (a := P) ?_
 have e1 : P * ((q + 1) * (d2 + 1)) = (q + 1) * (P * (d2 + 1)) := Nat.mul_left_comm _ _ _
 have e2 : (q + 1) * D ≤ (q + 1) * (P * (d2 + 1)) := Nat.mul_le_mul_left _ (by rw [Nat.mul_add]; omega)
 have e3 : R < (q + 1) * D := by rw [Nat.add_mul, Nat.mul_comm q]; omega
 omega
theorem heads_of {R D n : Nat} (hn : 2 ≤ n) (hD : Fit n D) (hR : R < D * BB) : Heads R D (lmb D (n - 1)) (lmb D (n - 2)) (lmb R n * 4294967296 + lmb R (n - 1)) (lmb R (n - 2)) := by
 obtain ⟨m, rfl⟩ : ∃ m, n = m + 2 := ⟨n - 2, by omega⟩
 have hD1 := hD.1
 have hD2 := hD.2
 simp only [show m + 2 - 1 = m + 1 from rfl, show m + 2 - 2 = m from rfl] at *
 have hDp : BB ^ (m + 1) ≤ D := by rcases hD2 with h | h <;> omega
 have hpos : 0 < D := Nat.lt_of_lt_of_le (BBp _) hDp
 have hRlt : R < BB ^ (m + 2 + 1) := by
  refine Nat.lt_of_lt_of_le hR ?_
  rw [Nat.pow_succ _ (m + 2)]
  exact Nat.mul_le_mul_right _ (Nat.le_of_lt hD1)
 have eD : D / BB ^ m = lmb D (m + 1) * 4294967296 + lmb D m := by
  rw [up_split, ← lmb_top hD1]; show _ + 4294967296 * _ = _; omega
 have eR : R / BB ^ m = (lmb R (m + 2) * 4294967296 + lmb R (m + 1)) * 4294967296 + lmb R m := by
  rw [up_split, up_split R (m + 1), ← lmb_top hRlt]; show _ + 4294967296 * (_ + 4294967296 * _) = _; omega
 have dD := Nat.div_add_mod D (BB ^ m)
 have dR := Nat.div_add_mod R (BB ^ m)
 have lD := Nat.mod_lt D (BBp m)
 have lR := Nat.mod_lt R (BBp m)
 have hq := Nat.div_add_mod R D
 have hql := Nat.mod_lt R hpos
 rw [eD] at dD
 rw [eR] at dR
 have hP := BBp m
 refine ⟨?_, ?_, ?_, ?_, lmb_lt _ _, lmb_lt _ _⟩
 ·
  rw [lmb_top hD1]
  exact Nat.div_pos hDp (BBp _)
 ·
  exact Nat.div_lt_of_lt_mul hR
 ·
  exact heads_k1 dD dR lR hP
 ·
  exact heads_k2 dD dR lD hql hq
theorem guess_start {R D tp nx H r2 : Nat} (h : Heads R D tp nx H r2) : R / D ≤ H / tp := by
 refine (Nat.le_div_iff_mul_le h.top).2 ?_
 have h1 := h.k1
 have h2 := h.r2l
 rw [Nat.mul_add, ← Nat.mul_assoc] at h1
 omega
theorem guess_down {R D tp nx H r2 G L : Nat} (h : Heads R D tp nx H r2) (hG : G * tp + L = H) (hc : L * 4294967296 + r2 < G * nx) : R / D + 1 ≤ G := by
 have h1 := h.k1
 have e : G * (tp * 4294967296 + nx) = G * tp * 4294967296 + G * nx := by rw [Nat.mul_add, Nat.mul_assoc]
 have : R / D * (tp * 4294967296 + nx) < G * (tp * 4294967296 + nx) := by rw [e]; omega
 exact Nat.lt_of_mul_lt_mul_right this
theorem guess_end {R D tp nx H r2 G L : Nat} (h : Heads R D tp nx H r2) (hG : G * tp + L = H) (hGl : G < 4294967296) (hc : 4294967296 ≤ L ∨ G * nx ≤ L * 4294967296 + r2) : G ≤ R / D + 1 := by
 have hc' : G * nx ≤ L * 4294967296 + r2 := by
  rcases hc with hc | hc
  ·
   have := Nat.mul_le_mul (show G ≤ 4294967295 by omega) (show nx ≤ 4294967295 by have := h.nxl; omega)
   omega
  ·
   exact hc
 have h1 := h.k2
 have h2 := h.qlt
 have h3 := h.top
 have e : G * (tp * 4294967296 + nx) = G * tp * 4294967296 + G * nx := by rw [Nat.mul_add, Nat.mul_assoc]
 refine Nat.le_of_not_lt fun hlt => ?_
 have h4 := Nat.mul_le_mul_right (tp * 4294967296 + nx) (show R / D + 1 + 1 ≤ G by omega)
 rw [Nat.add_mul (R / D + 1) 1] at h4
 rw [Nat.mul_add (R / D + 1) (tp * 4294967296 + nx) 1] at h1
 omega
set_option maxRecDepth 100000 in
set_option maxHeartbeats 1600000 in
theorem guessed_any (g u n cp R D b1 o1 dc : Nat) (w : World) (hr : Lie .u32 w (some ⟨g, u, none⟩) (n + 1) cp (lmb R)) (hd : Lie .u32 w (some ⟨b1, o1, none⟩) n dc (lmb D)) (hn : 2 ≤ n) (hnb : n ≤ 1000000000)
  (hR : R < D * BB) (hD : Fit n D) :
  Calls Tryz.prog 113 #[.slice (some ⟨g, u, none⟩) ((n + 1 : Nat)) cp, .slice (some ⟨b1, o1, none⟩) n dc] w (PGuess R D w) := by
 have HH := heads_of hn hD hR
 clear hR hD
 have c1 := hd.at (n - 1) (by omega)
 have c2 := hd.at (n - 2) (by omega)
 have c3 := hr.at n (by omega)
 have c4 := hr.at (n - 1) (by omega)
 have c5 := hr.at (n - 2) (by omega)
 have l1 := lmb_lt D (n - 1)
 have l2 := lmb_lt D (n - 2)
 have l3 := lmb_lt R n
 have l4 := lmb_lt R (n - 1)
 have l5 := lmb_lt R (n - 2)
 have hor := or64 l3 l4
 have hH : lmb R n * 4294967296 + lmb R (n - 1) ≤ 18446744073709551615 := by omega
 generalize lmb R n * 4294967296 + lmb R (n - 1) = H at *
 generalize lmb D (n - 1) = tp at *
 generalize lmb D (n - 2) = nx at *
 generalize lmb R (n - 2) = r2 at *
 have htp := HH.top
 have hgs := guess_start HH
 have hql := HH.qlt
 clear hr hd
 obtain ⟨Q, hQ⟩ : ∃ Q, Q = H / tp := ⟨_, rfl⟩
 have hq : (H : Int) / (tp : Int) = (Q : Int) := by rw [hQ, Int.natCast_ediv]
 have hQt : Q * tp ≤ H := by rw [hQ]; exact Nat.div_mul_le_self _ _
 have hQH : Q ≤ H := Nat.le_trans (by rw [hQ]; exact Nat.div_le_self _ _) (Nat.le_refl _)
 rw [← hQ] at hgs
 have HQt := Lib.hid hQt
 have hQt0 : (0 : Int) ≤ (Q : Int) * (tp : Int) := Int.mul_nonneg (by omega) (by omega)
 have hQt1 : (Q : Int) * (tp : Int) ≤ (H : Int) := by rw [← Int.natCast_mul]; omega
 clear hQ hQt
 rcases Nat.lt_or_ge 4294967295 Q with hcq | hcq
 ·
  have hb := Nat.mul_le_mul_right tp (show 4294967296 ≤ Q from hcq)
  have h2 := HQt.out
  have hb2 : (4294967295 : Int) * (tp : Int) ≤ H := by omega
  have hb3 : 4294967295 * tp ≤ H := by omega
  clear hb h2
  go_enter Tryz.func113, Tryz.ntmps113
  go_wp2
  go_quiet (fail)
  go_wp2
  go_quiet (fail)
  go_wp2
  go_loop [9, 10] (fun gv lv => ∃ G L : Nat, gv = .int .u64 G ∧ lv = .int .u64 L ∧ G * tp + L = H ∧ R / D ≤ G ∧ G ≤ 4294967295) (fun gv _ => (intOf gv).toNat)
  case atStart => exact ⟨4294967295, H - 4294967295 * tp, rfl, congrArg (Value.int .u64) (by omega), by omega, by omega, by omega⟩
  case round =>
   obtain ⟨G, L, rfl, rfl, hGL, hqG, hGu⟩ := hrel
   have hLH : L ≤ H := by omega
   have hGn : (0 : Int) ≤ (G : Int) * (nx : Int) ∧ (G : Int) * (nx : Int) ≤ 18446744065119617025 := mul_u32 (by omega) l2
   obtain ⟨hGn0, hGn1⟩ := hGn
   have HGL := Lib.hid hGL
   clear hGL
   by_cases hL : L < 4294967296
   ·
    have hor2 := or64 hL l5
    obtain ⟨X, hXe⟩ : ∃ X, X = L * 4294967296 + r2 := ⟨_, rfl⟩
    rw [← hXe] at hor2
    have hX : X ≤ 18446744073709551615 := by omega
    by_cases hc : L * 4294967296 + r2 < G * nx
    ·
     have hdn := guess_down HH HGL.out hc
     have hG1 : 1 ≤ G := Nat.le_trans (Nat.le_add_left 1 _) hdn
     have hcI : (X : Int) < (G : Int) * (nx : Int) := by rw [← Int.natCast_mul]; omega
     have HN : Hid ((G - 1) * tp + (L + tp) = H) := by
      show _ = _
      have h1 := HGL.out
      obtain ⟨G', rfl⟩ : ∃ G', G = G' + 1 := ⟨G - 1, by omega⟩
      rw [Nat.add_mul] at h1
      simp only [Nat.add_sub_cancel]
      omega
     have hLd : decide ((L : Int) < 4294967296) = true := by simp; omega
     clear hc hXe
     go_wp2
     go_round
     case rel => exact ⟨G - 1, L + tp, by go_num, by go_num, HN.out, by omega, by omega⟩
     case measure => simp [intOf]; omega
    ·
     have hend := guess_end HH HGL.out (by omega) (.inr (by omega))
     have hcI : ¬ (X : Int) < (G : Int) * (nx : Int) := by rw [← Int.natCast_mul]; omega
     have hLd : decide ((L : Int) < 4294967296) = true := by simp; omega
     clear hc hXe
     go_wp2
     go_ret
     exact ⟨G, rfl, hqG, hend, by omega, below_drewN (Below.refl _ _) _⟩
   ·
    have hend := guess_end HH HGL.out (by omega) (.inl (by omega))
    have hLd : decide ((L : Int) < 4294967296) = false := by simp; omega
    go_wp2
    go_ret
    exact ⟨G, rfl, hqG, hend, by omega, below_drewN (Below.refl _ _) _⟩
 ·
  have h2 := HQt.out
  have HL : Hid ((H : Int) - (Q : Int) * (tp : Int) = ((H - Q * tp : Nat) : Int)) := by show _ = _; rw [← Int.natCast_mul]; omega
  clear h2
  go_enter Tryz.func113, Tryz.ntmps113
  go_wp2
  go_quiet (fail)
  go_wp2
  go_quiet (fail)
  go_wp2
  go_loop [9, 10] (fun gv lv => ∃ G L : Nat, gv = .int .u64 G ∧ lv = .int .u64 L ∧ G * tp + L = H ∧ R / D ≤ G ∧ G ≤ 4294967295) (fun gv _ => (intOf gv).toNat)
  case atStart => exact ⟨Q, H - Q * tp, rfl, congrArg (Value.int .u64) HL.out, by have := HQt.out; omega, by omega, by omega⟩
  case round =>
   obtain ⟨G, L, rfl, rfl, hGL, hqG, hGu⟩ := hrel
   have hLH : L ≤ H := by omega
   have hGn : (0 : Int) ≤ (G : Int) * (nx : Int) ∧ (G : Int) * (nx : Int) ≤ 18446744065119617025 := mul_u32 (by omega) l2
   obtain ⟨hGn0, hGn1⟩ := hGn
   have HGL := Lib.hid hGL
   clear hGL
   by_cases hL : L < 4294967296
   ·
    have hor2 := or64 hL l5
    obtain ⟨X, hXe⟩ : ∃ X, X = L * 4294967296 + r2 := ⟨_, rfl⟩
    rw [← hXe] at hor2
    have hX : X ≤ 18446744073709551615 := by omega
    by_cases hc : L * 4294967296 + r2 < G * nx
    ·
     have hdn := guess_down HH HGL.out hc
     have hG1 : 1 ≤ G := Nat.le_trans (Nat.le_add_left 1 _) hdn
     have hcI : (X : Int) < (G : Int) * (nx : Int) := by rw [← Int.natCast_mul]; omega
     have HN : Hid ((G - 1) * tp + (L + tp) = H) := by
      show _ = _
      have h1 := HGL.out
      obtain ⟨G', rfl⟩ : ∃ G', G = G' + 1 := ⟨G - 1, by omega⟩
      rw [Nat.add_mul] at h1
      simp only [Nat.add_sub_cancel]
      omega
     have hLd : decide ((L : Int) < 4294967296) = true := by simp; omega
     clear hc hXe
     go_wp2
     go_round
     case rel => exact ⟨G - 1, L + tp, by go_num, by go_num, HN.out, by omega, by omega⟩
     case measure => simp [intOf]; omega
    ·
     have hend := guess_end HH HGL.out (by omega) (.inr (by omega))
     have hcI : ¬ (X : Int) < (G : Int) * (nx : Int) := by rw [← Int.natCast_mul]; omega
     have hLd : decide ((L : Int) < 4294967296) = true := by simp; omega
     clear hc hXe
     go_wp2
     go_ret
     exact ⟨G, rfl, hqG, hend, by omega, below_drewN (Below.refl _ _) _⟩
   ·
    have hend := guess_end HH HGL.out (by omega) (.inl (by omega))
    have hLd : decide ((L : Int) < 4294967296) = false := by simp; omega
    go_wp2
    go_ret
    exact ⟨G, rfl, hqG, hend, by omega, below_drewN (Below.refl _ _) _⟩
end Go.Proofs.YtpahkpcoinbgcaaGreatDoor

/- The walk of addBack. -/
namespace Go.Proofs.YtpahkpcoinbgcaaGreatDoor
open Go.RowKit
def PAddb (t : TypeId) (g T u n S R : Nat) (f : Nat → Nat) (w : World) (e : Ending) (w' : World) : Prop :=
 e = .returned (.tuple #[]) ∧ Own .u32 t w' g T (winK u n (n + 1) S R f) ∧ Only g w w'
set_option maxHeartbeats 1600000 in
theorem addBack_any (g T u n cp U D : Nat) (da : Option Addr) (dc : Nat) (f : Nat → Nat) (w : World) (hown : Own .u32 77 w g T f) (hT : u + n < T) (hTb : T ≤ 1000000000)
  (hf : ∀ j, j ≤ n → f (u + j) = lmb U j) (hd : Lie .u32 w da n dc (lmb D)) (hne : ∀ p, da = some p → p.block ≠ g) (hD : D < BB ^ n) :
  Calls Tryz.prog 115 #[.slice (some ⟨g, u, none⟩) ((n + 1 : Nat)) cp, .slice da n dc] w (PAddb 77 g T u n (U + D) U f w) := by
 have HF := Lib.hid hf
 have HD := Lib.hid hD
 have HNE := Lib.hid hne
 clear hf hD hne
 go_enter Tryz.func115, Tryz.ntmps115
 go_wp2
 go_loopw [4, 9] (fun cv iv wr => ∃ k : Nat, k ≤ n ∧ iv = .int .i64 k ∧ cv = .int .u64 (cy U D k) ∧ Own .u32 77 wr g T (winK u n k (U + D) U f) ∧ Only g w wr) (fun _ iv _ => n - (intOf iv).toNat)
 case atStart => exact ⟨0, Nat.zero_le _, rfl, by rw [cy_zero]; rfl, hown.congr (winK_zero HF.out), Only.refl _ _⟩
 case round =>
  obtain ⟨k, hk, rfl, rfl, hown1, ho1⟩ := hrel
  have hcb := cy_le U D k
  have hst := cy_step U D k
  have c1 : wr.cell? ⟨g, u + k, none⟩ = some (.int .u32 (lmb U k)) := by rw [hown1.cell (u + k) (by omega), winK_at hk]
  have c2 := hown1.free (u + k)
  have hlr := lmb_lt U k
  have hld := lmb_lt D k
  by_cases hlt : k < n
  ·
   obtain ⟨b1, o1, rfl, hb1⟩ := hd.some_of_pos (by omega)
   have c3 := (hd.only ho1 HNE.out).at k hlt
   have HX : Hid (((cy U D k : Int) + ((lmb U k : Int) + (lmb D k : Int))) % 4294967296 = ((lmb (U + D) k : Nat) : Int) ∧ ((cy U D k : Int) + ((lmb U k : Int) + (lmb D k : Int))) / 4294967296 = ((cy U D (k + 1) : Nat) : Int)) := by
    show _ ∧ _; omega
   clear hd hst
   go_wp2
   go_roundw
   case rel => exact ⟨k + 1, by omega, by go_num, by rw [HX.out.2], hown1.put (by omega) (by rw [HX.out.1, winK_put (by omega)]) (winK_next (fun j hj => rfl)), ho1.trans (Only.setCell _ _ _ _)⟩
   case measure => simp [intOf]; omega
  ·
   obtain rfl : k = n := by omega
   have h0 := lmb_zero HD.out (Nat.le_refl k)
   have HX : Hid (((lmb U k : Int) + (cy U D k : Int)) % 4294967296 = ((lmb (U + D) k : Nat) : Int)) := by
    show _ = _; rw [h0] at hst; omega
   clear hd hst h0
   go_wp2
   go_end0
   exact ⟨rfl, hown1.put (by omega) (by rw [HX.out, winK_put (by omega)]) (winK_next (fun j hj => rfl)), ho1.trans (Only.setCell _ _ _ _)⟩
end Go.Proofs.YtpahkpcoinbgcaaGreatDoor

/- The walk of nextPart. -/
namespace Go.Proofs.YtpahkpcoinbgcaaGreatDoor
open Go.RowKit
theorem grown_below {w w' : World} (g : Nat) (h : Below w.heap.size w w') : w.grownBy w' (some g) := ⟨h.os, h.tape, h.output, h.size, fun k hk _ => h.block k hk⟩
theorem grown_only {w w' : World} {g : Nat} (h : Only g w w') : w.grownBy w' (some g) := ⟨h.os, h.tape, h.output, by rw [h.size]; exact Nat.le_refl _, fun k _ hk => h.block k (fun e => hk (by rw [e]))⟩
theorem grown_trans {a b c : World} {r : Option Nat} (h : a.grownBy b r) (k : b.grownBy c r) : a.grownBy c r :=
 ⟨k.os.trans h.os, k.tape.trans h.tape, k.output.trans h.output, Nat.le_trans h.size k.size, fun i hi hr => (k.block i (Nat.lt_of_lt_of_le hi h.size) hr).trans (h.block i hi hr)⟩
/-- A part of a quotient is told; the window holds what is left. -/
def PNext (t : TypeId) (g T u n R D : Nat) (f : Nat → Nat) (w : World) (e : Ending) (w' : World) : Prop :=
 e = .returned (.int .u32 ((R / D : Nat) : Int)) ∧ Own .u32 t w' g T (winK u n (n + 1) (R % D) R f) ∧ w.grownBy w' (some g)
theorem winK_all {u n U R j : Nat} {f : Nat → Nat} (hj : j ≤ n) : winK u n (n + 1) U R f (u + j) = lmb U j := by
 unfold winK
 rw [if_pos (by omega), if_pos (by omega), show u + j - u = j from by omega]
theorem winK_win {u n U V S R T : Nat} {f : Nat → Nat} (h : ∀ j, j ≤ n → lmb V j = lmb S j) : ∀ p, p < T → winK u n (n + 1) V U (winK u n (n + 1) U R f) p = winK u n (n + 1) S R f p := by
 intro p _
 unfold winK
 by_cases h1 : u ≤ p ∧ p ≤ u + n
 ·
  rw [if_pos h1, if_pos h1, if_pos (by omega), if_pos (by omega), h _ (by omega)]
 ·
  rw [if_neg h1, if_neg h1, if_neg h1]
theorem off_no {R D n U G : Nat} (h : Off R (G * D) n U false) (hD : 0 < D) (hG : R / D ≤ G) : G = R / D ∧ U = R % D := by
 have h1 := h.2.1 rfl
 have h2 : G ≤ R / D := (Nat.le_div_iff_mul_le hD).2 (by omega)
 have h3 : G = R / D := by omega
 subst h3
 have := Nat.div_add_mod R D
 rw [Nat.mul_comm] at this
 exact ⟨rfl, by omega⟩
theorem off_yes {R D n U G : Nat} (h : Off R (G * D) n U true) (hD : 0 < D) (hG : G ≤ R / D + 1) : G = R / D + 1 ∧ ∀ j, j ≤ n → lmb (U + D) j = lmb (R % D) j := by
 obtain ⟨h1, h2⟩ := h.1 rfl
 have h3 : R / D < G := (Nat.div_lt_iff_lt_mul hD).2 h2
 have h4 : G = R / D + 1 := by omega
 refine ⟨h4, fun j hj => ?_⟩
 have := Nat.div_add_mod R D
 rw [h4, Nat.add_mul, Nat.mul_comm] at h1
 rw [show U + D = R % D + BB ^ (n + 1) * 1 from by omega]
 exact lmb_add_hi _ _ _ _ (by omega)
set_option maxHeartbeats 800000 in
theorem nextPart_any (g T u n cp R D b1 o1 dc : Nat) (f : Nat → Nat) (w : World) (hown : Own .u32 77 w g T f) (hT : u + n < T) (hTb : T ≤ 1000000000) (hcp : n + 1 ≤ cp) (hcm : cp ≤ maxLen)
  (hf : ∀ j, j ≤ n → f (u + j) = lmb R j) (hd : Lie .u32 w (some ⟨b1, o1, none⟩) n dc (lmb D)) (hne : b1 ≠ g) (hn : 2 ≤ n) (hR : R < D * BB) (hD : Fit n D) :
  Calls Tryz.prog 94 #[.slice (some ⟨g, u, none⟩) ((n + 1 : Nat)) cp, .slice (some ⟨b1, o1, none⟩) n dc] w (PNext 77 g T u n R D f w) := by
 have HF := Lib.hid hf
 have HD := Lib.hid hD
 have HR := Lib.hid hR
 have hDp : 0 < D := by
  refine Nat.pos_of_ne_zero fun h => ?_
  have := (fit_pos hD).2 h
  omega
 have HRl : Hid (R < BB ^ (n + 1)) := Nat.lt_of_lt_of_le hR (by rw [Nat.pow_succ]; exact Nat.mul_le_mul_right _ (Nat.le_of_lt hD.1))
 have hr : Lie .u32 w (some ⟨g, u, none⟩) (n + 1) cp (lmb R) :=
  ⟨hcp, hcm, (fun e => by cases e), (fun p hp => by cases hp; exact ⟨rfl, hown.lt⟩), (fun p hp i hi => by cases hp; rw [hown.cell (u + i) (by omega), hf i (by omega)])⟩
 have HNE : Hid (∀ p : Addr, some (⟨b1, o1, none⟩ : Addr) = some p → p.block ≠ g) := fun p hp => by cases hp; exact hne
 clear hf hD hR hne
 go_enter Tryz.func94, Tryz.ntmps94
 go_wp2_with fail
 refine (guessed_any g u n cp R D b1 o1 dc _ hr hd hn (by omega) HR.out HD.out).mono ?_
 rintro e w1 ⟨G, rfl, hG1, hG2, hG3, hb1⟩
 have hown1 := hown.below hb1
 have hd1 := hd.below hb1
 clear hr hown hd
 go_wp2_with fail
 refine (takeTimes_any g T u n cp R D G (some ⟨b1, o1, none⟩) dc f _ hown1 hT hTb HF.out HRl.out hd1 HNE.out HD.out.1 hG3).mono ?_
 rintro e w2 ⟨U, bl, rfl, hoff, hown2, ho2⟩
 cases bl
 ·
  obtain ⟨e1, e2⟩ := off_no hoff hDp hG1
  have H1 := Lib.hid e1
  have H2 := Lib.hid e2
  clear e1 e2 hG1 hG2
  go_wp2
  go_ret
  exact ⟨by rw [← H1.out]; rfl, by rw [← H2.out]; exact hown2, grown_trans (grown_below g hb1) (grown_only ho2)⟩
 ·
  obtain ⟨e1, e2⟩ := off_yes hoff hDp hG2
  have H1 := Lib.hid e1
  have H2 := Lib.hid e2
  have hGp : 1 ≤ G := by rw [e1]; exact Nat.le_add_left _ _
  have hd2 := hd1.only ho2 HNE.out
  have HE : Hid ((G : Int) - 1 = ((R / D : Nat) : Int)) := by show _ = _; rw [e1]; omega
  clear e1 e2 hG1 hG2 hd1
  go_wp2_with fail
  refine (addBack_any g T u n cp U D (some ⟨b1, o1, none⟩) dc _ _ hown2 hT hTb (fun j hj => winK_all hj) hd2 HNE.out HD.out.1).mono ?_
  rintro e w3 ⟨rfl, hown3, ho3⟩
  go_wp2
  go_ret
  exact ⟨ret_int HE.out, hown3.congr (winK_win H2.out), grown_trans (grown_trans (grown_below g hb1) (grown_only ho2)) (grown_only ho3)⟩
end Go.Proofs.YtpahkpcoinbgcaaGreatDoor

/- The walk of groupsOf. -/
namespace Go.Proofs.YtpahkpcoinbgcaaGreatDoor
open Go.RowKit
/-- The values of a list's numbers. -/
def vals (k : IntKind) (f : Nat → Nat) (n : Nat) : List Value := (List.range n).map fun i => Value.int k (f i : Nat)
theorem vals_len (k : IntKind) (f : Nat → Nat) (n : Nat) : (vals k f n).length = n := by simp [vals]
theorem vals_succ (k : IntKind) (f : Nat → Nat) (n : Nat) : vals k f n ++ [Value.int k (f n : Nat)] = vals k f (n + 1) := by simp [vals, List.range_succ]
theorem vals_get (k : IntKind) (f : Nat → Nat) (n i : Nat) (h : i < n) : (vals k f n)[i]? = some (Value.int k (f i : Nat)) := by simp [vals, h]
/-- What is owned by append's laws lies there. -/
theorem lie_owned {k : IntKind} {w : World} {base : Nat} {e : TypeId} {v : Value} {n : Nat} {f : Nat → Nat} (h : w.ownsRow base e 1 v n (vals k f n)) :
  ∃ (a : Option Addr) (c : Nat), v = .slice a n c ∧ Lie k w a n c f := by
 have hcs := h.2
 rcases hcs with ⟨rfl, rfl⟩ | ⟨g, cap, cur, rfl, hb, hg, hc, hm, hs, ht⟩
 ·
  exact ⟨none, 0, rfl, lie_nil _ _ _⟩
 ·
  refine ⟨_, cap, rfl, hc, hm, (fun e => by cases e), (fun p hp => by cases hp; exact ⟨rfl, (Array.getElem?_eq_some_iff.1 hg).1⟩), (fun p hp i hi => ?_)⟩
  cases hp
  have := h.cells (g := g) rfl i _ (vals_get k f n i hi)
  rw [show (⟨g, 0, none⟩ : Addr).add i = ⟨g, 0 + i, none⟩ from by unfold Addr.add; split <;> simp_all] at this
  exact this
theorem Lie.congr {k : IntKind} {w : World} {a : Option Addr} {n c : Nat} {f f' : Nat → Nat} (h : Lie k w a n c f) (hf : ∀ i, i < n → f i = f' i) : Lie k w a n c f' :=
 ⟨h.cap, h.capm, h.nil, h.spot, fun p hp i hi => by rw [← hf i hi]; exact h.cell p hp i hi⟩
end Go.Proofs.YtpahkpcoinbgcaaGreatDoor

/- The walks of groupOf, wellWritten, groupBehind, readDigits. -/
namespace Go.Proofs.YtpahkpcoinbgcaaGreatDoor
open Go.RowKit
/-- Is a byte a digit? -/
def isDig (c : UInt8) : Bool := decide (48 ≤ c.toNat ∧ c.toNat ≤ 57)
/-- The number that digits tell, behind n. -/
def dstep (n : Nat) (c : UInt8) : Nat := n * 10 + (c.toNat - 48)
def dvalF (n : Nat) (l : List UInt8) : Nat := l.foldl dstep n
def dval (l : List UInt8) : Nat := dvalF 0 l
theorem dvalF_append (n : Nat) (l m : List UInt8) : dvalF n (l ++ m) = dvalF (dvalF n l) m := List.foldl_append
theorem dvalF_cons (n : Nat) (c : UInt8) (l : List UInt8) : dvalF n (c :: l) = dvalF (n * 10 + (c.toNat - 48)) l := by unfold dvalF; rw [List.foldl_cons, dstep]
theorem dvalF_nil (n : Nat) : dvalF n [] = n := List.foldl_nil
theorem dval_snoc (l : List UInt8) (c : UInt8) : dval (l ++ [c]) = dval l * 10 + (c.toNat - 48) := by unfold dval; rw [dvalF_append, dvalF_cons, dvalF_nil]
theorem dvalF_eq (n : Nat) (l : List UInt8) : dvalF n l = n * 10 ^ l.length + dvalF 0 l := by
 induction l generalizing n with
 | nil => rw [dvalF_nil, dvalF_nil]; simp
 | cons c l ih =>
  have e1 := ih (n * 10 + (c.toNat - 48))
  have e2 := ih (0 * 10 + (c.toNat - 48))
  rw [List.length_cons, dvalF_cons, dvalF_cons, e1, e2, Nat.pow_succ]
  generalize 10 ^ l.length = X
  generalize c.toNat - 48 = d
  rw [Nat.add_mul, Nat.add_mul, Nat.mul_assoc, Nat.mul_comm 10 X]
  omega
theorem dval_append (l m : List UInt8) : dval (l ++ m) = dval l * 10 ^ m.length + dval m := by
 unfold dval
 rw [dvalF_append, dvalF_eq]
theorem isDig_le {c : UInt8} (h : isDig c = true) : 48 ≤ c.toNat ∧ c.toNat ≤ 57 := of_decide_eq_true h
theorem dval_lt (l : List UInt8) (h : l.all isDig = true) : dval l < 10 ^ l.length := by
 induction l with
 | nil => rw [dval, dvalF_nil]; simp
 | cons c l ih =>
  rw [List.all_cons, Bool.and_eq_true] at h
  have h1 := isDig_le h.1
  have h2 := ih h.2
  have e : dval (c :: l) = (c.toNat - 48) * 10 ^ l.length + dval l := by rw [show c :: l = [c] ++ l from rfl, dval_append]; unfold dval; rw [dvalF_cons, dvalF_nil, Nat.zero_mul, Nat.zero_add]
  rw [e, List.length_cons, Nat.pow_succ]
  have : (c.toNat - 48) * 10 ^ l.length ≤ 9 * 10 ^ l.length := Nat.mul_le_mul_right _ (by omega)
  omega
theorem take_snoc (s : ByteArray) (k : Nat) (h : k < s.size) : s.data.toList.take (k + 1) = s.data.toList.take k ++ [s[k]] := by
 rw [List.take_succ_eq_append_getElem (by simpa using h)]; rfl
theorem all_at {s : ByteArray} (h : s.data.toList.all isDig = true) (k : Nat) (hk : k < s.size) : isDig s[k] = true := by
 rw [List.all_eq_true] at h
 exact h _ (List.getElem_mem (l := s.data.toList) (by simpa using hk))
set_option maxHeartbeats 400000 in
theorem groupOf_any (s : ByteArray) (w : World) (hs : s.size ≤ 9) (hd : s.data.toList.all isDig = true) :
  Calls Tryz.prog 102 #[.string s] w fun e w' => e = .returned (.int .u32 (dval s.data.toList)) ∧ w = w' := by
 have HD := Lib.hid hd
 clear hd
 go_enter Tryz.func102, Tryz.ntmps102
 go_wp2
 go_loop [3, 7] (fun nv iv => ∃ k : Nat, k ≤ s.size ∧ iv = .int .i64 k ∧ nv = .int .u32 (dval (s.data.toList.take k))) (fun _ iv => s.size - (intOf iv).toNat)
 case atStart => exact ⟨0, Nat.zero_le _, rfl, rfl⟩
 case round =>
  obtain ⟨k, hk, rfl, rfl⟩ := hrel
  by_cases hlt : k < s.size
  ·
   have hdg := isDig_le (all_at HD.out k hlt)
   obtain ⟨h48, h57⟩ := hdg
   have hv : dval (s.data.toList.take k) < 100000000 := by
    refine Nat.lt_of_lt_of_le (dval_lt _ ?_) (show 10 ^ (s.data.toList.take k).length ≤ 10 ^ 8 from Nat.pow_le_pow_right (by decide) ?_)
    ·
     rw [List.all_eq_true]; intro c hc; exact (List.all_eq_true.1 HD.out) c (List.mem_of_mem_take hc)
    ·
     rw [List.length_take]; omega
   have HS : Hid (dval (s.data.toList.take (k + 1)) = dval (s.data.toList.take k) * 10 + (s[k].toNat - 48)) := by
    show _ = _; rw [take_snoc s k hlt, dval_snoc]
   go_wp2
   go_round
   case rel => exact ⟨k + 1, by omega, by go_num, congrArg (Value.int .u32) (by rw [HS.out]; omega)⟩
   case measure => simp [intOf]; omega
  ·
   obtain rfl : k = s.size := by omega
   go_wp2
   go_ret
   exact ⟨ret_int (by rw [List.take_of_length_le (by simp)]), rfl⟩
/-- May digits be written so? -/
def wwB (l : List UInt8) (below : Bool) : Bool := !l.isEmpty && l.all isDig && (l.head? != some 48 || (l.length == 1 && !below))
set_option maxHeartbeats 800000 in
theorem wellWritten_any (s : ByteArray) (below : Bool) (w : World) (hs : s.size ≤ 2000) :
  Calls Tryz.prog 73 #[.string s, .bool below] w fun e w' => e = .returned (.bool (wwB s.data.toList below)) ∧ w = w' := by
 by_cases h0 : s.size = 0
 ·
  have hl : s.data.toList = [] := List.eq_nil_of_length_eq_zero (by simpa using h0)
  have hl' : s.toList = [] := by rw [Lib.toList_data]; exact hl
  have HR : Hid (wwB s.data.toList below = false) := by show _ = _; rw [hl]; rfl
  clear hl
  go_enter Tryz.func73, Tryz.ntmps73
  go_wp2
  go_ret
  exact ⟨by rw [HR.out]; rfl, rfl⟩
 ·
  have hne : s.toList.isEmpty = false := by rw [Lib.toList_data]; cases hl : s.data.toList with
   | nil => exact absurd (by simpa using congrArg List.length hl) h0
   | cons c l => rfl
  have hne2 : (s.toList == []) = false := by rw [Lib.toList_data] at hne ⊢; cases hl : s.data.toList with
   | nil => rw [hl] at hne; cases hne
   | cons c l => rfl
  have hpos : 0 < s.size := by omega
  have hE : Hid (s.data.toList.isEmpty = false) := by show _ = _; rw [← Lib.toList_data]; exact hne
  clear h0
  go_enter Tryz.func73, Tryz.ntmps73
  go_wp2
  go_loop [10] (fun iv => ∃ k : Nat, k ≤ s.size ∧ iv = .int .i64 k ∧ (s.data.toList.take k).all isDig = true) (fun iv => s.size - (intOf iv).toNat)
  case atStart => exact ⟨0, Nat.zero_le _, rfl, rfl⟩
  case round =>
   obtain ⟨k, hk, rfl, hall⟩ := hrel
   have HA := Lib.hid hall
   clear hall
   by_cases hlt : k < s.size
   ·
    by_cases hdg : isDig s[k] = true
    ·
     obtain ⟨h48, h57⟩ := isDig_le hdg
     have HS : Hid ((s.data.toList.take (k + 1)).all isDig = true) := by
      show _ = _; rw [take_snoc s k hlt, List.all_append, HA.out]; simp [hdg]
     clear hdg
     go_wp2
     go_round
     case rel => exact ⟨k + 1, by omega, by go_num, HS.out⟩
     case measure => simp [intOf]; omega
    ·
     have HR : Hid (wwB s.data.toList below = false) := by
      show _ = _
      have : s.data.toList.all isDig = false := by
       rw [Bool.eq_false_iff]; intro h; exact hdg (all_at h k hlt)
      simp [wwB, this]
     have hcase : (s[k].toNat : Int) < 48 ∨ (57 : Int) < (s[k].toNat : Int) := by
      unfold isDig at hdg; simp at hdg; omega
     clear hdg
     rcases hcase with hc | hc
     ·
      go_wp2
      go_ret
      exact ⟨by rw [HR.out]; rfl, rfl⟩
     ·
      have hc2 : ¬ (s[k].toNat : Int) < 48 := by omega
      go_wp2
      go_ret
      exact ⟨by rw [HR.out]; rfl, rfl⟩
   ·
    obtain rfl : k = s.size := by omega
    have hall : s.data.toList.all isDig = true := by have := HA.out; rwa [List.take_of_length_le (by simp)] at this
    have hhd : s.data.toList.head? = some s[0] := by
     rw [List.head?_eq_getElem?, List.getElem?_eq_getElem (by simpa using hpos)]; rfl
    by_cases hz : s[0].toNat = 48
    ·
     have hz2 : ((s[0].toNat : Int) == 48) = true := by simp; omega
     have hz3 : s[0] = 48 := UInt8.toNat.inj (by rw [hz]; rfl)
     by_cases h1 : s.size = 1
     ·
      have HR : Hid (wwB s.data.toList below = !below) := by
       have hlen : s.data.toList.length = 1 := by simpa using h1
       show _ = _; simp only [wwB, hE.out, hall, hhd, hz3, hlen]; cases below <;> rfl
      have h1' : ((s.size : Int) == 1) = true := by simp; omega
      clear hall hhd hz hz3 HA
      go_wp2
      go_ret
      exact ⟨by rw [HR.out]; rfl, rfl⟩
     ·
      have HR : Hid (wwB s.data.toList below = false) := by
       have hlen : (s.data.toList.length == 1) = false := by simpa using h1
       show _ = _; simp only [wwB, hE.out, hall, hhd, hz3, hlen]; rfl
      have h1' : ((s.size : Int) == 1) = false := by simp; omega
      clear hall hhd hz hz3 HA
      go_wp2
      go_ret
      exact ⟨by rw [HR.out]; rfl, rfl⟩
    ·
     have hz2 : ((s[0].toNat : Int) == 48) = false := by simp; omega
     have hz3 : (some s[0] != some (48 : UInt8)) = true := by
      simp; intro h; exact hz (by rw [h]; rfl)
     have HR : Hid (wwB s.data.toList below = true) := by
      show _ = _; simp only [wwB, hE.out, hall, hhd, hz3]; rfl
     clear hall hhd hz hz3 HA
     go_wp2
     go_ret
     exact ⟨by rw [HR.out]; rfl, rfl⟩
end Go.Proofs.YtpahkpcoinbgcaaGreatDoor

/- The walk of written. -/
namespace Go.Proofs.YtpahkpcoinbgcaaGreatDoor
open Go.RowKit
theorem Tryz.u91 : Tryz.prog.underlying 91 = some (.slice 5) := by kernel_rfl
theorem Tryz.info5 : (Tryz.prog.info? 5).map (fun i => (i.zero, i.size, i.bytes)) = some (some (.int .u8 0), 1, 1) := by kernel_rfl
/-- The k-th digit, from the lowest one on. -/
def dig (N k : Nat) : Nat := N / 10 ^ k % 10
theorem dig_lt (N k : Nat) : dig N k < 10 := Nat.mod_lt _ (by decide)
end Go.Proofs.YtpahkpcoinbgcaaGreatDoor
