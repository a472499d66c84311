/- The walks of raised and lowered. -/
import Derived.Test.YtohdfialnaegcaaDivb
namespace Go.Proofs.Ytohdfialnaegcaa
open Go.RowKit

/-- What is carried when a number is raised by s binary digits. -/
def rc (N s k : Nat) : Nat := N % BB ^ k * 2 ^ s / BB ^ k
theorem rc_zero (N s : Nat) : rc N s 0 = 0 := by simp [rc, Nat.mod_one]
theorem rc_lt (N s k : Nat) : rc N s k < 2 ^ s := by
  unfold rc
  refine Nat.div_lt_of_lt_mul ?_
  exact (Nat.mul_lt_mul_right (Nat.pow_pos (by decide))).2 (Nat.mod_lt _ (BBp k))
theorem pow_split {s : Nat} (hs : s < 32) : 2 ^ s * 2 ^ (32 - s) = 4294967296 := by
  rw [← Nat.pow_add, show s + (32 - s) = 32 from by omega]
theorem raise_parts {s : Nat} (hs : s < 32) (a c : Nat) (hc : c < 2 ^ s) :
    a * 2 ^ s % 4294967296 = 2 ^ s * (a % 2 ^ (32 - s)) ∧ (a * 2 ^ s + c) / 4294967296 = a / 2 ^ (32 - s) ∧ (a * 2 ^ s + c) % 4294967296 = 2 ^ s * (a % 2 ^ (32 - s)) + c ∧ 2 ^ s * (a % 2 ^ (32 - s)) + c < 4294967296 := by
  have hp := pow_split hs
  have hU : 0 < 2 ^ (32 - s) := Nat.pow_pos (by decide)
  have hd := Nat.div_add_mod a (2 ^ (32 - s))
  have hl := Nat.mod_lt a hU
  generalize (2 : Nat) ^ s = T at *
  generalize (2 : Nat) ^ (32 - s) = U at *
  generalize a % U = l at *
  generalize a / U = h at *
  have e1 : a * T = 4294967296 * h + T * l := by
    rw [← hd, ← hp, Nat.add_mul, Nat.mul_comm (U * h), Nat.mul_assoc, Nat.mul_comm l]
  have e2 : T * (l + 1) ≤ T * U := Nat.mul_le_mul_left _ hl
  rw [Nat.mul_add, hp] at e2
  omega
theorem rc_step {s : Nat} (hs : s < 32) (N k : Nat) : rc N s (k + 1) = lmb N k / 2 ^ (32 - s) ∧ lmb (N * 2 ^ s) k = 2 ^ s * (lmb N k % 2 ^ (32 - s)) + rc N s k := by
  obtain ⟨-, h2, h3, -⟩ := raise_parts hs (lmb N k) (rc N s k) (rc_lt N s k)
  constructor
  · rw [← h2]
    unfold rc
    rw [mod_succ, Nat.pow_succ, ← Nat.div_div_eq_div_mul, Nat.add_mul, Nat.mul_assoc, Nat.add_mul_div_left _ _ (BBp k), Nat.add_comm]; rfl
  · rw [← h3]
    have e : N * 2 ^ s / BB ^ k = N / BB ^ k * 2 ^ s + rc N s k := by
      have hd := Nat.div_add_mod N (BB ^ k)
      conv => lhs; rw [← hd]
      rw [Nat.add_mul, Nat.mul_assoc, Nat.add_comm, Nat.add_mul_div_left _ _ (BBp k), Nat.add_comm]; rfl
    have e2 : lmb (N * 2 ^ s) k = (N / BB ^ k * 2 ^ s + rc N s k) % 4294967296 := by rw [← e]; rfl
    rw [e2]
    have hu := up_split N k
    rw [hu, Nat.add_mul]
    show (_ + 4294967296 * _ * _ + _) % _ = _
    rw [Nat.mul_assoc]
    omega
theorem raise_or {s : Nat} (hs : s < 32) (N k : Nat) : bits .or .u32 ((lmb N k : Int) * 2 ^ s % 4294967296) (rc N s k : Int) = ((lmb (N * 2 ^ s) k : Nat) : Int) := by
  obtain ⟨h1, -, -, h4⟩ := raise_parts hs (lmb N k) (rc N s k) (rc_lt N s k)
  have e : (lmb N k : Int) * 2 ^ s % 4294967296 = ((2 ^ s * (lmb N k % 2 ^ (32 - s)) : Nat) : Int) := by
    rw [← h1, Int.natCast_emod, Int.natCast_mul, Int.natCast_pow]; rfl
  rw [e, u32_or_nat _ _ (by omega) (by omega), (rc_step hs N k).2, ← Nat.two_pow_add_eq_or_of_lt (rc_lt N s k)]
theorem raise_shr {s : Nat} (hs : s < 32) (N k : Nat) : (lmb N k : Int) / 2 ^ (32 - s) = ((rc N s (k + 1) : Nat) : Int) := by
  rw [(rc_step hs N k).1, Int.natCast_ediv, Int.natCast_pow]; rfl
theorem rc_end {N s n : Nat} (hs : s < 32) (h : N < BB ^ n) : rc N s n = lmb (N * 2 ^ s) n ∧ N * 2 ^ s < BB ^ (n + 1) := by
  have h1 : (2 : Nat) ^ s < BB := Nat.pow_lt_pow_right (by decide) hs
  have h2 : N * 2 ^ s < BB ^ (n + 1) := by
    rw [Nat.pow_succ]; exact Nat.mul_lt_mul'' h h1
  refine ⟨?_, h2⟩
  rw [lmb_top h2]
  unfold rc
  rw [Nat.mod_eq_of_lt h]

set_option maxHeartbeats 1600000 in
theorem raised_any (a : Option Addr) (n c N s : Nat) (w : World) (ha : Lie .u32 w a n c (lmb N)) (hN : N < BB ^ n) (hs : s < 32) (hn : n ≤ 1000000000) :
    Calls Try.prog 114 #[.slice a n c, .int .i64 s] w (PNew .u32 103 (n + 1) (lmb (N * 2 ^ s)) w) := by
  have hcm := ha.capm
  have hnc := ha.cap
  unfold maxLen at hcm
  have hn4 : 4 * (n + 1) ≤ 281474976710656 := by omega
  have hn6 : n + 1 ≤ 9223372036854775807 := by omega
  have HN := Lib.hid hN
  clear hN
  go_enter Try.func114, Try.ntmps114
  go_wp2_with (first | (at_make; refine wpList_mk _ rfl (.tmp 11) (.tmp 11) 79 rfl 103 .u32 4 Try.u79 Try.info103 _ _ (n + 1) rfl rfl (by omega) (by omega) hn4 hn6 ?_; intro g w1 hg hown hb1))
  go_loopw [6, 15] (fun cv iv wr => ∃ k : Nat, k ≤ n ∧ iv = .int .i64 k ∧ cv = .int .u32 (rc N s k) ∧ Own .u32 103 wr g (n + 1) (fun j => if j < k then lmb (N * 2 ^ s) j else 0) ∧ Below w.heap.size w wr) (fun _ iv _ => n - (intOf iv).toNat)
  case atStart => exact ⟨0, Nat.zero_le _, rfl, by rw [rc_zero]; rfl, hown.congr (fun j hj => by simp), hb1⟩
  case round =>
    obtain ⟨k, hk, rfl, rfl, hown1, hbl⟩ := hrel
    by_cases hlt : k < n
    · obtain ⟨b1, o1, rfl, hb1'⟩ := ha.some_of_pos (by omega)
      have c1 := (ha.below hbl).at k hlt
      have c2 : wr.cell? ⟨g, k, none⟩ = some (.int .u32 (0 : Nat)) := by rw [hown1.cell k (by omega)]; simp
      have c3 := hown1.free k
      have hla := lmb_lt N k
      have HX := Lib.hid (raise_or hs N k)
      have HY := Lib.hid (raise_shr hs N k)
      have hbs := hbl.setCell (p := ⟨g, k, none⟩) hg
      clear ha
      go_wp2
      go_roundw
      case rel => exact ⟨k + 1, by omega, by go_num, by rw [HY.out], hown1.put (by omega) (by rw [HX.out, if_pos (by omega)]) (fun j _ hne => by by_cases h1 : j < k <;> by_cases h2 : j < k + 1 <;> simp [h1, h2] <;> omega), hbs _⟩
      case measure => simp [intOf]; omega
    · obtain rfl : k = n := by omega
      have c2 : wr.cell? ⟨g, k, none⟩ = some (.int .u32 (0 : Nat)) := by rw [hown1.cell k (by omega)]; simp
      have c3 := hown1.free k
      have HE := Lib.hid (rc_end hs HN.out)
      have hbs := hbl.setCell (p := ⟨g, k, none⟩) hg
      clear ha
      go_wp2
      go_ret
      exact ⟨g, rfl, hg, hown1.put (by omega) (by rw [HE.out.1]) (fun j hj hne => by rw [if_pos (by omega)]), hbs _⟩
def lowF (N s i : Nat) (j : Nat) : Nat := if j < i then lmb (N / 2 ^ s) j else lmb N j
theorem low_mul {s : Nat} (hs : s < 32) (b : Nat) : b * 2 ^ (32 - s) % 4294967296 = 2 ^ (32 - s) * (b % 2 ^ s) := by
  have hp := pow_split hs
  have hd := Nat.div_add_mod b (2 ^ s)
  have hl := Nat.mod_lt b (Nat.pow_pos (n := s) (show 0 < 2 by decide))
  generalize (2 : Nat) ^ s = T at *
  generalize (2 : Nat) ^ (32 - s) = U at *
  generalize b % T = l at *
  generalize b / T = h at *
  have e1 : b * U = 4294967296 * h + U * l := by
    rw [← hd, ← hp, Nat.add_mul, Nat.mul_comm (T * h), Nat.mul_comm l, ← Nat.mul_assoc, Nat.mul_comm U T]
  have e2 : U * (l + 1) ≤ U * T := Nat.mul_le_mul_left _ hl
  rw [Nat.mul_add, Nat.mul_comm U T, hp] at e2
  have : 0 < U := Nat.pos_of_ne_zero fun h => by subst h; simp at hp
  omega
theorem low_part {s : Nat} (hs : s < 32) (N k : Nat) : lmb (N / 2 ^ s) k = 2 ^ (32 - s) * (lmb N (k + 1) % 2 ^ s) + lmb N k / 2 ^ s := by
  have hp := pow_split hs
  have h1 := low_mul hs (lmb N (k + 1))
  have hlo : lmb N k / 2 ^ s < 2 ^ (32 - s) := Nat.div_lt_of_lt_mul (by rw [hp]; exact lmb_lt N k)
  have e0 : lmb (N / 2 ^ s) k = N / BB ^ k / 2 ^ s % 4294967296 := by
    unfold lmb; rw [Nat.div_div_eq_div_mul, Nat.mul_comm, ← Nat.div_div_eq_div_mul]; rfl
  have hU : 2 ^ (32 - s) * (lmb N (k + 1) % 2 ^ s) + 2 ^ (32 - s) ≤ 4294967296 := by
    have hl := Nat.mod_lt (lmb N (k + 1)) (Nat.pow_pos (n := s) (show 0 < 2 by decide))
    have e2 : 2 ^ (32 - s) * (lmb N (k + 1) % 2 ^ s + 1) ≤ 2 ^ (32 - s) * 2 ^ s := Nat.mul_le_mul_left _ hl
    rw [Nat.mul_comm (2 ^ (32 - s)) (2 ^ s), hp, Nat.mul_add] at e2
    omega
  rw [e0, up_split N k, up_split N (k + 1)]
  show (_ + 4294967296 * (_ + 4294967296 * _)) / _ % _ = _
  generalize N / BB ^ (k + 1 + 1) = Q
  rw [← hp, Nat.mul_assoc, Nat.add_mul_div_left _ _ (Nat.pow_pos (by decide)), hp]
  have e3 : 2 ^ (32 - s) * (lmb N (k + 1) + 4294967296 * Q) = lmb N (k + 1) * 2 ^ (32 - s) + 4294967296 * (2 ^ (32 - s) * Q) := by
    rw [Nat.mul_add, Nat.mul_comm _ (lmb N (k + 1)), Nat.mul_left_comm]
  rw [e3]
  clear e3 e0 hp hs
  generalize lmb N (k + 1) * 2 ^ (32 - s) = X at *
  generalize 2 ^ (32 - s) * Q = Y at *
  generalize 2 ^ (32 - s) * (lmb N (k + 1) % 2 ^ s) = R at *
  generalize lmb N k / 2 ^ s = l at *
  generalize (2 : Nat) ^ (32 - s) = U at *
  omega
theorem low_or {s : Nat} (hs : s < 32) (N k : Nat) : bits .or .u32 ((lmb N k : Int) / 2 ^ s) ((lmb N (k + 1) : Int) * 2 ^ (32 - s) % 4294967296) = ((lmb (N / 2 ^ s) k : Nat) : Int) := by
  have hp := pow_split hs
  have hlo : lmb N k / 2 ^ s < 2 ^ (32 - s) := Nat.div_lt_of_lt_mul (by rw [hp]; exact lmb_lt N k)
  have e1 : (lmb N k : Int) / 2 ^ s = ((lmb N k / 2 ^ s : Nat) : Int) := by rw [Int.natCast_ediv, Int.natCast_pow]; rfl
  have e2 : (lmb N (k + 1) : Int) * 2 ^ (32 - s) % 4294967296 = ((2 ^ (32 - s) * (lmb N (k + 1) % 2 ^ s) : Nat) : Int) := by
    rw [← low_mul hs, Int.natCast_emod, Int.natCast_mul, Int.natCast_pow]; rfl
  have hlt := lmb_lt (N / 2 ^ s) k
  rw [low_part hs] at hlt
  rw [e1, e2, u32_or_nat _ _ (by omega) (by omega), low_part hs, Nat.or_comm, ← Nat.two_pow_add_eq_or_of_lt hlo]
theorem low_last {s : Nat} (hs : s < 32) (N k : Nat) (h : lmb N (k + 1) = 0) : (lmb N k : Int) / 2 ^ s = ((lmb (N / 2 ^ s) k : Nat) : Int) := by
  rw [low_part hs, h, Nat.zero_mod, Nat.mul_zero, Nat.zero_add, Int.natCast_ediv, Int.natCast_pow]; rfl
theorem low_fst (N k s : Nat) : (lmb N k : Int) / 2 ^ s = ((lmb N k / 2 ^ s : Nat) : Int) := by rw [Int.natCast_ediv, Int.natCast_pow]; rfl
theorem lowF_next {N s n : Nat} (k : Nat) : ∀ j, j < n → j ≠ k → lowF N s k j = lowF N s (k + 1) j := by
  intro j _ hne
  unfold lowF
  by_cases h1 : j < k <;> by_cases h2 : j < k + 1 <;> simp [h1, h2] <;> omega
theorem Own.put2 {k : IntKind} {e : TypeId} {w : World} {g n : Nat} {f : Nat → Nat} (h : Own k e w g n f) {i X : Nat} {x y : Int} {F : Nat → Nat} (hi : i < n) (hx : x = (X : Nat)) (hy : y = (F i : Nat)) (hf : ∀ j, j < n → j ≠ i → f j = F j) :
    Own k e ((w.setCell ⟨g, i, none⟩ (.int k x)).setCell ⟨g, i, none⟩ (.int k y)) g n F := by
  subst hx
  exact (h.set X hi).put hi hy (fun j hj hne => by simp [hne, hf j hj hne])

set_option maxHeartbeats 1600000 in
theorem lowered_any (a : Option Addr) (n c N s : Nat) (w : World) (ha : Lie .u32 w a n c (lmb N)) (hN : N < BB ^ n) (hs : s < 32) (hn : n ≤ 1000000000) :
    Calls Try.prog 111 #[.slice a n c, .int .i64 s] w (PPart (N / 2 ^ s) w) := by
  have hcm := ha.capm
  have hnc := ha.cap
  unfold maxLen at hcm
  have hn6 : n ≤ 9223372036854775807 := by omega
  have HN := Lib.hid hN
  clear hN
  go_enter Try.func111, Try.ntmps111
  go_wp2_with fail
  refine (copied_any a n c (lmb N) _ ha hn).mono ?_
  rintro e w1 ⟨g, rfl, hg, hown1, hb1⟩
  go_wp2
  go_loopw [11] (fun iv wr => ∃ k : Nat, k ≤ n ∧ iv = .int .i64 k ∧ Own .u32 103 wr g n (lowF N s k) ∧ Below w.heap.size w wr) (fun iv _ => n - (intOf iv).toNat)
  case atStart => exact ⟨0, Nat.zero_le _, rfl, hown1.congr (fun j hj => by simp [lowF]), hb1⟩
  case round =>
    obtain ⟨k, hk, rfl, hown, hbl⟩ := hrel
    by_cases hlt : k < n
    · obtain ⟨b1, o1, rfl, hb1'⟩ := ha.some_of_pos (by omega)
      have c1 : wr.cell? ⟨g, k, none⟩ = some (.int .u32 (lmb N k)) := by rw [hown.cell k (by omega)]; simp [lowF]
      have c2 := hown.free k
      have hla := lmb_lt N k
      have hbg : b1 < g := by omega
      by_cases hk1 : k + 1 < n
      · have c3 := (ha.below hbl).at (k + 1) hk1
        have hla1 := lmb_lt N (k + 1)
        have HX := Lib.hid (low_or hs N k)
        have hbs := fun u v => (hbl.setCell (p := ⟨g, k, none⟩) hg u).setCell (p := ⟨g, k, none⟩) hg v
        have HB := Lib.hid hbs
        clear ha hbs
        go_wp2
        go_region
        all_goals go_wp2
        all_goals go_roundw
        case rel => exact ⟨k + 1, by omega, by go_num, (hown.put2 (by omega) (low_fst N k s) (by rw [HX.out, lowF, if_pos (by omega)]) (lowF_next k)).drew, (HB.out _ _).drew⟩
        case measure => simp [intOf]; omega
      · have HX := Lib.hid (low_last hs N k (lmb_zero HN.out (by omega)))
        have hbs := hbl.setCell (p := ⟨g, k, none⟩) hg
        clear ha
        go_wp2
        go_roundw
        case rel => exact ⟨k + 1, by omega, by go_num, hown.put (by omega) (by rw [HX.out, lowF, if_pos (by omega)]) (lowF_next k), hbs _⟩
        case measure => simp [intOf]; omega
    · obtain rfl : k = n := by omega
      have hO : Own .u32 103 wr g k (lmb (N / 2 ^ s)) := hown.congr (fun j hj => by rw [lowF, if_pos hj])
      clear ha
      go_wp2_with fail
      refine (trimmed_any _ _ _ (N / 2 ^ s) _ (hO.lie (Nat.le_refl _) (by unfold maxLen; omega)) (Nat.lt_of_le_of_lt (Nat.div_le_self _ _) HN.out)).mono ?_
      rintro e w3 ⟨mm, rfl, hmm, hfit, rfl⟩
      go_wp2
      go_ret
      exact ppart_own hO hg hbl hmm hn6 hfit
end Go.Proofs.Ytohdfialnaegcaa
