/- The walk of product. -/
import Derived.Test.YtohdfialnaegcaaTrim
namespace Go.Proofs.Ytohdfialnaegcaa
open Go.RowKit

/-- Parts below q out of S, the others out of T. -/
def mixF (S T q : Nat) (p : Nat) : Nat := if p < q then lmb S p else lmb T p
/-- What is reached within a row: the rows ahead, and j parts of this one. -/
def rowS (A B i j : Nat) : Nat := (A % BB ^ i) * B + BB ^ i * (lmb A i * (B % BB ^ j))
/-- What is carried within a row. -/
def rowC (A B i j : Nat) : Nat := rowS A B i j / BB ^ (i + j) - (A % BB ^ i) * B / BB ^ (i + j)

theorem rowS_zero (A B i : Nat) : rowS A B i 0 = (A % BB ^ i) * B := by simp [rowS, Nat.mod_one]
theorem rowC_zero (A B i : Nat) : rowC A B i 0 = 0 := by simp [rowC, rowS_zero]
theorem rowS_next (A B i j : Nat) : rowS A B i (j + 1) = rowS A B i j + BB ^ (i + j) * (lmb A i * lmb B j) := by
  unfold rowS
  rw [mod_succ, Nat.pow_add]
  generalize lmb A i = x
  generalize lmb B j = y
  rw [Nat.mul_add, Nat.mul_add, ← Nat.add_assoc]
  congr 1
  simp only [Nat.mul_assoc, Nat.mul_left_comm, Nat.mul_comm]
theorem rowS_le (A B i j : Nat) : (A % BB ^ i) * B ≤ rowS A B i j := Nat.le_add_right _ _
theorem rowC_eq (A B i j : Nat) : rowS A B i j / BB ^ (i + j) = rowC A B i j + (A % BB ^ i) * B / BB ^ (i + j) := by
  unfold rowC
  have := Nat.div_le_div_right (c := BB ^ (i + j)) (rowS_le A B i j)
  omega
theorem rowC_lt (A B i j : Nat) : rowC A B i j < 4294967296 := by
  have hlt : rowS A B i j < (A % BB ^ i) * B + BB ^ (i + j) * 4294967295 + 1 := by
    have h1 : lmb A i * (B % BB ^ j) ≤ 4294967295 * BB ^ j := Nat.mul_le_mul (by have := lmb_lt A i; omega) (Nat.le_of_lt (Nat.mod_lt _ (BBp j)))
    have h2 : BB ^ i * (lmb A i * (B % BB ^ j)) ≤ BB ^ i * (4294967295 * BB ^ j) := Nat.mul_le_mul_left _ h1
    have h3 : BB ^ i * (4294967295 * BB ^ j) = BB ^ (i + j) * 4294967295 := by rw [Nat.pow_add, Nat.mul_comm 4294967295, Nat.mul_assoc]
    unfold rowS
    omega
  have hle : rowS A B i j / BB ^ (i + j) ≤ (A % BB ^ i) * B / BB ^ (i + j) + 4294967295 := by
    rw [← Nat.add_mul_div_left _ _ (BBp (i + j))]
    exact Nat.div_le_div_right (by omega)
  unfold rowC
  omega
theorem rowC_step (A B i j : Nat) :
    (rowC A B i j + (lmb A i * lmb B j + lmb ((A % BB ^ i) * B) (i + j))) % 4294967296 = lmb (rowS A B i (j + 1)) (i + j) ∧
    (rowC A B i j + (lmb A i * lmb B j + lmb ((A % BB ^ i) * B) (i + j))) / 4294967296 = rowC A B i (j + 1) := by
  have e1 : rowS A B i (j + 1) / BB ^ (i + j) = rowC A B i j + (A % BB ^ i) * B / BB ^ (i + j) + lmb A i * lmb B j := by
    rw [rowS_next, Nat.add_mul_div_left _ _ (BBp _), rowC_eq]
  have e2 := rowC_eq A B i (j + 1)
  rw [show i + (j + 1) = (i + j) + 1 from by omega, Nat.pow_succ, ← Nat.div_div_eq_div_mul, ← Nat.div_div_eq_div_mul, e1] at e2
  constructor
  · show _ = rowS A B i (j + 1) / BB ^ (i + j) % BB
    rw [e1]
    show (_ + (_ + (A % BB ^ i) * B / BB ^ (i + j) % BB)) % BB = _
    simp only [BB] at *
    omega
  · show (_ + (_ + (A % BB ^ i) * B / BB ^ (i + j) % BB)) / BB = _
    simp only [BB] at *
    omega
theorem lmb_add_hi (S x q p : Nat) (h : p < q) : lmb (S + BB ^ q * x) p = lmb S p := by
  unfold lmb
  obtain ⟨d, rfl⟩ : ∃ d, q = p + 1 + d := ⟨q - (p + 1), by omega⟩
  rw [Nat.pow_add, Nat.pow_succ, Nat.mul_assoc, Nat.mul_assoc, Nat.add_mul_div_left _ _ (BBp p), Nat.add_mul_mod_self_left]
theorem mix_next (A B i j n : Nat) : ∀ p, p < n → p ≠ i + j → mixF (rowS A B i j) ((A % BB ^ i) * B) (i + j) p = mixF (rowS A B i (j + 1)) ((A % BB ^ i) * B) (i + (j + 1)) p := by
  intro p _ hne
  unfold mixF
  by_cases h1 : p < i + j
  · rw [if_pos h1, if_pos (by omega), rowS_next, lmb_add_hi _ _ _ _ h1]
  · rw [if_neg h1, if_neg (by omega)]
theorem rowS_end (A B i m : Nat) (hB : B < BB ^ m) : rowS A B i m = (A % BB ^ (i + 1)) * B := by
  unfold rowS
  rw [Nat.mod_eq_of_lt hB, mod_succ, Nat.add_mul, Nat.mul_assoc]
theorem row_lt (A B i m : Nat) (hB : B < BB ^ m) : (A % BB ^ i) * B < BB ^ (i + m) := by
  rw [Nat.pow_add]
  exact Nat.mul_lt_mul'' (Nat.mod_lt _ (BBp i)) hB
theorem rowC_end (A B i m : Nat) (hB : B < BB ^ m) : rowC A B i m = lmb ((A % BB ^ (i + 1)) * B) (i + m) := by
  unfold rowC
  rw [rowS_end A B i m hB, Nat.div_eq_of_lt (row_lt A B i m hB), Nat.sub_zero]
  have h : (A % BB ^ (i + 1)) * B < BB ^ (i + m + 1) := by
    have := row_lt A B (i + 1) m hB
    rwa [show i + 1 + m = i + m + 1 from by omega] at this
  rw [lmb_top h]
theorem mix_end (A B i m n : Nat) (hB : B < BB ^ m) : ∀ p, p < n → p ≠ i + m → mixF (rowS A B i m) ((A % BB ^ i) * B) (i + m) p = lmb ((A % BB ^ (i + 1)) * B) p := by
  intro p _ hne
  unfold mixF
  by_cases h1 : p < i + m
  · rw [if_pos h1, rowS_end A B i m hB]
  · rw [if_neg h1, lmb_zero (row_lt A B i m hB) (by omega)]
    have := row_lt A B (i + 1) m hB
    rw [lmb_zero this (by omega)]

theorem mul_u32 {x y : Nat} (hx : x < 4294967296) (hy : y < 4294967296) : (0 : Int) ≤ (x : Int) * (y : Int) ∧ (x : Int) * (y : Int) ≤ 18446744065119617025 := by
  have := Nat.mul_le_mul (show x ≤ 4294967295 by omega) (show y ≤ 4294967295 by omega)
  rw [← Int.natCast_mul]
  omega

set_option maxHeartbeats 1600000 in
theorem product_any (a b : Option Addr) (n c m d A B : Nat) (w : World) (ha : Lie .u32 w a n c (lmb A)) (hb : Lie .u32 w b m d (lmb B)) (fa : Fit n A) (fb : Fit m B) (hn : n ≤ 1000000000) (hm : m ≤ 1000000000) :
    Calls Try.prog 101 #[.slice a n c, .slice b m d] w (PPart (A * B) w) := by
  have hcm := ha.capm
  have hnc := ha.cap
  have hdm := hb.capm
  have hmd := hb.cap
  unfold maxLen at hcm hdm
  have hn4 : 4 * (n + m) ≤ 281474976710656 := by omega
  have hn6 : n + m ≤ 9223372036854775807 := by omega
  have HA := Lib.hid fa
  have HB := Lib.hid fb
  clear fa fb
  go_enter Try.func101, Try.ntmps101
  go_wp2_with (first | (at_make; refine wpList_mk _ rfl (.tmp 15) (.tmp 15) 79 rfl 103 .u32 4 Try.u79 Try.info103 _ _ (n + m) rfl rfl (by omega) (by omega) hn4 hn6 ?_; intro g w1 hg hown hb1))
  go_loopw [19] (fun i wr => ∃ k : Nat, k ≤ n ∧ i = .int .i64 k ∧ Own .u32 103 wr g (n + m) (lmb ((A % BB ^ k) * B)) ∧ Below w.heap.size w wr) (fun i _ => n - (intOf i).toNat)
  case atStart => exact ⟨0, Nat.zero_le _, rfl, hown.congr (fun j hj => by simp [Nat.mod_one, lmb]), hb1⟩
  case round =>
    obtain ⟨k, hk, rfl, hown, hbl⟩ := hrel
    by_cases hlt : k < n
    · obtain ⟨b1, o1, rfl, hb1'⟩ := ha.some_of_pos (by omega)
      have c1 := (ha.below hbl).at k hlt
      obtain ⟨wo, rfl⟩ : ∃ wo : World, wo = wr := ⟨_, rfl⟩
      go_wp2
      go_loopw [8, 26] (fun cv jv wr => ∃ j : Nat, j ≤ m ∧ jv = .int .i64 j ∧ cv = .int .u64 (rowC A B k j) ∧ Own .u32 103 wr g (n + m) (mixF (rowS A B k j) ((A % BB ^ k) * B) (k + j)) ∧ Below w.heap.size w wr) (fun _ jv _ => m - (intOf jv).toNat)
      case atStart => exact ⟨0, Nat.zero_le _, rfl, by rw [rowC_zero]; rfl, hown.congr (fun p hp => by unfold mixF; rw [rowS_zero]; split <;> rfl), hbl⟩
      case round =>
        obtain ⟨j, hj, rfl, rfl, hown2, hbl2⟩ := hrel
        have hcl := rowC_lt A B k j
        have hst := Lib.hid (rowC_step A B k j)
        have hla := lmb_lt A k
        have hlb := lmb_lt B j
        have hlt2 := lmb_lt ((A % BB ^ k) * B) (k + j)
        by_cases hjm : j < m
        · obtain ⟨b2, o2, rfl, hb2⟩ := hb.some_of_pos (by omega)
          have c3 := (hb.below hbl2).at j hjm
          have c4 : wr.cell? ⟨g, k + j, none⟩ = some (.int .u32 (lmb ((A % BB ^ k) * B) (k + j))) := by rw [hown2.cell (k + j) (by omega)]; simp [mixF]
          have c5 := hown2.free (k + j)
          obtain ⟨hpm0, hpm⟩ := mul_u32 hla hlb
          have HX : Hid (((rowC A B k j : Int) + ((lmb A k : Int) * (lmb B j : Int) + (lmb ((A % BB ^ k) * B) (k + j) : Int))) % 4294967296 = ((lmb (rowS A B k (j + 1)) (k + j) : Nat) : Int) ∧ ((rowC A B k j : Int) + ((lmb A k : Int) * (lmb B j : Int) + (lmb ((A % BB ^ k) * B) (k + j) : Int))) / 4294967296 = ((rowC A B k (j + 1) : Nat) : Int)) := by
            have := hst.out; show _ ∧ _; rw [← Int.natCast_mul]; omega
          have hbs := hbl2.setCell (p := ⟨g, k + j, none⟩) hg
          clear ha hb hst
          go_wp2
          go_roundw
          case rel => exact ⟨j + 1, by omega, by go_num, by rw [HX.out.2], hown2.put (by omega) (by rw [HX.out.1]; rw [mixF, if_pos (by omega)]) (mix_next A B k j (n + m)), hbs _⟩
          case measure => simp [intOf]; omega
        · obtain rfl : j = m := by omega
          have c4 : wr.cell? ⟨g, k + j, none⟩ = some (.int .u32 (lmb ((A % BB ^ k) * B) (k + j))) := by rw [hown2.cell (k + j) (by omega)]; simp [mixF]
          have c5 := hown2.free (k + j)
          have hE := Lib.hid (rowC_end A B k j HB.out.1)
          have hbs := hbl2.setCell (p := ⟨g, k + j, none⟩) hg
          clear ha hb hst
          go_wp2
          go_roundw
          case rel => exact ⟨k + 1, by omega, by go_num, hown2.put (by omega) (by rw [hE.out]) (mix_end A B k j (n + j) HB.out.1), hbs _⟩
          case measure => simp [intOf]; omega
    · obtain rfl : k = n := by omega
      have hO : Own .u32 103 wr g (k + m) (lmb (A * B)) := by rw [Nat.mod_eq_of_lt HA.out.1] at hown; exact hown
      have hAB : A * B < BB ^ (k + m) := by rw [Nat.pow_add]; exact Nat.mul_lt_mul'' HA.out.1 HB.out.1
      have HAB := Lib.hid hAB
      clear ha hb hAB
      go_wp2_with fail
      refine (trimmed_any _ _ _ (A * B) _ (hO.lie (Nat.le_refl _) (by unfold maxLen; omega)) HAB.out).mono ?_
      rintro e w3 ⟨mm, rfl, hmm, hfit, rfl⟩
      go_wp2
      go_ret
      exact ppart_own hO hg hbl hmm hn6 hfit
end Go.Proofs.Ytohdfialnaegcaa
