/- The document's numbers: the walks of plus, less. -/
import Derived.Test.YtpacbipencmjnaaDoorRsize
namespace Go.Proofs.YtpacbipencmjnaaDoor
open Go.RowKit

theorem Tryd.ru26 : Tryd.prog.underlying 26 = some (.slice 3) := by kernel_rfl
theorem Tryd.rinfo3 : (Tryd.prog.info? 3).map (fun i => (i.zero, i.size, i.bytes)) = some (some (.int .i64 0), 1, 8) := by kernel_rfl
/-- Digits of a number are handed back, in new memory. -/
def PDig (R : Nat) (w : World) (e : Ending) (w' : World) : Prop :=
  ∃ (a : Option Addr) (m c : Nat), e = .returned (.slice a m c) ∧ Lie .i64 w' a m c (dig R) ∧ R < 10 ^ m ∧ (∀ p, a = some p → w.heap.size ≤ p.block) ∧ Below w.heap.size w w'
theorem owned_fresh {k : IntKind} {w : World} {base : Nat} {e : TypeId} {v : Value} {n : Nat} {f : Nat → Nat} (h : w.ownsRow base e 1 v n (vals k f n)) :
    ∃ (a : Option Addr) (c : Nat), v = .slice a n c ∧ Lie k w a n c f ∧ ∀ p, a = some p → base ≤ p.block := by
  obtain ⟨a, c, h1, h2⟩ := lie_owned h
  refine ⟨a, c, h1, h2, fun p hp => ?_⟩
  subst h1
  exact (h.lt p.block (by rw [hp]; rfl)).1
theorem tcy_past {A B M k : Nat} (hA : A < 10 ^ M) (hB : B < 10 ^ M) (hk : M < k) : tcy A B k = 0 := by
  unfold tcy
  have h1 : 10 ^ (M + 1) ≤ 10 ^ k := Nat.pow_le_pow_right (by decide) hk
  rw [Nat.pow_succ] at h1
  have h2 := Nat.mod_le A (10 ^ k)
  have h3 := Nat.mod_le B (10 ^ k)
  exact Nat.div_eq_of_lt (by omega)
theorem tcy_done {A B n m k : Nat} (hA : A < 10 ^ n) (hB : B < 10 ^ m) (hn : n ≤ k) (hm : m ≤ k) (h : tcy A B k = 0) : A + B < 10 ^ k := by
  have h1 := tfit_mono hA hn
  have h2 := tfit_mono hB hm
  unfold tcy at h
  rw [Nat.mod_eq_of_lt h1, Nat.mod_eq_of_lt h2] at h
  rcases Nat.div_eq_zero_iff.1 h with h | h
  · have := p10 k; omega
  · exact h

set_option maxHeartbeats 3200000 in
theorem rplus_any (a b : Option Addr) (n c m d A B : Nat) (w : World) (ha : Lie .i64 w a n c (dig A)) (hb : Lie .i64 w b m d (dig B)) (hA : A < 10 ^ n) (hB : B < 10 ^ m) (hn : n ≤ 1000000000) (hm : m ≤ 1000000000) :
    Calls Tryd.prog 67 #[.slice a n c, .slice b m d] w (PDig (A + B) w) := by
  obtain ⟨i0, hi0, hz0, hzz1, hzz2⟩ := info_parts Tryd.rinfo3
  have HI := Lib.hid (And.intro hi0 (And.intro hz0 (And.intro hzz1 hzz2)))
  have HA := Lib.hid hA
  have HB := Lib.hid hB
  clear hi0 hz0 hzz1 hzz2 hA hB
  go_enter Tryd.func67, Tryd.ntmps67
  go_wp2
  go_loopw [5, 6, 7] (fun dv ov iv wr => ∃ k : Nat, k ≤ n + m + 1 ∧ iv = .int .i64 k ∧ ov = .int .i64 (tcy A B k : Nat) ∧ wr.ownsRow w.heap.size 3 1 dv k (vals .i64 (dig (A + B)) k) ∧ Below w.heap.size w wr) (fun _ _ iv _ => n + m + 2 - (intOf iv).toNat)
  case atStart => exact ⟨0, Nat.zero_le _, rfl, by rw [tcy_zero]; rfl, World.ownsRow_nil _ _ _ _, Below.refl _ _⟩
  case round =>
    obtain ⟨k, hk, rfl, rfl, how, hbl⟩ := hrel
    obtain ⟨s1, s2⟩ := tcy_step A B k
    have hcy := tcy_le A B k
    obtain ⟨C, hC⟩ : ∃ C : Int, C = ((tcy A B k : Nat) : Int) := ⟨_, rfl⟩
    have hC0 : 0 ≤ C := by omega
    have hC1 : C ≤ 1 := by omega
    have dA := dig_lt A k
    have dB := dig_lt B k
    obtain ⟨X, hX⟩ : ∃ X : Int, X = ((dig A k : Nat) : Int) := ⟨_, rfl⟩
    obtain ⟨Y, hY⟩ : ∃ Y : Int, Y = ((dig B k : Nat) : Int) := ⟨_, rfl⟩
    have hX0 : 0 ≤ X := by omega
    have hX1 : X ≤ 9 := by omega
    have hY0 : 0 ≤ Y := by omega
    have hY1 : Y ≤ 9 := by omega
    have HE : Hid ((C + X + Y) % 10 = ((dig (A + B) k : Nat) : Int) ∧ (C + X + Y) / 10 = ((tcy A B (k + 1) : Nat) : Int)) := by show _ ∧ _; omega
    have HK : Hid (0 < tcy A B k → k ≤ n + m) := fun h => by
      rcases Nat.lt_or_ge (n + m) k with h1 | h1
      · have := tcy_past (tfit_mono HA.out (show n ≤ n + m by omega)) (tfit_mono HB.out (show m ≤ n + m by omega)) h1; omega
      · exact h1
    have HCT : Hid (C = ((tcy A B k : Nat) : Int)) := hC
    have HXA : Hid (n ≤ k → X = 0) := fun h => by rw [hX, dig_zero HA.out h]; rfl
    have HYB : Hid (m ≤ k → Y = 0) := fun h => by rw [hY, dig_zero HB.out h]; rfl
    rw [← hC]
    clear s1 s2 hcy dA dB hC
    by_cases hlA : k < n
    · by_cases hlB : k < m
      · have hA2 : decide ((k : Int) < (n : Int)) = true := decide_eq_true (by omega)
        have hB2 : decide ((k : Int) < (m : Int)) = true := decide_eq_true (by omega)
        obtain ⟨b1, o1, rfl, hb1⟩ := ha.some_of_pos (by omega)
        have c1 := (ha.below hbl).at k hlA
        rw [← hX] at c1
        obtain ⟨b2, o2, rfl, hb2⟩ := hb.some_of_pos (by omega)
        have c2 := (hb.below hbl).at k hlB
        rw [← hY] at c2
        have HF : Hid ((C + X + Y) % 10 = ((dig (A + B) k : Nat) : Int) ∧ (C + X + Y) / 10 = ((tcy A B (k + 1) : Nat) : Int)) := by
          have h := HE.out
          exact h
        clear HE hX hY
        have hk2 : k ≤ n + m := by omega
        go_wp2_with (first
          | (at_builtin; refine wpList_append_own _ rfl _ _ 26 rfl w.heap.size 3 i0 (.int .i64 0) 1 8 Tryd.ru26 HI.out.1 HI.out.2.1 HI.out.2.2.1 HI.out.2.2.2 rfl (by decide) _ _ _ rfl (how.alloc _) ⟨wr.heap.size, 0, none⟩ 1 1 [.int .i64 ((C + X + Y) % 10)] rfl rfl ?ac1 ?ac2 ?ac3 ?ac4 ?ac5 ?_)
          | fail)
        (try case ac1 => exact cell_one_new _ _ _)
        case ac2 => first | rfl | (intro u hu; simp at hu; subst hu; rfl)
        case ac3 => unfold maxLen; omega
        case ac4 => omega
        case ac5 => have := hbl.size; simp; omega
        intro v' w3 hown' hgrow _
        have hb3 : Below w.heap.size w w3 := (hbl.alloc hbl.size _).grown hgrow (by have := hbl.size; simp; omega) (fun q hq => (how.lt q hq).1)
        clear hgrow how
        rw [HF.out.1] at hown'
        have hown2 : w3.ownsRow w.heap.size 3 1 v' (k + 1) (vals .i64 (dig (A + B)) (k + 1)) := by rw [← vals_succ]; exact hown'
        go_wp2
        go_roundw
        case rel => exact ⟨k + 1, by omega, by go_num, by rw [HF.out.2], hown2, hb3⟩
        case measure => simp [intOf]; omega
      · have hA2 : decide ((k : Int) < (n : Int)) = true := decide_eq_true (by omega)
        have hB2 : decide ((k : Int) < (m : Int)) = false := decide_eq_false (by omega)
        obtain ⟨b1, o1, rfl, hb1⟩ := ha.some_of_pos (by omega)
        have c1 := (ha.below hbl).at k hlA
        rw [← hX] at c1
        have HF : Hid ((C + X) % 10 = ((dig (A + B) k : Nat) : Int) ∧ (C + X) / 10 = ((tcy A B (k + 1) : Nat) : Int)) := by
          have h := HE.out
          rw [HYB.out (by omega)] at h
          simp only [Int.add_zero] at h
          exact h
        clear HE hX hY
        have hk2 : k ≤ n + m := by omega
        go_wp2_with (first
          | (at_builtin; refine wpList_append_own _ rfl _ _ 26 rfl w.heap.size 3 i0 (.int .i64 0) 1 8 Tryd.ru26 HI.out.1 HI.out.2.1 HI.out.2.2.1 HI.out.2.2.2 rfl (by decide) _ _ _ rfl (how.alloc _) ⟨wr.heap.size, 0, none⟩ 1 1 [.int .i64 ((C + X) % 10)] rfl rfl ?bc1 ?bc2 ?bc3 ?bc4 ?bc5 ?_)
          | fail)
        (try case bc1 => exact cell_one_new _ _ _)
        case bc2 => first | rfl | (intro u hu; simp at hu; subst hu; rfl)
        case bc3 => unfold maxLen; omega
        case bc4 => omega
        case bc5 => have := hbl.size; simp; omega
        intro v' w3 hown' hgrow _
        have hb3 : Below w.heap.size w w3 := (hbl.alloc hbl.size _).grown hgrow (by have := hbl.size; simp; omega) (fun q hq => (how.lt q hq).1)
        clear hgrow how
        rw [HF.out.1] at hown'
        have hown2 : w3.ownsRow w.heap.size 3 1 v' (k + 1) (vals .i64 (dig (A + B)) (k + 1)) := by rw [← vals_succ]; exact hown'
        go_wp2
        go_roundw
        case rel => exact ⟨k + 1, by omega, by go_num, by rw [HF.out.2], hown2, hb3⟩
        case measure => simp [intOf]; omega
    · by_cases hlB : k < m
      · have hA2 : decide ((k : Int) < (n : Int)) = false := decide_eq_false (by omega)
        have hB2 : decide ((k : Int) < (m : Int)) = true := decide_eq_true (by omega)
        obtain ⟨b2, o2, rfl, hb2⟩ := hb.some_of_pos (by omega)
        have c2 := (hb.below hbl).at k hlB
        rw [← hY] at c2
        have HF : Hid ((C + Y) % 10 = ((dig (A + B) k : Nat) : Int) ∧ (C + Y) / 10 = ((tcy A B (k + 1) : Nat) : Int)) := by
          have h := HE.out
          rw [HXA.out (by omega)] at h
          simp only [Int.add_zero] at h
          exact h
        clear HE hX hY
        have hk2 : k ≤ n + m := by omega
        go_wp2_with (first
          | (at_builtin; refine wpList_append_own _ rfl _ _ 26 rfl w.heap.size 3 i0 (.int .i64 0) 1 8 Tryd.ru26 HI.out.1 HI.out.2.1 HI.out.2.2.1 HI.out.2.2.2 rfl (by decide) _ _ _ rfl (how.alloc _) ⟨wr.heap.size, 0, none⟩ 1 1 [.int .i64 ((C + Y) % 10)] rfl rfl ?cc1 ?cc2 ?cc3 ?cc4 ?cc5 ?_)
          | fail)
        (try case cc1 => exact cell_one_new _ _ _)
        case cc2 => first | rfl | (intro u hu; simp at hu; subst hu; rfl)
        case cc3 => unfold maxLen; omega
        case cc4 => omega
        case cc5 => have := hbl.size; simp; omega
        intro v' w3 hown' hgrow _
        have hb3 : Below w.heap.size w w3 := (hbl.alloc hbl.size _).grown hgrow (by have := hbl.size; simp; omega) (fun q hq => (how.lt q hq).1)
        clear hgrow how
        rw [HF.out.1] at hown'
        have hown2 : w3.ownsRow w.heap.size 3 1 v' (k + 1) (vals .i64 (dig (A + B)) (k + 1)) := by rw [← vals_succ]; exact hown'
        go_wp2
        go_roundw
        case rel => exact ⟨k + 1, by omega, by go_num, by rw [HF.out.2], hown2, hb3⟩
        case measure => simp [intOf]; omega
      · have hA2 : decide ((k : Int) < (n : Int)) = false := decide_eq_false (by omega)
        have hB2 : decide ((k : Int) < (m : Int)) = false := decide_eq_false (by omega)
        by_cases hc : 0 < C
        · have hc2 : decide (0 < C) = true := decide_eq_true hc
          have HF : Hid ((C) % 10 = ((dig (A + B) k : Nat) : Int) ∧ (C) / 10 = ((tcy A B (k + 1) : Nat) : Int)) := by
            have h := HE.out
            rw [HXA.out (by omega)] at h
            rw [HYB.out (by omega)] at h
            simp only [Int.add_zero] at h
            exact h
          clear HE hX hY
          have hk2 : k ≤ n + m := HK.out (by have := HCT.out; omega)
          go_wp2_with (first
            | (at_builtin; refine wpList_append_own _ rfl _ _ 26 rfl w.heap.size 3 i0 (.int .i64 0) 1 8 Tryd.ru26 HI.out.1 HI.out.2.1 HI.out.2.2.1 HI.out.2.2.2 rfl (by decide) _ _ _ rfl (how.alloc _) ⟨wr.heap.size, 0, none⟩ 1 1 [.int .i64 ((C) % 10)] rfl rfl ?dc1 ?dc2 ?dc3 ?dc4 ?dc5 ?_)
            | fail)
          (try case dc1 => exact cell_one_new _ _ _)
          case dc2 => first | rfl | (intro u hu; simp at hu; subst hu; rfl)
          case dc3 => unfold maxLen; omega
          case dc4 => omega
          case dc5 => have := hbl.size; simp; omega
          intro v' w3 hown' hgrow _
          have hb3 : Below w.heap.size w w3 := (hbl.alloc hbl.size _).grown hgrow (by have := hbl.size; simp; omega) (fun q hq => (how.lt q hq).1)
          clear hgrow how
          rw [HF.out.1] at hown'
          have hown2 : w3.ownsRow w.heap.size 3 1 v' (k + 1) (vals .i64 (dig (A + B)) (k + 1)) := by rw [← vals_succ]; exact hown'
          go_wp2
          go_roundw
          case rel => exact ⟨k + 1, by omega, by go_num, by rw [HF.out.2], hown2, hb3⟩
          case measure => simp [intOf]; omega
        · obtain rfl : C = 0 := by omega
          have HD : Hid (A + B < 10 ^ k) := tcy_done HA.out HB.out (by omega) (by omega) (by have := HCT.out; omega)
          obtain ⟨a4, c4, rfl, hlie, hfr⟩ := owned_fresh how
          clear how HE hX hY hc
          go_wp2
          go_ret
          exact ⟨a4, k, c4, rfl, hlie, HD.out, hfr, hbl⟩

set_option maxHeartbeats 3200000 in
theorem rless_any (a b : Option Addr) (n c m d A B : Nat) (w : World) (ha : Lie .i64 w a n c (dig A)) (hb : Lie .i64 w b m d (dig B)) (hA : A < 10 ^ n) (hB : B < 10 ^ m) (hBA : B ≤ A) (hn : n ≤ 1000000000) (hm : m ≤ 1000000000) :
    Calls Tryd.prog 65 #[.slice a n c, .slice b m d] w (PDig (A - B) w) := by
  obtain ⟨i0, hi0, hz0, hzz1, hzz2⟩ := info_parts Tryd.rinfo3
  have HI := Lib.hid (And.intro hi0 (And.intro hz0 (And.intro hzz1 hzz2)))
  have HA := Lib.hid hA
  have HB := Lib.hid hB
  have HBA := Lib.hid hBA
  clear hi0 hz0 hzz1 hzz2 hA hB hBA
  go_enter Tryd.func65, Tryd.ntmps65
  go_wp2
  go_loopw [5, 6, 7] (fun dv ov iv wr => ∃ k : Nat, k ≤ n ∧ iv = .int .i64 k ∧ ov = .int .i64 (tbw A B k : Nat) ∧ wr.ownsRow w.heap.size 3 1 dv k (vals .i64 (dig (A - B)) k) ∧ Below w.heap.size w wr) (fun _ _ iv _ => n - (intOf iv).toNat)
  case atStart => exact ⟨0, Nat.zero_le _, rfl, by rw [tbw_zero]; rfl, World.ownsRow_nil _ _ _ _, Below.refl _ _⟩
  case round =>
    obtain ⟨k, hk, rfl, rfl, how, hbl⟩ := hrel
    have s1 := tbw_part HBA.out k
    have s2 := tbw_next A B k
    have hcy := tbw_le A B k
    obtain ⟨C, hC⟩ : ∃ C : Int, C = ((tbw A B k : Nat) : Int) := ⟨_, rfl⟩
    have hC0 : 0 ≤ C := by omega
    have hC1 : C ≤ 1 := by omega
    have dA := dig_lt A k
    have dB := dig_lt B k
    obtain ⟨X, hX⟩ : ∃ X : Int, X = ((dig A k : Nat) : Int) := ⟨_, rfl⟩
    obtain ⟨Y, hY⟩ : ∃ Y : Int, Y = ((dig B k : Nat) : Int) := ⟨_, rfl⟩
    have hX0 : 0 ≤ X := by omega
    have hX1 : X ≤ 9 := by omega
    have hY0 : 0 ≤ Y := by omega
    have hY1 : Y ≤ 9 := by omega
    have HE : Hid ((X - C - Y < 0 → X - C - Y + 10 = ((dig (A - B) k : Nat) : Int) ∧ (1 : Int) = ((tbw A B (k + 1) : Nat) : Int)) ∧ (¬ X - C - Y < 0 → X - C - Y = ((dig (A - B) k : Nat) : Int) ∧ (0 : Int) = ((tbw A B (k + 1) : Nat) : Int))) := by
      show _ ∧ _
      rw [s2]
      constructor
      · intro h
        rw [if_pos (by omega)]; omega
      · intro h
        rw [if_neg (by omega)]; omega
    have HYB : Hid (m ≤ k → Y = 0) := fun h => by rw [hY, dig_zero HB.out h]; rfl
    rw [← hC]
    clear s1 s2 hcy dA dB hC
    by_cases hlA : k < n
    · obtain ⟨b1, o1, rfl, hb1⟩ := ha.some_of_pos (by omega)
      have c1 := (ha.below hbl).at k hlA
      rw [← hX] at c1
      by_cases hlB : k < m
      · by_cases hs : X - C - Y < 0
        · have hs2 : decide (X - C - Y < 0) = true := decide_eq_true hs
          obtain ⟨b2, o2, rfl, hb2⟩ := hb.some_of_pos (by omega)
          have c2 := (hb.below hbl).at k hlB
          rw [← hY] at c2
          have HF : Hid (X - C - Y + 10 = ((dig (A - B) k : Nat) : Int) ∧ (1 : Int) = ((tbw A B (k + 1) : Nat) : Int)) := by
            have h := HE.out.1
            exact h hs
          clear HE hX hY
          go_wp2_with (first
            | (at_builtin; refine wpList_append_own _ rfl _ _ 26 rfl w.heap.size 3 i0 (.int .i64 0) 1 8 Tryd.ru26 HI.out.1 HI.out.2.1 HI.out.2.2.1 HI.out.2.2.2 rfl (by decide) _ _ _ rfl (how.alloc _) ⟨wr.heap.size, 0, none⟩ 1 1 [.int .i64 (X - C - Y + 10)] rfl rfl ?pc1 ?pc2 ?pc3 ?pc4 ?pc5 ?_)
            | fail)
          (try case pc1 => exact cell_one_new _ _ _)
          case pc2 => first | rfl | (intro u hu; simp at hu; subst hu; rfl)
          case pc3 => unfold maxLen; omega
          case pc4 => omega
          case pc5 => have := hbl.size; simp; omega
          intro v' w3 hown' hgrow _
          have hb3 : Below w.heap.size w w3 := (hbl.alloc hbl.size _).grown hgrow (by have := hbl.size; simp; omega) (fun q hq => (how.lt q hq).1)
          clear hgrow how
          rw [HF.out.1] at hown'
          have hown2 : w3.ownsRow w.heap.size 3 1 v' (k + 1) (vals .i64 (dig (A - B)) (k + 1)) := by rw [← vals_succ]; exact hown'
          go_wp2
          go_roundw
          case rel => exact ⟨k + 1, by omega, by go_num, by rw [← HF.out.2], hown2, hb3⟩
          case measure => simp [intOf]; omega
        · have hs2 : decide (X - C - Y < 0) = false := decide_eq_false hs
          obtain ⟨b2, o2, rfl, hb2⟩ := hb.some_of_pos (by omega)
          have c2 := (hb.below hbl).at k hlB
          rw [← hY] at c2
          have HF : Hid (X - C - Y = ((dig (A - B) k : Nat) : Int) ∧ (0 : Int) = ((tbw A B (k + 1) : Nat) : Int)) := by
            have h := HE.out.2
            exact h hs
          clear HE hX hY
          go_wp2_with (first
            | (at_builtin; refine wpList_append_own _ rfl _ _ 26 rfl w.heap.size 3 i0 (.int .i64 0) 1 8 Tryd.ru26 HI.out.1 HI.out.2.1 HI.out.2.2.1 HI.out.2.2.2 rfl (by decide) _ _ _ rfl (how.alloc _) ⟨wr.heap.size, 0, none⟩ 1 1 [.int .i64 (X - C - Y)] rfl rfl ?qc1 ?qc2 ?qc3 ?qc4 ?qc5 ?_)
            | fail)
          (try case qc1 => exact cell_one_new _ _ _)
          case qc2 => first | rfl | (intro u hu; simp at hu; subst hu; rfl)
          case qc3 => unfold maxLen; omega
          case qc4 => omega
          case qc5 => have := hbl.size; simp; omega
          intro v' w3 hown' hgrow _
          have hb3 : Below w.heap.size w w3 := (hbl.alloc hbl.size _).grown hgrow (by have := hbl.size; simp; omega) (fun q hq => (how.lt q hq).1)
          clear hgrow how
          rw [HF.out.1] at hown'
          have hown2 : w3.ownsRow w.heap.size 3 1 v' (k + 1) (vals .i64 (dig (A - B)) (k + 1)) := by rw [← vals_succ]; exact hown'
          go_wp2
          go_roundw
          case rel => exact ⟨k + 1, by omega, by go_num, by rw [← HF.out.2], hown2, hb3⟩
          case measure => simp [intOf]; omega
      · have hY9 := HYB.out (by omega)
        by_cases hs' : X - C < 0
        · have hs2 : decide (X - C < 0) = true := decide_eq_true hs'
          have hs : X - C - 0 < 0 := by omega
          clear hY9
          have HF : Hid (X - C + 10 = ((dig (A - B) k : Nat) : Int) ∧ (1 : Int) = ((tbw A B (k + 1) : Nat) : Int)) := by
            have h := HE.out.1
            rw [HYB.out (by omega)] at h
            simp only [Int.sub_zero] at h
            exact h hs'
          clear HE hX hY
          go_wp2_with (first
            | (at_builtin; refine wpList_append_own _ rfl _ _ 26 rfl w.heap.size 3 i0 (.int .i64 0) 1 8 Tryd.ru26 HI.out.1 HI.out.2.1 HI.out.2.2.1 HI.out.2.2.2 rfl (by decide) _ _ _ rfl (how.alloc _) ⟨wr.heap.size, 0, none⟩ 1 1 [.int .i64 (X - C + 10)] rfl rfl ?rc1 ?rc2 ?rc3 ?rc4 ?rc5 ?_)
            | fail)
          (try case rc1 => exact cell_one_new _ _ _)
          case rc2 => first | rfl | (intro u hu; simp at hu; subst hu; rfl)
          case rc3 => unfold maxLen; omega
          case rc4 => omega
          case rc5 => have := hbl.size; simp; omega
          intro v' w3 hown' hgrow _
          have hb3 : Below w.heap.size w w3 := (hbl.alloc hbl.size _).grown hgrow (by have := hbl.size; simp; omega) (fun q hq => (how.lt q hq).1)
          clear hgrow how
          rw [HF.out.1] at hown'
          have hown2 : w3.ownsRow w.heap.size 3 1 v' (k + 1) (vals .i64 (dig (A - B)) (k + 1)) := by rw [← vals_succ]; exact hown'
          go_wp2
          go_roundw
          case rel => exact ⟨k + 1, by omega, by go_num, by rw [← HF.out.2], hown2, hb3⟩
          case measure => simp [intOf]; omega
        · have hs2 : decide (X - C < 0) = false := decide_eq_false hs'
          clear hY9
          have HF : Hid (X - C = ((dig (A - B) k : Nat) : Int) ∧ (0 : Int) = ((tbw A B (k + 1) : Nat) : Int)) := by
            have h := HE.out.2
            rw [HYB.out (by omega)] at h
            simp only [Int.sub_zero] at h
            exact h hs'
          clear HE hX hY
          go_wp2_with (first
            | (at_builtin; refine wpList_append_own _ rfl _ _ 26 rfl w.heap.size 3 i0 (.int .i64 0) 1 8 Tryd.ru26 HI.out.1 HI.out.2.1 HI.out.2.2.1 HI.out.2.2.2 rfl (by decide) _ _ _ rfl (how.alloc _) ⟨wr.heap.size, 0, none⟩ 1 1 [.int .i64 (X - C)] rfl rfl ?sc1 ?sc2 ?sc3 ?sc4 ?sc5 ?_)
            | fail)
          (try case sc1 => exact cell_one_new _ _ _)
          case sc2 => first | rfl | (intro u hu; simp at hu; subst hu; rfl)
          case sc3 => unfold maxLen; omega
          case sc4 => omega
          case sc5 => have := hbl.size; simp; omega
          intro v' w3 hown' hgrow _
          have hb3 : Below w.heap.size w w3 := (hbl.alloc hbl.size _).grown hgrow (by have := hbl.size; simp; omega) (fun q hq => (how.lt q hq).1)
          clear hgrow how
          rw [HF.out.1] at hown'
          have hown2 : w3.ownsRow w.heap.size 3 1 v' (k + 1) (vals .i64 (dig (A - B)) (k + 1)) := by rw [← vals_succ]; exact hown'
          go_wp2
          go_roundw
          case rel => exact ⟨k + 1, by omega, by go_num, by rw [← HF.out.2], hown2, hb3⟩
          case measure => simp [intOf]; omega
    · obtain rfl : k = n := by omega
      have HD : Hid (A - B < 10 ^ k) := Nat.lt_of_le_of_lt (Nat.sub_le _ _) HA.out
      obtain ⟨a4, c4, rfl, hlie, hfr⟩ := owned_fresh how
      clear how HE hX hY
      go_wp2
      go_ret
      exact ⟨a4, k, c4, rfl, hlie, HD.out, hfr, hbl⟩
end Go.Proofs.YtpacbipencmjnaaDoor
