/- The document's numbers: the walk of String. -/
import Derived.Test.YtpacbipencmjnaaDoorRmul
import Derived.Test.YtpacbipencmjnaaDoorTxt
namespace Go.Proofs.YtpacbipencmjnaaDoor
open Go.RowKit

theorem plain_pad {N n : Nat} (hf : Fit10 n N) (hN : 0 < N) : Plain N (padL N n) := by
  obtain ⟨j, rfl⟩ : ∃ j, n = j + 1 := by
    rcases Nat.eq_zero_or_pos n with h | h
    · subst h; have := hf.1; simp at this; omega
    · exact ⟨n - 1, by omega⟩
  have hge : 10 ^ j ≤ N := by
    rcases hf.2 with h | h
    · omega
    · simpa using h
  have hd : dig N j ≠ 0 := by
    rw [dig_top hf.1]
    have := Nat.div_pos hge (p10 j)
    omega
  have e := padL_succ N j
  have hb := byte_dig N j
  have hne : (48 + dig N j).toUInt8 ≠ 48 := fun h => by rw [h] at hb; have : (48 : UInt8).toNat = 48 := rfl; omega
  have := plain_drop (N := N) (K := j + 1) hN hf.1
  rwa [e, List.dropWhile_cons, if_neg (by simpa using hne), ← e] at this
theorem fit10_z {n : Nat} {z : Int} (h : Fit10 n z.natAbs) (hz : z ≠ 0) : 0 < n := by
  rcases Nat.eq_zero_or_pos n with h0 | h0
  · have := (fit10_pos h).1 h0; omega
  · exact h0
theorem Tryd.su58 : Tryd.prog.underlying 58 = some (.slice 5) := by kernel_rfl
theorem Tryd.sinfo5 : (Tryd.prog.info? 5).map (fun i => (i.zero, i.size, i.bytes)) = some (some (.int .u8 0), 1, 1) := by kernel_rfl

set_option maxHeartbeats 800000 in
theorem rString_zero (bl : Bool) (a : Option Addr) (n c : Nat) (w : World) (h : RNum w bl a n c 0) :
    Calls Tryd.prog 12 #[.agg #[.bool bl, .slice a n c]] w (PTxt 0 w) := by
  obtain rfl : n = 0 := (h.zero_iff).2 rfl
  clear h
  go_enter Tryd.func12, Tryd.ntmps12
  go_wp2
  go_ret
  exact ⟨[48], rfl, ⟨by decide, by decide⟩, (Below.refl w.heap.size w).alloc (Nat.le_refl _) _⟩

def rspos (N n : Nat) : Nat → Nat := fun p => 48 + dig N (n - 1 - p)
theorem rspos_next (N n k : Nat) (hk : k < n) : rspos N n (k) = 48 + dig N (n - 1 - k) := by
  unfold rspos; rfl
theorem rspos_get (N n j : Nat) (hj : j < n) : rspos N n j = ((padL N n)[j]'(by rw [padL_len]; exact hj)).toNat := by
  unfold rspos padL
  simp only [List.getElem_map, List.getElem_range]
  exact (byte_dig N (n - 1 - j)).symm
set_option maxHeartbeats 3200000 in
theorem rString_pos (a : Option Addr) (n c : Nat) (z : Int) (w : World) (h : RNum w false a n c z) (hn : n ≤ 100000000) (hz : z ≠ 0) :
    Calls Tryd.prog 12 #[.agg #[.bool false, .slice a n c]] w (PTxt z w) := by
  obtain ⟨i0, hi0, hz0, hzz1, hzz2⟩ := info_parts Tryd.sinfo5
  have HI := Lib.hid (And.intro hi0 (And.intro hz0 (And.intro hzz1 hzz2)))
  have hn0 := fit10_z h.fit hz
  have HTX : Hid (Txt z (padL z.natAbs n)) := by
    have hp := plain_pad h.fit (by omega)
    have hs := h.sgn
    have := txt_pos hp
    rwa [show ((z.natAbs : Nat) : Int) = z from by simp at hs; omega] at this
  have hl := h.lie
  clear h hi0 hz0 hzz1 hzz2 hz
  generalize z.natAbs = N at *
  have hb0 : Below w.heap.size w (w.alloc (.cells #[.bool false, .slice a n c] 28)) := (Below.refl _ _).alloc (Nat.le_refl _) _
  have k1 : (w.alloc (.cells #[.bool false, .slice a n c] 28)).cell? ⟨w.heap.size, 1, none⟩ = some (.slice a n c) := by simp [go_sem]
  have hlt1 : w.heap.size < (w.alloc (.cells #[.bool false, .slice a n c] 28)).heap.size := by simp
  replace hl := hl.below hb0
  obtain ⟨b1, o1, rfl, hb1⟩ := hl.some_of_pos hn0
  have d0 : ((n : Int) == 0) = false := by simp; omega
  go_enter Tryd.func12, Tryd.ntmps12
  go_wp2
  generalize w.alloc (.cells #[.bool false, .slice (some ⟨b1, o1, none⟩) n c] 28) = w1 at *
  go_loopw [3, 4] (fun dv iv wr => ∃ k : Nat, k ≤ n ∧ iv = .int .i64 ((n : Int) - 1 - (k : Int)) ∧ wr.ownsRow w1.heap.size 5 1 dv k (vals .u8 (rspos N n) k) ∧ Below w1.heap.size w1 wr) (fun _ iv _ => (intOf iv + 1).toNat)
  case atStart => exact ⟨0, Nat.zero_le _, by go_num, World.ownsRow_nil _ _ _ _, Below.refl _ _⟩
  case round =>
    obtain ⟨k, hk, rfl, how, hbl⟩ := hrel
    have x1 := (hbl.cell (p := ⟨w.heap.size, 1, none⟩) hlt1).trans k1
    by_cases hlt : k < n
    · have c1 := (hl.below hbl).at (n - 1 - k) (by omega)
      have hdl := dig_lt N (n - 1 - k)
      obtain ⟨X, hX⟩ : ∃ X : Int, X = ((dig N (n - 1 - k) : Nat) : Int) := ⟨_, rfl⟩
      rw [← hX] at c1
      have hX0 : 0 ≤ X := by omega
      have hX1 : X ≤ 9 := by omega
      have HV : Hid ((48 : Int) + X = ((rspos N n (k) : Nat) : Int)) := by show _ = _; rw [rspos_next N n k hlt]; omega
      have hsz := hbl.size
      clear hX hdl
      have hi1 : ¬ (n : Int) - 1 - (k : Int) < 0 := by omega
      go_wp2_with (first
        | (at_builtin; refine wpList_append_own _ rfl _ _ 58 rfl w1.heap.size 5 i0 (.int .u8 0) 1 1 Tryd.su58 HI.out.1 HI.out.2.1 HI.out.2.2.1 HI.out.2.2.2 rfl (by decide) _ _ _ rfl (how.alloc _) ⟨wr.heap.size, 0, none⟩ 1 1 [.int .u8 ((48 : Int) + X)] rfl rfl ?yc1 ?yc2 ?yc3 ?yc4 ?yc5 ?_)
        | fail)
      (try case yc1 => exact cell_one_new _ _ _)
      case yc2 => first | rfl | (intro u hu; simp at hu; subst hu; rfl)
      case yc3 => unfold maxLen; omega
      case yc4 => omega
      case yc5 => first | omega | (simp; done) | (simp; omega)
      intro v' w3 hown' hgrow _
      have hb3 : Below w1.heap.size w1 w3 := (hbl.alloc hbl.size _).grown hgrow (by have := hbl.size; simp; omega) (fun q hq => (how.lt q hq).1)
      rw [HV.out] at hown'
      have hown2 : w3.ownsRow w1.heap.size 5 1 v' (k + 1) (vals .u8 (rspos N n) (k + 1)) := by rw [← vals_succ]; exact hown'
      clear hgrow how
      go_wp2
      go_roundw
      case rel => exact ⟨k + 1, by omega, by go_num, hown2, hb3⟩
      case measure => simp [intOf]; omega
    · obtain rfl : k = n := by omega
      obtain ⟨a4, c4, rfl, hlie⟩ := lie_owned how
      obtain ⟨b4, o4, rfl, hb4⟩ := hlie.some_of_pos (by omega)
      have hcv : ∃ str : ByteArray, str = ⟨(padL N k).toArray⟩ ∧ (convert 58 9 (.slice (some ⟨b4, o4, none⟩) (k) c4)).run Tryd.prog wr = .ok (.string str) wr := by
        refine ⟨_, rfl, ?_⟩
        have := run_convert_bytes_back (P := Tryd.prog) wr 58 9 5 ⟨b4, o4, none⟩ c4 (padL N k) Tryd.su58 (by kernel_rfl) (by kernel_rfl) (fun j hj => by
          have hj' : j < k := by simpa [padL_len] using hj
          rw [show (⟨b4, o4, none⟩ : Addr).add j = ⟨b4, o4 + j, none⟩ from by unfold Addr.add; split <;> simp_all, hlie.at j hj']
          congr 3
          exact rspos_get N k j hj')
        rw [show (padL N k).length = k from by simp [padL_len]] at this
        exact this
      obtain ⟨str, hstr, hrun⟩ := hcv
      have HS := Lib.hid hstr
      have hfin := hb0.trans (hbl.mono hb0.size)
      rw [show (k : Int) - 1 - (k : Int) = -1 from by omega]
      clear hstr how hlie hl
      go_wp2
      go_ret
      exact ⟨_, by rw [← HS.out]; rfl, HTX.out, hfin⟩

def rsneg (N n : Nat) : Nat → Nat := fun p => if p = 0 then 45 else 48 + dig N (n - p)
theorem rsneg_next (N n k : Nat) (hk : k < n) : rsneg N n (k + 1) = 48 + dig N (n - 1 - k) := by
  unfold rsneg; rw [if_neg (by omega)]; congr 2; omega
theorem rsneg_get (N n j : Nat) (hj : j < n + 1) : rsneg N n j = ((45 :: padL N n)[j]'(by rw [List.length_cons, padL_len]; exact hj)).toNat := by
  cases j with
  | zero => rfl
  | succ j =>
    rw [List.getElem_cons_succ]
    unfold rsneg padL
    simp only [List.getElem_map, List.getElem_range]
    rw [if_neg (by omega), byte_dig]
    congr 2
    omega
set_option maxHeartbeats 3200000 in
theorem rString_neg (a : Option Addr) (n c : Nat) (z : Int) (w : World) (h : RNum w true a n c z) (hn : n ≤ 100000000) (hz : z ≠ 0) :
    Calls Tryd.prog 12 #[.agg #[.bool true, .slice a n c]] w (PTxt z w) := by
  obtain ⟨i0, hi0, hz0, hzz1, hzz2⟩ := info_parts Tryd.sinfo5
  have HI := Lib.hid (And.intro hi0 (And.intro hz0 (And.intro hzz1 hzz2)))
  have hn0 := fit10_z h.fit hz
  have HTX : Hid (Txt z (45 :: padL z.natAbs n)) := by
    have hp := plain_pad h.fit (by omega)
    have hs := h.sgn
    have := txt_neg hp
    rwa [show -((z.natAbs : Nat) : Int) = z from by simp at hs; omega] at this
  have hl := h.lie
  clear h hi0 hz0 hzz1 hzz2 hz
  generalize z.natAbs = N at *
  have hb0 : Below w.heap.size w (w.alloc (.cells #[.bool true, .slice a n c] 28)) := (Below.refl _ _).alloc (Nat.le_refl _) _
  have k1 : (w.alloc (.cells #[.bool true, .slice a n c] 28)).cell? ⟨w.heap.size, 1, none⟩ = some (.slice a n c) := by simp [go_sem]
  have hlt1 : w.heap.size < (w.alloc (.cells #[.bool true, .slice a n c] 28)).heap.size := by simp
  replace hl := hl.below hb0
  obtain ⟨b1, o1, rfl, hb1⟩ := hl.some_of_pos hn0
  have d0 : ((n : Int) == 0) = false := by simp; omega
  go_enter Tryd.func12, Tryd.ntmps12
  go_upto_region 5 with (fail)
  generalize w.alloc (.cells #[.bool true, .slice (some ⟨b1, o1, none⟩) n c] 28) = w1 at *
  have how0 : w1.ownsRow w1.heap.size 5 1 (.slice none 0 0) 0 [] := World.ownsRow_nil _ _ _ _
  go_wp2_with (first
    | (at_builtin; refine wpList_append_own _ rfl _ _ 58 rfl w1.heap.size 5 i0 (.int .u8 0) 1 1 Tryd.su58 HI.out.1 HI.out.2.1 HI.out.2.2.1 HI.out.2.2.2 rfl (by decide) _ _ _ rfl (how0.alloc _) ⟨w1.heap.size, 0, none⟩ 1 1 [.int .u8 (45)] rfl rfl ?xc1 ?xc2 ?xc3 ?xc4 ?xc5 ?_)
    | fail)
  (try case xc1 => exact cell_one_new _ _ _)
  case xc2 => first | rfl | (intro u hu; simp at hu; subst hu; rfl)
  case xc3 => unfold maxLen; omega
  case xc4 => omega
  case xc5 => first | omega | (simp; done) | (simp; omega)
  intro v0 W2 hown0 hgrow0 _
  have hb2 : Below w1.heap.size w1 W2 := ((Below.refl _ _).alloc (Nat.le_refl _) _).grown hgrow0 (by simp) (fun q hq => (how0.lt q hq).1)
  clear hgrow0 how0
  have hown1 : W2.ownsRow w1.heap.size 5 1 v0 1 (vals .u8 (rsneg N n) 1) := hown0
  clear hown0
  have k2 := (hb2.cell (p := ⟨w.heap.size, 1, none⟩) hlt1).trans k1
  go_wp2
  clear k2
  go_loopw [3, 4] (fun dv iv wr => ∃ k : Nat, k ≤ n ∧ iv = .int .i64 ((n : Int) - 1 - (k : Int)) ∧ wr.ownsRow w1.heap.size 5 1 dv (k + 1) (vals .u8 (rsneg N n) (k + 1)) ∧ Below w1.heap.size w1 wr) (fun _ iv _ => (intOf iv + 1).toNat)
  case atStart => exact ⟨0, Nat.zero_le _, by go_num, hown1, hb2⟩
  case round =>
    obtain ⟨k, hk, rfl, how, hbl⟩ := hrel
    have x1 := (hbl.cell (p := ⟨w.heap.size, 1, none⟩) hlt1).trans k1
    by_cases hlt : k < n
    · have c1 := (hl.below hbl).at (n - 1 - k) (by omega)
      have hdl := dig_lt N (n - 1 - k)
      obtain ⟨X, hX⟩ : ∃ X : Int, X = ((dig N (n - 1 - k) : Nat) : Int) := ⟨_, rfl⟩
      rw [← hX] at c1
      have hX0 : 0 ≤ X := by omega
      have hX1 : X ≤ 9 := by omega
      have HV : Hid ((48 : Int) + X = ((rsneg N n (k + 1) : Nat) : Int)) := by show _ = _; rw [rsneg_next N n k hlt]; omega
      have hsz := hbl.size
      clear hX hdl
      have hi1 : ¬ (n : Int) - 1 - (k : Int) < 0 := by omega
      go_wp2_with (first
        | (at_builtin; refine wpList_append_own _ rfl _ _ 58 rfl w1.heap.size 5 i0 (.int .u8 0) 1 1 Tryd.su58 HI.out.1 HI.out.2.1 HI.out.2.2.1 HI.out.2.2.2 rfl (by decide) _ _ _ rfl (how.alloc _) ⟨wr.heap.size, 0, none⟩ 1 1 [.int .u8 ((48 : Int) + X)] rfl rfl ?yc1 ?yc2 ?yc3 ?yc4 ?yc5 ?_)
        | fail)
      (try case yc1 => exact cell_one_new _ _ _)
      case yc2 => first | rfl | (intro u hu; simp at hu; subst hu; rfl)
      case yc3 => unfold maxLen; omega
      case yc4 => omega
      case yc5 => first | omega | (simp; done) | (simp; omega)
      intro v' w3 hown' hgrow _
      have hb3 : Below w1.heap.size w1 w3 := (hbl.alloc hbl.size _).grown hgrow (by have := hbl.size; simp; omega) (fun q hq => (how.lt q hq).1)
      rw [HV.out] at hown'
      have hown2 : w3.ownsRow w1.heap.size 5 1 v' (k + 1 + 1) (vals .u8 (rsneg N n) (k + 1 + 1)) := by rw [← vals_succ]; exact hown'
      clear hgrow how
      go_wp2
      go_roundw
      case rel => exact ⟨k + 1, by omega, by go_num, hown2, hb3⟩
      case measure => simp [intOf]; omega
    · obtain rfl : k = n := by omega
      obtain ⟨a4, c4, rfl, hlie⟩ := lie_owned how
      obtain ⟨b4, o4, rfl, hb4⟩ := hlie.some_of_pos (by omega)
      have hcv : ∃ str : ByteArray, str = ⟨(45 :: padL N k).toArray⟩ ∧ (convert 58 9 (.slice (some ⟨b4, o4, none⟩) (k + 1) c4)).run Tryd.prog wr = .ok (.string str) wr := by
        refine ⟨_, rfl, ?_⟩
        have := run_convert_bytes_back (P := Tryd.prog) wr 58 9 5 ⟨b4, o4, none⟩ c4 (45 :: padL N k) Tryd.su58 (by kernel_rfl) (by kernel_rfl) (fun j hj => by
          have hj' : j < k + 1 := by simpa [padL_len] using hj
          rw [show (⟨b4, o4, none⟩ : Addr).add j = ⟨b4, o4 + j, none⟩ from by unfold Addr.add; split <;> simp_all, hlie.at j hj']
          congr 3
          exact rsneg_get N k j hj')
        rw [show (45 :: padL N k).length = k + 1 from by simp [padL_len]] at this
        exact this
      obtain ⟨str, hstr, hrun⟩ := hcv
      have HS := Lib.hid hstr
      have hfin := hb0.trans (hbl.mono hb0.size)
      rw [show (k : Int) - 1 - (k : Int) = -1 from by omega]
      clear hstr how hlie hl
      go_wp2
      go_ret
      exact ⟨_, by rw [← HS.out]; rfl, HTX.out, hfin⟩

theorem rString_all (bl : Bool) (a : Option Addr) (n c : Nat) (z : Int) (w : World) (h : RNum w bl a n c z) (hn : n ≤ 100000000) :
    Calls Tryd.prog 12 #[.agg #[.bool bl, .slice a n c]] w (PTxt z w) := by
  by_cases hz : z = 0
  · subst hz; exact rString_zero bl a n c w h
  · cases bl
    · exact rString_pos a n c z w h hn hz
    · exact rString_neg a n c z w h hn hz
end Go.Proofs.YtpacbipencmjnaaDoor
