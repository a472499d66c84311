/- The walk of the law FxSigns. -/
import Derived.Test.YtcnmilflfegliaaGreatDoorFawake
namespace Go.Proofs.YtcnmilflfegliaaGreatDoor
open Go.RowKit

/-- Is a number a fixed one? -/
def fixB (n : Int) : Bool := decide (-2147483647 ≤ n) && decide (n ≤ 2147483647)
theorem fix_of {n : Int} (h : fixB n = true) : -2147483647 ≤ n ∧ n ≤ 2147483647 := by
  unfold fixB at h; simpa using h
theorem fix_not {n : Int} (h : fixB n = false) : n < -2147483647 ∨ 2147483647 < n := by
  unfold fixB at h; simp at h; omega
theorem fix_cut (n : Int) : fixB (cutI n) = true := by
  have := cut_bd n
  unfold fixB; simp; exact this
theorem cutB_fix (n : Int) : cutB n = !fixB n := by
  cases h : fixB n
  · rcases fix_not h with h | h
    · exact (cut_lo h).2
    · exact (cut_hi h).2
  · exact (cut_in (fix_of h).1 (fix_of h).2).2
set_option maxHeartbeats 800000 in
theorem fixed_any (n : Int) (w : World) : Calls Tryz.prog 26 #[.int .i64 n] w fun e w' => e = .returned (.bool (fixB n)) ∧ w = w' := by
  by_cases h1 : -2147483647 ≤ n
  · have HE : Hid (fixB n = decide (n ≤ 2147483647)) := by show _ = _; unfold fixB; rw [decide_eq_true h1]; rfl
    have h1' : decide (-2147483647 ≤ n) = true := decide_eq_true h1
    go_enter Tryz.func26, Tryz.ntmps26
    go_wp2
    go_ret
    exact ⟨by rw [HE.out]; rfl, rfl⟩
  · have HE : Hid (fixB n = false) := by show _ = _; unfold fixB; rw [decide_eq_false h1]; rfl
    have h1' : decide (-2147483647 ≤ n) = false := decide_eq_false h1
    have h2 : n < -2147483647 := by omega
    go_enter Tryz.func26, Tryz.ntmps26
    go_wp2
    go_ret
    exact ⟨by rw [HE.out]; rfl, rfl⟩
theorem flo_lit (x : Int) : flo x 1048576 = x / 1048576 := if_pos (by decide)
theorem cut_negI (x : Int) : cutI (-x) = -cutI x := by unfold cutI; omega

set_option maxRecDepth 100000 in
set_option maxHeartbeats 6400000 in
theorem FxSigns_any (a b : Int) (w : World) (h1 : -9223372036854775808 ≤ a) (h2 : a ≤ 9223372036854775807) (h3 : -9223372036854775808 ≤ b) (h4 : b ≤ 9223372036854775807) (hG : Glob w) :
    Calls Tryz.prog 9 #[.int .i64 a, .int .i64 b] w (PVal (.bool true) w) := by
  go_enter Tryz.func9, Tryz.ntmps9
  go_wp2_with fail
  refine (fawake_any _ hG).mono ?_
  rintro e w0 ⟨rfl, hC⟩
  clear hG
  go_wp2_with fail
  refine (fixed_any a _).mono ?_
  rintro e w' ⟨rfl, rfl⟩
  go_wp2_with fail
  refine (fixed_any b _).mono ?_
  rintro e w' ⟨rfl, rfl⟩
  cases f1 : fixB a
  · go_wp2
    go_ret
    exact ⟨rfl, hC⟩
  cases f2 : fixB b
  · go_wp2
    go_ret
    exact ⟨rfl, hC⟩
  obtain ⟨ha1, ha2⟩ := fix_of f1
  obtain ⟨hb1, hb2⟩ := fix_of f2
  have HA := Lib.hid (cut_in ha1 ha2)
  have HB := Lib.hid (cut_in hb1 hb2)
  have HN := Lib.hid (cut_in (n := -a) (by omega) (by omega))
  clear f1 f2 h1 h2 h3 h4
  go_wp2_with fail
  refine (fxAdd_any a b _).mono ?_
  rintro e w1 ⟨rfl, hB⟩
  replace hC := hC.trans (hB.mono hC.size)
  clear hB
  rw [HA.out.1, HB.out.1]
  go_wp2_with fail
  refine (fxAdd_any b a _).mono ?_
  rintro e w2 ⟨rfl, hB⟩
  replace hC := hC.trans (hB.mono hC.size)
  clear hB
  rw [HA.out.1, HB.out.1, Int.add_comm b a]
  generalize cutI (a + b) = s
  go_wp2_with fail
  refine (fxSub_any a b _).mono ?_
  rintro e w3 ⟨rfl, hB⟩
  replace hC := hC.trans (hB.mono hC.size)
  clear hB
  rw [HA.out.1, HB.out.1]
  go_wp2_with fail
  refine (fxSub_any b a _).mono ?_
  rintro e w4 ⟨rfl, hB⟩
  replace hC := hC.trans (hB.mono hC.size)
  clear hB
  rw [HA.out.1, HB.out.1]
  obtain ⟨d, hd⟩ : ∃ d, cutI (b - a) = d := ⟨_, rfl⟩
  have hd' : cutI (a - b) = -d := by rw [← hd, ← cut_negI]; congr 1; omega
  have hdb := cut_bd (b - a)
  rw [hd] at hdb
  obtain ⟨hd1, hd2⟩ := hdb
  rw [hd, hd']
  clear hd hd'
  go_wp2_with fail
  refine (fxMul_any a b _).mono ?_
  rintro e w5 ⟨rfl, hB⟩
  replace hC := hC.trans (hB.mono hC.size)
  clear hB
  rw [HA.out.1, HB.out.1, flo_lit]
  go_wp2_with fail
  refine (fxMul_any b a _).mono ?_
  rintro e w6 ⟨rfl, hB⟩
  replace hC := hC.trans (hB.mono hC.size)
  clear hB
  rw [HA.out.1, HB.out.1, flo_lit, Int.mul_comm b a]
  go_wp2_with fail
  refine (fxMul_any (-a) b _).mono ?_
  rintro e w7 ⟨rfl, hB⟩
  replace hC := hC.trans (hB.mono hC.size)
  clear hB
  rw [HN.out.1, HB.out.1, HN.out.2, HB.out.2, flo_lit, Int.neg_mul]
  have hpb := cut_bd (a * b / 1048576)
  have hfin : cutB (-(a * b) / 1048576) = true ∨ (cutB (-(a * b) / 1048576) = false ∧ cutI (-(a * b) / 1048576) = -cutI (a * b / 1048576)) ∨ (cutB (-(a * b) / 1048576) = false ∧ cutI (-(a * b) / 1048576) ≠ -cutI (a * b / 1048576) ∧ cutI (-(a * b) / 1048576) = -cutI (a * b / 1048576) - 1) := by
    cases h : cutB (-(a * b) / 1048576)
    · right
      have e1 := cut_false h
      unfold cutB at h
      simp only [decide_eq_false_iff_not] at h
      rw [e1]
      by_cases hq : -(a * b) / 1048576 = -cutI (a * b / 1048576)
      · exact .inl ⟨rfl, hq⟩
      · refine .inr ⟨rfl, hq, ?_⟩
        unfold cutI at hq ⊢
        omega
    · exact .inl rfl
  generalize cutI (a * b / 1048576) = p at *
  generalize cutI (-(a * b) / 1048576) = n at *
  generalize cutB (-(a * b) / 1048576) = c at *
  obtain ⟨hp1, hp2⟩ := hpb
  rcases hfin with rfl | ⟨rfl, rfl⟩ | ⟨rfl, hne, hn⟩
  · go_wp2
    go_ret
    exact ⟨rfl, hC⟩
  · go_wp2
    go_ret
    exact ⟨rfl, hC⟩
  · have hx1 : (n == -p) = false := by simpa using hne
    have hx2 : (n == -p - 1) = true := by simpa using hn
    clear hne hn
    go_wp2
    go_ret
    exact ⟨rfl, hC⟩
end Go.Proofs.YtcnmilflfegliaaGreatDoor
