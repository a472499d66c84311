/- Parts of the proof. -/
import Derived.Test.YtpahkpcoinbgcaaGreatDoorGq8
import Derived.Test.YtpahkpcoinbgcaaGreatDoorGq10
/- Fixed numbers: the walks of digitsAlone, withoutNoughts. -/
namespace Go.Proofs.YtpahkpcoinbgcaaGreatDoor
open Go.RowKit
/-- Are they digits alone? -/
def digB (l : List UInt8) : Bool := l.all isDig
set_option maxHeartbeats 800000 in
theorem digitsAlone_any (s : ByteArray) (w : World) (hs : s.size ≤ 100) :
  Calls Tryz.prog 55 #[.string s] w fun e w' => e = .returned (.bool (digB s.data.toList)) ∧ w = w' := by
 go_enter Tryz.func55, Tryz.ntmps55
 go_wp2
 go_loop [6] (fun iv => ∃ k : Nat, k ≤ s.size ∧ iv = .int .i64 k ∧ (s.data.toList.take k).all isDig = true) (fun iv => s.size - (intOf iv).toNat)
 case atStart => exact ⟨0, Nat.zero_le _, rfl, rfl⟩
 case round =>
  obtain ⟨k, hk, rfl, hall⟩ := hrel
  have HA := Lib.hid hall
  clear hall
  by_cases hlt : k < s.size
  ·
   by_cases hdg : isDig s[k] = true
   ·
    obtain ⟨h48, h57⟩ := isDig_le hdg
    have HS : Hid ((s.data.toList.take (k + 1)).all isDig = true) := by
     show _ = _; rw [take_snoc s k hlt, List.all_append, HA.out]; simp [hdg]
    clear hdg
    go_wp2
    go_round
    case rel => exact ⟨k + 1, by omega, by go_num, HS.out⟩
    case measure => simp [intOf]; omega
   ·
    have HR : Hid (digB s.data.toList = false) := by
     show _ = _
     unfold digB; rw [Bool.eq_false_iff]; intro h; exact hdg (all_at h k hlt)
    have hcase : (s[k].toNat : Int) < 48 ∨ (57 : Int) < (s[k].toNat : Int) := by
     unfold isDig at hdg; simp at hdg; omega
    clear hdg
    rcases hcase with hc | hc
    ·
     go_wp2
     go_ret
     exact ⟨by rw [HR.out]; rfl, rfl⟩
    ·
     have hc2 : ¬ (s[k].toNat : Int) < 48 := by omega
     go_wp2
     go_ret
     exact ⟨by rw [HR.out]; rfl, rfl⟩
  ·
   obtain rfl : k = s.size := by omega
   have HR : Hid (digB s.data.toList = true) := by show _ = _; unfold digB; have := HA.out; rwa [List.take_of_length_le (by simp)] at this
   go_wp2
   go_ret
   exact ⟨by rw [HR.out]; rfl, rfl⟩
/-- Digits without the noughts ahead; one is left of 0. -/
def wnL (l : List UInt8) : List UInt8 := if (l.dropWhile (· == 48)).isEmpty then [48] else l.dropWhile (· == 48)
set_option maxHeartbeats 800000 in
theorem withoutNoughts_any (s : ByteArray) (w : World) (hs : s.size ≤ 100) :
  Calls Tryz.prog 56 #[.string s] w fun e w' => e = .returned (.string ⟨(wnL s.data.toList).toArray⟩) ∧ w = w' := by
 go_enter Tryz.func56, Tryz.ntmps56
 go_wp2_with fail
 refine (Tryz.strings_TrimLeft_one s 48 (by decide) _).mono ?_
 rintro e w1 ⟨rfl, hw⟩
 subst hw
 have e1 : Lib.trimLeftB s.data.toList 48 = s.data.toList.dropWhile (· == 48) := rfl
 rw [e1]
 by_cases h : (s.data.toList.dropWhile (· == 48)).isEmpty = true
 ·
  have HR : Hid (wnL s.data.toList = [48]) := by show _ = _; unfold wnL; rw [if_pos h]
  rw [List.isEmpty_iff.1 h]
  clear e1 h
  go_wp2
  go_ret
  exact ⟨by rw [HR.out]; rfl, rfl⟩
 ·
  have HR : Hid (wnL s.data.toList = s.data.toList.dropWhile (· == 48)) := by show _ = _; unfold wnL; rw [if_neg h]
  have hn : (s.data.toList.dropWhile (· == 48)).isEmpty = false := by simpa using h
  clear e1 h
  generalize s.data.toList.dropWhile (· == 48) = d at *
  obtain ⟨t, ht⟩ : ∃ t : ByteArray, t = ⟨d.toArray⟩ := ⟨_, rfl⟩
  have h1 : t.toList.isEmpty = false := by rw [Lib.toList_data, ht]; exact hn
  have h2 : (t.toList == []) = false := by
   cases hl : t.toList with
   | nil => rw [hl] at h1; cases h1
   | cons c l => rfl
  rw [← ht]
  have HT := Lib.hid ht
  clear ht hn
  go_wp2
  go_ret
  exact ⟨by rw [HR.out, ← HT.out]; rfl, rfl⟩
end Go.Proofs.YtpahkpcoinbgcaaGreatDoor
