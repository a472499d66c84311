/- Parts of the proof. -/
import Derived.Test.YtpahkpcoinbgcaaGreatDoorGq3
import Derived.Test.YtpahkpcoinbgcaaGreatDoorGq6
/- The walk of Parse. -/
namespace Go.Proofs.YtpahkpcoinbgcaaGreatDoor
open Go.RowKit
/-- Has a text a sign ahead? -/
def pB (l : List UInt8) : Bool := Lib.hasPrefix l [45]
/-- A text's digits. -/
def pD (l : List UInt8) : List UInt8 := Lib.trimPrefix l [45]
/-- Is a text a number? -/
def parsesB (l : List UInt8) : Bool := wwB (pD l) (pB l)
/-- The number that a text tells. -/
def zval (l : List UInt8) : Int := sg (pB l) (dval (pD l))
theorem pD_le (l : List UInt8) : (pD l).length ≤ l.length := by
 unfold pD Lib.trimPrefix
 split
 ·
  rw [List.length_drop]; omega
 ·
  omega
theorem res_one (w : World) (t : TypeId) : ResAt w (w.alloc (.cells #[.bool false, .slice none 0 0] t)) w.heap.size :=
 ⟨(Below.refl w.heap.size w).alloc (Nat.le_refl _) _, by simp [go_sem], by simp [go_sem], by simp [go_sem], by simp [go_sem], Nat.le_refl _, by simp⟩
theorem wwB_dig {l : List UInt8} {b : Bool} (h : wwB l b = true) : l.all isDig = true := by
 unfold wwB at h
 simp only [Bool.and_eq_true] at h
 exact h.1.2
set_option maxHeartbeats 800000 in
theorem Parse_good (s : ByteArray) (w : World) (hs : s.size ≤ 2000) (hp : parsesB s.data.toList = true) :
  Calls Tryz.prog 57 #[.string s] w (PNumE (zval s.data.toList) 0 w) := by
 have HP := Lib.hid hp
 clear hp
 go_enter Tryz.func57, Tryz.ntmps57
 go_wp2_with fail
 refine (Tryz.strings_CutPrefix s ⟨#[45]⟩ _).mono ?_
 rintro e w1 ⟨rfl, hw⟩
 subst hw
 have e1 : Lib.trimPrefix s.data.toList (⟨#[45]⟩ : ByteArray).data.toList = pD s.data.toList := rfl
 have e2 : Lib.hasPrefix s.data.toList (⟨#[45]⟩ : ByteArray).data.toList = pB s.data.toList := rfl
 rw [e1, e2]
 have hle := pD_le s.data.toList
 rw [size_list] at hle
 have HE : Hid (wwB (⟨(pD s.data.toList).toArray⟩ : ByteArray).data.toList (pB s.data.toList) = true) := HP.out
 have hsz : (⟨(pD s.data.toList).toArray⟩ : ByteArray).size ≤ 2000 := by
  rw [← size_list]; show (pD s.data.toList).length ≤ _; omega
 clear e1 e2 hle HP
 have HZ : Hid (zval s.data.toList = sg (pB s.data.toList) (dval (⟨(pD s.data.toList).toArray⟩ : ByteArray).data.toList)) := rfl
 generalize (⟨(pD s.data.toList).toArray⟩ : ByteArray) = sd at *
 generalize pB s.data.toList = bl at *
 have hR := res_one w 53
 generalize w.alloc (.cells #[.bool false, .slice none 0 0] 53) = w1 at *
 go_wp2_with fail
 refine (wellWritten_any sd bl _ hsz).mono ?_
 rintro e w2 ⟨rfl, rfl⟩
 rw [HE.out]
 go_wp2_with fail
 refine (readDigits_any sd _ hsz (wwB_dig HE.out)).mono ?_
 rintro e w2 ⟨a2, n2, c2, rfl, hl2, hf2, hfr2, hb2⟩
 have HF2 := Lib.hid hf2
 have HFR := Lib.hid hfr2
 clear hf2 hfr2
 have hX2 := hR.later hb2
 go_wp2_with fail
 refine (made_any bl a2 n2 c2 _ _ hl2 HF2.out.1).mono ?_
 rintro e w3 ⟨bl3, a3, n3, c3, rfl, hnum, haa, hb3⟩
 have hR3 := hX2.later hb3
 have rB0 := hR3.r0
 have rB1 := hR3.r1
 have fB0 := hR3.f0
 have fB1 := hR3.f1
 go_wp2
 rw [← HZ.out] at hnum
 refine bodyPost_ret (v := .tuple #[.agg #[.bool bl3, .slice a3 n3 c3], .int .i64 0]) (by simp [results, Tryz.results57, go_sem, rB0, rB1]) rfl ?_
 refine pnume_store hnum hR3.below (Nat.le_refl _) (fun p hp => ?_)
 rcases haa with h | h
 ·
  rw [h] at hp; cases hp
 ·
  rw [h] at hp; have h1 := HFR.out p hp; have h2 := hR.sz; omega
end Go.Proofs.YtpahkpcoinbgcaaGreatDoor
