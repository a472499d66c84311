/- The walk of the law LongReads. -/
import Derived.Test.YtokifocebpldaaaDoorAwake
import Derived.Test.YtokifocebpldaaaDoorRparse
namespace Go.Proofs.YtokifocebpldaaaDoor
open Go.RowKit

theorem Parse_any (s : ByteArray) (w : World) (hs : s.size ≤ 2000) :
    Calls Tryd.prog 13 #[.string s] w (PNumE (parseZ s.data.toList) (parseE s.data.toList) w) := by
  by_cases h : parsesB s.data.toList = true
  · rw [(good_of h).1, (good_of h).2]; exact Parse_good s w hs h
  · have h' : parsesB s.data.toList = false := by simpa using h
    rw [(bad_of h').1, (bad_of h').2]; exact Parse_bad s w hs h'
theorem zval_lt {l : List UInt8} (h : parsesB l = true) : (zval l).natAbs < 10 ^ l.length := by
  have hd := wwB_dig h
  have h1 := dval_lt _ hd
  have h2 := Nat.pow_le_pow_right (by decide : 0 < 10) (pD_le l)
  unfold zval
  rw [sg_abs]
  omega
theorem ten_le (k : Nat) : 10 ^ k ≤ BB ^ k := Nat.pow_le_pow_left (by decide) k
theorem zval_bb {l : List UInt8} (h : parsesB l = true) : (zval l).natAbs < BB ^ l.length := Nat.lt_of_lt_of_le (zval_lt h) (ten_le _)

set_option maxHeartbeats 1600000 in
theorem LongReads_any (s : ByteArray) (w : World) (hm : s.size ≤ maxLen) :
    Calls Tryd.prog 3 #[.string s] w (PVal (.bool true) w) := by
  by_cases h400 : s.size ≤ 400
  · by_cases hp : parsesB s.data.toList = true
    · have HP := Lib.hid hp
      clear hp
      clear hm
      go_enter Tryd.func3, Tryd.ntmps3
      go_wp2_with fail
      refine (awake_any _).mono ?_
      rintro e w0 ⟨rfl, hB0⟩
      go_wp2_with fail
      refine (Parse_good s _ (by omega) HP.out).mono ?_
      rintro e w1 ⟨b1, a1, n1, c1, rfl, hN1, _, hB1⟩
      have hn1 := num_len' hN1 (zval_bb HP.out) (by rw [size_list]; omega)
      have hv1 := vi_new 25 hN1
      have hE1 := hB1.trans ((below_new w1 (.cells #[.bool b1, .slice a1 n1 c1] 25)).mono hB1.size)
      have hC1 := hB0.trans (hE1.mono hB0.size)
      clear hN1 hB1 hE1 hB0
      go_wp2_with fail
      generalize w1.alloc (.cells #[.bool b1, .slice a1 n1 c1] 25) = W1 at *
      refine (rParse_any s _ (by omega)).mono ?_
      rintro e w2 ⟨b2, a2, n2, c2, rfl, hN2, _, hB2⟩
      rw [(good_of HP.out).2]
      have hE2 := hB2.trans ((below_new w2 (.cells #[.bool b2, .slice a2 n2 c2] 31)).mono hB2.size)
      have hv2 := hv1.below hE2
      have hC2 := hC1.trans (hE2.mono hC1.size)
      have k0 := hv2.k0
      have k1 := hv2.k1
      clear hN2 hB2 hE2 hv1 hC1
      go_wp2_with fail
      refine (String_all b1 a1 n1 c1 _ _ hv2.num hn1).mono ?_
      rintro e w3 ⟨l, rfl, ht, hB3⟩
      have hC3 := hC2.trans (hB3.mono hC2.size)
      obtain rfl : s.data.toList = l := txt_uniq ⟨HP.out, rfl⟩ ht
      have hss : (⟨s.data.toList.toArray⟩ : ByteArray) = s := by simp
      rw [hss]
      clear hC2 hB3 ht hss
      go_wp2
      go_ret
      exact ⟨rfl, hC3⟩
    · have HP := Lib.hid (show parsesB s.data.toList = false by simpa using hp)
      clear hp hm
      go_enter Tryd.func3, Tryd.ntmps3
      go_wp2_with fail
      refine (awake_any _).mono ?_
      rintro e w0 ⟨rfl, hB0⟩
      go_wp2_with fail
      refine (Parse_bad s _ (by omega) HP.out).mono ?_
      rintro e w1 ⟨b1, a1, n1, c1, rfl, hN1, _, hB1⟩
      have hE1 := hB1.trans ((below_new w1 (.cells #[.bool b1, .slice a1 n1 c1] 25)).mono hB1.size)
      have hC1 := hB0.trans (hE1.mono hB0.size)
      clear hN1 hB1 hE1 hB0
      go_wp2_with fail
      generalize w1.alloc (.cells #[.bool b1, .slice a1 n1 c1] 25) = W1 at *
      refine (rParse_any s _ (by omega)).mono ?_
      rintro e w2 ⟨b2, a2, n2, c2, rfl, hN2, _, hB2⟩
      rw [(bad_of HP.out).2]
      have hE2 := hB2.trans ((below_new w2 (.cells #[.bool b2, .slice a2 n2 c2] 31)).mono hB2.size)
      have hC2 := hC1.trans (hE2.mono hC1.size)
      clear hN2 hB2 hE2 hC1
      go_wp2
      go_ret
      exact ⟨rfl, hC2⟩
  · by_cases h2000 : s.size ≤ 2000
    · clear hm
      go_enter Tryd.func3, Tryd.ntmps3
      go_wp2_with fail
      refine (awake_any _).mono ?_
      rintro e w0 ⟨rfl, hB0⟩
      go_wp2
      go_ret
      exact ⟨rfl, hB0⟩
    · have HM := Lib.hid hm
      unfold maxLen at hm
      go_enter Tryd.func3, Tryd.ntmps3
      go_wp2_with fail
      refine (awake_any _).mono ?_
      rintro e w0 ⟨rfl, hB0⟩
      go_wp2_with fail
      refine (Parse_long s _ (by omega) HM.out).mono ?_
      rintro e w1 ⟨b1, a1, n1, c1, rfl, hN1, _, hB1⟩
      have hE1 := hB1.trans ((below_new w1 (.cells #[.bool b1, .slice a1 n1 c1] 25)).mono hB1.size)
      have hC1 := hB0.trans (hE1.mono hB0.size)
      clear hN1 hB1 hE1 hB0
      go_wp2_with fail
      generalize w1.alloc (.cells #[.bool b1, .slice a1 n1 c1] 25) = W1 at *
      refine (rParse_long s _ (by omega) HM.out).mono ?_
      rintro e w2 ⟨b2, a2, n2, c2, rfl, hN2, _, hB2⟩
      have hE2 := hB2.trans ((below_new w2 (.cells #[.bool b2, .slice a2 n2 c2] 31)).mono hB2.size)
      have hC2 := hC1.trans (hE2.mono hC1.size)
      clear hN2 hB2 hE2 hC1
      go_wp2
      go_ret
      exact ⟨rfl, hC2⟩
end Go.Proofs.YtokifocebpldaaaDoor
