/- The walk of the law LongReads. -/
import Derived.Test.YtpacbipencmjnaaDoorAwake
import Derived.Test.YtpacbipencmjnaaDoorRparse
namespace Go.Proofs.YtpacbipencmjnaaDoor
open Go.RowKit

theorem Parse_any (s : ByteArray) (w : World) (hs : s.size ≤ 2000) :
    Calls Tryd.prog 14 #[.string s] w (PNumE (parseZ s.data.toList) (parseE s.data.toList) w) := by
  by_cases h : parsesB s.data.toList = true
  · rw [(good_of h).1, (good_of h).2]; exact Parse_good s w hs h
  · have h' : parsesB s.data.toList = false := by simpa using h
    rw [(bad_of h').1, (bad_of h').2]; exact Parse_bad s w hs h'
theorem zval_lt {l : List UInt8} (h : parsesB l = true) : (zval l).natAbs < 10 ^ l.length := by
  have hd := wwB_dig h
  have h1 := dval_lt _ hd
  have h2 := Nat.pow_le_pow_right (by decide : 0 < 10) (pD_le l)
  unfold zval
  rw [sg_abs]
  omega
theorem ten_le (k : Nat) : 10 ^ k ≤ BB ^ k := Nat.pow_le_pow_left (by decide) k
theorem zval_bb {l : List UInt8} (h : parsesB l = true) : (zval l).natAbs < BB ^ l.length := Nat.lt_of_lt_of_le (zval_lt h) (ten_le _)

end Go.Proofs.YtpacbipencmjnaaDoor
