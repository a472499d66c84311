/- Sines and cosines: the laws' awake holds. No statement of the seat is proved here. -/
import Derived.Test.YtohdfialnaegcaaKaw
import Derived.Test.YtohdfialnaegcaaKr
namespace Go.Proofs.Ytohdfialnaegcaa
open Go.RowKit

theorem kOf_at {a b : Int} {z : Sp} (h : ofS a b = z) (w : World) : Calls Try.prog 40 #[.int .i64 a, .int .i64 b] w (PSp z w) := h ▸ sOf_any a b w
theorem kA_at {s z : Sp} (h : encS 1 s = z) (w : World) : Calls Try.prog 30 #[.agg #[.int .i64 s.lo, .int .i64 s.hi, .bool s.all]] w (PSp z w) := h ▸ kA_any s w
theorem kB_at {s z : Sp} (h : encS 2 s = z) (w : World) : Calls Try.prog 31 #[.agg #[.int .i64 s.lo, .int .i64 s.hi, .bool s.all]] w (PSp z w) := h ▸ kB_any s w
theorem kC_at {s z : Sp} (h : encS 0 s = z) (w : World) : Calls Try.prog 32 #[.agg #[.int .i64 s.lo, .int .i64 s.hi, .bool s.all]] w (PSp z w) := h ▸ kC_any s w
theorem kSin_at {s z : Sp} (h : sinS s = z) (w : World) : Calls Try.prog 36 #[.agg #[.int .i64 s.lo, .int .i64 s.hi, .bool s.all]] w (PSp z w) := h ▸ kSin_any s w
theorem kCos_at {s z : Sp} (h : cosS s = z) (w : World) : Calls Try.prog 37 #[.agg #[.int .i64 s.lo, .int .i64 s.hi, .bool s.all]] w (PSp z w) := h ▸ kCos_any s w
theorem kIn_at {x y : Sp} {b : Bool} (h : inB x y = b) (w : World) : Calls Try.prog 44 #[.agg #[.int .i64 x.lo, .int .i64 x.hi, .bool x.all], .agg #[.int .i64 y.lo, .int .i64 y.hi, .bool y.all]] w (PVal (.bool b) w) := h ▸ In_any x y w
theorem kHas_at {x : Sp} {n : Int} {b : Bool} (h : hasB x n = b) (w : World) : Calls Try.prog 41 #[.agg #[.int .i64 x.lo, .int .i64 x.hi, .bool x.all], .int .i64 n] w (PVal (.bool b) w) := h ▸ Has_any x n w
theorem kMeet_at {x y : Sp} {b : Bool} (h' : meetB x y = b) (w : World) : Calls Try.prog 42 #[.agg #[.int .i64 x.lo, .int .i64 x.hi, .bool x.all], .agg #[.int .i64 y.lo, .int .i64 y.hi, .bool y.all]] w (PSp2 (meetS x y) b w) := h' ▸ Meet_any x y w
theorem kNeg_at {s z : Sp} (h : negS s = z) (w : World) : Calls Try.prog 22 #[.agg #[.int .i64 s.lo, .int .i64 s.hi, .bool s.all]] w (PSp z w) := h ▸ sNeg_any s w
theorem kawake_any (w : World) : Calls Try.prog 28 #[] w (PVal (.bool true) w) :=
  kawake_w ⟨0, 0, false⟩ ⟨1048576, 1048576, false⟩ ⟨2097152, 2097152, false⟩ ⟨524288, 524288, false⟩ ⟨882346, 882347, false⟩ ⟨566548, 566549, false⟩ ⟨-436362, -436361, false⟩ ⟨-1, 0, false⟩ ⟨0, 4194305, false⟩
    (kOf_at (by kernel_rfl)) (kOf_at (by kernel_rfl)) (kOf_at (by kernel_rfl)) (kA_at (by kernel_rfl)) (kB_at (by kernel_rfl)) (kC_at (by kernel_rfl)) (kA_at (by kernel_rfl)) (kSin_at (by kernel_rfl)) (kCos_at (by kernel_rfl)) (kCos_at (by kernel_rfl))
    (kOf_at (by kernel_rfl)) (kA_at (by kernel_rfl)) (kOf_at (by kernel_rfl)) (kA_at (by kernel_rfl)) (kOf_at (by kernel_rfl)) (kOf_at (by kernel_rfl)) (kOf_at (by kernel_rfl)) (kOf_at (by kernel_rfl)) w
end Go.Proofs.Ytohdfialnaegcaa
