/- Parts of the proof. -/
import Derived.Test.YtdochhhepmlapaaGd27
import Derived.Test.YtdochhhepmlapaaGd17
import Derived.ChangeKeysEq
/- Equality of vectors, of arrays. No statement of the seat is proved here. -/
namespace Go.Proofs.Ytdochhhepmlapaa
open Go Go.RowKit
theorem run_sameS (d : Nat) (a b : Int) (c : Bool) (w : World) : (Op.equalIn (d + 2) 23 (.agg #[.int .i64 a, .int .i64 b, .bool c]) (.agg #[.int .i64 a, .int .i64 b, .bool c])).run Try.prog w = .ok true w := by
 have ht : Try.prog.underlying 23 = some (.struct (Try.prog.fieldsOf 23)) := by kernel_rfl
 have hp : Try.prog.stoodInHeld 23 = false := by kernel_rfl
 have u1 := Try.underlying2
 have u2 := Try.underlying4
 have a1 := Try.isAgg2
 have a2 := Try.isAgg4
 have z1 := Try.sizeOf2
 have z2 := Try.sizeOf4
 rw [run_equalIn_struct w (d + 1) 23 _ _ ht hp]
 simp only [Program.fieldsOf, Try.underlying23]
 go_simp
section
variable (a0 b0 : Int) (c0 : Bool) (a1 b1 : Int) (c1 : Bool) (a2 b2 : Int) (c2 : Bool) (w : World)
theorem part_v0 : (part 23 #[.int .i64 a0, .int .i64 b0, .bool c0, .int .i64 a1, .int .i64 b1, .bool c1, .int .i64 a2, .int .i64 b2, .bool c2] 0).run Try.prog w = .ok (.agg #[.int .i64 a0, .int .i64 b0, .bool c0]) w := by kernel_rfl
theorem part_v1 : (part 23 #[.int .i64 a0, .int .i64 b0, .bool c0, .int .i64 a1, .int .i64 b1, .bool c1, .int .i64 a2, .int .i64 b2, .bool c2] 3).run Try.prog w = .ok (.agg #[.int .i64 a1, .int .i64 b1, .bool c1]) w := by kernel_rfl
theorem part_v2 : (part 23 #[.int .i64 a0, .int .i64 b0, .bool c0, .int .i64 a1, .int .i64 b1, .bool c1, .int .i64 a2, .int .i64 b2, .bool c2] 6).run Try.prog w = .ok (.agg #[.int .i64 a2, .int .i64 b2, .bool c2]) w := by kernel_rfl
theorem run_eqlB (a b c : Bool) : (binOp .eql 71 (.agg #[.bool a, .bool b, .bool c]) (.agg #[.bool true, .bool true, .bool true])).run Try.prog w = .ok (.bool (a && (b && c))) w := by
 cases a <;> cases b <;> cases c <;> kernel_rfl
end
end Go.Proofs.Ytdochhhepmlapaa
