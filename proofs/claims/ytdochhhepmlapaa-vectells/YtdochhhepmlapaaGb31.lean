/- Parts of the proof. -/
import Derived.Test.YtdochhhepmlapaaGb28
import Derived.Test.YtdochhhepmlapaaGb17
import Derived.ChangeKeysEq
/- Equality of vectors, of arrays. No statement of the seat is proved here. -/
namespace Go.Proofs.Ytdochhhepmlapaa
open Go Go.RowKit
theorem run_sameS (d : Nat) (a b : Int) (c : Bool) (w : World) : (Op.equalIn (d + 2) 23 (.agg #[.int .i64 a, .int .i64 b, .bool c]) (.agg #[.int .i64 a, .int .i64 b, .bool c])).run Try.prog w = .ok true w := by
 have ht : Try.prog.underlying 23 = some (.struct (Try.prog.fieldsOf 23)) := by kernel_rfl
 have hp : Try.prog.stoodInHeld 23 = false := by kernel_rfl
 have u1 := Try.underlying2
 have u2 := Try.underlying4
 have a1 := Try.isAgg2
 have a2 := Try.isAgg4
 have z1 := Try.sizeOf2
 have z2 := Try.sizeOf4
 rw [run_equalIn_struct w (d + 1) 23 _ _ ht hp]
 simp only [Program.fieldsOf, Try.underlying23]
 go_simp
theorem run_sameD (d : Nat) (a b : Int) (c : Bool) (w : World) : (Op.equalIn (d + 2) 27 (.agg #[.int .i64 a, .int .i64 b, .bool c]) (.agg #[.int .i64 a, .int .i64 b, .bool c])).run Try.prog w = .ok true w := by
 have ht : Try.prog.underlying 27 = some (.struct (Try.prog.fieldsOf 27)) := by kernel_rfl
 have hp : Try.prog.stoodInHeld 27 = false := by kernel_rfl
 have u1 := Try.underlying2
 have u2 := Try.underlying4
 have a1 := Try.isAgg2
 have a2 := Try.isAgg4
 have z1 := Try.sizeOf2
 have z2 := Try.sizeOf4
 rw [run_equalIn_struct w (d + 1) 27 _ _ ht hp]
 simp only [Program.fieldsOf, Try.underlying27]
 go_simp
section
variable (a0 b0 : Int) (c0 : Bool) (a1 b1 : Int) (c1 : Bool) (a2 b2 : Int) (c2 : Bool) (w : World)
theorem part_v0 : (part 23 #[.int .i64 a0, .int .i64 b0, .bool c0, .int .i64 a1, .int .i64 b1, .bool c1, .int .i64 a2, .int .i64 b2, .bool c2] 0).run Try.prog w = .ok (.agg #[.int .i64 a0, .int .i64 b0, .bool c0]) w := by kernel_rfl
theorem part_v1 : (part 23 #[.int .i64 a0, .int .i64 b0, .bool c0, .int .i64 a1, .int .i64 b1, .bool c1, .int .i64 a2, .int .i64 b2, .bool c2] 3).run Try.prog w = .ok (.agg #[.int .i64 a1, .int .i64 b1, .bool c1]) w := by kernel_rfl
theorem part_v2 : (part 23 #[.int .i64 a0, .int .i64 b0, .bool c0, .int .i64 a1, .int .i64 b1, .bool c1, .int .i64 a2, .int .i64 b2, .bool c2] 6).run Try.prog w = .ok (.agg #[.int .i64 a2, .int .i64 b2, .bool c2]) w := by kernel_rfl
theorem part_d0 : (part 27 #[.int .i64 a0, .int .i64 b0, .bool c0, .int .i64 a1, .int .i64 b1, .bool c1, .int .i64 a2, .int .i64 b2, .bool c2] 0).run Try.prog w = .ok (.agg #[.int .i64 a0, .int .i64 b0, .bool c0]) w := by kernel_rfl
theorem part_d1 : (part 27 #[.int .i64 a0, .int .i64 b0, .bool c0, .int .i64 a1, .int .i64 b1, .bool c1, .int .i64 a2, .int .i64 b2, .bool c2] 3).run Try.prog w = .ok (.agg #[.int .i64 a1, .int .i64 b1, .bool c1]) w := by kernel_rfl
theorem part_d2 : (part 27 #[.int .i64 a0, .int .i64 b0, .bool c0, .int .i64 a1, .int .i64 b1, .bool c1, .int .i64 a2, .int .i64 b2, .bool c2] 6).run Try.prog w = .ok (.agg #[.int .i64 a2, .int .i64 b2, .bool c2]) w := by kernel_rfl
theorem run_eqlV : (binOp .eql 25 (.agg #[.int .i64 a0, .int .i64 b0, .bool c0, .int .i64 a1, .int .i64 b1, .bool c1, .int .i64 a2, .int .i64 b2, .bool c2]) (.agg #[.int .i64 a0, .int .i64 b0, .bool c0, .int .i64 a1, .int .i64 b1, .bool c1, .int .i64 a2, .int .i64 b2, .bool c2])).run Try.prog w = .ok (.bool true) w := by
 have hu : Try.prog.underlying 25 = some (.array 3 23) := by kernel_rfl
 obtain ⟨i, hi⟩ := Option.isSome_iff_exists.1 (show (Try.prog.info? 23).isSome = true by kernel_rfl)
 have hc : Try.prog.cellsOf 23 = 3 := by kernel_rfl
 rw [run_eql_struct, show (10000 : Nat) = 9999 + 1 from rfl, run_equalIn_array w 9999 _ _ hu hi, hc]
 have hs : ∀ (a b : Int) (c : Bool) (w : World), (Op.equalIn 9999 23 (.agg #[.int .i64 a, .int .i64 b, .bool c]) (.agg #[.int .i64 a, .int .i64 b, .bool c])).run Try.prog w = .ok true w := run_sameS 9997
 rw [show List.range 3 = [0, 1, 2] from rfl]
 generalize 9999 = d at hs ⊢
 simp [Op.eqItems, part_v0, part_v1, part_v2, hs]
theorem run_eqlW : (binOp .eql 29 (.agg #[.int .i64 a0, .int .i64 b0, .bool c0, .int .i64 a1, .int .i64 b1, .bool c1, .int .i64 a2, .int .i64 b2, .bool c2]) (.agg #[.int .i64 a0, .int .i64 b0, .bool c0, .int .i64 a1, .int .i64 b1, .bool c1, .int .i64 a2, .int .i64 b2, .bool c2])).run Try.prog w = .ok (.bool true) w := by
 have ht : Try.prog.underlying 29 = some (.struct (Try.prog.fieldsOf 29)) := by kernel_rfl
 have hp : Try.prog.stoodInHeld 29 = false := by kernel_rfl
 rw [run_eql_struct, show (10000 : Nat) = 9999 + 1 from rfl, run_equalIn_struct w 9999 29 _ _ ht hp]
 simp only [Program.fieldsOf, Try.underlying29]
 simp [Op.eqFields, part_d0, part_d1, part_d2, run_sameD 9997]
theorem run_eqlI (a b c : Int) : (binOp .eql 42 (.agg #[.int .i64 a, .int .i64 b, .int .i64 c]) (.agg #[.int .i64 a, .int .i64 b, .int .i64 c])).run Try.prog w = .ok (.bool true) w := by
 have hu : Try.prog.underlying 42 = some (.array 3 2) := by kernel_rfl
 obtain ⟨i, hi⟩ := Option.isSome_iff_exists.1 (show (Try.prog.info? 2).isSome = true by kernel_rfl)
 have hc : Try.prog.cellsOf 2 = 1 := by kernel_rfl
 have u1 := Try.underlying2
 have p0 : ∀ w, (part 2 #[.int .i64 a, .int .i64 b, .int .i64 c] 0).run Try.prog w = .ok (.int .i64 a) w := fun w => by kernel_rfl
 have p1 : ∀ w, (part 2 #[.int .i64 a, .int .i64 b, .int .i64 c] 1).run Try.prog w = .ok (.int .i64 b) w := fun w => by kernel_rfl
 have p2 : ∀ w, (part 2 #[.int .i64 a, .int .i64 b, .int .i64 c] 2).run Try.prog w = .ok (.int .i64 c) w := fun w => by kernel_rfl
 rw [run_eql_struct, show (10000 : Nat) = 9999 + 1 from rfl, run_equalIn_array w 9999 _ _ hu hi, hc]
 have hs : ∀ (a : Int) (w : World), (Op.equalIn 9999 2 (.int .i64 a) (.int .i64 a)).run Try.prog w = .ok true w := fun a w => by rw [show (9999 : Nat) = 9998 + 1 from rfl, run_equalIn_int w 9998 2 .i64 .i64 _ _ u1, beq_self_eq_true]
 rw [show List.range 3 = [0, 1, 2] from rfl]
 generalize 9999 = d at hs ⊢
 simp [Op.eqItems, p0, p1, p2, hs]
theorem run_eqlSs (a b : Int) (c : Bool) : (binOp .eql 23 (.agg #[.int .i64 a, .int .i64 b, .bool c]) (.agg #[.int .i64 a, .int .i64 b, .bool c])).run Try.prog w = .ok (.bool true) w := by
 have hs : (Op.equalIn 10000 23 (.agg #[.int .i64 a, .int .i64 b, .bool c]) (.agg #[.int .i64 a, .int .i64 b, .bool c])).run Try.prog w = .ok true w := run_sameS 9998 a b c w
 rw [run_eql_struct, hs]
 rfl
theorem run_eqlDs (a b : Int) (c : Bool) : (binOp .eql 27 (.agg #[.int .i64 a, .int .i64 b, .bool c]) (.agg #[.int .i64 a, .int .i64 b, .bool c])).run Try.prog w = .ok (.bool true) w := by
 have hs : (Op.equalIn 10000 27 (.agg #[.int .i64 a, .int .i64 b, .bool c]) (.agg #[.int .i64 a, .int .i64 b, .bool c])).run Try.prog w = .ok true w := run_sameD 9998 a b c w
 rw [run_eql_struct, hs]
 rfl
theorem run_eqlB (a b c : Bool) : (binOp .eql 71 (.agg #[.bool a, .bool b, .bool c]) (.agg #[.bool true, .bool true, .bool true])).run Try.prog w = .ok (.bool (a && (b && c))) w := by
 cases a <;> cases b <;> cases c <;> kernel_rfl
end
end Go.Proofs.Ytdochhhepmlapaa
