/- The law SpanRoots of package gimballaw03 answers true, whatever it is given: the statement SpanRootsSaid. Conditions: none beyond the row's own. -/
import Derived.Test.YtpahkpcoinbgcaaRows
import Derived.Test.YtpahkpcoinbgcaaGs33
import Derived.Test.YtpahkpcoinbgcaaGs34
namespace Go.Proofs.Ytpahkpcoinbgcaa
open Go.ChangeShapes Go.WideShapes Go.ChangeAt Go.RowKit
namespace SpanRootsP
theorem own : ownKnob Try.prog.godebug = none := by kernel_rfl
set_option maxRecDepth 100000 in
theorem lifted (os : Os) (started : os.Started) (H : Type) (enc : TypeId × Value → H) :
    ReturnsInHanded {} Try.checked os 4 .any (Rows.spanRootsSpec.pre6 enc Try.prog Try.f4 Rows.spanRootsRow.domain false) (Rows.spanRootsSpec.post enc Try.prog Try.f4 false true false false) := by
  refine returnsInHanded_of_change (C := Try.checked) own started (by kernel_rfl) Try.func4
    (ChangeSpec.witness6 (enc := enc) (C := Try.checked) false ⟨#[], #[.agg #[.int .i64 0, .int .i64 0, .bool false]], []⟩ 8 (by kernel_rfl) (by kernel_rfl) (by kernel_rfl) (by kernel_rfl)) ?_
  intro W base args ds gs before hval0 hW _ _
  have hval : ∀ (j : Nat) t v, Try.f4.params[j]? = some t → args[j]? = some v → Value.okWide Try.prog W .any base t v := hval0
  have hW' := hW
  obtain ⟨p, q, hA0, hV, rfl, _, _⟩ := hW
  have hA : DataW.TrodAll enc Try.prog W 0 (fun _ => true) true Try.f4.params.toList args.toList ds p := hA0
  rw [Try.params4] at hA hval
  obtain ⟨v0, vs0, d0, dz0, p0, q0, hargs, rfl, rfl, h0, r0⟩ := trodAll_cons hA
  obtain ⟨rfl, rfl, rfl⟩ := trodAll_nil r0
  obtain rfl : args = #[v0] := by cases args; simp_all
  obtain ⟨rfl, rfl⟩ := trodVars_none hV
  obtain ⟨x0, rfl, rfl, rfl, wx0, ux0⟩ := open_span (hval 0 23 v0 rfl rfl) h0
  have bx0 : -9223372036854775808 ≤ x0.lo ∧ x0.lo ≤ 9223372036854775807 := by simpa [Lit.wf, IntKind.min, IntKind.max, IntKind.signed, IntKind.bits] using wx0
  have ax0 : -9223372036854775808 ≤ x0.hi ∧ x0.hi ≤ 9223372036854775807 := by simpa [Lit.wf, IntKind.min, IntKind.max, IntKind.signed, IntKind.bits] using ux0
  clear hA0 hval0
  simp only [List.append_nil] at hW'
  refine (SpanRoots_any x0 W).mono fun e W' ⟨he, hb⟩ => ?_
  subst he
  exact ⟨_, rfl, _, _, _, [], [], [], hW', trodAll_mk1 (shut_bool Try.underlying4 _), (trodAll_cons_mk (shut_span wx0 ux0) trodAll_mk0), rfl, hb.frame _, fun h => by cases h⟩
theorem over : Rows.spanRootsRow.holds Try.pinned (OpenSpec.ofChange Rows.spanRootsSpec) :=
  OpenClaim.holds_of_wide 4 Try.f4 rfl rfl rfl rfl rfl rfl rfl ⟨rfl, rfl, rfl, rfl, rfl⟩ rfl rfl rfl rfl rfl (by kernel_rfl) Try.func4 (by kernel_rfl)
    (of_decide_eq_true (by kernel_rfl)) (by unfold Func.isWrapper; first | (rw [if_pos (by decide +kernel)]; kernel_rfl) | (rw [if_neg (by decide +kernel)]; exact ⟨rfl, rfl⟩))
    (fun os started H enc _ => lifted os started H enc)
end SpanRootsP
/-- The law SpanRoots. -/
theorem spanRoots_holds : Rows.SpanRootsSaid := SpanRootsP.over
end Go.Proofs.Ytpahkpcoinbgcaa
