/- The law RotBack of package gimballaw06 answers true, whatever it is given: the statement RotBackSaid. Conditions: none beyond the row's own. -/
import Derived.Test.YtdochhhepmlapaaRows
import Derived.Test.YtdochhhepmlapaaGd38
import Derived.Test.YtdochhhepmlapaaGd42
namespace Go.Proofs.Ytdochhhepmlapaa
open Go.ChangeShapes Go.WideShapes Go.ChangeAt Go.RowKit
namespace RotBackP
theorem own : ownKnob Try.prog.godebug = none := by kernel_rfl
set_option maxRecDepth 100000 in
theorem lifted (os : Os) (started : os.Started) (H : Type) (enc : TypeId × Value → H) :
    ReturnsInHanded {} Try.checked os 5 .any (Rows.rotBackSpec.pre6 enc Try.prog Try.f5 Rows.rotBackRow.domain false) (Rows.rotBackSpec.post enc Try.prog Try.f5 false true false false) := by
  refine returnsInHanded_of_change (C := Try.checked) own started (by kernel_rfl) Try.func5
    (ChangeSpec.witness6 (enc := enc) (C := Try.checked) false ⟨#[], #[.agg #[.int .i64 0, .int .i64 0, .bool false, .int .i64 0, .int .i64 0, .bool false, .int .i64 0, .int .i64 0, .bool false]], []⟩ 8 (by kernel_rfl) (by kernel_rfl) (by kernel_rfl) (by kernel_rfl)) ?_
  intro W base args ds gs before hval0 hW _ _
  have hval : ∀ (j : Nat) t v, Try.f5.params[j]? = some t → args[j]? = some v → Value.okWide Try.prog W .any base t v := hval0
  have hW' := hW
  obtain ⟨p, q, hA0, hV, rfl, _, _⟩ := hW
  have hA : DataW.TrodAll enc Try.prog W 0 (fun _ => true) true Try.f5.params.toList args.toList ds p := hA0
  rw [Try.params5] at hA hval
  obtain ⟨v0, vs0, d0, dz0, p0, q0, hargs, rfl, rfl, h0, r0⟩ := trodAll_cons hA
  obtain ⟨rfl, rfl, rfl⟩ := trodAll_nil r0
  obtain rfl : args = #[v0] := by cases args; simp_all
  obtain ⟨rfl, rfl⟩ := trodVars_none hV
  obtain ⟨x0, rfl, rfl, rfl, wx0, wy0, wz0⟩ := open_vec h0
  clear hA0 hval0
  simp only [List.append_nil] at hW'
  refine (RotBack_any x0 W).mono fun e W' ⟨he, hb⟩ => ?_
  subst he
  exact ⟨_, rfl, _, _, _, [], [], [], hW', trodAll_mk1 (shut_bool Try.underlying4 _), (trodAll_cons_mk (shut_vec wx0 wy0 wz0) trodAll_mk0), rfl, hb.frame _, fun h => by cases h⟩
theorem over : Rows.rotBackRow.holds Try.pinned (OpenSpec.ofChange Rows.rotBackSpec) :=
  OpenClaim.holds_of_wide 5 Try.f5 rfl rfl rfl rfl rfl rfl rfl ⟨rfl, rfl, rfl, rfl, rfl⟩ rfl rfl rfl rfl rfl (by kernel_rfl) Try.func5 (by kernel_rfl)
    (of_decide_eq_true (by kernel_rfl)) (by unfold Func.isWrapper; first | (rw [if_pos (by decide +kernel)]; kernel_rfl) | (rw [if_neg (by decide +kernel)]; exact ⟨rfl, rfl⟩))
    (fun os started H enc _ => lifted os started H enc)
end RotBackP
/-- The law RotBack. -/
theorem rotBack_holds : Rows.RotBackSaid := RotBackP.over
end Go.Proofs.Ytdochhhepmlapaa
