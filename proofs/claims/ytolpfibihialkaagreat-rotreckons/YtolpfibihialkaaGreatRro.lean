/- The law RotReckons of package gimballaw06 answers true, whatever it is given: the statement RotReckonsSaid. Conditions: none beyond the row's own. -/
import Derived.Test.YtolpfibihialkaaGreatRows
import Derived.Test.YtolpfibihialkaaGreatGr40
import Derived.Test.YtolpfibihialkaaGreatGr42
namespace Go.Proofs.YtolpfibihialkaaGreat
open Go.ChangeShapes Go.WideShapes Go.ChangeAt Go.RowKit
namespace RotReckonsP
theorem own : ownKnob Tryz.prog.godebug = none := by kernel_rfl
set_option maxRecDepth 100000 in
theorem lifted (os : Os) (started : os.Started) (H : Type) (enc : TypeId × Value → H) :
    ReturnsInHanded {} Tryz.checked os 3 .any (Rows.rotReckonsSpec.pre6 enc Tryz.prog Tryz.f3 Rows.rotReckonsRow.domain false) (Rows.rotReckonsSpec.post enc Tryz.prog Tryz.f3 false true false false) := by
  refine returnsInHanded_of_change (C := Tryz.checked) own started (by kernel_rfl) Tryz.func3
    (ChangeSpec.witness6 (enc := enc) (C := Tryz.checked) false ⟨#[], #[.agg (cT zT), .agg (cT zT), .agg #[.int .i64 0, .int .i64 0, .bool false, .int .i64 0, .int .i64 0, .bool false, .int .i64 0, .int .i64 0, .bool false]], []⟩ 8 (by kernel_rfl) (by kernel_rfl) (by kernel_rfl) (by kernel_rfl)) ?_
  intro W base args ds gs before hval0 hW _ _
  have hval : ∀ (j : Nat) t v, Tryz.f3.params[j]? = some t → args[j]? = some v → Value.okWide Tryz.prog W .any base t v := hval0
  have hW' := hW
  obtain ⟨p, q, hA0, hV, rfl, _, _⟩ := hW
  have hA : DataW.TrodAll enc Tryz.prog W 0 (fun _ => true) true Tryz.f3.params.toList args.toList ds p := hA0
  rw [Tryz.params3] at hA hval
  obtain ⟨v0, vs0, d0, dz0, p0, q0, hargs, rfl, rfl, h0, r0⟩ := trodAll_cons hA
  obtain ⟨v1, vs1, d1, dz1, p1, q1, rfl, rfl, rfl, h1, r1⟩ := trodAll_cons r0
  obtain ⟨v2, vs2, d2, dz2, p2, q2, rfl, rfl, rfl, h2, r2⟩ := trodAll_cons r1
  obtain ⟨rfl, rfl, rfl⟩ := trodAll_nil r2
  obtain rfl : args = #[v0, v1, v2] := by cases args; simp_all
  obtain ⟨rfl, rfl⟩ := trodVars_none hV
  obtain ⟨x0, rfl, rfl, rfl, wx0, wy0, wz0⟩ := open_rot h0
  obtain ⟨x1, rfl, rfl, rfl, wx1, wy1, wz1⟩ := open_rot h1
  obtain ⟨x2, rfl, rfl, rfl, wx2, wy2, wz2⟩ := open_vec h2
  clear hA0 hval0
  simp only [List.append_nil] at hW'
  refine (RotReckons_any x0 x1 x2 W).mono fun e W' ⟨he, hb⟩ => ?_
  subst he
  exact ⟨_, rfl, _, _, _, [], [], [], hW', trodAll_mk1 (shut_bool Tryz.underlying4 _), (trodAll_cons_mk (shut_rot wx0 wy0 wz0) (trodAll_cons_mk (shut_rot wx1 wy1 wz1) (trodAll_cons_mk (shut_vec wx2 wy2 wz2) trodAll_mk0))), rfl, hb.frame _, fun h => by cases h⟩
theorem over : Rows.rotReckonsRow.holds Tryz.pinned (OpenSpec.ofChange Rows.rotReckonsSpec) :=
  OpenClaim.holds_of_wide 3 Tryz.f3 rfl rfl rfl rfl rfl rfl rfl ⟨rfl, rfl, rfl, rfl, rfl⟩ rfl rfl rfl rfl rfl (by kernel_rfl) Tryz.func3 (by kernel_rfl)
    (of_decide_eq_true (by kernel_rfl)) (by unfold Func.isWrapper; first | (rw [if_pos (by decide +kernel)]; kernel_rfl) | (rw [if_neg (by decide +kernel)]; exact ⟨rfl, rfl⟩))
    (fun os started H enc _ => lifted os started H enc)
end RotReckonsP
/-- The law RotReckons. -/
theorem rotReckons_holds : Rows.RotReckonsSaid := RotReckonsP.over
end Go.Proofs.YtolpfibihialkaaGreat
