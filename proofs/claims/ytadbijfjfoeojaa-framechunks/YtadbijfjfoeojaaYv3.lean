/- The law FrameChunks of package gimballaw11 answers true, whatever it is given: the statement FrameChunksSaid. Conditions: none beyond the row's own. -/
import Derived.Test.YtadbijfjfoeojaaRows
import Derived.Test.YtadbijfjfoeojaaJf23
import Derived.Test.YtadbijfjfoeojaaJf25
import Derived.Test.YtadbijfjfoeojaaJf26
import Derived.Lib.SmallJoins
import Derived.WalkKit
import Derived.ProofKit
import Derived.OpenShut
import Derived.SizedLaws
import Derived.Lay
import Derived.WideKeyArgs
set_option linter.unusedSimpArgs false
set_option linter.unusedVariables false
namespace Go.Proofs.Ytadbijfjfoeojaa
open Go.ChangeShapes Go.WideShapes Go.ChangeAt Go.WideElems Go.RowKit
open Go.ChangeMaps (open_string shut_string)
namespace FrameChunksP
theorem own:ownKnob Try.prog.godebug=none:=by kernel_rfl
set_option maxRecDepth 100000 in
theorem lifted (os:Os) (started:os.Started) (H:Type) (enc:TypeId × Value→H) :
    ReturnsInHanded {} Try.checked os 5 .any (Rows.frameChunksSpec.pre6 enc Try.prog Try.f5 Rows.frameChunksRow.domain false) (Rows.frameChunksSpec.post enc Try.prog Try.f5 false true false false):=by
  refine returnsInHanded_of_change_sized (C:=Try.checked) own started (by kernel_rfl) Try.func5
    (ChangeSpec.witness6 (enc:=enc) (C:=Try.checked) false ⟨#[],#[.string ⟨#[]⟩,.int .i64 0],[]⟩ 8 (by kernel_rfl) (by kernel_rfl) (by kernel_rfl) (by kernel_rfl)) ?_
  intro W base args ds gs before hval0 hW _ hZ _
  have hval:∀ (j:Nat) t v,Try.f5.params[j]?=some t→args[j]?=some v→Value.okWide Try.prog W .any base t v:=hval0
  have hW':=hW
  obtain ⟨p,q,hA0,hV,rfl,_,_⟩:=hW
  have hA:DataW.TrodAll enc Try.prog W 0 (fun _=>true) true Try.f5.params.toList args.toList ds p:=hA0
  rw [Try.params5] at hA hval hZ
  obtain ⟨v0,vs0,d0,dz0,p0,q0,hargs,rfl,rfl,h0,r0⟩:=trodAll_cons hA
  obtain ⟨v1,vs1,d1,dz1,p1,q1,rfl,rfl,rfl,h1,r1⟩:=trodAll_cons r0
  obtain ⟨rfl,rfl,rfl⟩:=trodAll_nil r1
  obtain rfl:args=#[v0,v1]:=by cases args; simp_all
  obtain ⟨rfl,rfl⟩:=trodVars_none hV
  obtain ⟨x0,rfl,rfl,rfl,wx0⟩:=open_string Try.underlying9 (hval 0 9 v0 rfl rfl) h0
  have zx0:x0.size≤140737488355328:=Nat.le_trans (sized_string hZ (j:=0) rfl rfl) (by decide)
  obtain ⟨x1,rfl,rfl,rfl,wx1⟩:=open_int Try.underlying3 (hval 1 3 v1 rfl rfl) h1
  have bx1:-9223372036854775808≤x1∧x1≤9223372036854775807:=by simpa [Lit.wf,IntKind.min,IntKind.max,IntKind.signed,IntKind.bits] using wx1
  clear hA0 hval0
  simp only [List.append_nil] at hW'
  refine (FrameChunks_any frameC x0 x1 W zx0 bx1.2).mono fun e W' ⟨he,hb⟩=>?_
  subst he
  exact ⟨_,rfl,_,_,_,[],_,[],hW',trodAll_mk1 (shut_bool Try.underlying4 _),(trodAll_cons_mk (shut_string Try.underlying9 wx0) (trodAll_cons_mk (shut_int Try.underlying3 wx1) trodAll_mk0)),rfl,hb.frame _,fun h=>by cases h⟩
theorem over:Rows.frameChunksRow.holds Try.pinned (OpenSpec.ofChange Rows.frameChunksSpec) :=
  OpenClaim.holds_of_wide 5 Try.f5 rfl rfl rfl rfl rfl rfl rfl ⟨rfl,rfl,rfl,rfl,rfl⟩ rfl rfl rfl rfl rfl (by kernel_rfl) Try.func5 (by kernel_rfl)
    (of_decide_eq_true (by kernel_rfl)) (by unfold Func.isWrapper; first | (rw [if_pos (by decide +kernel)]; kernel_rfl) | (rw [if_neg (by decide +kernel)]; exact ⟨rfl,rfl⟩))
    (fun os started H enc _=>lifted os started H enc)
end FrameChunksP
/-- The law FrameChunks. -/
theorem frameChunks_holds:Rows.FrameChunksSaid:=FrameChunksP.over
end Go.Proofs.Ytadbijfjfoeojaa
