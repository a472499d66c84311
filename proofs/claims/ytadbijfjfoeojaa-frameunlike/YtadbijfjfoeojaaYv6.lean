/- The law FrameUnlike of package gimballaw11 answers true, whatever it is given: the statement FrameUnlikeSaid. Conditions: none beyond the row's own. -/
import Derived.Test.YtadbijfjfoeojaaRows
import Derived.Test.YtadbijfjfoeojaaJf19
import Derived.Test.YtadbijfjfoeojaaJf25
import Derived.Test.YtadbijfjfoeojaaJf26
import Derived.Lib.SmallJoins
import Derived.WalkKit
import Derived.ProofKit
import Derived.OpenShut
import Derived.SizedLaws
import Derived.Lay
import Derived.WideKeyArgs
set_option linter.unusedSimpArgs false
set_option linter.unusedVariables false
namespace Go.Proofs.Ytadbijfjfoeojaa
open Go.ChangeShapes Go.WideShapes Go.ChangeAt Go.WideElems Go.RowKit
namespace FrameUnlikeP
theorem own:ownKnob Try.prog.godebug=none:=by kernel_rfl
theorem lo:laidOutB Try.prog=true:=by kernel_rfl
set_option maxRecDepth 100000 in
theorem lifted (os:Os) (started:os.Started) (H:Type) (enc:TypeId × Value→H) :
    ReturnsInHanded {} Try.checked os 8 .any (Rows.frameUnlikeSpec.pre6 enc Try.prog Try.f8 Rows.frameUnlikeRow.domain false) (Rows.frameUnlikeSpec.post enc Try.prog Try.f8 false true false false):=by
  refine returnsInHanded_of_change_sized (C:=Try.checked) own started (by kernel_rfl) Try.func8
    (ChangeSpec.witness6 (enc:=enc) (C:=Try.checked) false ⟨#[],#[.agg #[.int .u8 0,.string ⟨#[]⟩],.agg #[.int .u8 0,.string ⟨#[]⟩]],[]⟩ 8 (by kernel_rfl) (by kernel_rfl) (by kernel_rfl) (by kernel_rfl)) ?_
  intro W base args ds gs before hval0 hW _ hZ _
  have hval:∀ (j:Nat) t v,Try.f8.params[j]?=some t→args[j]?=some v→Value.okWide Try.prog W .any base t v:=hval0
  have hW':=hW
  obtain ⟨p,q,hA0,hV,rfl,_,_⟩:=hW
  have hA:DataW.TrodAll enc Try.prog W 0 (fun _=>true) true Try.f8.params.toList args.toList ds p:=hA0
  rw [Try.params8] at hA hval hZ
  obtain ⟨v0,vs0,d0,dz0,p0,q0,hargs,rfl,rfl,h0,r0⟩:=trodAll_cons hA
  obtain ⟨v1,vs1,d1,dz1,p1,q1,rfl,rfl,rfl,h1,r1⟩:=trodAll_cons r0
  obtain ⟨rfl,rfl,rfl⟩:=trodAll_nil r1
  obtain rfl:args=#[v0,v1]:=by cases args; simp_all
  obtain ⟨rfl,rfl⟩:=trodVars_none hV
  obtain ⟨k0,q0_,rfl,zq0⟩:=open_frm (hval 0 39 v0 rfl rfl) h0 hZ (j:=0) rfl rfl
  obtain ⟨k1,q1_,rfl,zq1⟩:=open_frm (hval 1 39 v1 rfl rfl) h1 hZ (j:=1) rfl rfl
  clear hA0 hval0
  simp only [List.append_nil] at hW'
  refine (FrameUnlike_any frameC k0 k1 q0_ q1_ W zq0 zq1).mono fun e W' ⟨he,hb⟩=>?_
  subst he
  exact ⟨_,rfl,_,_,_,[],_,[],hW',trodAll_mk1 (shut_bool Try.underlying4 _),(trodAll_cons_mk (WideElems.Trod_stays lo (by kernel_rfl) (of_decide_eq_true (by kernel_rfl)) h0 (fun x hx=>hb.same (hW'.lt x (by simp [hx]))) (fun x hx=>by simpa using hW'.lt x (by simp [hx]))) (trodAll_cons_mk (WideElems.Trod_stays lo (by kernel_rfl) (of_decide_eq_true (by kernel_rfl)) h1 (fun x hx=>hb.same (hW'.lt x (by simp [hx]))) (fun x hx=>by simpa using hW'.lt x (by simp [hx]))) trodAll_mk0)),rfl,hb.frame _,fun h=>by cases h⟩
theorem over:Rows.frameUnlikeRow.holds Try.pinned (OpenSpec.ofChange Rows.frameUnlikeSpec) :=
  OpenClaim.holds_of_wide 8 Try.f8 rfl rfl rfl rfl rfl rfl rfl ⟨rfl,rfl,rfl,rfl,rfl⟩ rfl rfl rfl rfl rfl (by kernel_rfl) Try.func8 (by kernel_rfl)
    (of_decide_eq_true (by kernel_rfl)) (by unfold Func.isWrapper; first | (rw [if_pos (by decide +kernel)]; kernel_rfl) | (rw [if_neg (by decide +kernel)]; exact ⟨rfl,rfl⟩))
    (fun os started H enc _=>lifted os started H enc)
end FrameUnlikeP
/-- The law FrameUnlike. -/
theorem frameUnlike_holds:Rows.FrameUnlikeSaid:=FrameUnlikeP.over
end Go.Proofs.Ytadbijfjfoeojaa
