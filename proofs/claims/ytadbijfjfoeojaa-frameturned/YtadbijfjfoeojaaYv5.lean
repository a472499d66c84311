/- The law FrameTurned of package gimballaw11 answers true, whatever it is given: the statement FrameTurnedSaid. Conditions: none beyond the row's own. -/
import Derived.Test.YtadbijfjfoeojaaRows
import Derived.Test.YtadbijfjfoeojaaJf24
import Derived.Test.YtadbijfjfoeojaaJf25
import Derived.Test.YtadbijfjfoeojaaJf26
import Derived.Lib.SmallJoins
import Derived.WalkKit
import Derived.ProofKit
import Derived.OpenShut
import Derived.SizedLaws
import Derived.Lay
import Derived.WideKeyArgs
set_option linter.unusedSimpArgs false
set_option linter.unusedVariables false
namespace Go.Proofs.Ytadbijfjfoeojaa
open Go.ChangeShapes Go.WideShapes Go.ChangeAt Go.WideElems Go.RowKit
open Go.ChangeMaps (open_string shut_string)
namespace FrameTurnedP
theorem own:ownKnob Try.prog.godebug=none:=by kernel_rfl
set_option maxRecDepth 100000 in
theorem lifted (os:Os) (started:os.Started) (H:Type) (enc:TypeId × Value→H) :
    ReturnsInHanded {} Try.checked os 7 .any (Rows.frameTurnedSpec.pre6 enc Try.prog Try.f7 Rows.frameTurnedRow.domain false) (Rows.frameTurnedSpec.post enc Try.prog Try.f7 false true false false):=by
  refine returnsInHanded_of_change_sized (C:=Try.checked) own started (by kernel_rfl) Try.func7
    (ChangeSpec.witness6 (enc:=enc) (C:=Try.checked) false ⟨#[],#[.int .u8 0,.string ⟨#[]⟩,.int .i64 0,.int .u16 0,.int .i64 0],[]⟩ 8 (by kernel_rfl) (by kernel_rfl) (by kernel_rfl) (by kernel_rfl)) ?_
  intro W base args ds gs before hval0 hW _ hZ _
  have hval:∀ (j:Nat) t v,Try.f7.params[j]?=some t→args[j]?=some v→Value.okWide Try.prog W .any base t v:=hval0
  have hW':=hW
  obtain ⟨p,q,hA0,hV,rfl,_,_⟩:=hW
  have hA:DataW.TrodAll enc Try.prog W 0 (fun _=>true) true Try.f7.params.toList args.toList ds p:=hA0
  rw [Try.params7] at hA hval hZ
  obtain ⟨v0,vs0,d0,dz0,p0,q0,hargs,rfl,rfl,h0,r0⟩:=trodAll_cons hA
  obtain ⟨v1,vs1,d1,dz1,p1,q1,rfl,rfl,rfl,h1,r1⟩:=trodAll_cons r0
  obtain ⟨v2,vs2,d2,dz2,p2,q2,rfl,rfl,rfl,h2,r2⟩:=trodAll_cons r1
  obtain ⟨v3,vs3,d3,dz3,p3,q3,rfl,rfl,rfl,h3,r3⟩:=trodAll_cons r2
  obtain ⟨v4,vs4,d4,dz4,p4,q4,rfl,rfl,rfl,h4,r4⟩:=trodAll_cons r3
  obtain ⟨rfl,rfl,rfl⟩:=trodAll_nil r4
  obtain rfl:args=#[v0,v1,v2,v3,v4]:=by cases args; simp_all
  obtain ⟨rfl,rfl⟩:=trodVars_none hV
  obtain ⟨x0,rfl,rfl,rfl,wx0⟩:=open_int Try.underlying5 (hval 0 5 v0 rfl rfl) h0
  have bx0:0≤x0∧x0≤255:=by simpa [Lit.wf,IntKind.min,IntKind.max,IntKind.signed,IntKind.bits] using wx0
  obtain ⟨k0,rfl⟩:=u8_of wx0
  obtain ⟨x1,rfl,rfl,rfl,wx1⟩:=open_string Try.underlying9 (hval 1 9 v1 rfl rfl) h1
  have zx1:x1.size≤140737488355328:=Nat.le_trans (sized_string hZ (j:=1) rfl rfl) (by decide)
  obtain ⟨x2,rfl,rfl,rfl,wx2⟩:=open_int Try.underlying3 (hval 2 3 v2 rfl rfl) h2
  have bx2:-9223372036854775808≤x2∧x2≤9223372036854775807:=by simpa [Lit.wf,IntKind.min,IntKind.max,IntKind.signed,IntKind.bits] using wx2
  obtain ⟨x3,rfl,rfl,rfl,wx3⟩:=open_int Try.underlying41 (hval 3 41 v3 rfl rfl) h3
  have bx3:0≤x3∧x3≤65535:=by simpa [Lit.wf,IntKind.min,IntKind.max,IntKind.signed,IntKind.bits] using wx3
  obtain ⟨x4,rfl,rfl,rfl,wx4⟩:=open_int Try.underlying3 (hval 4 3 v4 rfl rfl) h4
  have bx4:-9223372036854775808≤x4∧x4≤9223372036854775807:=by simpa [Lit.wf,IntKind.min,IntKind.max,IntKind.signed,IntKind.bits] using wx4
  clear hA0 hval0
  simp only [List.append_nil] at hW'
  refine (FrameTurned_any frameC k0 x1 x2 x3 x4 x3.toNat W zx1 bx2.1 bx2.2 (by omega) (by omega) bx4.1 bx4.2).mono fun e W' ⟨he,hb⟩=>?_
  subst he
  exact ⟨_,rfl,_,_,_,[],_,[],hW',trodAll_mk1 (shut_bool Try.underlying4 _),(trodAll_cons_mk (shut_int Try.underlying5 wx0) (trodAll_cons_mk (shut_string Try.underlying9 wx1) (trodAll_cons_mk (shut_int Try.underlying3 wx2) (trodAll_cons_mk (shut_int Try.underlying41 wx3) (trodAll_cons_mk (shut_int Try.underlying3 wx4) trodAll_mk0))))),rfl,hb.frame _,fun h=>by cases h⟩
theorem over:Rows.frameTurnedRow.holds Try.pinned (OpenSpec.ofChange Rows.frameTurnedSpec) :=
  OpenClaim.holds_of_wide 7 Try.f7 rfl rfl rfl rfl rfl rfl rfl ⟨rfl,rfl,rfl,rfl,rfl⟩ rfl rfl rfl rfl rfl (by kernel_rfl) Try.func7 (by kernel_rfl)
    (of_decide_eq_true (by kernel_rfl)) (by unfold Func.isWrapper; first | (rw [if_pos (by decide +kernel)]; kernel_rfl) | (rw [if_neg (by decide +kernel)]; exact ⟨rfl,rfl⟩))
    (fun os started H enc _=>lifted os started H enc)
end FrameTurnedP
/-- The law FrameTurned. -/
theorem frameTurned_holds:Rows.FrameTurnedSaid:=FrameTurnedP.over
end Go.Proofs.Ytadbijfjfoeojaa
