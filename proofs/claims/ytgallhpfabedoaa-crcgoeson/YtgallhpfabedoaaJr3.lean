/- The law CrcGoesOn of package gimballaw10 answers true, whatever it is given: the statement CrcGoesOnSaid. Conditions: none beyond the row's own. -/
import Derived.Test.YtgallhpfabedoaaRows
import Derived.Test.YtgallhpfabedoaaJc18
import Derived.Lib.SmallJoins
import Derived.WalkKit
import Derived.ProofKit
import Derived.OpenShut
import Derived.SizedLaws
set_option linter.unusedSimpArgs false
set_option linter.unusedVariables false
namespace Go.Proofs.Ytgallhpfabedoaa
open Go.ChangeShapes Go.WideShapes Go.ChangeAt Go.RowKit
open Go.ChangeMaps (open_string shut_string)
namespace CrcGoesOnP
theorem own:ownKnob Try.prog.godebug=none:=by kernel_rfl
set_option maxRecDepth 100000 in
theorem lifted (os:Os) (started:os.Started) (H:Type) (enc:TypeId × Value→H) :
    ReturnsInHanded {} Try.checked os 5 .any (Rows.crcGoesOnSpec.pre6 enc Try.prog Try.f5 Rows.crcGoesOnRow.domain false) (Rows.crcGoesOnSpec.post enc Try.prog Try.f5 false true false false):=by
  refine returnsInHanded_of_change_sized (C:=Try.checked) own started (by kernel_rfl) Try.func5
    (ChangeSpec.witness6 (enc:=enc) (C:=Try.checked) false ⟨#[],#[.int .u16 0,.int .u16 0,.string ⟨#[]⟩,.string ⟨#[]⟩],[]⟩ 8 (by kernel_rfl) (by kernel_rfl) (by kernel_rfl) (by kernel_rfl)) ?_
  intro W base args ds gs before hval0 hW _ hZ _
  have hval:∀ (j:Nat) t v,Try.f5.params[j]?=some t→args[j]?=some v→Value.okWide Try.prog W .any base t v:=hval0
  have hW':=hW
  obtain ⟨p,q,hA0,hV,rfl,_,_⟩:=hW
  have hA:DataW.TrodAll enc Try.prog W 0 (fun _=>true) true Try.f5.params.toList args.toList ds p:=hA0
  rw [Try.params5] at hA hval hZ
  obtain ⟨v0,vs0,d0,dz0,p0,q0,hargs,rfl,rfl,h0,r0⟩:=trodAll_cons hA
  obtain ⟨v1,vs1,d1,dz1,p1,q1,rfl,rfl,rfl,h1,r1⟩:=trodAll_cons r0
  obtain ⟨v2,vs2,d2,dz2,p2,q2,rfl,rfl,rfl,h2,r2⟩:=trodAll_cons r1
  obtain ⟨v3,vs3,d3,dz3,p3,q3,rfl,rfl,rfl,h3,r3⟩:=trodAll_cons r2
  obtain ⟨rfl,rfl,rfl⟩:=trodAll_nil r3
  obtain rfl:args=#[v0,v1,v2,v3]:=by cases args; simp_all
  obtain ⟨rfl,rfl⟩:=trodVars_none hV
  obtain ⟨x0,rfl,rfl,rfl,wx0⟩:=open_int Try.underlying22 (hval 0 22 v0 rfl rfl) h0
  have bx0:0≤x0∧x0≤65535:=by simpa [Lit.wf,IntKind.min,IntKind.max,IntKind.signed,IntKind.bits] using wx0
  obtain ⟨x1,rfl,rfl,rfl,wx1⟩:=open_int Try.underlying22 (hval 1 22 v1 rfl rfl) h1
  have bx1:0≤x1∧x1≤65535:=by simpa [Lit.wf,IntKind.min,IntKind.max,IntKind.signed,IntKind.bits] using wx1
  obtain ⟨x2,rfl,rfl,rfl,wx2⟩:=open_string Try.underlying9 (hval 2 9 v2 rfl rfl) h2
  have zx2:x2.size≤140737488355328:=Nat.le_trans (sized_string hZ (j:=2) rfl rfl) (by decide)
  obtain ⟨x3,rfl,rfl,rfl,wx3⟩:=open_string Try.underlying9 (hval 3 9 v3 rfl rfl) h3
  have zx3:x3.size≤140737488355328:=Nat.le_trans (sized_string hZ (j:=3) rfl rfl) (by decide)
  clear hA0 hval0
  simp only [List.append_nil] at hW'
  refine (CrcGoesOn_any x0 x1 x2 x3 W bx0.1 bx0.2 bx1.1 bx1.2 zx2 zx3).mono fun e W' ⟨he,hb⟩=>?_
  subst he
  exact ⟨_,rfl,_,_,_,[],[],[],hW',trodAll_mk1 (shut_bool Try.underlying4 _),(trodAll_cons_mk (shut_int Try.underlying22 wx0) (trodAll_cons_mk (shut_int Try.underlying22 wx1) (trodAll_cons_mk (shut_string Try.underlying9 wx2) (trodAll_cons_mk (shut_string Try.underlying9 wx3) trodAll_mk0)))),rfl,hb.frame _,fun h=>by cases h⟩
theorem over:Rows.crcGoesOnRow.holds Try.pinned (OpenSpec.ofChange Rows.crcGoesOnSpec) :=
  OpenClaim.holds_of_wide 5 Try.f5 rfl rfl rfl rfl rfl rfl rfl ⟨rfl,rfl,rfl,rfl,rfl⟩ rfl rfl rfl rfl rfl (by kernel_rfl) Try.func5 (by kernel_rfl)
    (of_decide_eq_true (by kernel_rfl)) (by unfold Func.isWrapper; first | (rw [if_pos (by decide +kernel)]; kernel_rfl) | (rw [if_neg (by decide +kernel)]; exact ⟨rfl,rfl⟩))
    (fun os started H enc _=>lifted os started H enc)
end CrcGoesOnP
/-- The law CrcGoesOn. -/
theorem crcGoesOn_holds:Rows.CrcGoesOnSaid:=CrcGoesOnP.over
end Go.Proofs.Ytgallhpfabedoaa
