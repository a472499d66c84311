/- The law QuadSums of package gimballaw08 answers true, whatever it is given: the tied card QuadSumsCardSaid. Conditions: none beyond the row's own (the listed variables of the library read as the program's text lays them; the card ties that). -/
import Derived.Test.YtjclllindbfmhabGreatDoorCards
import Derived.Test.YtjclllindbfmhabGreatDoorTie
import Derived.Test.YtjclllindbfmhabGreatDoorHs43
import Derived.Test.YtjclllindbfmhabGreatDoorHs44
import Derived.ProofKit
import Derived.OpenShut
import Derived.Lay
import Derived.SevenTiedAt
import Derived.WideKeyArgs
set_option linter.unusedSimpArgs false
set_option linter.unusedVariables false
namespace Go.Proofs.YtjclllindbfmhabGreatDoor
open Go.ChangeShapes Go.WideShapes Go.ChangeAt Go.WideMaps Go.WideElems Go.RowKit
open Go.ChangeMaps (open_string shut_string)
namespace QuadSumsP
theorem own:ownKnob Tryz.prog.godebug=none:=by kernel_rfl
theorem lo:laidOutB Tryz.prog=true:=by kernel_rfl
set_option maxRecDepth 100000 in
theorem lifted (os:Go.Os) (started:os.Started) (H:Type) (enc:TypeId × Value→H) :
    ReturnsInHanded {} Tryz.checked os 3 .any (fun w args=>(Rows.quadSumsSpec.pre enc Tryz.prog Tryz.f3 [] false w args∧laidMetH Tryz.prog Rows.quadSumsRow.laid w)∧sizedMet enc Tryz.prog Tryz.f3 (OpenSpec.ofChange Rows.quadSumsSpec) false w args)
      (Rows.quadSumsSpec.post enc Tryz.prog Tryz.f3 false true false false):=by
  refine returnsInHanded_of_change_and (C:=Tryz.checked) (X:=fun w _=>laidMetH Tryz.prog Rows.quadSumsRow.laid w) (fun _ _ _ hh h=>h.of_heap hh) own started (by kernel_rfl) Tryz.func3
    (ChangeSpec.witness_shaped (enc:=enc) (C:=Tryz.checked) (os:=os) (X:=fun w _=>laidMetH Tryz.prog Rows.quadSumsRow.laid w) false (World.laidAll Tryz.prog os Rows.quadSumsRow.laid) #[.slice none 0 0,.slice none 0 0,.int .i64 0,.slice none 0 0,.slice none 0 0,.slice none 0 0,.int .i64 0] 8 (World.laidAll_os _ _ _)
      (World.shaped_of_ZipB (by kernel_rfl) (by kernel_rfl)) (by kernel_rfl) (by kernel_rfl) (by kernel_rfl)
      (by rw [MakeChecks.laidMetH_plain _ _ _ (by kernel_rfl)]; exact laidMet_laidAll _ (by kernel_rfl) (by kernel_rfl))) ?_
  intro W base args ds gs before hval0 hW _ _ _ _
  have hval:∀ (j:Nat) t v,Tryz.f3.params[j]?=some t→args[j]?=some v→Value.okWide Tryz.prog W .any base t v:=hval0
  have hW':=hW
  obtain ⟨p,q,hA0,hV,rfl,_,_⟩:=hW
  have hA:DataW.TrodAll enc Tryz.prog W 0 (fun _=>true) true Tryz.f3.params.toList args.toList ds p:=hA0
  rw [Tryz.params3] at hA hval
  obtain ⟨v0,vs0,d0,dz0,p0,q0,hargs,rfl,rfl,h0,r0⟩:=trodAll_cons hA
  obtain ⟨v1,vs1,d1,dz1,p1,q1,rfl,rfl,rfl,h1,r1⟩:=trodAll_cons r0
  obtain ⟨v2,vs2,d2,dz2,p2,q2,rfl,rfl,rfl,h2,r2⟩:=trodAll_cons r1
  obtain ⟨v3,vs3,d3,dz3,p3,q3,rfl,rfl,rfl,h3,r3⟩:=trodAll_cons r2
  obtain ⟨v4,vs4,d4,dz4,p4,q4,rfl,rfl,rfl,h4,r4⟩:=trodAll_cons r3
  obtain ⟨v5,vs5,d5,dz5,p5,q5,rfl,rfl,rfl,h5,r5⟩:=trodAll_cons r4
  obtain ⟨v6,vs6,d6,dz6,p6,q6,rfl,rfl,rfl,h6,r6⟩:=trodAll_cons r5
  obtain ⟨rfl,rfl,rfl⟩:=trodAll_nil r6
  obtain rfl:args=#[v0,v1,v2,v3,v4,v5,v6]:=by cases args; simp_all
  obtain ⟨rfl,rfl⟩:=trodVars_none hV
  obtain ⟨a0,n0,c0,rfl⟩:=okWide_slice Tryz.underlying22 (hval 0 22 v0 rfl rfl)
  obtain ⟨cc0,R0,f0,b0⟩:=open_mi h0
  obtain ⟨a1,n1,c1,rfl⟩:=okWide_slice Tryz.underlying23 (hval 1 23 v1 rfl rfl)
  obtain ⟨x1,f1,b1⟩:=open_li h1
  obtain ⟨x2,rfl,rfl,rfl,wx2⟩:=open_int Tryz.underlying2 (hval 2 2 v2 rfl rfl) h2
  have bx2:-9223372036854775808≤x2∧x2≤9223372036854775807:=by simpa [Lit.wf,IntKind.min,IntKind.max,IntKind.signed,IntKind.bits] using wx2
  obtain ⟨a3,n3,c3,rfl⟩:=okWide_slice Tryz.underlying22 (hval 3 22 v3 rfl rfl)
  obtain ⟨cc3,R3,f3,b3⟩:=open_mi h3
  obtain ⟨a4,n4,c4,rfl⟩:=okWide_slice Tryz.underlying23 (hval 4 23 v4 rfl rfl)
  obtain ⟨x4,f4,b4⟩:=open_li h4
  obtain ⟨a5,n5,c5,rfl⟩:=okWide_slice Tryz.underlying23 (hval 5 23 v5 rfl rfl)
  obtain ⟨x5,f5,b5⟩:=open_li h5
  obtain ⟨x6,rfl,rfl,rfl,wx6⟩:=open_int Tryz.underlying3 (hval 6 3 v6 rfl rfl) h6
  have bx6:-9223372036854775808≤x6∧x6≤9223372036854775807:=by simpa [Lit.wf,IntKind.min,IntKind.max,IntKind.signed,IntKind.bits] using wx6
  clear hA0 hval0
  simp only [List.append_nil] at hW'
  refine (uqsAny (w:=W) (X0:=fun _=>False) (fun _ h=>h.elim) ⟨a0,n0,c0⟩ ⟨a1,n1,c1⟩ ⟨a3,n3,c3⟩ ⟨a4,n4,c4⟩ ⟨a5,n5,c5⟩ n0 n1 n3 n4 n5 cc0 cc3 R0 R3 x1 x2 x4 x5 f0 f1 f3 f4 f5 (fun i j _ _=>b0 i j) (fun i _=>b1 i) bx2 (fun i j _ _=>b3 i j) (fun i _=>b4 i) (fun i _=>b5 i) x6).mono fun e W' ⟨he,hb⟩=>?_
  subst he
  exact ⟨_,rfl,_,_,_,[],_,[],hW',trodAll_mk1 (shut_bool Tryz.underlying4 _),(trodAll_cons_mk (WideElems.Trod_stays lo (by kernel_rfl) (of_decide_eq_true (by kernel_rfl)) h0 (fun x hx=>hb.same (hW'.lt x (by simp [hx]))) (fun x hx=>by simpa using hW'.lt x (by simp [hx]))) (trodAll_cons_mk (WideElems.Trod_stays lo (by kernel_rfl) (of_decide_eq_true (by kernel_rfl)) h1 (fun x hx=>hb.same (hW'.lt x (by simp [hx]))) (fun x hx=>by simpa using hW'.lt x (by simp [hx]))) (trodAll_cons_mk (shut_int Tryz.underlying2 wx2) (trodAll_cons_mk (WideElems.Trod_stays lo (by kernel_rfl) (of_decide_eq_true (by kernel_rfl)) h3 (fun x hx=>hb.same (hW'.lt x (by simp [hx]))) (fun x hx=>by simpa using hW'.lt x (by simp [hx]))) (trodAll_cons_mk (WideElems.Trod_stays lo (by kernel_rfl) (of_decide_eq_true (by kernel_rfl)) h4 (fun x hx=>hb.same (hW'.lt x (by simp [hx]))) (fun x hx=>by simpa using hW'.lt x (by simp [hx]))) (trodAll_cons_mk (WideElems.Trod_stays lo (by kernel_rfl) (of_decide_eq_true (by kernel_rfl)) h5 (fun x hx=>hb.same (hW'.lt x (by simp [hx]))) (fun x hx=>by simpa using hW'.lt x (by simp [hx]))) (trodAll_cons_mk (shut_int Tryz.underlying3 wx6) trodAll_mk0))))))),rfl,hb.frame _,fun h=>by cases h⟩
theorem over:Rows.quadSumsRow.holds Tryz.pinned (OpenSpec.ofChange Rows.quadSumsSpec) :=
  OpenClaim.holds_of_wide 3 Tryz.f3 rfl rfl rfl rfl rfl rfl rfl ⟨rfl,rfl,rfl,rfl,rfl⟩ rfl rfl rfl rfl rfl (by kernel_rfl) Tryz.func3 (by kernel_rfl)
    (of_decide_eq_true (by kernel_rfl)) (by unfold Func.isWrapper; first | (rw [if_pos (by decide +kernel)]; kernel_rfl) | (rw [if_neg (by decide +kernel)]; exact ⟨rfl,rfl⟩))
    (fun os started H enc _=>lifted os started H enc)
end QuadSumsP
/-- The law QuadSums, as a tied card. -/
theorem quadSums_card:Rows.QuadSumsCardSaid :=
  Claim7.holds_tied_plain_at .later [] [.data,.pinned] true Rows.quadSumsCard.stood.harness false QuadSumsP.over (fun _ h=>by cases h) (by kernel_rfl) (fun _ h=>by cases h) quadSums_row_tie rfl ⟨rfl,rfl⟩ (by kernel_rfl) rfl
    (fun f fn hf hfn=>by
      obtain rfl:f=3:=Option.some.inj ((show Tryz.prog.funcNamed Rows.quadSumsRow.func=some 3 by kernel_rfl).symm.trans hf) |>.symm
      obtain rfl:fn=Tryz.f3:=(Option.some.inj (Tryz.func3.symm.trans hfn)).symm
      exact ⟨by kernel_rfl,fun j t ht=>by
        rw [Tryz.params3] at ht
        have hm:t ∈ [22,23,2,22,23,23,3]:=by simpa using Array.mem_of_getElem? ht
        have hall:([22,23,2,22,23,23,3].all fun u=>!Tryz.prog.wantsStandIn u)=true:=by kernel_rfl
        exact (show Tryz.prog.wantsStandIn t=false by simpa using List.all_eq_true.1 hall t hm)⟩)
    (by kernel_rfl)
end Go.Proofs.YtjclllindbfmhabGreatDoor
