/- Parts of the proof. -/
import Derived.Test.YtjclllindbfmhabGreatDoorHs20
import Derived.Deep.Matrix
import Derived.WideShapes
set_option linter.unusedSimpArgs false
set_option linter.unusedVariables false
namespace Go.Proofs.YtjclllindbfmhabGreatDoor
/- Arguments that are lists of int64, and rows of such lists, opened. No statement of the seat is proved here. -/
open Go Go.ChangeShapes Go.WideShapes Go.RowKit Go.Deep
def InI (x:Int):Prop:=-9223372036854775808≤x∧x≤9223372036854775807
theorem inI_wf {n:Int} (h:(Lit.int .i64 n).wf=true):InI n:=by simpa [InI,Lit.wf,IntKind.min,IntKind.max,IntKind.signed,IntKind.bits] using h
section
variable {H:Type} {enc:TypeId × Value→H} {w:World} {base:Nat} {held:Bool}
/-- Cells of a row of int64, wherever it lies. -/
theorem li_of {A:Option Addr} {L C:Nat} {Z:List Int} (h1:L≤C) (h2:C≤maxLen) (h3:Z.length=C) (h5:A=none→C=0) (h6:∀ a',A=some a'→∀ c,c < C→w.cell? (a'.add c)=some (.int .i64 (Z.getD c 0))):Li L (fun i=>Z.getD i 0) ⟨A,L,C⟩ (fun _=>False) w:=by
 refine ⟨rfl,h1,h2,fun e=>?_,fun q hq h0=>?_,fun q hq i hi=>?_⟩
 ·
  have:=h5 e
  exact ⟨by show L=0; omega,this⟩
 ·
  have hc:=h6 q hq 0 (by change 0 < L at h0; omega)
  have hs:(q.add 0).spot=none:=World.cell?_spot hc
  have hb:=World.block_lt_of_cell? w _ hc
  refine ⟨by simpa [Addr.add] using hs,?_,fun h=>h⟩
  have e:(q.add 0).block=q.block:=by unfold Addr.add; split <;> rfl
  rw [← e]; exact hb
 ·
  change i < L at hi
  have hs0:(q.add 0).spot=none:=World.cell?_spot (h6 q hq 0 (by omega))
  have hs:q.spot=none:=by simpa [Addr.add] using hs0
  have hc:=h6 q hq i (by omega)
  obtain ⟨qb,qo,qs⟩:=q
  simp only at hs
  subst hs
  have hadd:(⟨qb,qo,none⟩:Addr).add i=⟨qb,qo+i,none⟩:=by unfold Addr.add; split <;> simp_all
  rw [hadd] at hc
  refine ⟨[.int .i64 (Z.getD i 0)],rfl,fun j hj=>?_,rfl⟩
  obtain rfl:j=0:=by omega
  simp only [Nat.mul_one,Nat.add_zero]
  exact hc
theorem getD_in {Z:List Int} (h:∀ n ∈ Z,(Lit.int .i64 n).wf=true) (i:Nat):InI (Z.getD i 0):=by
 rw [List.getD_eq_getElem?_getD]
 cases e:Z[i]? with
 | none=>show InI 0; unfold InI; omega
 | some n=>exact inI_wf (h n (List.mem_of_getElem? e))
theorem open_li {a0:Option Addr} {len cap:Nat} {d:DataW H} {p:List MemPlace} (h:DataW.Trod enc Tryz.prog w base (fun _=>true) held 23 (.slice a0 len cap) d p) :
  ∃ x:Nat→Int,Li len x ⟨a0,len,cap⟩ (fun _=>False) w∧∀ i,InI (x i):=by
 obtain ⟨fuel,hf⟩:=h
 rcases open_ints (k:=.i64) (e:=2) (by kernel_rfl) (by kernel_rfl) (by kernel_rfl) hf with ⟨hcs,hx⟩ | ⟨a,len',cap',zs,hcs,hb,hl,hm,hz,hx,hcell,hwz⟩
 ·
  simp [Value.cells] at hcs
  obtain ⟨rfl,rfl,rfl⟩:=hcs
  exact ⟨fun i=>([]:List Int).getD i 0,li_of (Nat.le_refl _) (Nat.zero_le _) rfl (fun _=>rfl) (fun _ hh=>by cases hh),fun i=>getD_in (by simp) i⟩
 ·
  simp [Value.cells] at hcs
  obtain ⟨rfl,rfl,rfl⟩:=hcs
  simp only [if_true] at hz
  exact ⟨fun i=>zs.getD i 0,li_of hl hm hz (fun hh=>by cases hh) (fun a' hh c hc=>by cases hh; exact hcell c (by omega)),fun i=>getD_in hwz i⟩
theorem open_mi {a0:Option Addr} {len cap:Nat} {d:DataW H} {p:List MemPlace} (h:DataW.Trod enc Tryz.prog w base (fun _=>true) held 22 (.slice a0 len cap) d p) :
  ∃ (c:Nat→Nat) (R:Nat→Nat→Int),Mi len c R ⟨a0,len,cap⟩ (fun _=>False) w∧∀ i j,InI (R i j):=by
 obtain ⟨fuel,hf⟩:=h
 rcases open_int_rows (k:=.i64) (e:=23) (q:=2) (by kernel_rfl) (by kernel_rfl) (by kernel_rfl) (by kernel_rfl) (by kernel_rfl) hf with ⟨hcs,hx⟩ | ⟨a,len',cap',A,L,C,Z,hcs,hb,hl,hm,hx,hrows⟩
 ·
  simp [Value.cells] at hcs
  obtain ⟨rfl,rfl,rfl⟩:=hcs
  exact ⟨fun _=>0,fun _ _=>0,⟨rfl,⟨Nat.le_refl _,Nat.zero_le _,(fun _=>⟨rfl,rfl⟩),(fun _ hh=>by cases hh),(fun _ hh=>by cases hh)⟩⟩,fun _ _=>by show InI 0; unfold InI; omega⟩
 ·
  simp [Value.cells] at hcs
  obtain ⟨rfl,rfl,rfl⟩:=hcs
  refine ⟨L,fun i j=>if i < cap then (Z i).getD j 0 else 0,⟨rfl,⟨hl,hm,(fun hh=>by cases hh),fun q hq h0=>?_,fun q hq i hi=>?_⟩⟩,fun i j=>?_⟩
  ·
   cases hq
   change 0 < len at h0
   have hc:=(hrows 0 (by omega)).1
   have hs:(a.add 0).spot=none:=World.cell?_spot hc
   have hb:=World.block_lt_of_cell? w _ hc
   refine ⟨by simpa [Addr.add] using hs,?_,fun h=>h⟩
   have e:(a.add 0).block=a.block:=by unfold Addr.add; split <;> rfl
   rw [← e]; exact hb
  ·
   cases hq
   change i < len at hi
   have hs0:(a.add 0).spot=none:=World.cell?_spot (hrows 0 (by omega)).1
   have hs:a.spot=none:=by simpa [Addr.add] using hs0
   obtain ⟨hc,r1,r2,r3,r4,r5,r6⟩:=hrows i (by omega)
   obtain ⟨qb,qo,qs⟩:=a
   simp only at hs
   subst hs
   have hadd:(⟨qb,qo,none⟩:Addr).add i=⟨qb,qo+i,none⟩:=by unfold Addr.add; split <;> simp_all
   rw [hadd] at hc
   refine ⟨[.slice (A i) (L i) (C i)],rfl,fun j hj=>?_,⟨A i,L i,C i⟩,?_,rfl⟩
   ·
    obtain rfl:j=0:=by omega
    simp only [Nat.mul_one,Nat.add_zero]
    exact hc
   ·
    have:=li_of (A:=A i) r1 r2 r3 r5 (fun a' hh c hc=>(r6 a' hh).2 c hc)
    simp only [show i < cap by omega,if_true]
    exact this
  ·
   show InI (if i < cap then (Z i).getD j 0 else 0)
   split
   ·
    next hi=>exact getD_in (hrows i hi).2.2.2.2.1 j
   ·
    unfold InI; omega
end
end Go.Proofs.YtjclllindbfmhabGreatDoor
