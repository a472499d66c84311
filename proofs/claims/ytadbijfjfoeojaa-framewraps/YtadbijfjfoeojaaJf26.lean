/- Parts of the proof. -/
import Derived.Test.YtadbijfjfoeojaaJf19
import Derived.Lib.SmallJoins
import Derived.WalkKit
import Derived.ProofKit
import Derived.OpenShut
import Derived.SizedLaws
import Derived.Deep.Strs
import Derived.Deep.SlicePairs
import Derived.WideKeyArgs
set_option linter.unusedSimpArgs false
set_option linter.unusedVariables false
/- How texts, frames and lists of them that come in read, for the rows of package frame's laws. No statement of the seat is proved here. -/
namespace Go.Proofs.Ytadbijfjfoeojaa
open Go Go.Joins Go.ChangeShapes Go.WideShapes Go.RowKit Go.Deep
section
variable {H:Type} {enc:TypeId × Value→H} {w:World} {base:Nat} {held:Bool}
theorem weights_all {P:Program} {e:TypeId}:∀ {l:List (DataW H)} {d:DataW H} {n:Nat},d ∈ l→n ∈ d.weights P e→n ∈ DataW.weightsAll P e l
 | x :: l,d,n,hd,hn=>by
  simp only [DataW.weightsAll,List.mem_append]
  rcases List.mem_cons.1 hd with rfl | hd
  ·
   exact .inl hn
  ·
   exact .inr (weights_all hd hn)
theorem sized_mem {P:Program} {ts:List TypeId} {ds:List (DataW H)} {j:Nat} {t:TypeId} {d:DataW H} {n:Nat} (h:(DataW.weightsEach P ts ds).all (·≤reachBytes)=true) (ht:ts[j]?=some t) (hd:ds[j]?=some d) (hn:n ∈ d.weights P t):n≤140737488355328:=by
 have h1:=List.all_eq_true.1 h _ (DataW.weights_mem_each ht hd n hn)
 have h2:n≤reachBytes:=by simpa using h1
 exact Nat.le_trans h2 (by decide)
/-- A byte, opened. -/
theorem u8_of {z:Int} (h:(Lit.int .u8 z).wf=true):∃ k:UInt8,z=(k.toNat:Nat):=by
 have hb:0≤z∧z≤255:=by simpa [Lit.wf,IntKind.min,IntKind.max,IntKind.signed,IntKind.bits] using h
 exact ⟨UInt8.ofNat z.toNat,by simp; omega⟩
/-- A list of texts. -/
theorem open_strl {ts:List TypeId} {ds:List (DataW H)} {j:Nat} {ad:Option Addr} {n c:Nat} {d:DataW H} {p:List MemPlace} (h:DataW.Trod enc Try.prog w base (fun _=>true) held 27 (.slice ad n c) d p)
  (hz:(DataW.weightsEach Try.prog ts ds).all (·≤reachBytes)=true) (ht:ts[j]?=some 27) (hd:ds[j]?=some d) :
  n≤10000000000000∧∃ T:Nat→ByteArray,∀ i,i < n→∃ b o,ad=some ⟨b,o,none⟩∧b < w.heap.size∧w.cell? ⟨b,o+i,none⟩=some (.string (T i))∧(T i).size≤140737488355328:=by
 have hc1:Try.prog.cellsOf 9=1:=by kernel_rfl
 have hb1:Try.prog.bytesOf 9=16:=by kernel_rfl
 obtain ⟨fuel,hf⟩:=h
 rcases open_strs Try.underlying27 Try.underlying9 hc1 hf with ⟨hcs,hx⟩ | ⟨a,len',cap',m,Sx,hcs,_,hl,hm,hmm,hx,hcell⟩
 ·
  simp [Value.cells] at hcs
  obtain ⟨rfl,rfl,rfl⟩:=hcs
  exact ⟨by omega,fun _=>⟨#[]⟩,fun i hi=>absurd hi (Nat.not_lt_zero _)⟩
 ·
  simp [Value.cells] at hcs
  obtain ⟨rfl,rfl,rfl⟩:=hcs
  simp only [if_true] at hmm
  subst hmm
  simp only [Prod.mk.injEq] at hx
  obtain ⟨rfl,rfl⟩:=hx
  have hn:=sized_mem hz ht hd (n:=(n+(m - n))*16) (by simp only [DataW.weights,Try.underlying27,hb1]; simp)
  refine ⟨by omega,Sx,fun i hi=>?_⟩
  have hci:=hcell i (by omega)
  have hs:a.spot=none:=by
   have:=World.cell?_spot (hcell 0 (by omega)).1
   simpa [Addr.add] using this
  obtain ⟨b,o,sp⟩:=a
  simp only at hs
  subst hs
  rw [add_plain] at hci
  refine ⟨b,o,rfl,World.block_lt_of_cell? _ _ hci.1,hci.1,?_⟩
  refine sized_mem hz ht hd (n:=(Sx i).data.toList.length) ?_
  simp only [DataW.weights,Try.underlying27]
  refine List.mem_cons_of_mem _ (List.mem_append_left _ (weights_all (d:=.lit (.string (Sx i).data.toList)) (List.mem_map.2 ⟨i,List.mem_range.2 hi,rfl⟩) ?_))
  simp only [DataW.weights,List.mem_singleton]
/-- A list of frames. -/
theorem open_frl {ts:List TypeId} {ds:List (DataW H)} {j:Nat} {ad:Option Addr} {n c:Nat} {d:DataW H} {p:List MemPlace} (h:DataW.Trod enc Try.prog w base (fun _=>true) held 30 (.slice ad n c) d p)
  (hz:(DataW.weightsEach Try.prog ts ds).all (·≤reachBytes)=true) (ht:ts[j]?=some 30) (hd:ds[j]?=some d) :
  ∃ fs:List (UInt8 × List UInt8),fs.length=n∧n≤10000000000000∧FrL w (.slice ad n c) fs∧∀ i (h:i < fs.length),(fs[i]).2.length≤140737488355328:=by
 have hc0:Try.prog.cellsOf 5=1:=by kernel_rfl
 have hc1:Try.prog.cellsOf 9=1:=by kernel_rfl
 have hc2:Try.prog.cellsOf 39=2:=by kernel_rfl
 have hb1:Try.prog.bytesOf 39=24:=by kernel_rfl
 obtain ⟨fuel,hf⟩:=h
 rcases open_slice_pairs Try.underlying30 Try.underlying39 hc2 rfl rfl hc0 hc1 hf with ⟨hcs,hx⟩ | ⟨a,len',cap',m,fu,V0,V1,D0,D1,P0,P1,hcs,_,hl,hm,hmm,hx,hcell⟩
 ·
  simp [Value.cells] at hcs
  obtain ⟨rfl,rfl,rfl⟩:=hcs
  exact ⟨[],rfl,by omega,.inl ⟨rfl,_,_,rfl⟩,fun i hi=>absurd hi (Nat.not_lt_zero _)⟩
 ·
  simp [Value.cells] at hcs
  obtain ⟨rfl,rfl,rfl⟩:=hcs
  simp only [if_true] at hmm
  subst hmm
  simp only [Prod.mk.injEq] at hx
  obtain ⟨rfl,rfl⟩:=hx
  have hn:=sized_mem hz ht hd (n:=(n+(m - n))*24) (by simp only [DataW.weights,Try.underlying30,hb1]; simp)
  have each:∀ i,i < n→∃ f:UInt8 × List UInt8,V0 i=.int .u8 (f.1.toNat:Nat)∧V1 i=.string ⟨f.2.toArray⟩∧D1 i=.lit (.string f.2):=by
   intro i hi
   obtain ⟨_,_,h3,h4⟩:=hcell i (by omega)
   obtain ⟨z,hz1,_,wz⟩:=DataW.trod_int Try.underlying5 h3
   obtain ⟨s,hs1,hs2,_⟩:=DataW.trod_string Try.underlying9 h4
   obtain ⟨k,rfl⟩:=u8_of wz
   simp only [Prod.mk.injEq] at hs2
   simp only [List.cons.injEq,and_true] at hz1 hs1
   exact ⟨(k,s.data.toList),hz1,by rw [hs1],hs2.1⟩
  obtain ⟨g,hg⟩:=choose_lt each
  refine ⟨(List.range n).map g,by simp,by omega,?_,fun i hi=>?_⟩
  ·
   by_cases h0:n=0
   ·
    subst h0
    exact .inl ⟨rfl,_,_,rfl⟩
   ·
    have hs:a.spot=none:=by
     have:=World.cell?_spot (hcell 0 (by omega)).1
     simpa [Addr.add] using this
    obtain ⟨b,o,sp⟩:=a
    simp only at hs
    subst hs
    have hlt:b < w.heap.size:=World.block_lt_of_cell? _ _ (hcell 0 (by omega)).1
    refine .inr ⟨b,o,m,by simp,by simpa [Addr.add] using hlt,fun i hi=>?_⟩
    have hi':i < n:=by simpa using hi
    obtain ⟨h1,h2,_,_⟩:=hcell i (by omega)
    rw [add_plain] at h1 h2
    obtain ⟨e1,e2,_⟩:=hg i hi'
    rw [List.getElem_map,List.getElem_range]
    exact ⟨by rw [h1,e1],by rw [show o+i*2+1=o+(i*2+1) by omega,h2,e2]⟩
  ·
   have hi':i < n:=by simpa using hi
   rw [List.getElem_map,List.getElem_range]
   refine sized_mem hz ht hd ?_
   simp only [DataW.weights,Try.underlying30]
   refine List.mem_cons_of_mem _ (List.mem_append_left _ (weights_all (d:=.agg [D0 i,D1 i]) (List.mem_map.2 ⟨i,List.mem_range.2 hi',rfl⟩) ?_))
   rw [(hg i hi').2.2]
   simp only [DataW.weights,Try.underlying39,List.map_cons,List.map_nil,DataW.weightsEach]
   exact List.mem_append_right _ (List.mem_append_left _ (List.mem_singleton.2 rfl))
/-- A frame by value. -/
theorem open_frm {r:Reach} {b0:Nat} {spare:Nat→Bool} {ts:List TypeId} {ds:List (DataW H)} {j:Nat} {v:Value} {d:DataW H} {p:List MemPlace} (hv:Value.okWide Try.prog w r b0 39 v) (h:DataW.Trod enc Try.prog w base spare held 39 v d p)
  (hz:(DataW.weightsEach Try.prog ts ds).all (·≤reachBytes)=true) (ht:ts[j]?=some 39) (hd:ds[j]?=some d) :
  ∃ (k:UInt8) (q:ByteArray),v=.agg #[.int .u8 (k.toNat:Nat),.string q]∧q.size≤140737488355328:=by
 obtain ⟨v0,v1,y0,y1,n,rfl,rfl,rfl,h0,h1⟩:=open_agg2 Try.underlying39 (by kernel_rfl) (by kernel_rfl) hv h
 obtain ⟨z,hz1,rfl,wz⟩:=DataW.trod_int Try.underlying5 h0
 obtain ⟨s,hs1,rfl,_⟩:=DataW.trod_string Try.underlying9 h1
 obtain ⟨k,rfl⟩:=u8_of wz
 cases hz1
 cases hs1
 refine ⟨k,s,rfl,sized_mem hz ht hd (n:=s.data.toList.length) ?_⟩
 simp only [DataW.weights,Try.underlying39,List.map_cons,List.map_nil,DataW.weightsEach]
 exact List.mem_append_right _ (List.mem_append_left _ (List.mem_singleton.2 rfl))
end
end Go.Proofs.Ytadbijfjfoeojaa
