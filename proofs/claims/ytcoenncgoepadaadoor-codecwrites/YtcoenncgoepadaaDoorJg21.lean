/- Parts of the proof. -/
import Derived.Test.YtcoenncgoepadaaDoorJg16
import Derived.Test.YtcoenncgoepadaaDoorRows
import Derived.Lib.SmallJoins
import Derived.Lib.LaidTab
import Derived.MakeChecks
import Derived.WalkKit
import Derived.ProofKit
import Derived.OpenShut
import Derived.SizedLaws
import Derived.ChangeSlices
import Derived.WideKeyArgs
set_option linter.unusedSimpArgs false
set_option linter.unusedVariables false
/- How a measurement that comes in reads, and the landed table: for the cards of package codec's laws. No statement of the seat is proved here. -/
namespace Go.Proofs.YtcoenncgoepadaaDoor
open Go Go.Joins Go.ChangeShapes Go.WideShapes Go.RowKit
section
variable {H:Type} {enc:TypeId × Value→H} {w:World} {base:Nat} {held:Bool}
theorem sized_mem12 {P:Program} {ts:List TypeId} {ds:List (DataW H)} {j:Nat} {t:TypeId} {d:DataW H} {n:Nat} (h:(DataW.weightsEach P ts ds).all (·≤reachBytes)=true) (ht:ts[j]?=some t) (hd:ds[j]?=some d) (hn:n ∈ d.weights P t):n≤140737488355328:=by
 have h1:=List.all_eq_true.1 h _ (DataW.weights_mem_each ht hd n hn)
 have h2:n≤reachBytes:=by simpa using h1
 exact Nat.le_trans h2 (by decide)
/-- A measurement by value. -/
theorem open_ms {r:Reach} {b0:Nat} {ts:List TypeId} {ds:List (DataW H)} {j:Nat} {v:Value} {d:DataW H} {p:List MemPlace} (hv:Value.okWide Tryd.prog w r b0 24 v) (h:DataW.Trod enc Tryd.prog w base (fun _=>true) held 24 v d p)
  (hz:(DataW.weightsEach Tryd.prog ts ds).all (·≤reachBytes)=true) (ht:ts[j]?=some 24) (hd:ds[j]?=some d) :
  ∃ (k a q:Int) (ad:Option Addr) (n c:Nat) (vs:List Int),v=.agg #[.int .i64 k,.int .i64 a,.int .i64 q,.slice ad n c]∧vs.length=n∧n≤20000000000000∧Il w ad vs:=by
 obtain ⟨v0,v1,v2,v3,y0,y1,y2,y3,m,rfl,rfl,rfl,h0,h1,h2,h3⟩:=open_agg4 Tryd.underlying24 (by kernel_rfl) (by kernel_rfl) hv h
 obtain ⟨z0,hz0,rfl,_⟩:=DataW.trod_int Tryd.underlying3 h0
 obtain ⟨z1,hz1,rfl,_⟩:=DataW.trod_int Tryd.underlying2 h1
 obtain ⟨z2,hz2,rfl,_⟩:=DataW.trod_int Tryd.underlying2 h2
 cases hz0
 cases hz1
 cases hz2
 rcases open_ints (k:=.i64) (e:=2) Tryd.underlying22 Tryd.underlying2 (by kernel_rfl) h3 with ⟨hcs,hx⟩ | ⟨a,len,cap,zs,hcs,_,hl,hm,hzs,hx,hcell,_⟩
 ·
  cases hcs
  exact ⟨_,_,_,none,0,0,[],rfl,rfl,by omega,il_nil _ _⟩
 ·
  cases hcs
  simp only [if_true] at hzs
  have hb1:Tryd.prog.bytesOf 2=8:=by kernel_rfl
  have hw:=sized_mem12 hz ht hd (n:=(len+(zs.length - len))*8) (by
   rw [hx]
   simp only [DataW.weights,Tryd.underlying24,List.map_cons,List.map_nil,DataW.weightsEach,Tryd.underlying22,Tryd.underlying3,Tryd.underlying2,hb1]
   simp [lits,Nat.min_eq_left (show len≤zs.length by omega)])
  refine ⟨_,_,_,some a,len,cap,zs.take len,rfl,by rw [List.length_take]; omega,by omega,fun i hi=>?_⟩
  have hi':i < len:=by rw [List.length_take] at hi; omega
  have hc:=hcell i (by omega)
  have hs:a.spot=none:=by
   have:=World.cell?_spot (hcell 0 (by omega))
   simpa [Addr.add] using this
  obtain ⟨b,o,sp⟩:=a
  simp only at hs
  subst hs
  rw [show (⟨b,o,none⟩:Addr).add i=⟨b,o+i,none⟩ from by unfold Addr.add; split <;> simp_all] at hc
  refine ⟨b,o,rfl,?_⟩
  rw [hc,List.getElem_take,List.getD_eq_getElem?_getD,List.getElem?_eq_getElem (by omega)]
  rfl
end
theorem tab_of {W : World} {r : List (String × DataW Unit)} (h : laidMet Tryd.prog (("gimbal/codec.counts", Rows.laid_gimbal_codec_counts) :: r) W) : Tab W := by
 have hg : Tryd.prog.globalNamed "gimbal/codec.counts" = some 0 := by kernel_rfl
 have ht : Lib.TabIs Tryd.prog W "gimbal/codec.counts" .i64 [0, 6, 6, 1, 3] := Lib.tabIs_of_head (g := 0) (t := 41) (e := 3) (n := 5) hg (by kernel_rfl) (by kernel_rfl) (by kernel_rfl) (by kernel_rfl) (by kernel_rfl) h
 exact ⟨ht.cell hg 0 (by decide),ht.cell hg 1 (by decide),ht.cell hg 2 (by decide),ht.cell hg 3 (by decide),ht.cell hg 4 (by decide)⟩
end Go.Proofs.YtcoenncgoepadaaDoor
