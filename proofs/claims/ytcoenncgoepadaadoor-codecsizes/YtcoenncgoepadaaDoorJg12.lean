/- Parts of the proof. -/
import Derived.Test.YtcoenncgoepadaaDoorJg9
import Derived.Test.YtcoenncgoepadaaDoorJg1
set_option linter.unusedSimpArgs false
set_option linter.unusedVariables false
/- Numbers in variables; what a region that divides has done. No statement of the seat is proved here. -/
namespace Go.Proofs.YtcoenncgoepadaaDoor
open Go.RowKit
/-- A value is a number of package long. -/
def HN (w:World) (v:Value) (z:Int):Prop:=∃ (b:Bool) (a:Option Addr) (n c:Nat),v=.agg #[.bool b,.slice a n c]∧Num w b a n c z
theorem HN.below {w w':World} {v:Value} {z:Int} (h:HN w v z) (hb:Below w.heap.size w w'):HN w' v z:=by
 obtain ⟨b,a,n,c,h1,h2⟩:=h
 exact ⟨b,a,n,c,h1,h2.below hb⟩
/-- Block k is a variable of package long's numbers that holds these. -/
def Bx (w:World) (t:TypeId) (k:Nat) (u v:Value):Prop:=w.heap[k]?=some (.cells #[u,v] t (0,0))
theorem Bx.below {w w':World} {t:TypeId} {k:Nat} {u v:Value} (h:Bx w t k u v) (hb:Below w.heap.size w w'):Bx w' t k u v:=by
 unfold Bx at h ⊢
 rw [hb.block k (Array.getElem?_eq_some_iff.1 h).1]; exact h
theorem Bx.lt {w:World} {t:TypeId} {k:Nat} {u v:Value} (h:Bx w t k u v):k < w.heap.size:=(Array.getElem?_eq_some_iff.1 h).1
theorem Bx.cells {w:World} {t:TypeId} {k:Nat} {u v:Value} (h:Bx w t k u v):w.cell? ⟨k,0,none⟩=some u∧w.cell? ⟨k,1,none⟩=some v∧w.frozen? ⟨k,0,none⟩=false∧w.frozen? ⟨k,1,none⟩=false:=by
 unfold Bx at h
 refine ⟨?_,?_,?_,?_⟩ <;> simp [World.cell?,World.frozen?,h]
theorem bx_new (w:World) (t:TypeId) (u v:Value):Bx (w.alloc (.cells #[u,v] t)) t w.heap.size u v:=by
 unfold Bx; rw [heap_alloc_new]
/-- A number stays where another variable is written. -/
theorem Num.store {w:World} {bl:Bool} {a:Option Addr} {n c:Nat} {z:Int} (h:Num w bl a n c z) {t:TypeId} {k:Nat} {bk:Bool} {ak:Option Addr} {nk ck:Nat} (hk:Bx w t k (.bool bk) (.slice ak nk ck)) (u v:Value) :
  Num ((w.setCell ⟨k,0,none⟩ u).setCell ⟨k,1,none⟩ v) bl a n c z:=by
 by_cases hn:n=0
 ·
  subst hn
  refine ⟨⟨h.lie.cap,h.lie.capm,h.lie.nil,fun p hp=>⟨(h.lie.spot p hp).1,by rw [(only2 w k u v).size]; exact (h.lie.spot p hp).2⟩,fun p hp i hi=>by omega⟩,h.fit,h.sgn⟩
 ·
  refine h.only (only2 _ _ _ _) (fun p hp e=>?_)
  have h1:=h.lie.cell p hp 0 (by omega)
  rw [e] at h1
  unfold Bx at hk
  simp only [World.cell?,hk,Nat.add_zero] at h1
  rcases hpo:p.off with _ | _ | o
  ·
   rw [hpo] at h1; simp at h1
  ·
   rw [hpo] at h1; simp at h1
  ·
   rw [hpo] at h1; simp at h1
theorem Bx.other {w:World} {t:TypeId} {k k':Nat} {u v:Value} (h:Bx w t k u v) (hne:k ≠ k') (x y:Value):Bx ((w.setCell ⟨k',0,none⟩ x).setCell ⟨k',1,none⟩ y) t k u v:=by
 unfold Bx at h ⊢
 rw [(only2 w k' x y).block k hne]; exact h
theorem Bx.self {w:World} {t:TypeId} {k:Nat} {u v:Value} (h:Bx w t k u v) (x y:Value):Bx ((w.setCell ⟨k,0,none⟩ x).setCell ⟨k,1,none⟩ y) t k x y:=by
 unfold Bx at h ⊢
 have hlt:=(Array.getElem?_eq_some_iff.1 h).1
 simp only [World.setCell,Array.getElem?_modify,if_true,h,Option.map_some]
 rfl
theorem HN.store {w:World} {v:Value} {z:Int} (h:HN w v z) {t:TypeId} {k:Nat} {bk:Bool} {ak:Option Addr} {nk ck:Nat} (hk:Bx w t k (.bool bk) (.slice ak nk ck)) (u x:Value) :
  HN ((w.setCell ⟨k,0,none⟩ u).setCell ⟨k,1,none⟩ x) v z:=by
 obtain ⟨b,a,n,c,h1,h2⟩:=h
 exact ⟨b,a,n,c,h1,h2.store hk u x⟩
/-- A quotient, a rest, and no error. -/
def Tp (W:World) (v:Value) (q r:Int):Prop:=∃ vq vr:Value,v=.tuple #[vq,vr,.int .i64 0]∧HN W vq q∧HN W vr r
theorem Tp.below {W W':World} {v:Value} {q r:Int} (h:Tp W v q r) (hb:Below W.heap.size W W'):Tp W' v q r:=by
 obtain ⟨x,y,h1,h2,h3⟩:=h
 exact ⟨x,y,h1,h2.below hb,h3.below hb⟩
theorem Tp.store {W:World} {v:Value} {q r:Int} (h:Tp W v q r) {t:TypeId} {k:Nat} {bk:Bool} {ak:Option Addr} {nk ck:Nat} (hk:Bx W t k (.bool bk) (.slice ak nk ck)) (u x:Value):Tp ((W.setCell ⟨k,0,none⟩ u).setCell ⟨k,1,none⟩ x) v q r:=by
 obtain ⟨y,z,h1,h2,h3⟩:=h
 exact ⟨y,z,h1,h2.store hk u x,h3.store hk u x⟩
section
variable {V:World→Prop} {w:World} {i j:Nat} {b1:Bool} {a1:Option Addr} {n1 c1:Nat} {b2:Bool} {a2:Option Addr} {n2 c2:Nat} {f p q r:Int} {L:Nat→Bool} {W W':World} {v8 v9 v36 v37 v38 v39 v40 v41 v42 v43 v44:Value}
end
end Go.Proofs.YtcoenncgoepadaaDoor
