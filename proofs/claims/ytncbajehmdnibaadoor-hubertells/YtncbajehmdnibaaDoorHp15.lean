/- Parts of the proof. -/
import Derived.Test.YtncbajehmdnibaaDoorHp10
import Derived.Test.YtncbajehmdnibaaDoorHp1
set_option linter.unusedSimpArgs false
set_option linter.unusedVariables false
/- Numbers in variables; what a region that divides has done. No statement of the seat is proved here. -/
namespace Go.Proofs.YtncbajehmdnibaaDoor
open Go.RowKit
/-- A value is a number of package long. -/
def HN (w:World) (v:Value) (z:Int):Prop:=∃ (b:Bool) (a:Option Addr) (n c:Nat),v=.agg #[.bool b,.slice a n c]∧Num w b a n c z
theorem HN.below {w w':World} {v:Value} {z:Int} (h:HN w v z) (hb:Below w.heap.size w w'):HN w' v z:=by
 obtain ⟨b,a,n,c,h1,h2⟩:=h
 exact ⟨b,a,n,c,h1,h2.below hb⟩
/-- Block k is a variable of package long's numbers that holds these. -/
def Bx (w:World) (t:TypeId) (k:Nat) (u v:Value):Prop:=w.heap[k]?=some (.cells #[u,v] t (0,0))
theorem Bx.below {w w':World} {t:TypeId} {k:Nat} {u v:Value} (h:Bx w t k u v) (hb:Below w.heap.size w w'):Bx w' t k u v:=by
 unfold Bx at h ⊢
 rw [hb.block k (Array.getElem?_eq_some_iff.1 h).1]; exact h
theorem Bx.lt {w:World} {t:TypeId} {k:Nat} {u v:Value} (h:Bx w t k u v):k < w.heap.size:=(Array.getElem?_eq_some_iff.1 h).1
theorem Bx.cells {w:World} {t:TypeId} {k:Nat} {u v:Value} (h:Bx w t k u v):w.cell? ⟨k,0,none⟩=some u∧w.cell? ⟨k,1,none⟩=some v∧w.frozen? ⟨k,0,none⟩=false∧w.frozen? ⟨k,1,none⟩=false:=by
 unfold Bx at h
 refine ⟨?_,?_,?_,?_⟩ <;> simp [World.cell?,World.frozen?,h]
theorem bx_new (w:World) (t:TypeId) (u v:Value):Bx (w.alloc (.cells #[u,v] t)) t w.heap.size u v:=by
 unfold Bx; rw [heap_alloc_new]
/-- Two numbers are held by variables. -/
structure Hv (w W1:World) (i j:Nat) (b1:Bool) (a1:Option Addr) (n1 c1:Nat) (x:Int) (b2:Bool) (a2:Option Addr) (n2 c2:Nat) (y:Int):Prop where
 below:Below w.heap.size w W1
 X:Bx W1 25 i (.bool b1) (.slice a1 n1 c1)
 Y:Bx W1 25 j (.bool b2) (.slice a2 n2 c2)
 nx:Num W1 b1 a1 n1 c1 x
 ny:Num W1 b2 a2 n2 c2 y
theorem Hv.later {w W1 W2:World} {i j:Nat} {b1:Bool} {a1:Option Addr} {n1 c1:Nat} {x:Int} {b2:Bool} {a2:Option Addr} {n2 c2:Nat} {y:Int} (h:Hv w W1 i j b1 a1 n1 c1 x b2 a2 n2 c2 y) (hb:Below W1.heap.size W1 W2):Hv w W2 i j b1 a1 n1 c1 x b2 a2 n2 c2 y :=
 ⟨h.below.trans (hb.mono h.below.size),h.X.below hb,h.Y.below hb,h.nx.below hb,h.ny.below hb⟩
/-- A number stays where another variable is written. -/
theorem Num.store {w:World} {bl:Bool} {a:Option Addr} {n c:Nat} {z:Int} (h:Num w bl a n c z) {t:TypeId} {k:Nat} {bk:Bool} {ak:Option Addr} {nk ck:Nat} (hk:Bx w t k (.bool bk) (.slice ak nk ck)) (u v:Value) :
  Num ((w.setCell ⟨k,0,none⟩ u).setCell ⟨k,1,none⟩ v) bl a n c z:=by
 by_cases hn:n=0
 ·
  subst hn
  refine ⟨⟨h.lie.cap,h.lie.capm,h.lie.nil,fun p hp=>⟨(h.lie.spot p hp).1,by rw [(only2 w k u v).size]; exact (h.lie.spot p hp).2⟩,fun p hp i hi=>by omega⟩,h.fit,h.sgn⟩
 ·
  refine h.only (only2 _ _ _ _) (fun p hp e=>?_)
  have h1:=h.lie.cell p hp 0 (by omega)
  rw [e] at h1
  unfold Bx at hk
  simp only [World.cell?,hk,Nat.add_zero] at h1
  rcases hpo:p.off with _ | _ | o
  ·
   rw [hpo] at h1; simp at h1
  ·
   rw [hpo] at h1; simp at h1
  ·
   rw [hpo] at h1; simp at h1
theorem Bx.other {w:World} {t:TypeId} {k k':Nat} {u v:Value} (h:Bx w t k u v) (hne:k ≠ k') (x y:Value):Bx ((w.setCell ⟨k',0,none⟩ x).setCell ⟨k',1,none⟩ y) t k u v:=by
 unfold Bx at h ⊢
 rw [(only2 w k' x y).block k hne]; exact h
theorem Bx.self {w:World} {t:TypeId} {k:Nat} {u v:Value} (h:Bx w t k u v) (x y:Value):Bx ((w.setCell ⟨k,0,none⟩ x).setCell ⟨k,1,none⟩ y) t k x y:=by
 unfold Bx at h ⊢
 have hlt:=(Array.getElem?_eq_some_iff.1 h).1
 simp only [World.setCell,Array.getElem?_modify,if_true,h,Option.map_some]
 rfl
theorem HN.store {w:World} {v:Value} {z:Int} (h:HN w v z) {t:TypeId} {k:Nat} {bk:Bool} {ak:Option Addr} {nk ck:Nat} (hk:Bx w t k (.bool bk) (.slice ak nk ck)) (u x:Value) :
  HN ((w.setCell ⟨k,0,none⟩ u).setCell ⟨k,1,none⟩ x) v z:=by
 obtain ⟨b,a,n,c,h1,h2⟩:=h
 exact ⟨b,a,n,c,h1,h2.store hk u x⟩
/-- A pointer to a variable that the region makes. -/
def Nw (w W:World) (i j:Nat) (v:Value):Prop:=∃ (k:Nat) (b:Bool) (a:Option Addr) (n c:Nat),v=.pointer (some ⟨k,0,none⟩)∧Bx W 25 k (.bool b) (.slice a n c)∧k ≠ i∧k ≠ j∧w.heap.size≤k
/-- A pointer to a variable that holds a number. -/
def Hd (W:World) (v:Value) (z:Int):Prop:=∃ (k:Nat) (b:Bool) (a:Option Addr) (n c:Nat),v=.pointer (some ⟨k,0,none⟩)∧Bx W 25 k (.bool b) (.slice a n c)∧Num W b a n c z
/-- A quotient, a rest, and no error. -/
def Tp (W:World) (v:Value) (q r:Int):Prop:=∃ vq vr:Value,v=.tuple #[vq,vr,.int .i64 0]∧HN W vq q∧HN W vr r
theorem Nw.below {w W W':World} {i j:Nat} {v:Value} (h:Nw w W i j v) (hb:Below W.heap.size W W'):Nw w W' i j v:=by
 obtain ⟨k,b,a,n,c,h1,h2,h3⟩:=h
 exact ⟨k,b,a,n,c,h1,h2.below hb,h3⟩
theorem Hd.below {W W':World} {v:Value} {z:Int} (h:Hd W v z) (hb:Below W.heap.size W W'):Hd W' v z:=by
 obtain ⟨k,b,a,n,c,h1,h2,h3⟩:=h
 exact ⟨k,b,a,n,c,h1,h2.below hb,h3.below hb⟩
theorem Tp.below {W W':World} {v:Value} {q r:Int} (h:Tp W v q r) (hb:Below W.heap.size W W'):Tp W' v q r:=by
 obtain ⟨x,y,h1,h2,h3⟩:=h
 exact ⟨x,y,h1,h2.below hb,h3.below hb⟩
/-- What the region 'q, r, e = (x times y).Quo(t)' has done. -/
structure J6 (V:World→Prop) (w:World) (i j:Nat) (b1:Bool) (a1:Option Addr) (n1 c1:Nat) (b2:Bool) (a2:Option Addr) (n2 c2:Nat) (f p q r:Int) (L:Nat→Bool) (W:World) (v8 v9 v36 v37 v38 v39 v40 v41 v42 v43 v44:Value):Prop where
 hv:V W
 h0:L 0=true→v37=.agg #[.bool b1,.slice a1 n1 c1]
 h1:L 1=true→HN W v38 f
 h2:L 2=true→HN W v39 p
 h3:L 3=true→v40=.agg #[.bool b2,.slice a2 n2 c2]
 h4:L 4=true→Tp W v41 q r
 h5:L 5=true→Tp W v36 q r
 h6:L 6=true→HN W v42 q
 h7:L 7=true→HN W v43 r
 h8:L 8=true→v44=.int .i64 0
 h9:L 9=true→Nw w W i j v8
 h10:L 10=true→Nw w W i j v9
 hne:L 9=true→L 10=true→v8 ≠ v9
 h11:L 11=true→Hd W v8 q
 hcl:L 11=true→L 9=true
 h12:L 12=true→Hd W v9 r
 hcl2:L 12=true→L 10=true
theorem Hv.store {w W1:World} {i j:Nat} {b1:Bool} {a1:Option Addr} {n1 c1:Nat} {x:Int} {b2:Bool} {a2:Option Addr} {n2 c2:Nat} {y:Int} (h:Hv w W1 i j b1 a1 n1 c1 x b2 a2 n2 c2 y) {k:Nat} {bk:Bool} {ak:Option Addr} {nk ck:Nat} (hk:Bx W1 25 k (.bool bk) (.slice ak nk ck)) (hki:k ≠ i) (hkj:k ≠ j) (hkw:w.heap.size≤k) (u v:Value) :
  Hv w ((W1.setCell ⟨k,0,none⟩ u).setCell ⟨k,1,none⟩ v) i j b1 a1 n1 c1 x b2 a2 n2 c2 y :=
 ⟨h.below.trans ((only2 _ _ _ _).below hkw),h.X.other (Ne.symm hki) _ _,h.Y.other (Ne.symm hkj) _ _,h.nx.store hk _ _,h.ny.store hk _ _⟩
theorem Tp.store {W:World} {v:Value} {q r:Int} (h:Tp W v q r) {t:TypeId} {k:Nat} {bk:Bool} {ak:Option Addr} {nk ck:Nat} (hk:Bx W t k (.bool bk) (.slice ak nk ck)) (u x:Value):Tp ((W.setCell ⟨k,0,none⟩ u).setCell ⟨k,1,none⟩ x) v q r:=by
 obtain ⟨y,z,h1,h2,h3⟩:=h
 exact ⟨y,z,h1,h2.store hk u x,h3.store hk u x⟩
theorem ptr_ne {v v':Value} {k k':Nat} (h:v=.pointer (some ⟨k,0,none⟩)) (h':v'=.pointer (some ⟨k',0,none⟩)) (hne:v ≠ v'):k' ≠ k:=fun e=>hne (by rw [h,h',e])
theorem Nw.other {w W:World} {i j k:Nat} {v v':Value} (h:Nw w W i j v') (hv:v=.pointer (some ⟨k,0,none⟩)) (hne:v ≠ v') {bk:Bool} {ak:Option Addr} {nk ck:Nat} (_:Bx W 25 k (.bool bk) (.slice ak nk ck)) (u x:Value):Nw w ((W.setCell ⟨k,0,none⟩ u).setCell ⟨k,1,none⟩ x) i j v':=by
 obtain ⟨k',b,a,n,c,h1,h2,h3⟩:=h
 exact ⟨k',b,a,n,c,h1,h2.other (ptr_ne hv h1 hne) _ _,h3⟩
theorem Hd.other {W:World} {k:Nat} {v v':Value} {z:Int} (h:Hd W v' z) (hv:v=.pointer (some ⟨k,0,none⟩)) (hne:v ≠ v') {bk:Bool} {ak:Option Addr} {nk ck:Nat} (hk:Bx W 25 k (.bool bk) (.slice ak nk ck)) (u x:Value):Hd ((W.setCell ⟨k,0,none⟩ u).setCell ⟨k,1,none⟩ x) v' z:=by
 obtain ⟨k',b,a,n,c,h1,h2,h3⟩:=h
 exact ⟨k',b,a,n,c,h1,h2.other (ptr_ne hv h1 hne) _ _,h3.store hk _ _⟩
section
variable {V:World→Prop} {w:World} {i j:Nat} {b1:Bool} {a1:Option Addr} {n1 c1:Nat} {b2:Bool} {a2:Option Addr} {n2 c2:Nat} {f p q r:Int} {L:Nat→Bool} {W W':World} {v8 v9 v36 v37 v38 v39 v40 v41 v42 v43 v44:Value}
theorem J6.later (h:J6 V w i j b1 a1 n1 c1 b2 a2 n2 c2 f p q r L W v8 v9 v36 v37 v38 v39 v40 v41 v42 v43 v44) (hb:Below W.heap.size W W') (hV:V W'):J6 V w i j b1 a1 n1 c1 b2 a2 n2 c2 f p q r L W' v8 v9 v36 v37 v38 v39 v40 v41 v42 v43 v44 :=
 ⟨hV,h.h0,fun e=>(h.h1 e).below hb,fun e=>(h.h2 e).below hb,h.h3,fun e=>(h.h4 e).below hb,fun e=>(h.h5 e).below hb,fun e=>(h.h6 e).below hb,fun e=>(h.h7 e).below hb,h.h8,fun e=>(h.h9 e).below hb,fun e=>(h.h10 e).below hb,h.hne,fun e=>(h.h11 e).below hb,h.hcl,fun e=>(h.h12 e).below hb,h.hcl2⟩
end
end Go.Proofs.YtncbajehmdnibaaDoor
