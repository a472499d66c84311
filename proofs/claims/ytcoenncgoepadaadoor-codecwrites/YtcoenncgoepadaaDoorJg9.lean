/- Parts of the proof. -/
import Derived.Test.YtcoenncgoepadaaDoorJg8
import Derived.Deep.LoopGhost
import Derived.Test.YtcoenncgoepadaaDoorProg
import Derived.Test.YtcoenncgoepadaaDoorJg2
import Derived.KernelRfl
set_option linter.unusedSimpArgs false
set_option linter.unusedVariables false
/- The walks of package long's methods Sign, Cmp, Bits, Neg, Add, Mul. -/
namespace Go.Proofs.YtcoenncgoepadaaDoor
open Go.RowKit
theorem only2 (w:World) (b:Nat) (u v:Value):Only b w ((w.setCell ⟨b,0,none⟩ u).setCell ⟨b,1,none⟩ v):=(Only.setCell w b 0 u).trans (Only.setCell _ b 1 v)
theorem far2 {w:World} {b b' o:Nat} {u v x:Value} (h:w.cell? ⟨b,o,none⟩=some x) (hne:b ≠ b'):((w.setCell ⟨b',0,none⟩ u).setCell ⟨b',1,none⟩ v).cell? ⟨b,o,none⟩=some x :=
 (World.cell?_of_block (w:=w) (a:=⟨b,o,none⟩) ((only2 w b' u v).block b hne)).trans h
theorem Num.only {w w':World} {bl:Bool} {a:Option Addr} {n c g:Nat} {z:Int} (h:Num w bl a n c z) (ho:Only g w w') (hg:∀ p,a=some p→p.block ≠ g):Num w' bl a n c z:=⟨h.lie.only ho hg,h.fit,h.sgn⟩
end Go.Proofs.YtcoenncgoepadaaDoor

/- The walks of Mul, Add, Sub. -/
namespace Go.Proofs.YtcoenncgoepadaaDoor
open Go.RowKit
/-- Two numbers in boxes of their own, and a place for the result, behind what was there. -/
structure Boxed (w w1:World) (bl:Bool) (a:Option Addr) (n c:Nat) (bl':Bool) (a':Option Addr) (n' c':Nat):Prop where
 below:Below w.heap.size w w1
 k0:w1.cell? ⟨w.heap.size,0,none⟩=some (.bool bl)
 k1:w1.cell? ⟨w.heap.size,1,none⟩=some (.slice a n c)
 l0:w1.cell? ⟨w.heap.size+1,0,none⟩=some (.bool bl')
 l1:w1.cell? ⟨w.heap.size+1,1,none⟩=some (.slice a' n' c')
 r0:w1.cell? ⟨w.heap.size+2,0,none⟩=some (.bool false)
 r1:w1.cell? ⟨w.heap.size+2,1,none⟩=some (.slice none 0 0)
 f0:w1.frozen? ⟨w.heap.size+2,0,none⟩=false
 f1:w1.frozen? ⟨w.heap.size+2,1,none⟩=false
 sz:w.heap.size+2 < w1.heap.size
theorem Boxed.later {w w1 w2:World} {bl:Bool} {a:Option Addr} {n c:Nat} {bl':Bool} {a':Option Addr} {n' c':Nat} (h:Boxed w w1 bl a n c bl' a' n' c') (hb:Below w1.heap.size w1 w2):Boxed w w2 bl a n c bl' a' n' c':=by
 have hs:=h.sz
 exact ⟨h.below.trans (hb.mono h.below.size),(hb.cell (p:=⟨w.heap.size,0,none⟩) (by show w.heap.size < _; omega)).trans h.k0,(hb.cell (p:=⟨w.heap.size,1,none⟩) (by show w.heap.size < _; omega)).trans h.k1,
  (hb.cell (p:=⟨w.heap.size+1,0,none⟩) (by show w.heap.size+1 < _; omega)).trans h.l0,(hb.cell (p:=⟨w.heap.size+1,1,none⟩) (by show w.heap.size+1 < _; omega)).trans h.l1,
  (hb.cell (p:=⟨w.heap.size+2,0,none⟩) hs).trans h.r0,(hb.cell (p:=⟨w.heap.size+2,1,none⟩) hs).trans h.r1,(hb.frozen (p:=⟨w.heap.size+2,0,none⟩) hs).trans h.f0,(hb.frozen (p:=⟨w.heap.size+2,1,none⟩) hs).trans h.f1,
  Nat.lt_of_lt_of_le hs hb.size⟩
theorem Boxed.drew {w w1:World} {bl:Bool} {a:Option Addr} {n c:Nat} {bl':Bool} {a':Option Addr} {n' c':Nat} (h:Boxed w w1 bl a n c bl' a' n' c'):Boxed w w1.drew bl a n c bl' a' n' c':=h.later (Below.refl _ _).drew
/-- What the loads of a region read, in a world of its run. -/
def HS (w:World) (bl:Bool) (a:Option Addr) (n c:Nat) (bl':Bool) (a':Option Addr) (n' c':Nat) (w':World):Prop :=
 w'.cell? ⟨w.heap.size,0,none⟩=some (.bool bl)∧w'.cell? ⟨w.heap.size,1,none⟩=some (.slice a n c)∧w'.cell? ⟨w.heap.size+1,0,none⟩=some (.bool bl')∧w'.cell? ⟨w.heap.size+1,1,none⟩=some (.slice a' n' c')
theorem Boxed.hs {w w1:World} {bl:Bool} {a:Option Addr} {n c:Nat} {bl':Bool} {a':Option Addr} {n' c':Nat} (h:Boxed w w1 bl a n c bl' a' n' c'):HS w bl a n c bl' a' n' c' w1:=⟨h.k0,h.k1,h.l0,h.l1⟩
theorem Boxed.hs2 {w w1:World} {bl:Bool} {a:Option Addr} {n c:Nat} {bl':Bool} {a':Option Addr} {n' c':Nat} (h:Boxed w w1 bl a n c bl' a' n' c') (u v:Value):HS w bl a n c bl' a' n' c' ((w1.setCell ⟨w.heap.size+2,0,none⟩ u).setCell ⟨w.heap.size+2,1,none⟩ v) :=
 ⟨far2 h.k0 (by omega),far2 h.k1 (by omega),far2 h.l0 (by omega),far2 h.l1 (by omega)⟩
end Go.Proofs.YtcoenncgoepadaaDoor

/- The walks of Of, Root, Quo, Small. -/
namespace Go.Proofs.YtcoenncgoepadaaDoor
open Go.RowKit
/-- A place for a number that is a result, behind what was there. -/
structure ResAt (w w1:World) (r:Nat):Prop where
 below:Below w.heap.size w w1
 r0:w1.cell? ⟨r,0,none⟩=some (.bool false)
 r1:w1.cell? ⟨r,1,none⟩=some (.slice none 0 0)
 f0:w1.frozen? ⟨r,0,none⟩=false
 f1:w1.frozen? ⟨r,1,none⟩=false
 lo:w.heap.size≤r
 sz:r < w1.heap.size
theorem ResAt.later {w w1 w2:World} {r:Nat} (h:ResAt w w1 r) (hb:Below w1.heap.size w1 w2):ResAt w w2 r :=
 ⟨h.below.trans (hb.mono h.below.size),(hb.cell (p:=⟨r,0,none⟩) h.sz).trans h.r0,(hb.cell (p:=⟨r,1,none⟩) h.sz).trans h.r1,(hb.frozen (p:=⟨r,0,none⟩) h.sz).trans h.f0,(hb.frozen (p:=⟨r,1,none⟩) h.sz).trans h.f1,h.lo,Nat.lt_of_lt_of_le h.sz hb.size⟩
end Go.Proofs.YtcoenncgoepadaaDoor

/- The walk of Quo. -/
namespace Go.Proofs.YtcoenncgoepadaaDoor
open Go.RowKit
/-- Two numbers in boxes of their own, and places for two results that hold what is said, behind what was there. -/
structure QBox (w w1:World) (bl:Bool) (a:Option Addr) (n c:Nat) (bl':Bool) (a':Option Addr) (n' c':Nat) (qb:Bool) (qa:Option Addr) (qn qc:Nat) (rb:Bool) (ra:Option Addr) (rn rc:Nat):Prop where
 below:Below w.heap.size w w1
 k0:w1.cell? ⟨w.heap.size,0,none⟩=some (.bool bl)
 k1:w1.cell? ⟨w.heap.size,1,none⟩=some (.slice a n c)
 l0:w1.cell? ⟨w.heap.size+1,0,none⟩=some (.bool bl')
 l1:w1.cell? ⟨w.heap.size+1,1,none⟩=some (.slice a' n' c')
 q0:w1.cell? ⟨w.heap.size+2,0,none⟩=some (.bool qb)
 q1:w1.cell? ⟨w.heap.size+2,1,none⟩=some (.slice qa qn qc)
 r0:w1.cell? ⟨w.heap.size+3,0,none⟩=some (.bool rb)
 r1:w1.cell? ⟨w.heap.size+3,1,none⟩=some (.slice ra rn rc)
 f0:w1.frozen? ⟨w.heap.size+2,0,none⟩=false
 f1:w1.frozen? ⟨w.heap.size+2,1,none⟩=false
 g0:w1.frozen? ⟨w.heap.size+3,0,none⟩=false
 g1:w1.frozen? ⟨w.heap.size+3,1,none⟩=false
 sz:w.heap.size+3 < w1.heap.size
section
variable {w w1 w2:World} {bl:Bool} {a:Option Addr} {n c:Nat} {bl':Bool} {a':Option Addr} {n' c':Nat} {qb:Bool} {qa:Option Addr} {qn qc:Nat} {rb:Bool} {ra:Option Addr} {rn rc:Nat}
theorem QBox.later (h:QBox w w1 bl a n c bl' a' n' c' qb qa qn qc rb ra rn rc) (hb:Below w1.heap.size w1 w2):QBox w w2 bl a n c bl' a' n' c' qb qa qn qc rb ra rn rc:=by
 have hs:=h.sz
 exact ⟨h.below.trans (hb.mono h.below.size),(hb.cell (p:=⟨w.heap.size,0,none⟩) (by show w.heap.size < _; omega)).trans h.k0,(hb.cell (p:=⟨w.heap.size,1,none⟩) (by show w.heap.size < _; omega)).trans h.k1,
  (hb.cell (p:=⟨w.heap.size+1,0,none⟩) (by show w.heap.size+1 < _; omega)).trans h.l0,(hb.cell (p:=⟨w.heap.size+1,1,none⟩) (by show w.heap.size+1 < _; omega)).trans h.l1,
  (hb.cell (p:=⟨w.heap.size+2,0,none⟩) (by show w.heap.size+2 < _; omega)).trans h.q0,(hb.cell (p:=⟨w.heap.size+2,1,none⟩) (by show w.heap.size+2 < _; omega)).trans h.q1,
  (hb.cell (p:=⟨w.heap.size+3,0,none⟩) hs).trans h.r0,(hb.cell (p:=⟨w.heap.size+3,1,none⟩) hs).trans h.r1,
  (hb.frozen (p:=⟨w.heap.size+2,0,none⟩) (by show w.heap.size+2 < _; omega)).trans h.f0,(hb.frozen (p:=⟨w.heap.size+2,1,none⟩) (by show w.heap.size+2 < _; omega)).trans h.f1,
  (hb.frozen (p:=⟨w.heap.size+3,0,none⟩) hs).trans h.g0,(hb.frozen (p:=⟨w.heap.size+3,1,none⟩) hs).trans h.g1,Nat.lt_of_lt_of_le hs hb.size⟩
theorem QBox.drew (h:QBox w w1 bl a n c bl' a' n' c' qb qa qn qc rb ra rn rc):QBox w w1.drew bl a n c bl' a' n' c' qb qa qn qc rb ra rn rc:=h.later (Below.refl _ _).drew
end
end Go.Proofs.YtcoenncgoepadaaDoor
