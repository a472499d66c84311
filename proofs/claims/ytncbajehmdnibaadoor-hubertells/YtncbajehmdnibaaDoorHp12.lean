/- Parts of the proof. -/
import Derived.Test.YtncbajehmdnibaaDoorHp11
import Derived.Test.YtncbajehmdnibaaDoorHp10
set_option linter.unusedSimpArgs false
set_option linter.unusedVariables false
/- What package long's calls do, said of variables that hold numbers. -/
namespace Go.Proofs.YtncbajehmdnibaaDoor
open Go.RowKit
/-- Block b holds the number z. -/
def Var (w:World) (b:Nat) (z:Int):Prop:=∃ (bl:Bool) (a:Option Addr) (n c:Nat),w.cell? ⟨b,0,none⟩=some (.bool bl)∧w.cell? ⟨b,1,none⟩=some (.slice a n c)∧Num w bl a n c z
theorem Var.below {w w':World} {b:Nat} {z:Int} (h:Var w b z) (hb:Below w.heap.size w w'):Var w' b z:=by
 obtain ⟨bl,a,n,c,h0,h1,h2⟩:=h
 have hlt:=World.block_lt_of_cell? w _ h0
 exact ⟨bl,a,n,c,(hb.cell (p:=⟨b,0,none⟩) hlt).trans h0,(hb.cell (p:=⟨b,1,none⟩) hlt).trans h1,h2.below hb⟩
/-- Block b holds the number z, by these parts. -/
structure VI (w:World) (b:Nat) (bl:Bool) (a:Option Addr) (n c:Nat) (z:Int):Prop where
 k0:w.cell? ⟨b,0,none⟩=some (.bool bl)
 k1:w.cell? ⟨b,1,none⟩=some (.slice a n c)
 num:Num w bl a n c z
theorem VI.below {w w':World} {b:Nat} {bl:Bool} {a:Option Addr} {n c:Nat} {z:Int} (h:VI w b bl a n c z) (hb:Below w.heap.size w w'):VI w' b bl a n c z :=
 have hlt:=World.block_lt_of_cell? w _ h.k0
 ⟨(hb.cell (p:=⟨b,0,none⟩) hlt).trans h.k0,(hb.cell (p:=⟨b,1,none⟩) hlt).trans h.k1,h.num.below hb⟩
theorem num_len {w:World} {bl:Bool} {a:Option Addr} {n c k:Nat} {z:Int} (h:Num w bl a n c z) (hz:z.natAbs < BB ^ k) (hk:k≤9000000):n≤9000000:=Nat.le_trans (fit_le h.fit hz) hk
theorem num_len' {w:World} {bl:Bool} {a:Option Addr} {n c k:Nat} {z:Int} (h:Num w bl a n c z) (hz:z.natAbs < BB ^ k) (hk:k≤9000000):n≤10000000:=Nat.le_trans (num_len h hz hk) (by omega)
theorem String_all (bl:Bool) (a:Option Addr) (n c:Nat) (z:Int) (w:World) (h:Num w bl a n c z) (hn:n≤10000000) :
  Calls Tryd.prog 7 #[.agg #[.bool bl,.slice a n c]] w (PTxt z w):=by
 by_cases hz:z=0
 ·
  subst hz; exact String_zero bl a n c w h
 ·
  exact String_any bl a n c z w h hn hz
end Go.Proofs.YtncbajehmdnibaaDoor
