/- Parts of the proof. -/
import Derived.Test.YtncbajehmdnibaaDoorHp9
import Derived.Deep.LoopGhost
import Derived.Test.YtncbajehmdnibaaDoorHp4
set_option linter.unusedSimpArgs false
set_option linter.unusedVariables false
/- The walks of package long's methods Sign, Cmp, Bits, Neg, Add, Mul. -/
namespace Go.Proofs.YtncbajehmdnibaaDoor
open Go.RowKit
/-- -1, 0, 1. -/
def sgnI (z:Int):Int:=if z < 0 then -1 else if z=0 then 0 else 1
theorem Num.zero_iff {w:World} {bl:Bool} {a:Option Addr} {n c:Nat} {z:Int} (h:Num w bl a n c z):n=0↔z=0:=by
 rw [fit_pos h.fit]; omega
set_option maxHeartbeats 400000 in
theorem Sign_any (bl:Bool) (a:Option Addr) (n c:Nat) (z:Int) (w:World) (h:Num w bl a n c z) :
  Calls Tryd.prog 17 #[.agg #[.bool bl,.slice a n c]] w (PVal (.int .i64 (sgnI z)) w):=by
 have h1:=h.zero_iff
 have h2:=h.sgn
 clear h
 have hB:=(Below.refl w.heap.size w).alloc (Nat.le_refl _) (.cells #[.bool bl,.slice a n c] 25)
 cases bl
 ·
  have hz:¬ z < 0:=by simpa using h2.symm
  by_cases h0:n=0
  ·
   subst h0
   have HR:Hid (sgnI z=0):=by show _=_; unfold sgnI; rw [if_neg hz,if_pos (h1.1 rfl)]
   clear h1 h2 hz
   go_enter Tryd.func17,Tryd.ntmps17
   go_wp2
   go_ret
   exact ⟨ret_int HR.out.symm,hB⟩
  ·
   have HR:Hid (sgnI z=1):=by show _=_; unfold sgnI; rw [if_neg hz,if_neg (fun e=>h0 (h1.2 e))]
   have h0':((n:Int) == 0)=false:=by simpa using h0
   clear h1 h2 hz h0
   go_enter Tryd.func17,Tryd.ntmps17
   go_wp2
   go_ret
   exact ⟨ret_int HR.out.symm,hB⟩
 ·
  have hz:z < 0:=by simpa using h2.symm
  have HR:Hid (sgnI z=-1):=by show _=_; unfold sgnI; rw [if_pos hz]
  clear h1 h2 hz
  go_enter Tryd.func17,Tryd.ntmps17
  go_wp2
  go_ret
  exact ⟨ret_int HR.out.symm,hB⟩
theorem only2 (w:World) (b:Nat) (u v:Value):Only b w ((w.setCell ⟨b,0,none⟩ u).setCell ⟨b,1,none⟩ v):=(Only.setCell w b 0 u).trans (Only.setCell _ b 1 v)
theorem far2 {w:World} {b b' o:Nat} {u v x:Value} (h:w.cell? ⟨b,o,none⟩=some x) (hne:b ≠ b'):((w.setCell ⟨b',0,none⟩ u).setCell ⟨b',1,none⟩ v).cell? ⟨b,o,none⟩=some x :=
 (World.cell?_of_block (w:=w) (a:=⟨b,o,none⟩) ((only2 w b' u v).block b hne)).trans h
theorem Num.only {w w':World} {bl:Bool} {a:Option Addr} {n c g:Nat} {z:Int} (h:Num w bl a n c z) (ho:Only g w w') (hg:∀ p,a=some p→p.block ≠ g):Num w' bl a n c z:=⟨h.lie.only ho hg,h.fit,h.sgn⟩
theorem sg_not {bl:Bool} {z:Int} (h:bl=decide (z < 0)):sg (!bl) z.natAbs=-z:=by
 subst h
 by_cases hz:z < 0
 ·
  simp [sg,hz]; omega
 ·
  simp [sg,hz]; omega
/-- Behind a store of a number into a result's block: it is handed back. -/
theorem pnum_store {w w3:World} {bl:Bool} {a:Option Addr} {n c r:Nat} {z:Int} (hn:Num w3 bl a n c z) (hB:Below w.heap.size w w3) (hr:w.heap.size≤r) (hfr:∀ p,a=some p→r < p.block) :
  PNum z w (.returned (.agg #[.bool bl,.slice a n c])) ((w3.setCell ⟨r,0,none⟩ (.bool bl)).setCell ⟨r,1,none⟩ (.slice a n c)) :=
 ⟨bl,a,n,c,rfl,hn.only (only2 _ _ _ _) (fun p hp=>by have:=hfr p hp; omega),(fun p hp=>by have:=hfr p hp; omega),hB.trans ((only2 _ _ _ _).below hr)⟩
end Go.Proofs.YtncbajehmdnibaaDoor

/- The walks of Mul, Add, Sub. -/
namespace Go.Proofs.YtncbajehmdnibaaDoor
open Go.RowKit
/-- Two numbers in boxes of their own, and a place for the result, behind what was there. -/
structure Boxed (w w1:World) (bl:Bool) (a:Option Addr) (n c:Nat) (bl':Bool) (a':Option Addr) (n' c':Nat):Prop where
 below:Below w.heap.size w w1
 k0:w1.cell? ⟨w.heap.size,0,none⟩=some (.bool bl)
 k1:w1.cell? ⟨w.heap.size,1,none⟩=some (.slice a n c)
 l0:w1.cell? ⟨w.heap.size+1,0,none⟩=some (.bool bl')
 l1:w1.cell? ⟨w.heap.size+1,1,none⟩=some (.slice a' n' c')
 r0:w1.cell? ⟨w.heap.size+2,0,none⟩=some (.bool false)
 r1:w1.cell? ⟨w.heap.size+2,1,none⟩=some (.slice none 0 0)
 f0:w1.frozen? ⟨w.heap.size+2,0,none⟩=false
 f1:w1.frozen? ⟨w.heap.size+2,1,none⟩=false
 sz:w.heap.size+2 < w1.heap.size
theorem boxed_mk (w:World) (t:TypeId) (bl:Bool) (a:Option Addr) (n c:Nat) (bl':Bool) (a':Option Addr) (n' c':Nat) :
  Boxed w (((w.alloc (.cells #[.bool bl,.slice a n c] t)).alloc (.cells #[.bool bl',.slice a' n' c'] t)).alloc (.cells #[.bool false,.slice none 0 0] t)) bl a n c bl' a' n' c' :=
 ⟨(((Below.refl w.heap.size w).alloc (Nat.le_refl _) _).alloc (by simp) _).alloc (by simp; omega) _,by simp [go_sem],by simp [go_sem],by simp [go_sem],by simp [go_sem],by simp [go_sem],by simp [go_sem],by simp [go_sem],by simp [go_sem],by simp⟩
theorem Boxed.later {w w1 w2:World} {bl:Bool} {a:Option Addr} {n c:Nat} {bl':Bool} {a':Option Addr} {n' c':Nat} (h:Boxed w w1 bl a n c bl' a' n' c') (hb:Below w1.heap.size w1 w2):Boxed w w2 bl a n c bl' a' n' c':=by
 have hs:=h.sz
 exact ⟨h.below.trans (hb.mono h.below.size),(hb.cell (p:=⟨w.heap.size,0,none⟩) (by show w.heap.size < _; omega)).trans h.k0,(hb.cell (p:=⟨w.heap.size,1,none⟩) (by show w.heap.size < _; omega)).trans h.k1,
  (hb.cell (p:=⟨w.heap.size+1,0,none⟩) (by show w.heap.size+1 < _; omega)).trans h.l0,(hb.cell (p:=⟨w.heap.size+1,1,none⟩) (by show w.heap.size+1 < _; omega)).trans h.l1,
  (hb.cell (p:=⟨w.heap.size+2,0,none⟩) hs).trans h.r0,(hb.cell (p:=⟨w.heap.size+2,1,none⟩) hs).trans h.r1,(hb.frozen (p:=⟨w.heap.size+2,0,none⟩) hs).trans h.f0,(hb.frozen (p:=⟨w.heap.size+2,1,none⟩) hs).trans h.f1,
  Nat.lt_of_lt_of_le hs hb.size⟩
theorem below_undrew {B:Nat} {w w':World} (h:Below B w.drew w'):Below B w w':=⟨h.os,h.tape,h.output,h.size,h.block⟩
theorem Boxed.drew {w w1:World} {bl:Bool} {a:Option Addr} {n c:Nat} {bl':Bool} {a':Option Addr} {n' c':Nat} (h:Boxed w w1 bl a n c bl' a' n' c'):Boxed w w1.drew bl a n c bl' a' n' c':=h.later (Below.refl _ _).drew
/-- What the loads of a region read, in a world of its run. -/
def HS (w:World) (bl:Bool) (a:Option Addr) (n c:Nat) (bl':Bool) (a':Option Addr) (n' c':Nat) (w':World):Prop :=
 w'.cell? ⟨w.heap.size,0,none⟩=some (.bool bl)∧w'.cell? ⟨w.heap.size,1,none⟩=some (.slice a n c)∧w'.cell? ⟨w.heap.size+1,0,none⟩=some (.bool bl')∧w'.cell? ⟨w.heap.size+1,1,none⟩=some (.slice a' n' c')
theorem Boxed.hs {w w1:World} {bl:Bool} {a:Option Addr} {n c:Nat} {bl':Bool} {a':Option Addr} {n' c':Nat} (h:Boxed w w1 bl a n c bl' a' n' c'):HS w bl a n c bl' a' n' c' w1:=⟨h.k0,h.k1,h.l0,h.l1⟩
theorem Boxed.hs2 {w w1:World} {bl:Bool} {a:Option Addr} {n c:Nat} {bl':Bool} {a':Option Addr} {n' c':Nat} (h:Boxed w w1 bl a n c bl' a' n' c') (u v:Value):HS w bl a n c bl' a' n' c' ((w1.setCell ⟨w.heap.size+2,0,none⟩ u).setCell ⟨w.heap.size+2,1,none⟩ v) :=
 ⟨far2 h.k0 (by omega),far2 h.k1 (by omega),far2 h.l0 (by omega),far2 h.l1 (by omega)⟩
theorem sg_mul {bl bl':Bool} {x y:Int} (h:bl=decide (x < 0)) (h':bl'=decide (y < 0)):sg (!(bl == bl')) (x.natAbs*y.natAbs)=x*y:=by
 rw [← Int.natAbs_mul]
 unfold sg
 have e:(x*y).natAbs=x.natAbs*y.natAbs:=Int.natAbs_mul x y
 by_cases hx:x < 0 <;> by_cases hy:y < 0
 ·
  have:0≤x*y:=Int.mul_nonneg_of_nonpos_of_nonpos (by omega) (by omega)
  simp [h,h',hx,hy]; omega
 ·
  have:x*y≤0:=Int.mul_nonpos_of_nonpos_of_nonneg (by omega) (by omega)
  simp [h,h',hx,hy]; omega
 ·
  have:x*y≤0:=Int.mul_nonpos_of_nonneg_of_nonpos (by omega) (by omega)
  simp [h,h',hx,hy]; omega
 ·
  have:0≤x*y:=Int.mul_nonneg (by omega) (by omega)
  simp [h,h',hx,hy]; omega
theorem sg_add1 {bl bl':Bool} {x y:Int} (h:bl=decide (x < 0)) (h':bl'=decide (y < 0)) (hb:(bl == bl')=true):sg bl (x.natAbs+y.natAbs)=x+y:=by
 by_cases hx:x < 0 <;> by_cases hy:y < 0 <;> simp [h,h',hx,hy] at hb <;> simp [sg,h,hx] <;> omega
theorem sg_add2 {bl bl':Bool} {x y:Int} (h:bl=decide (x < 0)) (h':bl'=decide (y < 0)) (hb:(bl == bl')=false) (hc:x.natAbs < y.natAbs):sg bl' (y.natAbs - x.natAbs)=x+y:=by
 by_cases hx:x < 0 <;> by_cases hy:y < 0 <;> simp [h,h',hx,hy] at hb <;> simp [sg,h',hy] <;> omega
theorem sg_add3 {bl bl':Bool} {x y:Int} (h:bl=decide (x < 0)) (h':bl'=decide (y < 0)) (hb:(bl == bl')=false) (hc:¬ x.natAbs < y.natAbs):sg bl (x.natAbs - y.natAbs)=x+y:=by
 by_cases hx:x < 0 <;> by_cases hy:y < 0 <;> simp [h,h',hx,hy] at hb <;> simp [sg,h,hx] <;> omega
end Go.Proofs.YtncbajehmdnibaaDoor

/- The walks of Of, Root, Quo, Small. -/
namespace Go.Proofs.YtncbajehmdnibaaDoor
open Go.RowKit
theorem lmb0 (N:Nat):lmb N 0=N % 4294967296:=by unfold lmb; simp; rfl
theorem lmb1 {N:Nat} (h:N < 18446744073709551616):lmb N 1=N / 4294967296:=by
 unfold lmb; rw [Nat.pow_one]; exact Nat.mod_eq_of_lt (Nat.div_lt_of_lt_mul h)
theorem two_lt {N:Nat} (h:N < 18446744073709551616):N < BB ^ 2:=h
/-- A place for a number that is a result, behind what was there. -/
structure ResAt (w w1:World) (r:Nat):Prop where
 below:Below w.heap.size w w1
 r0:w1.cell? ⟨r,0,none⟩=some (.bool false)
 r1:w1.cell? ⟨r,1,none⟩=some (.slice none 0 0)
 f0:w1.frozen? ⟨r,0,none⟩=false
 f1:w1.frozen? ⟨r,1,none⟩=false
 lo:w.heap.size≤r
 sz:r < w1.heap.size
theorem ResAt.later {w w1 w2:World} {r:Nat} (h:ResAt w w1 r) (hb:Below w1.heap.size w1 w2):ResAt w w2 r :=
 ⟨h.below.trans (hb.mono h.below.size),(hb.cell (p:=⟨r,0,none⟩) h.sz).trans h.r0,(hb.cell (p:=⟨r,1,none⟩) h.sz).trans h.r1,(hb.frozen (p:=⟨r,0,none⟩) h.sz).trans h.f0,(hb.frozen (p:=⟨r,1,none⟩) h.sz).trans h.f1,h.lo,Nat.lt_of_lt_of_le h.sz hb.size⟩
theorem res_mk (w:World) (t:TypeId) (o:Obj):ResAt w ((w.alloc (.cells #[.bool false,.slice none 0 0] t)).alloc o) w.heap.size :=
 ResAt.later (w1:=w.alloc (.cells #[.bool false,.slice none 0 0] t)) ⟨(Below.refl w.heap.size w).alloc (Nat.le_refl _) _,by simp [go_sem],by simp [go_sem],by simp [go_sem],by simp [go_sem],Nat.le_refl _,by simp⟩ ((Below.refl _ _).alloc (Nat.le_refl _) _)
theorem of_neg {z:Int} (hz:z < 0) (h1:-9223372036854775808≤z):IntKind.u64.wrap (-IntKind.u64.wrap z) % 4294967296=((lmb z.natAbs 0:Nat):Int)∧IntKind.u64.wrap (-IntKind.u64.wrap z) / 4294967296 % 4294967296=((lmb z.natAbs 1:Nat):Int):=by
 rw [IntKind.wrap_u64,IntKind.wrap_u64,lmb0,lmb1 (by omega)]
 omega
theorem of_pos {z:Int} (hz:¬ z < 0) (h2:z≤9223372036854775807):z % 4294967296=((lmb z.natAbs 0:Nat):Int)∧z / 4294967296=((lmb z.natAbs 1:Nat):Int):=by
 rw [lmb0,lmb1 (by omega)]
 omega
set_option maxRecDepth 100000 in
set_option maxHeartbeats 800000 in
theorem Of_any (z:Int) (w:World) (h1:-9223372036854775808≤z) (h2:z≤9223372036854775807) :
  Calls Tryd.prog 5 #[.int .i64 z] w (PNum z w):=by
 by_cases hz:z < 0
 ·
  have HE:=Lib.hid (of_neg hz h1)
  go_enter Tryd.func5,Tryd.ntmps5
  go_wp2_with fail
  rw [HE.out.1,HE.out.2]
  have hO:=own_lit2 .u32 38 (w.alloc (.cells #[.bool false,.slice none 0 0] 25)) (lmb z.natAbs 0) (lmb z.natAbs 1) (lmb z.natAbs) rfl rfl
  rw [show (w.alloc (.cells #[.bool false,.slice none 0 0] 25)).heap.size=w.heap.size+1 from by simp] at hO
  have hR:=res_mk w 25 (.cells #[.int .u32 (lmb z.natAbs 0),.int .u32 (lmb z.natAbs 1)] 38)
  generalize (w.alloc (.cells #[.bool false,.slice none 0 0] 25)).alloc (.cells #[.int .u32 (lmb z.natAbs 0),.int .u32 (lmb z.natAbs 1)] 38)=w1 at *
  refine (made_any true _ 2 2 z.natAbs _ (hO.lie (Nat.le_refl _) (by unfold maxLen; omega)) (two_lt (by omega))).mono ?_
  rintro e w3 ⟨bl3,a3,n3,c3,rfl,hnum,haa,hb3⟩
  have hR3:=hR.later hb3
  have rB0:=hR3.r0
  have rB1:=hR3.r1
  have fB0:=hR3.f0
  have fB1:=hR3.f1
  go_wp2
  rw [show sg true z.natAbs=z from by simp [sg]; omega] at hnum
  refine bodyPost_ret (v:=.agg #[.bool bl3,.slice a3 n3 c3]) (by simp [results,Tryd.results5,go_sem,rB0,rB1]) rfl ?_
  refine pnum_store hnum hR3.below (Nat.le_refl _) (fun p hp=>?_)
  rcases haa with h | h
  ·
   rw [h] at hp; cases hp
  ·
   rw [h] at hp; cases hp; show _ < w.heap.size+1; omega
 ·
  have HE:=Lib.hid (of_pos hz h2)
  go_enter Tryd.func5,Tryd.ntmps5
  go_wp2_with fail
  rw [HE.out.1,HE.out.2]
  have hO:=own_lit2 .u32 38 (w.alloc (.cells #[.bool false,.slice none 0 0] 25)) (lmb z.natAbs 0) (lmb z.natAbs 1) (lmb z.natAbs) rfl rfl
  rw [show (w.alloc (.cells #[.bool false,.slice none 0 0] 25)).heap.size=w.heap.size+1 from by simp] at hO
  have hR:=res_mk w 25 (.cells #[.int .u32 (lmb z.natAbs 0),.int .u32 (lmb z.natAbs 1)] 38)
  generalize (w.alloc (.cells #[.bool false,.slice none 0 0] 25)).alloc (.cells #[.int .u32 (lmb z.natAbs 0),.int .u32 (lmb z.natAbs 1)] 38)=w1 at *
  refine (made_any false _ 2 2 z.natAbs _ (hO.lie (Nat.le_refl _) (by unfold maxLen; omega)) (two_lt (by omega))).mono ?_
  rintro e w3 ⟨bl3,a3,n3,c3,rfl,hnum,haa,hb3⟩
  have hR3:=hR.later hb3
  have rB0:=hR3.r0
  have rB1:=hR3.r1
  have fB0:=hR3.f0
  have fB1:=hR3.f1
  go_wp2
  rw [show sg false z.natAbs=z from by simp [sg]; omega] at hnum
  refine bodyPost_ret (v:=.agg #[.bool bl3,.slice a3 n3 c3]) (by simp [results,Tryd.results5,go_sem,rB0,rB1]) rfl ?_
  refine pnum_store hnum hR3.below (Nat.le_refl _) (fun p hp=>?_)
  rcases haa with h | h
  ·
   rw [h] at hp; cases hp
  ·
   rw [h] at hp; cases hp; show _ < w.heap.size+1; omega
end Go.Proofs.YtncbajehmdnibaaDoor

/- The walk of Root. -/
namespace Go.Proofs.YtncbajehmdnibaaDoor
open Go.RowKit
theorem box_res (w:World) (t:TypeId) (o:Obj):ResAt w ((w.alloc o).alloc (.cells #[.bool false,.slice none 0 0] t)) (w.heap.size+1) :=
 ⟨((Below.refl w.heap.size w).alloc (Nat.le_refl _) _).alloc (by simp) _,by simp [go_sem],by simp [go_sem],by simp [go_sem],by simp [go_sem],by omega,by simp⟩
end Go.Proofs.YtncbajehmdnibaaDoor

/- The walk of Quo. -/
namespace Go.Proofs.YtncbajehmdnibaaDoor
open Go.RowKit
/-- Two numbers in boxes of their own, and places for two results that hold what is said, behind what was there. -/
structure QBox (w w1:World) (bl:Bool) (a:Option Addr) (n c:Nat) (bl':Bool) (a':Option Addr) (n' c':Nat) (qb:Bool) (qa:Option Addr) (qn qc:Nat) (rb:Bool) (ra:Option Addr) (rn rc:Nat):Prop where
 below:Below w.heap.size w w1
 k0:w1.cell? ⟨w.heap.size,0,none⟩=some (.bool bl)
 k1:w1.cell? ⟨w.heap.size,1,none⟩=some (.slice a n c)
 l0:w1.cell? ⟨w.heap.size+1,0,none⟩=some (.bool bl')
 l1:w1.cell? ⟨w.heap.size+1,1,none⟩=some (.slice a' n' c')
 q0:w1.cell? ⟨w.heap.size+2,0,none⟩=some (.bool qb)
 q1:w1.cell? ⟨w.heap.size+2,1,none⟩=some (.slice qa qn qc)
 r0:w1.cell? ⟨w.heap.size+3,0,none⟩=some (.bool rb)
 r1:w1.cell? ⟨w.heap.size+3,1,none⟩=some (.slice ra rn rc)
 f0:w1.frozen? ⟨w.heap.size+2,0,none⟩=false
 f1:w1.frozen? ⟨w.heap.size+2,1,none⟩=false
 g0:w1.frozen? ⟨w.heap.size+3,0,none⟩=false
 g1:w1.frozen? ⟨w.heap.size+3,1,none⟩=false
 sz:w.heap.size+3 < w1.heap.size
section
variable {w w1 w2:World} {bl:Bool} {a:Option Addr} {n c:Nat} {bl':Bool} {a':Option Addr} {n' c':Nat} {qb:Bool} {qa:Option Addr} {qn qc:Nat} {rb:Bool} {ra:Option Addr} {rn rc:Nat}
theorem QBox.later (h:QBox w w1 bl a n c bl' a' n' c' qb qa qn qc rb ra rn rc) (hb:Below w1.heap.size w1 w2):QBox w w2 bl a n c bl' a' n' c' qb qa qn qc rb ra rn rc:=by
 have hs:=h.sz
 exact ⟨h.below.trans (hb.mono h.below.size),(hb.cell (p:=⟨w.heap.size,0,none⟩) (by show w.heap.size < _; omega)).trans h.k0,(hb.cell (p:=⟨w.heap.size,1,none⟩) (by show w.heap.size < _; omega)).trans h.k1,
  (hb.cell (p:=⟨w.heap.size+1,0,none⟩) (by show w.heap.size+1 < _; omega)).trans h.l0,(hb.cell (p:=⟨w.heap.size+1,1,none⟩) (by show w.heap.size+1 < _; omega)).trans h.l1,
  (hb.cell (p:=⟨w.heap.size+2,0,none⟩) (by show w.heap.size+2 < _; omega)).trans h.q0,(hb.cell (p:=⟨w.heap.size+2,1,none⟩) (by show w.heap.size+2 < _; omega)).trans h.q1,
  (hb.cell (p:=⟨w.heap.size+3,0,none⟩) hs).trans h.r0,(hb.cell (p:=⟨w.heap.size+3,1,none⟩) hs).trans h.r1,
  (hb.frozen (p:=⟨w.heap.size+2,0,none⟩) (by show w.heap.size+2 < _; omega)).trans h.f0,(hb.frozen (p:=⟨w.heap.size+2,1,none⟩) (by show w.heap.size+2 < _; omega)).trans h.f1,
  (hb.frozen (p:=⟨w.heap.size+3,0,none⟩) hs).trans h.g0,(hb.frozen (p:=⟨w.heap.size+3,1,none⟩) hs).trans h.g1,Nat.lt_of_lt_of_le hs hb.size⟩
theorem QBox.drew (h:QBox w w1 bl a n c bl' a' n' c' qb qa qn qc rb ra rn rc):QBox w w1.drew bl a n c bl' a' n' c' qb qa qn qc rb ra rn rc:=h.later (Below.refl _ _).drew
end
end Go.Proofs.YtncbajehmdnibaaDoor
