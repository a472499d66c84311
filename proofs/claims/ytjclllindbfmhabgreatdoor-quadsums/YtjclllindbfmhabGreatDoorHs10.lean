/- Parts of the proof. -/
import Derived.Test.YtjclllindbfmhabGreatDoorHs9
import Derived.Deep.LoopGhost
import Derived.Test.YtjclllindbfmhabGreatDoorHs4
set_option linter.unusedSimpArgs false
set_option linter.unusedVariables false
namespace Go.Proofs.YtjclllindbfmhabGreatDoor
/- The walks of package long's methods Sign, Cmp, Bits, Neg, Add, Mul. -/
open Go.RowKit
/-- -1, 0, 1. -/
def sgnI (z:Int):Int:=if z < 0 then -1 else if z=0 then 0 else 1
theorem Num.zero_iff {w:World} {bl:Bool} {a:Option Addr} {n c:Nat} {z:Int} (h:Num w bl a n c z):n=0↔z=0:=by
 rw [fit_pos h.fit]; omega
set_option maxHeartbeats 400000 in
theorem Sign_any (bl:Bool) (a:Option Addr) (n c:Nat) (z:Int) (w:World) (h:Num w bl a n c z) :
  Calls Tryz.prog 44 #[.agg #[.bool bl,.slice a n c]] w (PVal (.int .i64 (sgnI z)) w):=by
 have h1:=h.zero_iff
 have h2:=h.sgn
 clear h
 have hB:=(Below.refl w.heap.size w).alloc (Nat.le_refl _) (.cells #[.bool bl,.slice a n c] 30)
 cases bl
 ·
  have hz:¬ z < 0:=by simpa using h2.symm
  by_cases h0:n=0
  ·
   subst h0
   have HR:Hid (sgnI z=0):=by show _=_; unfold sgnI; rw [if_neg hz,if_pos (h1.1 rfl)]
   clear h1 h2 hz
   go_enter Tryz.func44,Tryz.ntmps44
   go_wp2
   go_ret
   exact ⟨ret_int HR.out.symm,hB⟩
  ·
   have HR:Hid (sgnI z=1):=by show _=_; unfold sgnI; rw [if_neg hz,if_neg (fun e=>h0 (h1.2 e))]
   have h0':((n:Int) == 0)=false:=by simpa using h0
   clear h1 h2 hz h0
   go_enter Tryz.func44,Tryz.ntmps44
   go_wp2
   go_ret
   exact ⟨ret_int HR.out.symm,hB⟩
 ·
  have hz:z < 0:=by simpa using h2.symm
  have HR:Hid (sgnI z=-1):=by show _=_; unfold sgnI; rw [if_pos hz]
  clear h1 h2 hz
  go_enter Tryz.func44,Tryz.ntmps44
  go_wp2
  go_ret
  exact ⟨ret_int HR.out.symm,hB⟩
/-- How two numbers stand to one another: -1, 0, 1. -/
def cmpI (x y:Int):Int:=if x < y then -1 else if y < x then 1 else 0
set_option maxHeartbeats 800000 in
theorem Cmp_any (bl:Bool) (a:Option Addr) (n c:Nat) (x:Int) (bl':Bool) (a':Option Addr) (n' c':Nat) (y:Int) (w:World) (h:Num w bl a n c x) (h':Num w bl' a' n' c' y) :
  Calls Tryz.prog 9 #[.agg #[.bool bl,.slice a n c],.agg #[.bool bl',.slice a' n' c']] w (PVal (.int .i64 (cmpI x y)) w):=by
 have hB:=((Below.refl w.heap.size w).alloc (Nat.le_refl _) (.cells #[.bool bl,.slice a n c] 30)).alloc (by simp) (.cells #[.bool bl',.slice a' n' c'] 30)
 have hs:=h.sgn
 have hs':=h'.sgn
 cases bl <;> cases bl'
 ·
  have hx:¬ x < 0:=by simpa using hs.symm
  have hy:¬ y < 0:=by simpa using hs'.symm
  have HR:Hid (cmpN x.natAbs y.natAbs=cmpI x y):=by show _=_; unfold cmpN cmpI; (repeat' split) <;> omega
  clear hs hs' hx hy
  go_enter Tryz.func9,Tryz.ntmps9
  go_wp2_with fail
  refine (compare_any a a' n c n' c' x.natAbs y.natAbs _ (h.lie.below hB) (h'.lie.below hB) h.fit h'.fit).mono ?_
  rintro e w1 ⟨rfl,hb1⟩
  rw [HR.out]
  go_wp2
  go_ret
  exact ⟨rfl,hB.trans (hb1.mono (by simp; omega))⟩
 ·
  have hx:¬ x < 0:=by simpa using hs.symm
  have hy:y < 0:=by simpa using hs'.symm
  have HR:Hid (cmpI x y=1):=by show _=_; unfold cmpI; (repeat' split) <;> omega
  clear hs hs' hx hy
  go_enter Tryz.func9,Tryz.ntmps9
  go_wp2
  go_ret
  exact ⟨ret_int HR.out.symm,hB⟩
 ·
  have hx:x < 0:=by simpa using hs.symm
  have hy:¬ y < 0:=by simpa using hs'.symm
  have HR:Hid (cmpI x y=-1):=by show _=_; unfold cmpI; (repeat' split) <;> omega
  clear hs hs' hx hy
  go_enter Tryz.func9,Tryz.ntmps9
  go_wp2
  go_ret
  exact ⟨ret_int HR.out.symm,hB⟩
 ·
  have hx:x < 0:=by simpa using hs.symm
  have hy:y < 0:=by simpa using hs'.symm
  have HR:Hid (cmpN y.natAbs x.natAbs=cmpI x y):=by show _=_; unfold cmpN cmpI; (repeat' split) <;> omega
  clear hs hs' hx hy
  go_enter Tryz.func9,Tryz.ntmps9
  go_wp2_with fail
  refine (compare_any a' a n' c' n c y.natAbs x.natAbs _ (h'.lie.below hB) (h.lie.below hB) h'.fit h.fit).mono ?_
  rintro e w1 ⟨rfl,hb1⟩
  rw [HR.out]
  go_wp2
  go_ret
  exact ⟨rfl,hB.trans (hb1.mono (by simp; omega))⟩
theorem only2 (w:World) (b:Nat) (u v:Value):Only b w ((w.setCell ⟨b,0,none⟩ u).setCell ⟨b,1,none⟩ v):=(Only.setCell w b 0 u).trans (Only.setCell _ b 1 v)
theorem far2 {w:World} {b b' o:Nat} {u v x:Value} (h:w.cell? ⟨b,o,none⟩=some x) (hne:b ≠ b'):((w.setCell ⟨b',0,none⟩ u).setCell ⟨b',1,none⟩ v).cell? ⟨b,o,none⟩=some x :=
 (World.cell?_of_block (w:=w) (a:=⟨b,o,none⟩) ((only2 w b' u v).block b hne)).trans h
theorem Num.only {w w':World} {bl:Bool} {a:Option Addr} {n c g:Nat} {z:Int} (h:Num w bl a n c z) (ho:Only g w w') (hg:∀ p,a=some p→p.block ≠ g):Num w' bl a n c z:=⟨h.lie.only ho hg,h.fit,h.sgn⟩
theorem sg_not {bl:Bool} {z:Int} (h:bl=decide (z < 0)):sg (!bl) z.natAbs=-z:=by
 subst h
 by_cases hz:z < 0
 ·
  simp [sg,hz]; omega
 ·
  simp [sg,hz]; omega
/-- Behind a store of a number into a result's block: it is handed back. -/
theorem pnum_store {w w3:World} {bl:Bool} {a:Option Addr} {n c r:Nat} {z:Int} (hn:Num w3 bl a n c z) (hB:Below w.heap.size w w3) (hr:w.heap.size≤r) (hfr:∀ p,a=some p→r < p.block) :
  PNum z w (.returned (.agg #[.bool bl,.slice a n c])) ((w3.setCell ⟨r,0,none⟩ (.bool bl)).setCell ⟨r,1,none⟩ (.slice a n c)) :=
 ⟨bl,a,n,c,rfl,hn.only (only2 _ _ _ _) (fun p hp=>by have:=hfr p hp; omega),(fun p hp=>by have:=hfr p hp; omega),hB.trans ((only2 _ _ _ _).below hr)⟩
set_option maxHeartbeats 800000 in
theorem Neg_any (bl:Bool) (a:Option Addr) (n c:Nat) (z:Int) (w:World) (h:Num w bl a n c z) (hn:n≤10000000) :
  Calls Tryz.prog 53 #[.agg #[.bool bl,.slice a n c]] w (PNum (-z) w):=by
 have hl:=h.lie
 have hf:=Lib.hid h.fit
 have hsg:=Lib.hid h.sgn
 clear h
 go_enter Tryz.func53,Tryz.ntmps53
 go_wp2
 have hB:=((Below.refl w.heap.size w).alloc (Nat.le_refl _) (.cells #[.bool bl,.slice a n c] 30)).alloc (by simp) (.cells #[.bool false,.slice none 0 0] 30)
 obtain ⟨w1,hw1⟩:∃ w1,w1=(w.alloc (.cells #[.bool bl,.slice a n c] 30)).alloc (.cells #[.bool false,.slice none 0 0] 30):=⟨_,rfl⟩
 have k0:w1.cell? ⟨w.heap.size,0,none⟩=some (.bool bl):=by rw [hw1]; simp
 have k1:w1.cell? ⟨w.heap.size,1,none⟩=some (.slice a n c):=by rw [hw1]; simp
 have r0:w1.cell? ⟨w.heap.size+1,0,none⟩=some (.bool false):=by rw [hw1]; simp
 have r1:w1.cell? ⟨w.heap.size+1,1,none⟩=some (.slice none 0 0):=by rw [hw1]; simp
 have f0:w1.frozen? ⟨w.heap.size+1,0,none⟩=false:=by rw [hw1]; simp
 have f1:w1.frozen? ⟨w.heap.size+1,1,none⟩=false:=by rw [hw1]; simp
 have hsz:w1.heap.size=w.heap.size+2:=by rw [hw1]; simp
 rw [← hw1] at hB ⊢
 clear hw1
 have hsz':w.heap.size+1 < w1.heap.size:=by omega
 clear hsz
 go_region_held3 (fun w'=>w'.cell? ⟨w.heap.size,0,none⟩=some (.bool bl)∧w'.cell? ⟨w.heap.size,1,none⟩=some (.slice a n c)∧Below w.heap.size w w')
  (first | exact ⟨k0,k1,hB.drew⟩ | exact ⟨kA0,kA1,hBA⟩ | exact ⟨kB0,kB1,hBB⟩ | exact ⟨far2 kB0 (by omega),far2 kB1 (by omega),hBB.trans ((only2 _ _ _ _).below (by omega))⟩)
  (first
   | (go_at_call 70; refine (copied_any a n c (lmb z.natAbs) _ (hl.below hB.drew) (by omega)).mono ?_; rintro e w2 ⟨g,rfl,hg,hown,hb2⟩; have hb2':Below w1.heap.size w1 w2:=⟨hb2.os,hb2.tape,hb2.output,hb2.size,hb2.block⟩; have kA0:=(hb2'.cell (p:=⟨w.heap.size,0,none⟩) (by show w.heap.size < _; omega)).trans k0; have kA1:=(hb2'.cell (p:=⟨w.heap.size,1,none⟩) (by show w.heap.size < _; omega)).trans k1; have hBA:=hB.trans (hb2'.mono hB.size))
   | (go_at_call 36; refine (made_any (!bl) _ n n z.natAbs _ (hown.lie (Nat.le_refl _) (by unfold maxLen; omega)) hf.out.1).mono ?_; rintro e w3 ⟨bl',a',n',c',rfl,hnum,haa,hb3⟩; have hb13:=hb2'.trans (hb3.mono hb2'.size); have kB0:=(hb13.cell (p:=⟨w.heap.size,0,none⟩) (by show w.heap.size < _; omega)).trans k0; have kB1:=(hb13.cell (p:=⟨w.heap.size,1,none⟩) (by show w.heap.size < _; omega)).trans k1; have hBB:=hB.trans (hb13.mono hB.size); have rB0:=(hb13.cell (p:=⟨w.heap.size+1,0,none⟩) hsz').trans r0; have rB1:=(hb13.cell (p:=⟨w.heap.size+1,1,none⟩) hsz').trans r1; have fB0:=(hb13.frozen (p:=⟨w.heap.size+1,0,none⟩) hsz').trans f0; have fB1:=(hb13.frozen (p:=⟨w.heap.size+1,1,none⟩) hsz').trans f1))
 go_wp2
 rw [sg_not hsg.out] at hnum
 refine bodyPost_ret (v:=.agg #[.bool bl',.slice a' n' c']) (by simp [results,Tryz.results53,go_sem,rB0,rB1]) rfl ?_
 refine pnum_store hnum hBB (by omega) (fun p hp=>?_)
 rcases haa with h | h
 ·
  rw [h] at hp; cases hp
 ·
  rw [h] at hp; cases hp; have:=hb2'.size; show _ < g; have hg':w1.heap.size≤g:=hg; omega
end Go.Proofs.YtjclllindbfmhabGreatDoor

namespace Go.Proofs.YtjclllindbfmhabGreatDoor
/- The walks of Mul, Add, Sub. -/
open Go.RowKit
/-- Two numbers in boxes of their own, and a place for the result, behind what was there. -/
structure Boxed (w w1:World) (bl:Bool) (a:Option Addr) (n c:Nat) (bl':Bool) (a':Option Addr) (n' c':Nat):Prop where
 below:Below w.heap.size w w1
 k0:w1.cell? ⟨w.heap.size,0,none⟩=some (.bool bl)
 k1:w1.cell? ⟨w.heap.size,1,none⟩=some (.slice a n c)
 l0:w1.cell? ⟨w.heap.size+1,0,none⟩=some (.bool bl')
 l1:w1.cell? ⟨w.heap.size+1,1,none⟩=some (.slice a' n' c')
 r0:w1.cell? ⟨w.heap.size+2,0,none⟩=some (.bool false)
 r1:w1.cell? ⟨w.heap.size+2,1,none⟩=some (.slice none 0 0)
 f0:w1.frozen? ⟨w.heap.size+2,0,none⟩=false
 f1:w1.frozen? ⟨w.heap.size+2,1,none⟩=false
 sz:w.heap.size+2 < w1.heap.size
theorem boxed_mk (w:World) (t:TypeId) (bl:Bool) (a:Option Addr) (n c:Nat) (bl':Bool) (a':Option Addr) (n' c':Nat) :
  Boxed w (((w.alloc (.cells #[.bool bl,.slice a n c] t)).alloc (.cells #[.bool bl',.slice a' n' c'] t)).alloc (.cells #[.bool false,.slice none 0 0] t)) bl a n c bl' a' n' c' :=
 ⟨(((Below.refl w.heap.size w).alloc (Nat.le_refl _) _).alloc (by simp) _).alloc (by simp; omega) _,by simp [go_sem],by simp [go_sem],by simp [go_sem],by simp [go_sem],by simp [go_sem],by simp [go_sem],by simp [go_sem],by simp [go_sem],by simp⟩
theorem Boxed.later {w w1 w2:World} {bl:Bool} {a:Option Addr} {n c:Nat} {bl':Bool} {a':Option Addr} {n' c':Nat} (h:Boxed w w1 bl a n c bl' a' n' c') (hb:Below w1.heap.size w1 w2):Boxed w w2 bl a n c bl' a' n' c':=by
 have hs:=h.sz
 exact ⟨h.below.trans (hb.mono h.below.size),(hb.cell (p:=⟨w.heap.size,0,none⟩) (by show w.heap.size < _; omega)).trans h.k0,(hb.cell (p:=⟨w.heap.size,1,none⟩) (by show w.heap.size < _; omega)).trans h.k1,
  (hb.cell (p:=⟨w.heap.size+1,0,none⟩) (by show w.heap.size+1 < _; omega)).trans h.l0,(hb.cell (p:=⟨w.heap.size+1,1,none⟩) (by show w.heap.size+1 < _; omega)).trans h.l1,
  (hb.cell (p:=⟨w.heap.size+2,0,none⟩) hs).trans h.r0,(hb.cell (p:=⟨w.heap.size+2,1,none⟩) hs).trans h.r1,(hb.frozen (p:=⟨w.heap.size+2,0,none⟩) hs).trans h.f0,(hb.frozen (p:=⟨w.heap.size+2,1,none⟩) hs).trans h.f1,
  Nat.lt_of_lt_of_le hs hb.size⟩
theorem below_undrew {B:Nat} {w w':World} (h:Below B w.drew w'):Below B w w':=⟨h.os,h.tape,h.output,h.size,h.block⟩
theorem Boxed.drew {w w1:World} {bl:Bool} {a:Option Addr} {n c:Nat} {bl':Bool} {a':Option Addr} {n' c':Nat} (h:Boxed w w1 bl a n c bl' a' n' c'):Boxed w w1.drew bl a n c bl' a' n' c':=h.later (Below.refl _ _).drew
/-- What the loads of a region read, in a world of its run. -/
def HS (w:World) (bl:Bool) (a:Option Addr) (n c:Nat) (bl':Bool) (a':Option Addr) (n' c':Nat) (w':World):Prop :=
 w'.cell? ⟨w.heap.size,0,none⟩=some (.bool bl)∧w'.cell? ⟨w.heap.size,1,none⟩=some (.slice a n c)∧w'.cell? ⟨w.heap.size+1,0,none⟩=some (.bool bl')∧w'.cell? ⟨w.heap.size+1,1,none⟩=some (.slice a' n' c')
theorem Boxed.hs {w w1:World} {bl:Bool} {a:Option Addr} {n c:Nat} {bl':Bool} {a':Option Addr} {n' c':Nat} (h:Boxed w w1 bl a n c bl' a' n' c'):HS w bl a n c bl' a' n' c' w1:=⟨h.k0,h.k1,h.l0,h.l1⟩
theorem Boxed.hs2 {w w1:World} {bl:Bool} {a:Option Addr} {n c:Nat} {bl':Bool} {a':Option Addr} {n' c':Nat} (h:Boxed w w1 bl a n c bl' a' n' c') (u v:Value):HS w bl a n c bl' a' n' c' ((w1.setCell ⟨w.heap.size+2,0,none⟩ u).setCell ⟨w.heap.size+2,1,none⟩ v) :=
 ⟨far2 h.k0 (by omega),far2 h.k1 (by omega),far2 h.l0 (by omega),far2 h.l1 (by omega)⟩
theorem sg_mul {bl bl':Bool} {x y:Int} (h:bl=decide (x < 0)) (h':bl'=decide (y < 0)):sg (!(bl == bl')) (x.natAbs*y.natAbs)=x*y:=by
 rw [← Int.natAbs_mul]
 unfold sg
 have e:(x*y).natAbs=x.natAbs*y.natAbs:=Int.natAbs_mul x y
 by_cases hx:x < 0 <;> by_cases hy:y < 0
 ·
  have:0≤x*y:=Int.mul_nonneg_of_nonpos_of_nonpos (by omega) (by omega)
  simp [h,h',hx,hy]; omega
 ·
  have:x*y≤0:=Int.mul_nonpos_of_nonpos_of_nonneg (by omega) (by omega)
  simp [h,h',hx,hy]; omega
 ·
  have:x*y≤0:=Int.mul_nonpos_of_nonneg_of_nonpos (by omega) (by omega)
  simp [h,h',hx,hy]; omega
 ·
  have:0≤x*y:=Int.mul_nonneg (by omega) (by omega)
  simp [h,h',hx,hy]; omega
set_option maxHeartbeats 1600000 in
theorem Mul_any (bl:Bool) (a:Option Addr) (n c:Nat) (x:Int) (bl':Bool) (a':Option Addr) (n' c':Nat) (y:Int) (w:World) (h:Num w bl a n c x) (h':Num w bl' a' n' c' y) (hn:n≤10000000) (hn':n'≤10000000) :
  Calls Tryz.prog 12 #[.agg #[.bool bl,.slice a n c],.agg #[.bool bl',.slice a' n' c']] w (PNum (x*y) w):=by
 have hfx:=Lib.hid h.fit
 have hfy:=Lib.hid h'.fit
 have hsg:=Lib.hid (sg_mul h.sgn h'.sgn)
 have hl:=h.lie
 have hl':=h'.lie
 clear h h'
 go_enter Tryz.func12,Tryz.ntmps12
 go_wp2
 have hX1:=boxed_mk w 30 bl a n c bl' a' n' c'
 generalize ((w.alloc (.cells #[.bool bl,.slice a n c] 30)).alloc (.cells #[.bool bl',.slice a' n' c'] 30)).alloc (.cells #[.bool false,.slice none 0 0] 30)=w1 at *
 go_region_held3 (fun w'=>w'.cell? ⟨w.heap.size,0,none⟩=some (.bool bl)∧w'.cell? ⟨w.heap.size,1,none⟩=some (.slice a n c)∧w'.cell? ⟨w.heap.size+1,0,none⟩=some (.bool bl')∧w'.cell? ⟨w.heap.size+1,1,none⟩=some (.slice a' n' c'))
  (first | exact hX1.drew.hs | exact hX1.hs | exact hX2.hs | exact hX3.hs | exact hX3.hs2 _ _)
  (first
   | (go_at_call 39; refine (product_any a a' n c n' c' x.natAbs y.natAbs _ (hl.below hX1.drew.below) (hl'.below hX1.drew.below) hfx.out hfy.out (by omega) (by omega)).mono ?_; rintro e w2 ⟨a2,n2,c2,rfl,hl2,hf2,hfr2,hb2⟩; have hX2:=hX1.later (below_undrew hb2))
   | (go_at_call 36; refine (made_any _ _ n2 c2 _ _ hl2 hf2.1).mono ?_; rintro e w3 ⟨bl3,a3,n3,c3,rfl,hnum,haa,hb3⟩; have hX3:=hX2.later hb3; have rB0:=hX3.r0; have rB1:=hX3.r1; have fB0:=hX3.f0; have fB1:=hX3.f1))
 go_wp2
 rw [hsg.out] at hnum
 refine bodyPost_ret (v:=.agg #[.bool bl3,.slice a3 n3 c3]) (by simp [results,Tryz.results12,go_sem,rB0,rB1]) rfl ?_
 refine pnum_store hnum hX3.below (by omega) (fun p hp=>?_)
 rcases haa with h | h
 ·
  rw [h] at hp; cases hp
 ·
  rw [h] at hp; have h1:=hfr2 p hp; have h2:=hX1.sz; have h3:w1.heap.size≤p.block:=h1; omega
theorem sg_add1 {bl bl':Bool} {x y:Int} (h:bl=decide (x < 0)) (h':bl'=decide (y < 0)) (hb:(bl == bl')=true):sg bl (x.natAbs+y.natAbs)=x+y:=by
 by_cases hx:x < 0 <;> by_cases hy:y < 0 <;> simp [h,h',hx,hy] at hb <;> simp [sg,h,hx] <;> omega
theorem sg_add2 {bl bl':Bool} {x y:Int} (h:bl=decide (x < 0)) (h':bl'=decide (y < 0)) (hb:(bl == bl')=false) (hc:x.natAbs < y.natAbs):sg bl' (y.natAbs - x.natAbs)=x+y:=by
 by_cases hx:x < 0 <;> by_cases hy:y < 0 <;> simp [h,h',hx,hy] at hb <;> simp [sg,h',hy] <;> omega
theorem sg_add3 {bl bl':Bool} {x y:Int} (h:bl=decide (x < 0)) (h':bl'=decide (y < 0)) (hb:(bl == bl')=false) (hc:¬ x.natAbs < y.natAbs):sg bl (x.natAbs - y.natAbs)=x+y:=by
 by_cases hx:x < 0 <;> by_cases hy:y < 0 <;> simp [h,h',hx,hy] at hb <;> simp [sg,h,hx] <;> omega
theorem cmp_lt {A B:Nat}:decide (cmpN A B < 0)=decide (A < B):=by
 unfold cmpN
 by_cases h:A < B
 ·
  rw [if_pos h]; simp [h]
 ·
  rw [if_neg h]; by_cases h2:B < A
  ·
   rw [if_pos h2]; simp; omega
  ·
   rw [if_neg h2]; simp; omega
set_option maxHeartbeats 1600000 in
theorem Add_any (bl:Bool) (a:Option Addr) (n c:Nat) (x:Int) (bl':Bool) (a':Option Addr) (n' c':Nat) (y:Int) (w:World) (h:Num w bl a n c x) (h':Num w bl' a' n' c' y) (hn:n≤10000000) (hn':n'≤10000000) :
  Calls Tryz.prog 11 #[.agg #[.bool bl,.slice a n c],.agg #[.bool bl',.slice a' n' c']] w (PNum (x+y) w):=by
 have hfx:=Lib.hid h.fit
 have hfy:=Lib.hid h'.fit
 have hsx:=Lib.hid h.sgn
 have hsy:=Lib.hid h'.sgn
 have hl:=h.lie
 have hl':=h'.lie
 clear h h'
 by_cases hbb:(bl == bl')=true
 ·
  have hsg:=Lib.hid (sg_add1 hsx.out hsy.out hbb)
  go_enter Tryz.func11,Tryz.ntmps11
  go_wp2
  have hX1:=boxed_mk w 30 bl a n c bl' a' n' c'
  generalize ((w.alloc (.cells #[.bool bl,.slice a n c] 30)).alloc (.cells #[.bool bl',.slice a' n' c'] 30)).alloc (.cells #[.bool false,.slice none 0 0] 30)=w1 at *
  go_region_held3 (fun w'=>w'.cell? ⟨w.heap.size,0,none⟩=some (.bool bl)∧w'.cell? ⟨w.heap.size,1,none⟩=some (.slice a n c)∧w'.cell? ⟨w.heap.size+1,0,none⟩=some (.bool bl')∧w'.cell? ⟨w.heap.size+1,1,none⟩=some (.slice a' n' c'))
   (first | exact hX1.drew.hs | exact hX1.hs | exact hX2.hs | exact hX3.hs | exact hX3.hs2 _ _)
   (first
    | (go_at_call 37; refine (sum_any a a' n c n' c' x.natAbs y.natAbs _ (hl.below hX1.drew.below) (hl'.below hX1.drew.below) hfx.out hfy.out (by omega) (by omega)).mono ?_; rintro e w2 ⟨a2,n2,c2,rfl,hl2,hf2,hfr2,hb2⟩; have hX2:=hX1.later (below_undrew hb2))
    | (go_at_call 36; refine (made_any _ _ n2 c2 _ _ hl2 hf2.1).mono ?_; rintro e w3 ⟨bl3,a3,n3,c3,rfl,hnum,haa,hb3⟩; have hX3:=hX2.later hb3; have rB0:=hX3.r0; have rB1:=hX3.r1; have fB0:=hX3.f0; have fB1:=hX3.f1))
  go_wp2
  rw [hsg.out] at hnum
  refine bodyPost_ret (v:=.agg #[.bool bl3,.slice a3 n3 c3]) (by simp [results,Tryz.results11,go_sem,rB0,rB1]) rfl ?_
  refine pnum_store hnum hX3.below (by omega) (fun p hp=>?_)
  rcases haa with h | h
  ·
   rw [h] at hp; cases hp
  ·
   rw [h] at hp; have h1:=hfr2 p hp; have h2:=hX1.sz; have h3:w1.heap.size≤p.block:=h1; omega
 ·
  have hbb':(bl == bl')=false:=by simpa using hbb
  clear hbb
  go_enter Tryz.func11,Tryz.ntmps11
  go_wp2_with fail
  have hX1:=boxed_mk w 30 bl a n c bl' a' n' c'
  generalize ((w.alloc (.cells #[.bool bl,.slice a n c] 30)).alloc (.cells #[.bool bl',.slice a' n' c'] 30)).alloc (.cells #[.bool false,.slice none 0 0] 30)=w1 at *
  refine (compare_any a a' n c n' c' x.natAbs y.natAbs _ (hl.below hX1.below) (hl'.below hX1.below) hfx.out hfy.out).mono ?_
  rintro e w1' ⟨rfl,hbc⟩
  have hX1':=hX1.later hbc
  have hcl:=cmp_lt (A:=x.natAbs) (B:=y.natAbs)
  clear hX1 hbc
  by_cases hc:x.natAbs < y.natAbs
  ·
   have hcd:decide (cmpN x.natAbs y.natAbs < 0)=true:=by rw [hcl]; exact decide_eq_true hc
   have hsg:=Lib.hid (sg_add2 hsx.out hsy.out hbb' hc)
   have HC:=Lib.hid hc
   clear hcl hc
   generalize hcc:cmpN x.natAbs y.natAbs=cc at *
   clear hcc
   go_wp2
   go_region_held3 (fun w'=>w'.cell? ⟨w.heap.size,0,none⟩=some (.bool bl)∧w'.cell? ⟨w.heap.size,1,none⟩=some (.slice a n c)∧w'.cell? ⟨w.heap.size+1,0,none⟩=some (.bool bl')∧w'.cell? ⟨w.heap.size+1,1,none⟩=some (.slice a' n' c'))
    (first | exact hX1'.drew.hs | exact hX1'.hs | exact hX2.hs | exact hX3.hs | exact hX3.hs2 _ _)
    (first
     | (go_at_call 38; refine (difference_any a' a n' c' n c y.natAbs x.natAbs _ (hl'.below hX1'.drew.below) (hl.below hX1'.drew.below) hfy.out hfx.out (Nat.le_of_lt HC.out) (by omega)).mono ?_; rintro e w2 ⟨a2,n2,c2,rfl,hl2,hf2,hfr2,hb2⟩; have hX2:=hX1'.later (below_undrew hb2))
     | (go_at_call 36; refine (made_any _ _ n2 c2 _ _ hl2 hf2.1).mono ?_; rintro e w3 ⟨bl3,a3,n3,c3,rfl,hnum,haa,hb3⟩; have hX3:=hX2.later hb3; have rB0:=hX3.r0; have rB1:=hX3.r1; have fB0:=hX3.f0; have fB1:=hX3.f1))
   go_wp2
   rw [hsg.out] at hnum
   refine bodyPost_ret (v:=.agg #[.bool bl3,.slice a3 n3 c3]) (by simp [results,Tryz.results11,go_sem,rB0,rB1]) rfl ?_
   refine pnum_store hnum hX3.below (by omega) (fun p hp=>?_)
   rcases haa with h | h
   ·
    rw [h] at hp; cases hp
   ·
    rw [h] at hp; have h1:=hfr2 p hp; have h2:=hX1'.sz; have h3:w1'.heap.size≤p.block:=h1; omega
  ·
   have hcd:decide (cmpN x.natAbs y.natAbs < 0)=false:=by rw [hcl]; exact decide_eq_false hc
   have hsg:=Lib.hid (sg_add3 hsx.out hsy.out hbb' hc)
   have HC:=Lib.hid hc
   clear hcl hc
   generalize hcc:cmpN x.natAbs y.natAbs=cc at *
   clear hcc
   go_wp2
   go_region_held3 (fun w'=>w'.cell? ⟨w.heap.size,0,none⟩=some (.bool bl)∧w'.cell? ⟨w.heap.size,1,none⟩=some (.slice a n c)∧w'.cell? ⟨w.heap.size+1,0,none⟩=some (.bool bl')∧w'.cell? ⟨w.heap.size+1,1,none⟩=some (.slice a' n' c'))
    (first | exact hX1'.drew.hs | exact hX1'.hs | exact hX2.hs | exact hX3.hs | exact hX3.hs2 _ _)
    (first
     | (go_at_call 38; refine (difference_any a a' n c n' c' x.natAbs y.natAbs _ (hl.below hX1'.drew.below) (hl'.below hX1'.drew.below) hfx.out hfy.out (Nat.le_of_not_lt HC.out) (by omega)).mono ?_; rintro e w2 ⟨a2,n2,c2,rfl,hl2,hf2,hfr2,hb2⟩; have hX2:=hX1'.later (below_undrew hb2))
     | (go_at_call 36; refine (made_any _ _ n2 c2 _ _ hl2 hf2.1).mono ?_; rintro e w3 ⟨bl3,a3,n3,c3,rfl,hnum,haa,hb3⟩; have hX3:=hX2.later hb3; have rB0:=hX3.r0; have rB1:=hX3.r1; have fB0:=hX3.f0; have fB1:=hX3.f1))
   go_wp2
   rw [hsg.out] at hnum
   refine bodyPost_ret (v:=.agg #[.bool bl3,.slice a3 n3 c3]) (by simp [results,Tryz.results11,go_sem,rB0,rB1]) rfl ?_
   refine pnum_store hnum hX3.below (by omega) (fun p hp=>?_)
   rcases haa with h | h
   ·
    rw [h] at hp; cases hp
   ·
    rw [h] at hp; have h1:=hfr2 p hp; have h2:=hX1'.sz; have h3:w1'.heap.size≤p.block:=h1; omega
set_option maxHeartbeats 1600000 in
theorem Sub_any (bl:Bool) (a:Option Addr) (n c:Nat) (x:Int) (bl':Bool) (a':Option Addr) (n' c':Nat) (y:Int) (w:World) (h:Num w bl a n c x) (h':Num w bl' a' n' c' y) (hn:n≤10000000) (hn':n'≤10000000) :
  Calls Tryz.prog 35 #[.agg #[.bool bl,.slice a n c],.agg #[.bool bl',.slice a' n' c']] w (PNum (x - y) w):=by
 have H:=Lib.hid h
 have H':=Lib.hid h'
 clear h h'
 go_enter Tryz.func35,Tryz.ntmps35
 go_wp2
 have hX1:=boxed_mk w 30 bl a n c bl' a' n' c'
 generalize ((w.alloc (.cells #[.bool bl,.slice a n c] 30)).alloc (.cells #[.bool bl',.slice a' n' c'] 30)).alloc (.cells #[.bool false,.slice none 0 0] 30)=w1 at *
 go_region_held3 (fun w'=>w'.cell? ⟨w.heap.size,0,none⟩=some (.bool bl)∧w'.cell? ⟨w.heap.size,1,none⟩=some (.slice a n c)∧w'.cell? ⟨w.heap.size+1,0,none⟩=some (.bool bl')∧w'.cell? ⟨w.heap.size+1,1,none⟩=some (.slice a' n' c'))
  (first | exact hX1.drew.hs | exact hX1.hs | exact hX2.hs | exact hX3.hs | exact hX3.hs2 _ _)
  (first
   | (go_at_call 53; refine (Neg_any bl' a' n' c' y _ (H'.out.below hX1.drew.below) hn').mono ?_; rintro e w2 ⟨bl2,a2,n2,c2,rfl,hN2,hfr2,hb2⟩; have hX2:=hX1.later (below_undrew hb2); have hn2:n2≤10000000:=Nat.le_trans (Nat.le_of_eq (fit_uniq hN2.fit (by rw [Int.natAbs_neg]; exact H'.out.fit))) hn')
   | (go_at_call 11; refine (Add_any bl a n c x bl2 a2 n2 c2 (-y) _ (H.out.below hX2.below) hN2 hn hn2).mono ?_; rintro e w3 ⟨bl3,a3,n3,c3,rfl,hnum,hfr3,hb3⟩; have hX3:=hX2.later hb3; have rB0:=hX3.r0; have rB1:=hX3.r1; have fB0:=hX3.f0; have fB1:=hX3.f1))
 go_wp2
 rw [← Int.sub_eq_add_neg] at hnum
 refine bodyPost_ret (v:=.agg #[.bool bl3,.slice a3 n3 c3]) (by simp [results,Tryz.results35,go_sem,rB0,rB1]) rfl ?_
 refine pnum_store hnum hX3.below (by omega) (fun p hp=>?_)
 have h1:=hfr3 p hp; have h2:=hX2.sz; omega
end Go.Proofs.YtjclllindbfmhabGreatDoor

namespace Go.Proofs.YtjclllindbfmhabGreatDoor
/- The walks of Of, Root, Quo, Small. -/
open Go.RowKit
theorem lmb0 (N:Nat):lmb N 0=N % 4294967296:=by unfold lmb; simp; rfl
theorem lmb1 {N:Nat} (h:N < 18446744073709551616):lmb N 1=N / 4294967296:=by
 unfold lmb; rw [Nat.pow_one]; exact Nat.mod_eq_of_lt (Nat.div_lt_of_lt_mul h)
theorem two_lt {N:Nat} (h:N < 18446744073709551616):N < BB ^ 2:=h
/-- A place for a number that is a result, behind what was there. -/
structure ResAt (w w1:World) (r:Nat):Prop where
 below:Below w.heap.size w w1
 r0:w1.cell? ⟨r,0,none⟩=some (.bool false)
 r1:w1.cell? ⟨r,1,none⟩=some (.slice none 0 0)
 f0:w1.frozen? ⟨r,0,none⟩=false
 f1:w1.frozen? ⟨r,1,none⟩=false
 lo:w.heap.size≤r
 sz:r < w1.heap.size
theorem ResAt.later {w w1 w2:World} {r:Nat} (h:ResAt w w1 r) (hb:Below w1.heap.size w1 w2):ResAt w w2 r :=
 ⟨h.below.trans (hb.mono h.below.size),(hb.cell (p:=⟨r,0,none⟩) h.sz).trans h.r0,(hb.cell (p:=⟨r,1,none⟩) h.sz).trans h.r1,(hb.frozen (p:=⟨r,0,none⟩) h.sz).trans h.f0,(hb.frozen (p:=⟨r,1,none⟩) h.sz).trans h.f1,h.lo,Nat.lt_of_lt_of_le h.sz hb.size⟩
theorem res_mk (w:World) (t:TypeId) (o:Obj):ResAt w ((w.alloc (.cells #[.bool false,.slice none 0 0] t)).alloc o) w.heap.size :=
 ResAt.later (w1:=w.alloc (.cells #[.bool false,.slice none 0 0] t)) ⟨(Below.refl w.heap.size w).alloc (Nat.le_refl _) _,by simp [go_sem],by simp [go_sem],by simp [go_sem],by simp [go_sem],Nat.le_refl _,by simp⟩ ((Below.refl _ _).alloc (Nat.le_refl _) _)
theorem of_neg {z:Int} (hz:z < 0) (h1:-9223372036854775808≤z):IntKind.u64.wrap (-IntKind.u64.wrap z) % 4294967296=((lmb z.natAbs 0:Nat):Int)∧IntKind.u64.wrap (-IntKind.u64.wrap z) / 4294967296 % 4294967296=((lmb z.natAbs 1:Nat):Int):=by
 rw [IntKind.wrap_u64,IntKind.wrap_u64,lmb0,lmb1 (by omega)]
 omega
theorem of_pos {z:Int} (hz:¬ z < 0) (h2:z≤9223372036854775807):z % 4294967296=((lmb z.natAbs 0:Nat):Int)∧z / 4294967296=((lmb z.natAbs 1:Nat):Int):=by
 rw [lmb0,lmb1 (by omega)]
 omega
set_option maxRecDepth 100000 in
set_option maxHeartbeats 800000 in
theorem Of_any (z:Int) (w:World) (h1:-9223372036854775808≤z) (h2:z≤9223372036854775807) :
  Calls Tryz.prog 30 #[.int .i64 z] w (PNum z w):=by
 by_cases hz:z < 0
 ·
  have HE:=Lib.hid (of_neg hz h1)
  go_enter Tryz.func30,Tryz.ntmps30
  go_wp2_with fail
  rw [HE.out.1,HE.out.2]
  have hO:=own_lit2 .u32 98 (w.alloc (.cells #[.bool false,.slice none 0 0] 30)) (lmb z.natAbs 0) (lmb z.natAbs 1) (lmb z.natAbs) rfl rfl
  rw [show (w.alloc (.cells #[.bool false,.slice none 0 0] 30)).heap.size=w.heap.size+1 from by simp] at hO
  have hR:=res_mk w 30 (.cells #[.int .u32 (lmb z.natAbs 0),.int .u32 (lmb z.natAbs 1)] 98)
  generalize (w.alloc (.cells #[.bool false,.slice none 0 0] 30)).alloc (.cells #[.int .u32 (lmb z.natAbs 0),.int .u32 (lmb z.natAbs 1)] 98)=w1 at *
  refine (made_any true _ 2 2 z.natAbs _ (hO.lie (Nat.le_refl _) (by unfold maxLen; omega)) (two_lt (by omega))).mono ?_
  rintro e w3 ⟨bl3,a3,n3,c3,rfl,hnum,haa,hb3⟩
  have hR3:=hR.later hb3
  have rB0:=hR3.r0
  have rB1:=hR3.r1
  have fB0:=hR3.f0
  have fB1:=hR3.f1
  go_wp2
  rw [show sg true z.natAbs=z from by simp [sg]; omega] at hnum
  refine bodyPost_ret (v:=.agg #[.bool bl3,.slice a3 n3 c3]) (by simp [results,Tryz.results30,go_sem,rB0,rB1]) rfl ?_
  refine pnum_store hnum hR3.below (Nat.le_refl _) (fun p hp=>?_)
  rcases haa with h | h
  ·
   rw [h] at hp; cases hp
  ·
   rw [h] at hp; cases hp; show _ < w.heap.size+1; omega
 ·
  have HE:=Lib.hid (of_pos hz h2)
  go_enter Tryz.func30,Tryz.ntmps30
  go_wp2_with fail
  rw [HE.out.1,HE.out.2]
  have hO:=own_lit2 .u32 98 (w.alloc (.cells #[.bool false,.slice none 0 0] 30)) (lmb z.natAbs 0) (lmb z.natAbs 1) (lmb z.natAbs) rfl rfl
  rw [show (w.alloc (.cells #[.bool false,.slice none 0 0] 30)).heap.size=w.heap.size+1 from by simp] at hO
  have hR:=res_mk w 30 (.cells #[.int .u32 (lmb z.natAbs 0),.int .u32 (lmb z.natAbs 1)] 98)
  generalize (w.alloc (.cells #[.bool false,.slice none 0 0] 30)).alloc (.cells #[.int .u32 (lmb z.natAbs 0),.int .u32 (lmb z.natAbs 1)] 98)=w1 at *
  refine (made_any false _ 2 2 z.natAbs _ (hO.lie (Nat.le_refl _) (by unfold maxLen; omega)) (two_lt (by omega))).mono ?_
  rintro e w3 ⟨bl3,a3,n3,c3,rfl,hnum,haa,hb3⟩
  have hR3:=hR.later hb3
  have rB0:=hR3.r0
  have rB1:=hR3.r1
  have fB0:=hR3.f0
  have fB1:=hR3.f1
  go_wp2
  rw [show sg false z.natAbs=z from by simp [sg]; omega] at hnum
  refine bodyPost_ret (v:=.agg #[.bool bl3,.slice a3 n3 c3]) (by simp [results,Tryz.results30,go_sem,rB0,rB1]) rfl ?_
  refine pnum_store hnum hR3.below (Nat.le_refl _) (fun p hp=>?_)
  rcases haa with h | h
  ·
   rw [h] at hp; cases hp
  ·
   rw [h] at hp; cases hp; show _ < w.heap.size+1; omega
end Go.Proofs.YtjclllindbfmhabGreatDoor

namespace Go.Proofs.YtjclllindbfmhabGreatDoor
/- The walk of Quo. -/
open Go.RowKit
/-- Two numbers in boxes of their own, and places for two results that hold what is said, behind what was there. -/
structure QBox (w w1:World) (bl:Bool) (a:Option Addr) (n c:Nat) (bl':Bool) (a':Option Addr) (n' c':Nat) (qb:Bool) (qa:Option Addr) (qn qc:Nat) (rb:Bool) (ra:Option Addr) (rn rc:Nat):Prop where
  below:Below w.heap.size w w1
  k0:w1.cell? ⟨w.heap.size,0,none⟩=some (.bool bl)
  k1:w1.cell? ⟨w.heap.size,1,none⟩=some (.slice a n c)
  l0:w1.cell? ⟨w.heap.size+1,0,none⟩=some (.bool bl')
  l1:w1.cell? ⟨w.heap.size+1,1,none⟩=some (.slice a' n' c')
  q0:w1.cell? ⟨w.heap.size+2,0,none⟩=some (.bool qb)
  q1:w1.cell? ⟨w.heap.size+2,1,none⟩=some (.slice qa qn qc)
  r0:w1.cell? ⟨w.heap.size+3,0,none⟩=some (.bool rb)
  r1:w1.cell? ⟨w.heap.size+3,1,none⟩=some (.slice ra rn rc)
  f0:w1.frozen? ⟨w.heap.size+2,0,none⟩=false
  f1:w1.frozen? ⟨w.heap.size+2,1,none⟩=false
  g0:w1.frozen? ⟨w.heap.size+3,0,none⟩=false
  g1:w1.frozen? ⟨w.heap.size+3,1,none⟩=false
  sz:w.heap.size+3 < w1.heap.size
theorem qbox_mk (w:World) (t:TypeId) (bl:Bool) (a:Option Addr) (n c:Nat) (bl':Bool) (a':Option Addr) (n' c':Nat) :
    QBox w ((((w.alloc (.cells #[.bool bl,.slice a n c] t)).alloc (.cells #[.bool bl',.slice a' n' c'] t)).alloc (.cells #[.bool false,.slice none 0 0] t)).alloc (.cells #[.bool false,.slice none 0 0] t)) bl a n c bl' a' n' c' false none 0 0 false none 0 0 :=
  ⟨((((Below.refl w.heap.size w).alloc (Nat.le_refl _) _).alloc (by simp) _).alloc (by simp; omega) _).alloc (by simp; omega) _,by simp [go_sem],by simp [go_sem],by simp [go_sem],by simp [go_sem],by simp [go_sem],by simp [go_sem],by simp [go_sem],by simp [go_sem],by simp [go_sem],by simp [go_sem],by simp [go_sem],by simp [go_sem],by simp⟩
section
variable {w w1 w2:World} {bl:Bool} {a:Option Addr} {n c:Nat} {bl':Bool} {a':Option Addr} {n' c':Nat} {qb:Bool} {qa:Option Addr} {qn qc:Nat} {rb:Bool} {ra:Option Addr} {rn rc:Nat}
theorem QBox.later (h:QBox w w1 bl a n c bl' a' n' c' qb qa qn qc rb ra rn rc) (hb:Below w1.heap.size w1 w2):QBox w w2 bl a n c bl' a' n' c' qb qa qn qc rb ra rn rc:=by
  have hs:=h.sz
  exact ⟨h.below.trans (hb.mono h.below.size),(hb.cell (p:=⟨w.heap.size,0,none⟩) (by show w.heap.size < _; omega)).trans h.k0,(hb.cell (p:=⟨w.heap.size,1,none⟩) (by show w.heap.size < _; omega)).trans h.k1,
    (hb.cell (p:=⟨w.heap.size+1,0,none⟩) (by show w.heap.size+1 < _; omega)).trans h.l0,(hb.cell (p:=⟨w.heap.size+1,1,none⟩) (by show w.heap.size+1 < _; omega)).trans h.l1,
    (hb.cell (p:=⟨w.heap.size+2,0,none⟩) (by show w.heap.size+2 < _; omega)).trans h.q0,(hb.cell (p:=⟨w.heap.size+2,1,none⟩) (by show w.heap.size+2 < _; omega)).trans h.q1,
    (hb.cell (p:=⟨w.heap.size+3,0,none⟩) hs).trans h.r0,(hb.cell (p:=⟨w.heap.size+3,1,none⟩) hs).trans h.r1,
    (hb.frozen (p:=⟨w.heap.size+2,0,none⟩) (by show w.heap.size+2 < _; omega)).trans h.f0,(hb.frozen (p:=⟨w.heap.size+2,1,none⟩) (by show w.heap.size+2 < _; omega)).trans h.f1,
    (hb.frozen (p:=⟨w.heap.size+3,0,none⟩) hs).trans h.g0,(hb.frozen (p:=⟨w.heap.size+3,1,none⟩) hs).trans h.g1,Nat.lt_of_lt_of_le hs hb.size⟩
theorem near2 {W:World} {b:Nat} {u v x y:Value} (h0:W.cell? ⟨b,0,none⟩=some x) (h1:W.cell? ⟨b,1,none⟩=some y) :
    ((W.setCell ⟨b,0,none⟩ u).setCell ⟨b,1,none⟩ v).cell? ⟨b,0,none⟩=some u∧((W.setCell ⟨b,0,none⟩ u).setCell ⟨b,1,none⟩ v).cell? ⟨b,1,none⟩=some v:=by
  have e1:(W.setCell ⟨b,0,none⟩ u).cell? ⟨b,1,none⟩=some y:=by rw [World.cell?_setCell_other (h:=by intro e; cases e)]; exact h1
  refine ⟨?_,World.cell?_setCell_same (h:=e1) ..⟩
  rw [World.cell?_setCell_other (h:=by intro e; cases e)]
  exact World.cell?_setCell_same (h:=h0) ..
theorem QBox.setQ (h:QBox w w1 bl a n c bl' a' n' c' qb qa qn qc rb ra rn rc) (b:Bool) (x:Option Addr) (i j:Nat) :
    QBox w ((w1.setCell ⟨w.heap.size+2,0,none⟩ (.bool b)).setCell ⟨w.heap.size+2,1,none⟩ (.slice x i j)) bl a n c bl' a' n' c' b x i j rb ra rn rc :=
  ⟨h.below.trans ((only2 _ _ _ _).below (by omega)),far2 h.k0 (by omega),far2 h.k1 (by omega),far2 h.l0 (by omega),far2 h.l1 (by omega),(near2 h.q0 h.q1).1,(near2 h.q0 h.q1).2,far2 h.r0 (by omega),far2 h.r1 (by omega),
    by simp [h.f0],by simp [h.f1],by simp [h.g0],by simp [h.g1],by rw [(only2 _ _ _ _).size]; exact h.sz⟩
theorem QBox.setR (h:QBox w w1 bl a n c bl' a' n' c' qb qa qn qc rb ra rn rc) (b:Bool) (x:Option Addr) (i j:Nat) :
    QBox w ((w1.setCell ⟨w.heap.size+3,0,none⟩ (.bool b)).setCell ⟨w.heap.size+3,1,none⟩ (.slice x i j)) bl a n c bl' a' n' c' qb qa qn qc b x i j :=
  ⟨h.below.trans ((only2 _ _ _ _).below (by omega)),far2 h.k0 (by omega),far2 h.k1 (by omega),far2 h.l0 (by omega),far2 h.l1 (by omega),far2 h.q0 (by omega),far2 h.q1 (by omega),(near2 h.r0 h.r1).1,(near2 h.r0 h.r1).2,
    by simp [h.f0],by simp [h.f1],by simp [h.g0],by simp [h.g1],by rw [(only2 _ _ _ _).size]; exact h.sz⟩
end
/-- A quotient and what is left are handed back, in new memory, and an error's number. -/
def PQ (q r er:Int) (w:World) (e:Ending) (w':World):Prop :=
  ∃ (b1:Bool) (a1:Option Addr) (n1 c1:Nat) (b2:Bool) (a2:Option Addr) (n2 c2:Nat),e=.returned (.tuple #[.agg #[.bool b1,.slice a1 n1 c1],.agg #[.bool b2,.slice a2 n2 c2],.int .i64 er]) ∧
    Num w' b1 a1 n1 c1 q∧Num w' b2 a2 n2 c2 r∧(∀ p,a1=some p→w.heap.size≤p.block)∧(∀ p,a2=some p→w.heap.size≤p.block)∧Below w.heap.size w w'
/-- q and r are the quotient and the rest of x and y. -/
def IsQuo (x y q r:Int):Prop:=x=q*y+r∧(0 < y→0≤r∧r < y)∧(y < 0→y < r∧r≤0)
def PQuoI (x y:Int) (w:World) (e:Ending) (w':World):Prop:=∃ q r:Int,IsQuo x y q r∧PQ q r 0 w e w'
theorem quo_parts {x y:Int} (hy:y ≠ 0):∃ P:Int,P=((x.natAbs / y.natAbs:Nat):Int)*(y.natAbs:Int)∧P+((x.natAbs % y.natAbs:Nat):Int)=(x.natAbs:Int)∧x.natAbs % y.natAbs < y.natAbs:=by
  refine ⟨_,rfl,?_,Nat.mod_lt _ (by omega)⟩
  have:=Nat.div_add_mod x.natAbs y.natAbs
  rw [← Int.natCast_mul,Nat.mul_comm]
  omega
theorem quo_plain {x y:Int} {bl bl':Bool} (h:bl=decide (x < 0)) (h':bl'=decide (y < 0)) (hy:y ≠ 0) (hc:x.natAbs % y.natAbs=0∨(bl == bl')=true) :
    IsQuo x y (sg (!(bl == bl')) (x.natAbs / y.natAbs)) (sg bl (x.natAbs % y.natAbs)):=by
  obtain ⟨P,hP,h1,h2⟩:=quo_parts (x:=x) hy
  generalize x.natAbs / y.natAbs=Q at *
  generalize x.natAbs % y.natAbs=R at *
  by_cases hx:x < 0 <;> by_cases hyn:y < 0
  · have e:y=-(y.natAbs:Int):=by omega
    have e2:sg (!(bl == bl')) Q*y=-P:=by rw [e,hP]; simp [h,h',hx,hyn,sg,Int.mul_neg]
    refine ⟨?_,?_,?_⟩ <;> (try rw [e2]) <;> simp [sg,h,hx] <;> omega
  · have e:y=(y.natAbs:Int):=by omega
    have e2 : sg (!(bl == bl')) Q * y = -P := by rw [hP]; conv => lhs; rw [e]
                                                 simp [h,h',hx,hyn,sg,Int.neg_mul]
    simp [h,h',hx,hyn] at hc
    refine ⟨?_,?_,?_⟩ <;> (try rw [e2]) <;> simp [sg,h,hx] <;> omega
  · have e:y=-(y.natAbs:Int):=by omega
    have e2:sg (!(bl == bl')) Q*y=P:=by rw [e,hP]; simp [h,h',hx,hyn,sg,Int.neg_mul_neg]
    simp [h,h',hx,hyn] at hc
    refine ⟨?_,?_,?_⟩ <;> (try rw [e2]) <;> simp [sg,h,hx] <;> omega
  · have e:y=(y.natAbs:Int):=by omega
    have e2 : sg (!(bl == bl')) Q * y = P := by rw [hP]; conv => lhs; rw [e]
                                                simp [h,h',hx,hyn,sg]
    refine ⟨?_,?_,?_⟩ <;> (try rw [e2]) <;> simp [sg,h,hx] <;> omega
theorem quo_fixed {x y:Int} {bl bl':Bool} (h:bl=decide (x < 0)) (h':bl'=decide (y < 0)) (hy:y ≠ 0) (hr:x.natAbs % y.natAbs ≠ 0) (hc:(bl == bl')=false) :
    IsQuo x y (sg (!(bl == bl')) (x.natAbs / y.natAbs) - 1) (sg bl (x.natAbs % y.natAbs)+y):=by
  obtain ⟨P,hP,h1,h2⟩:=quo_parts (x:=x) hy
  generalize x.natAbs / y.natAbs=Q at *
  generalize x.natAbs % y.natAbs=R at *
  by_cases hx:x < 0 <;> by_cases hyn:y < 0
  · simp [h,h',hx,hyn] at hc
  · have e:y=(y.natAbs:Int):=by omega
    have e2 : sg (!(bl == bl')) Q * y = -P := by rw [hP]; conv => lhs; rw [e]
                                                 simp [h,h',hx,hyn,sg,Int.neg_mul]
    refine ⟨?_,?_,?_⟩ <;> (try rw [Int.sub_mul,e2]) <;> simp [sg,h,hx] <;> omega
  · have e:y=-(y.natAbs:Int):=by omega
    have e2:sg (!(bl == bl')) Q*y=P:=by rw [e,hP]; simp [h,h',hx,hyn,sg,Int.neg_mul_neg]
    refine ⟨?_,?_,?_⟩ <;> (try rw [Int.sub_mul,e2]) <;> simp [sg,h,hx] <;> omega
  · simp [h,h',hx,hyn] at hc
theorem sgn_ne {z:Int}:(sgnI z != 0)=!(decide (z=0)):=by
  unfold sgnI
  by_cases h1:z < 0
  · rw [if_pos h1]; simp; omega
  · rw [if_neg h1]; by_cases h2:z=0
    · rw [if_pos h2]; simp [h2]
    · rw [if_neg h2]; simp [h2]
theorem sg_zero {bl:Bool} {N:Nat}:sg bl N=0↔N=0:=by unfold sg; cases bl <;> simp
theorem pq_end {w w8:World} {bl:Bool} {a:Option Addr} {n c:Nat} {bl':Bool} {a':Option Addr} {n' c':Nat} {qb:Bool} {qa:Option Addr} {qn qc:Nat} {rb:Bool} {ra:Option Addr} {rn rc:Nat} {q r:Int}
    (hX:QBox w w8 bl a n c bl' a' n' c' qb qa qn qc rb ra rn rc) (hq:Num w8 qb qa qn qc q) (hr:Num w8 rb ra rn rc r) (hQ:∀ p,qa=some p→w.heap.size+3 < p.block) (hR:∀ p,ra=some p→w.heap.size+3 < p.block) :
    PQ q r 0 w (.returned (.tuple #[.agg #[.bool qb,.slice qa qn qc],.agg #[.bool rb,.slice ra rn rc],.int .i64 0]))
      (((((w8.setCell ⟨w.heap.size+2,0,none⟩ (.bool qb)).setCell ⟨w.heap.size+2,1,none⟩ (.slice qa qn qc)).setCell ⟨w.heap.size+3,0,none⟩ (.bool rb)).setCell ⟨w.heap.size+3,1,none⟩ (.slice ra rn rc)).drew):=by
  have o1:=only2 w8 (w.heap.size+2) (.bool qb) (.slice qa qn qc)
  have o2:=only2 ((w8.setCell ⟨w.heap.size+2,0,none⟩ (.bool qb)).setCell ⟨w.heap.size+2,1,none⟩ (.slice qa qn qc)) (w.heap.size+3) (.bool rb) (.slice ra rn rc)
  have hd:∀ W:World,Below W.heap.size W W.drew:=fun W=>(Below.refl _ _).drew
  refine ⟨qb,qa,qn,qc,rb,ra,rn,rc,rfl,((hq.only o1 ?_).only o2 ?_).below (hd _),((hr.only o1 ?_).only o2 ?_).below (hd _),?_,?_,(hX.below.trans ((o1.below (by omega)).trans (o2.below (by omega)))).drew⟩
  · intro p hp; have:=hQ p hp; omega
  · intro p hp; have:=hQ p hp; omega
  · intro p hp; have:=hR p hp; omega
  · intro p hp; have:=hR p hp; omega
  · intro p hp; have:=hQ p hp; omega
  · intro p hp; have:=hR p hp; omega
set_option maxRecDepth 100000 in
set_option maxHeartbeats 3200000 in
theorem Quo_any (bl:Bool) (a:Option Addr) (n c:Nat) (x:Int) (bl':Bool) (a':Option Addr) (n' c':Nat) (y:Int) (w:World) (h:Num w bl a n c x) (h':Num w bl' a' n' c' y) (hn:n≤9000000) (hn':n'≤9000000) (hy:y ≠ 0) :
    Calls Tryz.prog 99 #[.agg #[.bool bl,.slice a n c],.agg #[.bool bl',.slice a' n' c']] w (PQuoI x y w):=by
  have H:=Lib.hid h
  have H':=Lib.hid h'
  have HY:=Lib.hid hy
  have hsy:(sgnI y == 0)=false:=by unfold sgnI; (repeat' split) <;> simp_all
  clear h h' hy
  go_enter Tryz.func99,Tryz.ntmps99
  go_wp2_with fail
  have hX1:=qbox_mk w 30 bl a n c bl' a' n' c'
  generalize (((w.alloc (.cells #[.bool bl,.slice a n c] 30)).alloc (.cells #[.bool bl',.slice a' n' c'] 30)).alloc (.cells #[.bool false,.slice none 0 0] 30)).alloc (.cells #[.bool false,.slice none 0 0] 30)=w1 at *
  refine (Sign_any bl' a' n' c' y _ (H'.out.below hX1.below)).mono ?_
  rintro e w2 ⟨rfl,hb2⟩
  have hX2:=hX1.later hb2
  have hs2:=hX2.sz
  clear hX1 hb2
  have k0:=hX2.k0
  have k1:=hX2.k1
  have l0:=hX2.l0
  have l1:=hX2.l1
  go_wp2_with fail
  refine (quotient_any a a' n c n' c' x.natAbs y.natAbs _ (H.out.lie.below hX2.below) (H'.out.lie.below hX2.below) H.out.fit H'.out.fit (by omega) (by have:=HY.out; omega)).mono ?_
  rintro e w3 ⟨a3,n3,c3,a4,n4,c4,rfl,⟨hl3,hf3,hfr3⟩,⟨hl4,hf4,hfr4⟩,hb3⟩
  have hX3:=hX2.later hb3
  clear k0 k1 l0 l1 hX2
  have k0:=hX3.k0
  have l0:=hX3.l0
  have k1:=hX3.k1
  have l1:=hX3.l1
  have F3:=Lib.hid hf3
  have F4:=Lib.hid hf4
  have R3:=Lib.hid hfr3
  have R4:=Lib.hid hfr4
  clear hf3 hf4 hfr3 hfr4
  go_wp2_with fail
  refine (made_any _ a3 n3 c3 _ _ hl3 F3.out.1).mono ?_
  rintro e w4 ⟨qb,qa,qn,qc,rfl,hq4,hqa,hb4⟩
  have hX4:=hX3.later hb4
  have hl4':=hl4.below hb4
  have hqfr:∀ p,qa=some p→w.heap.size+3 < p.block:=fun p hp=>by
    rcases hqa with h | h
    · rw [h] at hp; cases hp
    · rw [h] at hp; have:=R3.out p hp; omega
  have QFR:=Lib.hid hqfr
  clear k0 l0 k1 l1 hX3 hl3 hl4 hqa hqfr hb4
  have q0:=hX4.q0
  have q1:=hX4.q1
  have f0:=hX4.f0
  have f1:=hX4.f1
  have k0:=hX4.k0
  go_wp2_with fail
  have hX5:=hX4.setQ qb qa qn qc
  have hO5:=only2 w4 (w.heap.size+2) (.bool qb) (.slice qa qn qc)
  have hq5:=hq4.only hO5 (fun p hp=>by have:=QFR.out p hp; omega)
  have hl5:=hl4'.only hO5 (fun p hp=>by have:=R4.out p hp; omega)
  have hz5:w.heap.size+3 < w4.heap.size:=hX4.sz
  clear q0 q1 f0 f1 k0 hX4 hq4 hl4'
  generalize (w4.setCell ⟨w.heap.size+2,0,none⟩ (.bool qb)).setCell ⟨w.heap.size+2,1,none⟩ (.slice qa qn qc)=w5 at *
  refine (made_any bl a4 n4 c4 _ _ hl5 F4.out.1).mono ?_
  rintro e w6 ⟨rb,ra,rn,rc,rfl,hr6,hra,hb6⟩
  have hX6:=hX5.later hb6
  have hq6:=hq5.below hb6
  have hrfr:∀ p,ra=some p→w.heap.size+3 < p.block:=fun p hp=>by
    rcases hra with h | h
    · rw [h] at hp; cases hp
    · rw [h] at hp; have:=R4.out p hp; omega
  have RFR:=Lib.hid hrfr
  clear hX5 hq5 hl5 hra hrfr hb6 hO5
  have r0:=hX6.r0
  have r1:=hX6.r1
  have g0:=hX6.g0
  have g1:=hX6.g1
  go_wp2_with fail
  have hX7:=hX6.setR rb ra rn rc
  have hO7:=only2 w6 (w.heap.size+3) (.bool rb) (.slice ra rn rc)
  have hq7:=hq6.only hO7 (fun p hp=>by have:=QFR.out p hp; omega)
  have hr7:=hr6.only hO7 (fun p hp=>by have:=RFR.out p hp; omega)
  clear r0 r1 g0 g1 hX6 hq6 hr6
  generalize (w6.setCell ⟨w.heap.size+3,0,none⟩ (.bool rb)).setCell ⟨w.heap.size+3,1,none⟩ (.slice ra rn rc)=w7 at *
  refine (Sign_any rb ra rn rc _ _ hr7).mono ?_
  rintro e w8 ⟨rfl,hb8⟩
  have hX8:=hX7.later hb8
  have hq8:=hq7.below hb8
  have hr8:=hr7.below hb8
  have hne:=sgn_ne (z:=sg bl (x.natAbs % y.natAbs))
  clear hX7 hq7 hr7 hb8 hO7
  have k0:=hX8.k0
  have l0:=hX8.l0
  have k1:=hX8.k1
  have l1:=hX8.l1
  have q0:=hX8.q0
  have q1:=hX8.q1
  have r0:=hX8.r0
  have r1:=hX8.r1
  have f0:=hX8.f0
  have f1:=hX8.f1
  have g0:=hX8.g0
  have g1:=hX8.g1
  by_cases hR0:x.natAbs % y.natAbs=0
  · have hd:(sgnI (sg bl (x.natAbs % y.natAbs)) != 0)=false:=by rw [hne,decide_eq_true (sg_zero.2 hR0)]; rfl
    have HQ:=Lib.hid (quo_plain H.out.sgn H'.out.sgn HY.out (.inl hR0))
    clear hne hR0
    generalize hsq:sg (!(bl == bl')) (x.natAbs / y.natAbs)=q at *
    generalize hsr:sg bl (x.natAbs % y.natAbs)=r at *
    clear hsq hsr
    generalize hcc:sgnI r=cc at *
    clear hcc
    go_wp2
    go_region
    all_goals go_wp2
    refine bodyPost_ret (v:=.tuple #[.agg #[.bool qb,.slice qa qn qc],.agg #[.bool rb,.slice ra rn rc],.int .i64 0]) (by simp [results,Tryz.results99,go_sem,q0,q1,r0,r1]) rfl ?_
    exact ⟨q,r,HQ.out,pq_end hX8 hq8 hr8 QFR.out RFR.out⟩
  · have hd:(sgnI (sg bl (x.natAbs % y.natAbs)) != 0)=true:=by rw [hne,decide_eq_false (fun h=>hR0 (sg_zero.1 h))]; rfl
    by_cases hbb:(bl == bl')=true
    · have HQ:=Lib.hid (quo_plain H.out.sgn H'.out.sgn HY.out (.inr hbb))
      clear hne hR0
      generalize hsq:sg (!(bl == bl')) (x.natAbs / y.natAbs)=q at *
      generalize hsr:sg bl (x.natAbs % y.natAbs)=r at *
      clear hsq hsr
      generalize hcc:sgnI r=cc at *
      clear hcc
      go_wp2
      go_region
      all_goals go_wp2
      refine bodyPost_ret (v:=.tuple #[.agg #[.bool qb,.slice qa qn qc],.agg #[.bool rb,.slice ra rn rc],.int .i64 0]) (by simp [results,Tryz.results99,go_sem,q0,q1,r0,r1]) rfl ?_
      exact ⟨q,r,HQ.out,pq_end hX8 hq8 hr8 QFR.out RFR.out⟩
    · have hbb':(bl == bl')=false:=by simpa using hbb
      have HQ:=Lib.hid (quo_fixed H.out.sgn H'.out.sgn HY.out hR0 hbb')
      have hqn:qn≤n:=by
        have:=hq8.fit
        rw [sg_abs] at this
        exact fit_le this (Nat.lt_of_le_of_lt (Nat.div_le_self _ _) H.out.fit.1)
      have hrn:rn≤n':=by
        have:=hr8.fit
        rw [sg_abs] at this
        exact fit_le this (Nat.lt_trans (Nat.mod_lt _ (by have:=HY.out; omega)) H'.out.fit.1)
      clear hne hR0 hbb
      generalize hsq:sg (!(bl == bl')) (x.natAbs / y.natAbs)=q at *
      generalize hsr:sg bl (x.natAbs % y.natAbs)=r at *
      clear hsq hsr
      generalize hcc:sgnI r=cc at *
      clear hcc
      go_wp2
      go_region_with (first
          | (go_at_call 30; refine (Of_any 1 _ (by omega) (by omega)).mono ?_; rintro e w9 ⟨b9,a9,n9,c9,rfl,hN9,hfr9,hb9⟩; have hX9:=hX8.later (below_undrew hb9); have hq9:=hq8.below (below_undrew hb9); have hr9:=hr8.below (below_undrew hb9); have q09:=hX9.q0; have q19:=hX9.q1; have hn9:n9≤10000000:=Nat.le_trans (fit_le hN9.fit (m:=1) (by decide)) (by omega))
          | (go_at_call 35; refine (Sub_any qb qa qn qc q b9 a9 n9 c9 1 _ hq9 hN9 (by omega) hn9).mono ?_; rintro e wA ⟨bA,aA,nA,cA,rfl,hNA,hfrA,hbA⟩; have hXA:=hX9.later hbA; have hrA:=hr9.below hbA; have f0A:=hXA.f0; have f1A:=hXA.f1; have q0A:=hXA.q0; have q1A:=hXA.q1))
      all_goals
        have hXB:=hXA.setQ bA aA nA cA
        have hOB:=only2 wA (w.heap.size+2) (.bool bA) (.slice aA nA cA)
        have hfrA':∀ p,aA=some p→w.heap.size+3 < p.block:=fun p hp=>by have h1:=hfrA p hp; have h2:=hX9.sz; omega
        have hqB:=hNA.only hOB (fun p hp=>by have:=hfrA' p hp; omega)
        have hrB:=hrA.only hOB (fun p hp=>by have:=RFR.out p hp; omega)
        have HFA:=Lib.hid hfrA'
        clear q09 q19 f0A f1A q0A q1A k0 l0 k1 l1 q0 q1 r0 r1 f0 f1 g0 g1 hXA hX9 hq9 hr9 hNA hrA hfrA hfrA' hX8 hq8 hr8 hOB QFR
        generalize (wA.setCell ⟨w.heap.size+2,0,none⟩ (.bool bA)).setCell ⟨w.heap.size+2,1,none⟩ (.slice aA nA cA)=wB at *
        have l0:=hXB.l0
        have l1:=hXB.l1
        have r0:=hXB.r0
        have r1:=hXB.r1
        go_wp2_with fail
        refine (Add_any rb ra rn rc r bl' a' n' c' y _ hrB (H'.out.below hXB.below) (by omega) (by omega)).mono ?_
        rintro e wC ⟨bC,aC,nC,cC,rfl,hNC,hfrC,hbC⟩
        have hXC:=hXB.later hbC
        have hqC:=hqB.below hbC
        have hfrC':∀ p,aC=some p→w.heap.size+3 < p.block:=fun p hp=>by have h1:=hfrC p hp; have h2:=hXB.sz; omega
        have HFC:=Lib.hid hfrC'
        clear l0 l1 r0 r1 hXB hqB hrB hbC hfrC hfrC'
        have r0:=hXC.r0
        have r1:=hXC.r1
        have g0:=hXC.g0
        have g1:=hXC.g1
        go_wp2_with fail
        have hXD:=hXC.setR bC aC nC cC
        have hOD:=only2 wC (w.heap.size+3) (.bool bC) (.slice aC nC cC)
        have hqD:=hqC.only hOD (fun p hp=>by have:=HFA.out p hp; omega)
        have hrD:=hNC.only hOD (fun p hp=>by have:=HFC.out p hp; omega)
        clear r0 r1 g0 g1 hXC hqC hNC hOD
        generalize (wC.setCell ⟨w.heap.size+3,0,none⟩ (.bool bC)).setCell ⟨w.heap.size+3,1,none⟩ (.slice aC nC cC)=wD at *
        have q0:=hXD.q0
        have q1:=hXD.q1
        have r0:=hXD.r0
        have r1:=hXD.r1
        have f0:=hXD.f0
        have f1:=hXD.f1
        have g0:=hXD.g0
        have g1:=hXD.g1
        go_region
        all_goals go_wp2
        refine bodyPost_ret (v:=.tuple #[.agg #[.bool bA,.slice aA nA cA],.agg #[.bool bC,.slice aC nC cC],.int .i64 0]) (by simp [results,Tryz.results99,go_sem,q0,q1,r0,r1]) rfl ?_
        exact ⟨q - 1,r+y,HQ.out,pq_end hXD hqD hrD HFA.out HFC.out⟩
end Go.Proofs.YtjclllindbfmhabGreatDoor
