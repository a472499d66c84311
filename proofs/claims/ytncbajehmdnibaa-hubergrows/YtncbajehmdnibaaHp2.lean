/- Parts of the proof. -/
import Derived.WalkKit
import Derived.WalkSpells
import Derived.WalkLawsBesides
import Derived.Lib.Hide
import Derived.Laws.CopyOwn
import Derived.Deep.OwnRows
import Derived.Deep.QuietTactic
import Derived.BigQuiet
import Derived.Deep.RegionHeld3
import Derived.Deep.DeepCutAuto
set_option linter.unusedSimpArgs false
set_option linter.unusedVariables false
/- What the walks of this seat lean on: numbers that lie in slices of memory, part by part; no statement of the seat is proved here. -/
namespace Go.Proofs.Ytncbajehmdnibaa
open Go.RowKit
/-- The base of the parts: 2^32. -/
def BB:Nat:=4294967296
/-- The i-th part of a number. -/
def lmb (N i:Nat):Nat:=N / BB ^ i % BB
/-- n is how many parts N has. -/
def Fit (n N:Nat):Prop:=N < BB ^ n∧(n=0∨BB ^ (n - 1)≤N)
/-- A slice (address a, length n, capacity c) of n numbers of kind k: the i-th one is f i. -/
structure Lie (k:IntKind) (w:World) (a:Option Addr) (n c:Nat) (f:Nat→Nat):Prop where
 cap:n≤c
 capm:c≤maxLen
 nil:a=none→n=0∧c=0
 spot:∀ p,a=some p→p.spot=none∧p.block < w.heap.size
 cell:∀ p,a=some p→∀ i,i < n→w.cell? ⟨p.block,p.off+i,none⟩=some (.int k (f i:Nat))
theorem Lie.at {k:IntKind} {w:World} {b o n c:Nat} {f:Nat→Nat} (h:Lie k w (some ⟨b,o,none⟩) n c f) (i:Nat) (hi:i < n) :
  w.cell? ⟨b,o+i,none⟩=some (.int k (f i:Nat)):=h.cell _ rfl i hi
theorem Lie.below {k:IntKind} {w w':World} {a:Option Addr} {n c:Nat} {f:Nat→Nat} (h:Lie k w a n c f) (hb:Below w.heap.size w w'):Lie k w' a n c f :=
 ⟨h.cap,h.capm,h.nil,fun p hp=>⟨(h.spot p hp).1,Nat.lt_of_lt_of_le (h.spot p hp).2 hb.size⟩,
  fun p hp i hi=>by rw [hb.cell (p:=⟨p.block,p.off+i,none⟩) (h.spot p hp).2]; exact h.cell p hp i hi⟩
theorem Lie.cut {k:IntKind} {w:World} {a:Option Addr} {n c m:Nat} {f:Nat→Nat} (h:Lie k w a n c f) (hm:m≤n):Lie k w a m c f :=
 ⟨Nat.le_trans hm h.cap,h.capm,fun e=>⟨by have:=(h.nil e).1; omega,(h.nil e).2⟩,h.spot,fun p hp i hi=>h.cell p hp i (by omega)⟩
/-- A number of package long: its sign, its parts in memory. -/
structure Num (w:World) (bl:Bool) (a:Option Addr) (n c:Nat) (z:Int):Prop where
 lie:Lie .u32 w a n c (lmb z.natAbs)
 fit:Fit n z.natAbs
 sgn:bl=decide (z < 0)
theorem Num.below {w w':World} {bl:Bool} {a:Option Addr} {n c:Nat} {z:Int} (h:Num w bl a n c z) (hb:Below w.heap.size w w'):Num w' bl a n c z:=⟨h.lie.below hb,h.fit,h.sgn⟩
/-- A value is handed back, and no memory that was there is turned. -/
def PVal (v:Value) (w:World) (e:Ending) (w':World):Prop:=e=.returned v∧Below w.heap.size w w'
theorem Fit.lt {n N:Nat} (h:Fit n N):N < BB ^ n:=h.1
/-- Block g alone is turned between two worlds. -/
structure Only (g:Nat) (w w':World):Prop where
 os:w'.os=w.os
 tape:w'.tape=w.tape
 output:w'.output=w.output
 size:w'.heap.size=w.heap.size
 block:∀ k,k ≠ g→w'.heap[k]?=w.heap[k]?
theorem Only.refl (g:Nat) (w:World):Only g w w:=⟨rfl,rfl,rfl,rfl,fun _ _=>rfl⟩
theorem Only.trans {g:Nat} {a b c:World} (h:Only g a b) (k:Only g b c):Only g a c :=
 ⟨k.os.trans h.os,k.tape.trans h.tape,k.output.trans h.output,k.size.trans h.size,fun i hi=>(k.block i hi).trans (h.block i hi)⟩
theorem Only.below {g B:Nat} {w w':World} (h:Only g w w') (hB:B≤g):Below B w w' :=
 ⟨h.os,h.tape,h.output,by rw [h.size]; exact Nat.le_refl _,fun k hk=>h.block k (by omega)⟩
theorem Only.drew {g:Nat} {a w:World} (h:Only g a w):Only g a w.drew:=⟨h.os,h.tape,h.output,h.size,h.block⟩
theorem Only.setCell (w:World) (g i:Nat) (v:Value):Only g w (w.setCell ⟨g,i,none⟩ v) :=
 ⟨rfl,rfl,rfl,by simp [World.setCell],fun k hk=>Below.heap_setCell _ _ _ _ hk⟩
theorem Lie.only {k:IntKind} {w w':World} {a:Option Addr} {n c g:Nat} {f:Nat→Nat} (h:Lie k w a n c f) (ho:Only g w w') (hg:∀ p,a=some p→p.block ≠ g):Lie k w' a n c f :=
 ⟨h.cap,h.capm,h.nil,fun p hp=>⟨(h.spot p hp).1,by rw [ho.size]; exact (h.spot p hp).2⟩,
  fun p hp i hi=>by rw [World.cell?_of_block (w:=w) (a:=⟨p.block,p.off+i,none⟩) (ho.block p.block (hg p hp))]; exact h.cell p hp i hi⟩
/-- Block g is a row of n numbers of kind k (elements of type e) that may be written: the i-th one is f i. -/
def Own (k:IntKind) (e:TypeId) (w:World) (g n:Nat) (f:Nat→Nat):Prop :=
 w.heap[g]?=some (.cells ((List.range n).map fun i=>Value.int k (f i:Nat)).toArray e (0,0))
section
variable {k:IntKind} {e:TypeId} {w:World} {g n:Nat} {f:Nat→Nat}
theorem Own.lt (h:Own k e w g n f):g < w.heap.size:=(Array.getElem?_eq_some_iff.1 h).1
theorem Own.cell (h:Own k e w g n f) (i:Nat) (hi:i < n):w.cell? ⟨g,i,none⟩=some (.int k (f i:Nat)):=by
 rw [cell_of_row w g i _ e (0,0) h]
 simp [hi]
theorem Own.free (h:Own k e w g n f) (i:Nat):w.frozen? ⟨g,i,none⟩=false:=by
 unfold Own at h
 simp [World.frozen?,h]
theorem Own.lie (h:Own k e w g n f) {m:Nat} (hm:m≤n) (hn:n≤maxLen):Lie k w (some ⟨g,0,none⟩) m n f :=
 ⟨hm,hn,(fun e=>by cases e),(fun p hp=>by cases hp; exact ⟨rfl,h.lt⟩),(fun p hp i hi=>by cases hp; simpa using h.cell i (by omega))⟩
theorem Own.congr (h:Own k e w g n f) {f':Nat→Nat} (hf:∀ i,i < n→f i=f' i):Own k e w g n f':=by
 unfold Own at h ⊢
 rw [h]
 congr 3
 refine List.map_congr_left fun i hi=>?_
 rw [hf i (by simpa using hi)]
theorem Own.below {w':World} (h:Own k e w g n f) (hb:Below w.heap.size w w'):Own k e w' g n f:=by
 unfold Own at h ⊢
 rw [hb.block g (Array.getElem?_eq_some_iff.1 h).1]; exact h
theorem Own.only {w':World} {g':Nat} (h:Own k e w g n f) (ho:Only g' w w') (hg:g ≠ g'):Own k e w' g n f:=by
 unfold Own at h ⊢
 rw [ho.block g hg]; exact h
theorem Own.drew (h:Own k e w g n f):Own k e w.drew g n f:=h
theorem Own.set (h:Own k e w g n f) {i:Nat} (x:Nat) (hi:i < n):Own k e (w.setCell ⟨g,i,none⟩ (.int k (x:Nat))) g n (fun j=>if j=i then x else f j):=by
 unfold Own at h ⊢
 have hlt:=(Array.getElem?_eq_some_iff.1 h).1
 simp only [World.setCell,Array.getElem?_modify,if_true,h,Option.map_some]
 congr 2
 apply Array.ext
 ·
  simp
 ·
  intro j h1 h2
  by_cases hj:j=i
  ·
   subst hj; simp
  ·
   simp [hj,Ne.symm hj,Array.getElem_setIfInBounds]
theorem Own.put (h:Own k e w g n f) {i:Nat} {x:Int} {F:Nat→Nat} (hi:i < n) (hx:x=(F i:Nat)) (hf:∀ j,j < n→j ≠ i→f j=F j):Own k e (w.setCell ⟨g,i,none⟩ (.int k x)) g n F:=by
 subst hx
 refine (h.set (F i) hi).congr fun j hj=>?_
 by_cases e:j=i
 ·
  subst e; simp
 ·
  simp [e,hf j hj e]
end
/-- The cost of a residual without its sign, and of a knee; how steep it is. -/
def rhA (a k:Int):Int:=if a≤k then a*a else 2*k*a - k*k
def slA (a k:Int):Int:=if a≤k then a else k
theorem hsq_nonneg (a:Int):0≤a*a:=by
 rcases Int.le_total 0 a with h | h
 ·
  exact Int.mul_nonneg h h
 ·
  have:=Int.mul_nonneg (show 0≤-a by omega) (show 0≤-a by omega)
  rwa [Int.neg_mul_neg] at this
theorem mul_nn {a b:Int} (ha:0≤a) (hb:0≤b):0≤a*b:=Int.mul_nonneg ha hb
section
variable {a b k l:Int}
theorem rhA_nonneg (ha:0≤a) (hk:0≤k):0≤rhA a k:=by
 unfold rhA
 split
 ·
  exact mul_nn ha ha
 ·
  have h1:=mul_nn hk (show 0≤a - k by omega)
  have h2:=mul_nn hk ha
  grind
theorem rhA_sq (ha:0≤a) (hk:0≤k):rhA a k≤a*a:=by
 unfold rhA
 split
 ·
  exact Int.le_refl _
 ·
  have h:=hsq_nonneg (a - k)
  grind
theorem rhA_grows (ha:0≤a) (hab:a≤b) (hk:0≤k):rhA a k≤rhA b k:=by
 unfold rhA
 split <;> split
 ·
  have h1:=mul_nn (show 0≤b - a by omega) (show 0≤b+a by omega)
  grind
 ·
  have h1:=mul_nn (show 0≤k - a by omega) (show 0≤k+a by omega)
  have h2:=mul_nn hk (show 0≤b - k by omega)
  grind
 ·
  omega
 ·
  have h1:=mul_nn hk (show 0≤b - a by omega)
  grind
theorem rhA_knee (ha:0≤a) (hk:0≤k) (hkl:k≤l):rhA a k≤rhA a l:=by
 unfold rhA
 split <;> split
 ·
  exact Int.le_refl _
 ·
  omega
 ·
  have h:=hsq_nonneg (a - k)
  grind
 ·
  have h1:=mul_nn (show 0≤l - k by omega) (show 0≤a - l by omega)
  have h2:=mul_nn (show 0≤l - k by omega) (show 0≤a - k by omega)
  grind
theorem slA_grows (hab:a≤b):slA a k≤slA b k:=by
 unfold slA
 split <;> split <;> omega
theorem slA_nonneg (ha:0≤a) (hk:0≤k):0≤slA a k:=by
 unfold slA
 split <;> omega
theorem rhA_scale {t:Int} (ht:0 < t):rhA (t*a) (t*k)=t*t*rhA a k∧slA (t*a) (t*k)=t*slA a k:=by
 have h:t*a≤t*k↔a≤k:=⟨fun h=>Int.le_of_mul_le_mul_left h ht,fun h=>Int.mul_le_mul_of_nonneg_left h (by omega)⟩
 unfold rhA slA
 by_cases e:a≤k
 ·
  rw [if_pos e,if_pos (h.2 e),if_pos e,if_pos (h.2 e)]
  exact ⟨by grind,rfl⟩
 ·
  rw [if_neg e,if_neg (fun q=>e (h.1 q)),if_neg e,if_neg (fun q=>e (h.1 q))]
  exact ⟨by grind,rfl⟩
end
/-- Of a residual with its sign. -/
def rhS (r k:Int):Int:=rhA (if r < 0 then -r else r) k
def slS (r k:Int):Int:=if r < 0 then -slA (-r) k else slA r k
section
variable {r s k:Int}
theorem rhS_le (h1:r≤k) (h2:-k≤r):rhS r k=r*r:=by
 by_cases hr:r < 0
 ·
  show rhA (if r < 0 then -r else r) k=_
  rw [if_pos hr]
  unfold rhA
  rw [if_pos (by omega)]; grind
 ·
  show rhA (if r < 0 then -r else r) k=_
  rw [if_neg hr]
  unfold rhA
  rw [if_pos (by omega)]
theorem rhS_hi (hk:0≤k) (h:k < r):rhS r k=2*k*r - k*k:=by
 show rhA (if r < 0 then -r else r) k=_
 rw [if_neg (by omega)]
 unfold rhA
 rw [if_neg (by omega)]
theorem rhS_lo (hk:0≤k) (h:r < -k):rhS r k=-(2*k*r) - k*k:=by
 show rhA (if r < 0 then -r else r) k=_
 rw [if_pos (by omega)]
 unfold rhA
 rw [if_neg (by omega)]; grind
theorem slS_le (h1:r≤k) (h2:-k≤r):slS r k=r:=by
 by_cases hr:r < 0
 ·
  show (if r < 0 then -slA (-r) k else slA r k)=_
  rw [if_pos hr]
  unfold slA
  rw [if_pos (by omega)]; omega
 ·
  show (if r < 0 then -slA (-r) k else slA r k)=_
  rw [if_neg hr]
  unfold slA
  rw [if_pos (by omega)]
theorem slS_hi (hk:0≤k) (h:k < r):slS r k=k:=by
 show (if r < 0 then -slA (-r) k else slA r k)=_
 rw [if_neg (by omega)]
 unfold slA
 rw [if_neg (by omega)]
theorem slS_lo (hk:0≤k) (h:r < -k):slS r k=-k:=by
 show (if r < 0 then -slA (-r) k else slA r k)=_
 rw [if_pos (by omega)]
 unfold slA
 rw [if_neg (by omega)]
/-- The cost is nowhere below its line. -/
theorem rhS_line (hk:0≤k):rhS s k+2*slS s k*(r - s)≤rhS r k:=by
 by_cases s1:k < s
 ·
  rw [rhS_hi hk s1,slS_hi hk s1]
  by_cases r1:k < r
  ·
   rw [rhS_hi hk r1]; grind
  ·
   by_cases r2:r < -k
   ·
    rw [rhS_lo hk r2]
    have h:=mul_nn hk (show 0≤-r by omega)
    grind
   ·
    rw [rhS_le (by omega) (by omega)]
    have h:=hsq_nonneg (r - k)
    grind
 ·
  by_cases s2:s < -k
  ·
   rw [rhS_lo hk s2,slS_lo hk s2]
   by_cases r1:k < r
   ·
    rw [rhS_hi hk r1]
    have h:=mul_nn hk (show 0≤r by omega)
    grind
   ·
    by_cases r2:r < -k
    ·
     rw [rhS_lo hk r2]; grind
    ·
     rw [rhS_le (by omega) (by omega)]
     have h:=hsq_nonneg (r+k)
     grind
  ·
   rw [rhS_le (by omega) (by omega),slS_le (by omega) (by omega)]
   by_cases r1:k < r
   ·
    rw [rhS_hi hk r1]
    have h:=mul_nn (show 0≤k - s by omega) (show 0≤2*r - (k+s) by omega)
    grind
   ·
    by_cases r2:r < -k
    ·
     rw [rhS_lo hk r2]
     have h:=mul_nn (show 0≤k+s by omega) (show 0≤-(2*r) - (k - s) by omega)
     grind
    ·
     rw [rhS_le (by omega) (by omega)]
     have h:=hsq_nonneg (r - s)
     grind
theorem rhS_mean {m:Int} (hk:0≤k) (h:r+s=2*m):2*rhS m k≤rhS r k+rhS s k:=by
 have h1:=rhS_line (s:=m) (r:=r) hk
 have h2:=rhS_line (s:=m) (r:=s) hk
 have h3:2*slS m k*(r - m)+2*slS m k*(s - m)=0:=by
  rw [← Int.mul_add,show r - m+(s - m)=0 by omega,Int.mul_zero]
 omega
end
/-- The parabola through the cost at a place without its sign: over 1 within the knee, over a behind it. -/
theorem bound_in {a k:Int} (ha:0≤a) (hk:0≤k):rhA a k*1≤a*a:=by rw [Int.mul_one]; exact rhA_sq ha hk
theorem bound_out {a b k:Int} (ha:0≤a) (hk:0≤k) (hb:k < b):rhA a k*b≤k*(a*a)+b*(k*b - k*k):=by
 unfold rhA
 split
 ·
  have h1:=mul_nn (show 0≤b - k by omega) (mul_nn ha (show 0≤k - a by omega))
  have h2:=mul_nn (show 0≤b - k by omega) (mul_nn hk (show 0≤b - k by omega))
  have h3:=mul_nn (show 0≤b - k by omega) (mul_nn hk (show 0≤k - a by omega))
  grind
 ·
  have h1:=mul_nn hk (hsq_nonneg (a - b))
  grind
theorem bound_at {b k:Int} (hb:k < b):k*(b*b)+b*(k*b - k*k)=rhA b k*b:=by
 unfold rhA
 rw [if_neg (by omega)]
 grind
end Go.Proofs.Ytncbajehmdnibaa
