/- Parts of the proof. -/
import Derived.WalkKit
import Derived.WalkSpells
import Derived.WalkLawsBesides
import Derived.Lib.Hide
import Derived.Laws.CopyOwn
import Derived.Deep.OwnRows
import Derived.Deep.QuietTactic
import Derived.BigQuiet
import Derived.Deep.RegionHeld3
import Derived.Deep.DeepCutAuto
set_option linter.unusedSimpArgs false
set_option linter.unusedVariables false
/- What the walks of this seat lean on: numbers that lie in slices of memory, part by part; no statement of the seat is proved here. -/
namespace Go.Proofs.YtncbajehmdnibaaDoor
open Go.RowKit
/-- The base of the parts: 2^32. -/
def BB:Nat:=4294967296
/-- The i-th part of a number. -/
def lmb (N i:Nat):Nat:=N / BB ^ i % BB
theorem BB_pos:0 < BB:=by decide
theorem BBp (i:Nat):0 < BB ^ i:=Nat.pow_pos BB_pos
theorem lmb_lt (N i:Nat):lmb N i < 4294967296:=Nat.mod_lt _ BB_pos
theorem lmb_top {N k:Nat} (h:N < BB ^ (k+1)):lmb N k=N / BB ^ k:=by
 unfold lmb
 exact Nat.mod_eq_of_lt (Nat.div_lt_of_lt_mul (by rw [← Nat.pow_succ]; exact h))
/-- n is how many parts N has. -/
def Fit (n N:Nat):Prop:=N < BB ^ n∧(n=0∨BB ^ (n - 1)≤N)
theorem fit_step {N k:Nat} (hk:1≤k) (h:N < BB ^ k) (hz:lmb N (k - 1)=0):N < BB ^ (k - 1):=by
 obtain ⟨j,rfl⟩:∃ j,k=j+1:=⟨k - 1,by omega⟩
 simp only [Nat.add_sub_cancel] at hz ⊢
 rw [lmb_top h] at hz
 rcases Nat.div_eq_zero_iff.1 hz with h0 | h0
 ·
  have:=BBp j; omega
 ·
  exact h0
theorem fit_end {N k:Nat} (hz:lmb N (k - 1) ≠ 0):BB ^ (k - 1)≤N:=by
 refine Nat.le_of_not_lt fun h=>hz ?_
 unfold lmb
 rw [Nat.div_eq_of_lt h]; rfl
theorem fit_le {n m N:Nat} (h:Fit n N) (k:N < BB ^ m):n≤m:=by
 rcases h.2 with h0 | h0
 ·
  omega
 ·
  refine Nat.le_of_not_lt fun hlt=>?_
  have h1:BB ^ m≤BB ^ (n - 1):=Nat.pow_le_pow_right BB_pos (by omega)
  omega
theorem fit_zero:Fit 0 0:=⟨by simp,.inl rfl⟩
theorem fit_pos {n N:Nat} (h:Fit n N):n=0↔N=0:=by
 constructor
 ·
  intro e; subst e; have:=h.1; simp at this; exact this
 ·
  intro e; subst e
  rcases h.2 with h0 | h0
  ·
   exact h0
  ·
   have:=BBp (n - 1); omega
/-- How two sizes stand to one another: -1, 0, 1. -/
def cmpN (a b:Nat):Int:=if a < b then -1 else if b < a then 1 else 0
theorem up_split (N k:Nat):N / BB ^ k=lmb N k+BB*(N / BB ^ (k+1)):=by
 unfold lmb
 rw [Nat.pow_succ,← Nat.div_div_eq_div_mul]
 exact (Nat.mod_add_div _ _).symm
/-- A slice (address a, length n, capacity c) of n numbers of kind k: the i-th one is f i. -/
structure Lie (k:IntKind) (w:World) (a:Option Addr) (n c:Nat) (f:Nat→Nat):Prop where
 cap:n≤c
 capm:c≤maxLen
 nil:a=none→n=0∧c=0
 spot:∀ p,a=some p→p.spot=none∧p.block < w.heap.size
 cell:∀ p,a=some p→∀ i,i < n→w.cell? ⟨p.block,p.off+i,none⟩=some (.int k (f i:Nat))
theorem Lie.some_of_pos {k:IntKind} {w:World} {a:Option Addr} {n c:Nat} {f:Nat→Nat} (h:Lie k w a n c f) (hn:0 < n) :
  ∃ b o,a=some ⟨b,o,none⟩∧b < w.heap.size:=by
 cases a with
 | none=>have:=(h.nil rfl).1; omega
 | some p =>
  obtain ⟨b,o,s⟩:=p
  obtain ⟨h1,h2⟩:=h.spot _ rfl
  simp only at h1 h2
  subst h1
  exact ⟨b,o,rfl,h2⟩
theorem Lie.at {k:IntKind} {w:World} {b o n c:Nat} {f:Nat→Nat} (h:Lie k w (some ⟨b,o,none⟩) n c f) (i:Nat) (hi:i < n) :
  w.cell? ⟨b,o+i,none⟩=some (.int k (f i:Nat)):=h.cell _ rfl i hi
theorem Lie.below {k:IntKind} {w w':World} {a:Option Addr} {n c:Nat} {f:Nat→Nat} (h:Lie k w a n c f) (hb:Below w.heap.size w w'):Lie k w' a n c f :=
 ⟨h.cap,h.capm,h.nil,fun p hp=>⟨(h.spot p hp).1,Nat.lt_of_lt_of_le (h.spot p hp).2 hb.size⟩,
  fun p hp i hi=>by rw [hb.cell (p:=⟨p.block,p.off+i,none⟩) (h.spot p hp).2]; exact h.cell p hp i hi⟩
theorem Lie.cut {k:IntKind} {w:World} {a:Option Addr} {n c m:Nat} {f:Nat→Nat} (h:Lie k w a n c f) (hm:m≤n):Lie k w a m c f :=
 ⟨Nat.le_trans hm h.cap,h.capm,fun e=>⟨by have:=(h.nil e).1; omega,(h.nil e).2⟩,h.spot,fun p hp i hi=>h.cell p hp i (by omega)⟩
theorem ret_int {k:IntKind} {a b:Int} (h:a=b):Ending.returned (.int k a)=.returned (.int k b):=by rw [h]
/-- The number with this sign and size. -/
def sg (bl:Bool) (N:Nat):Int:=if bl then -(N:Int) else (N:Int)
theorem sg_abs (bl:Bool) (N:Nat):(sg bl N).natAbs=N:=by unfold sg; cases bl <;> simp
theorem sg_neg (bl:Bool) (N:Nat) (h:0 < N):decide (sg bl N < 0)=bl:=by unfold sg; cases bl <;> simp <;> omega
/-- A number of package long: its sign, its parts in memory. -/
structure Num (w:World) (bl:Bool) (a:Option Addr) (n c:Nat) (z:Int):Prop where
 lie:Lie .u32 w a n c (lmb z.natAbs)
 fit:Fit n z.natAbs
 sgn:bl=decide (z < 0)
theorem Num.below {w w':World} {bl:Bool} {a:Option Addr} {n c:Nat} {z:Int} (h:Num w bl a n c z) (hb:Below w.heap.size w w'):Num w' bl a n c z:=⟨h.lie.below hb,h.fit,h.sgn⟩
theorem lie_nil (k:IntKind) (w:World) (f:Nat→Nat):Lie k w none 0 0 f :=
 ⟨Nat.le_refl _,Nat.zero_le _,(fun _=>⟨rfl,rfl⟩),(fun _ h=>by cases h),(fun _ h=>by cases h)⟩
theorem num_zero (w:World):Num w false none 0 0 0:=⟨lie_nil _ _ _,fit_zero,rfl⟩
/-- A number is handed back whose parts lie in the memory of a, or that has none. -/
def PMade (a:Option Addr) (z:Int) (w:World) (e:Ending) (w':World):Prop :=
 ∃ (bl:Bool) (a':Option Addr) (n c:Nat),e=.returned (.agg #[.bool bl,.slice a' n c])∧Num w' bl a' n c z∧(a'=none∨a'=a)∧Below w.heap.size w w'
/-- A number is handed back whose parts lie in new memory, or that has none. -/
def PNum (z:Int) (w:World) (e:Ending) (w':World):Prop :=
 ∃ (bl:Bool) (a':Option Addr) (n c:Nat),e=.returned (.agg #[.bool bl,.slice a' n c])∧Num w' bl a' n c z∧(∀ p,a'=some p→w.heap.size≤p.block)∧Below w.heap.size w w'
/-- A value is handed back, and no memory that was there is turned. -/
def PVal (v:Value) (w:World) (e:Ending) (w':World):Prop:=e=.returned v∧Below w.heap.size w w'
theorem Fit.lt {n N:Nat} (h:Fit n N):N < BB ^ n:=h.1
/-- Block g alone is turned between two worlds. -/
structure Only (g:Nat) (w w':World):Prop where
 os:w'.os=w.os
 tape:w'.tape=w.tape
 output:w'.output=w.output
 size:w'.heap.size=w.heap.size
 block:∀ k,k ≠ g→w'.heap[k]?=w.heap[k]?
theorem Only.refl (g:Nat) (w:World):Only g w w:=⟨rfl,rfl,rfl,rfl,fun _ _=>rfl⟩
theorem Only.trans {g:Nat} {a b c:World} (h:Only g a b) (k:Only g b c):Only g a c :=
 ⟨k.os.trans h.os,k.tape.trans h.tape,k.output.trans h.output,k.size.trans h.size,fun i hi=>(k.block i hi).trans (h.block i hi)⟩
theorem Only.below {g B:Nat} {w w':World} (h:Only g w w') (hB:B≤g):Below B w w' :=
 ⟨h.os,h.tape,h.output,by rw [h.size]; exact Nat.le_refl _,fun k hk=>h.block k (by omega)⟩
theorem Only.drew {g:Nat} {a w:World} (h:Only g a w):Only g a w.drew:=⟨h.os,h.tape,h.output,h.size,h.block⟩
theorem Only.setCell (w:World) (g i:Nat) (v:Value):Only g w (w.setCell ⟨g,i,none⟩ v) :=
 ⟨rfl,rfl,rfl,by simp [World.setCell],fun k hk=>Below.heap_setCell _ _ _ _ hk⟩
theorem Lie.only {k:IntKind} {w w':World} {a:Option Addr} {n c g:Nat} {f:Nat→Nat} (h:Lie k w a n c f) (ho:Only g w w') (hg:∀ p,a=some p→p.block ≠ g):Lie k w' a n c f :=
 ⟨h.cap,h.capm,h.nil,fun p hp=>⟨(h.spot p hp).1,by rw [ho.size]; exact (h.spot p hp).2⟩,
  fun p hp i hi=>by rw [World.cell?_of_block (w:=w) (a:=⟨p.block,p.off+i,none⟩) (ho.block p.block (hg p hp))]; exact h.cell p hp i hi⟩
/-- Block g is a row of n numbers of kind k (elements of type e) that may be written: the i-th one is f i. -/
def Own (k:IntKind) (e:TypeId) (w:World) (g n:Nat) (f:Nat→Nat):Prop :=
 w.heap[g]?=some (.cells ((List.range n).map fun i=>Value.int k (f i:Nat)).toArray e (0,0))
section
variable {k:IntKind} {e:TypeId} {w:World} {g n:Nat} {f:Nat→Nat}
theorem Own.lt (h:Own k e w g n f):g < w.heap.size:=(Array.getElem?_eq_some_iff.1 h).1
theorem Own.cell (h:Own k e w g n f) (i:Nat) (hi:i < n):w.cell? ⟨g,i,none⟩=some (.int k (f i:Nat)):=by
 rw [cell_of_row w g i _ e (0,0) h]
 simp [hi]
theorem Own.free (h:Own k e w g n f) (i:Nat):w.frozen? ⟨g,i,none⟩=false:=by
 unfold Own at h
 simp [World.frozen?,h]
theorem Own.lie (h:Own k e w g n f) {m:Nat} (hm:m≤n) (hn:n≤maxLen):Lie k w (some ⟨g,0,none⟩) m n f :=
 ⟨hm,hn,(fun e=>by cases e),(fun p hp=>by cases hp; exact ⟨rfl,h.lt⟩),(fun p hp i hi=>by cases hp; simpa using h.cell i (by omega))⟩
theorem Own.congr (h:Own k e w g n f) {f':Nat→Nat} (hf:∀ i,i < n→f i=f' i):Own k e w g n f':=by
 unfold Own at h ⊢
 rw [h]
 congr 3
 refine List.map_congr_left fun i hi=>?_
 rw [hf i (by simpa using hi)]
theorem Own.below {w':World} (h:Own k e w g n f) (hb:Below w.heap.size w w'):Own k e w' g n f:=by
 unfold Own at h ⊢
 rw [hb.block g (Array.getElem?_eq_some_iff.1 h).1]; exact h
theorem Own.only {w':World} {g':Nat} (h:Own k e w g n f) (ho:Only g' w w') (hg:g ≠ g'):Own k e w' g n f:=by
 unfold Own at h ⊢
 rw [ho.block g hg]; exact h
theorem Own.drew (h:Own k e w g n f):Own k e w.drew g n f:=h
theorem Own.set (h:Own k e w g n f) {i:Nat} (x:Nat) (hi:i < n):Own k e (w.setCell ⟨g,i,none⟩ (.int k (x:Nat))) g n (fun j=>if j=i then x else f j):=by
 unfold Own at h ⊢
 have hlt:=(Array.getElem?_eq_some_iff.1 h).1
 simp only [World.setCell,Array.getElem?_modify,if_true,h,Option.map_some]
 congr 2
 apply Array.ext
 ·
  simp
 ·
  intro j h1 h2
  by_cases hj:j=i
  ·
   subst hj; simp
  ·
   simp [hj,Ne.symm hj,Array.getElem_setIfInBounds]
theorem Own.put (h:Own k e w g n f) {i:Nat} {x:Int} {F:Nat→Nat} (hi:i < n) (hx:x=(F i:Nat)) (hf:∀ j,j < n→j ≠ i→f j=F j):Own k e (w.setCell ⟨g,i,none⟩ (.int k x)) g n F:=by
 subst hx
 refine (h.set (F i) hi).congr fun j hj=>?_
 by_cases e:j=i
 ·
  subst e; simp
 ·
  simp [e,hf j hj e]
end
/-- 'make([]T, n)': a new block of n noughts. -/
theorem wpList_mk {P:Program} (w:World) {ops:Array Oper} {rest:List Oper} {o:Oper} {a:Act} {Q:Exit→Act→World→Prop}
  (hg:o.guard=none) (l c:Operand) (t:TypeId) (hop:o.op=Op.makeSlice t l c)
  (e:TypeId) (k:IntKind) (bytes:Nat) (ht:P.underlying t=some (.slice e)) (hinfo:(P.info? e).map (fun i=>(i.zero,i.size,i.bytes))=some (some (.int k 0),1,bytes))
  (L C:Int) (n:Nat) (hl:a.eval l=.int .i64 L) (hc:a.eval c=.int .i64 C) (hL:L=(n:Int)) (hC:C=(n:Int)) (hbytes:bytes*n≤281474976710656) (hn:n≤9223372036854775807)
  (hK:∀ (g:Nat) (w':World),w.heap.size≤g→Own k e w' g n (fun _=>0)→Below w.heap.size w w'→wpList P ops Q rest (a.put o.dst (.slice (some ⟨g,0,none⟩) n n)) w') :
  wpList P ops Q (o :: rest) a w:=by
 refine wpList_plain hg fun K hK'=>?_
 subst hL
 subst hC
 have hrun:=run_make_row' (P:=P) t e (.int k 0) bytes ht hinfo rfl .i64 .i64 n hbytes hn w
 unfold Oper.wp
 simp [execOp,hop,hl,hc,hrun,Result.andThen]
 refine hK' _ _ (hK _ _ (Nat.le_refl _) ?_ ((Below.refl _ _).alloc (Nat.le_refl _) _))
 unfold Own
 rw [heap_alloc_new]
 congr 2
 apply Array.ext
 ·
  simp [madeCells]
 ·
  intro j h1 h2
  simp [madeCells,Nat.mod_one]
/-- 'copy(out, src)' into a block of the call's own, from its head on. -/
theorem wpList_cp {P:Program} {w:World} {ops:Array Oper} {rest:List Oper} {o:Oper} {a:Act} {Q:Exit→Act→World→Prop} (hgd:o.guard=none) (d s:Operand) (t:TypeId)
  (ho:o.op=.call { callee:=.builtin .copy,args:=#[d,s],argTypes:=#[t,t] }) (e:TypeId) (hu:P.underlying t=some (.slice e)) (hsz:(P.info? e).map (·.size)=some 1)
  (g n cD:Nat) (k:IntKind) (f h:Nat→Nat) (sp:Option Addr) (m cS:Nat) (hd:a.eval d=.slice (some ⟨g,0,none⟩) n cD) (hs:a.eval s=.slice sp m cS)
  (hown:Own k e w g n f) (hlie:Lie k w sp m cS h) (hmn:m≤n)
  (hK:∀ w',Own k e w' g n (fun i=>if i < m then h i else f i)→Only g w w'→wpList P ops Q rest (a.put o.dst (.int .i64 (m:Int))) w') :
  wpList P ops Q (o :: rest) a w:=by
 by_cases h0:m=0
 ·
  subst h0
  refine wpList_copy_nothing hgd d s t t ho e hu hsz _ _ _ _ _ _ hd hs (by simp) ?_
  exact hK w (hown.congr (fun i _=>by simp)) (Only.refl _ _)
 ·
  obtain ⟨b,off,rfl,hb⟩:=hlie.some_of_pos (by omega)
  have hown':=hown
  unfold Own at hown'
  have hlen:((List.range m).map fun i=>Value.int k (h i:Nat)).length=m:=by simp
  have:=wpList_copy_own (P:=P) (ops:=ops) (rest:=rest) (o:=o) (a:=a) (Q:=Q) hgd d s t t ho e hu hsz g 0 n cD ⟨b,off,none⟩ m cS hd hs _ e hown' ((List.range m).map fun i=>Value.int k (h i:Nat))
   (by rw [hlen]; exact (Nat.min_eq_left hmn).symm) ?src (by simp; exact hmn) ?one ?_
  ·
   exact this
  case src =>
   intro j v hj
   simp only [List.getElem?_map,Option.map_eq_some_iff] at hj
   obtain ⟨i,hi,rfl⟩:=hj
   obtain ⟨hlt,rfl⟩:=List.getElem?_eq_some_iff.1 hi
   simp only [List.length_range] at hlt
   simp only [List.getElem_range]
   have:=hlie.at j hlt
   rw [show (⟨b,off,none⟩:Addr).add j=⟨b,off+j,none⟩ from by unfold Addr.add; split <;> simp_all]
   exact this
  case one =>
   intro v hv
   simp only [List.mem_map] at hv
   obtain ⟨i,_,rfl⟩:=hv
   rfl
  ·
   rw [hlen]
   refine hK _ ?_ ⟨rfl,rfl,rfl,by simp [World.setRow],fun i hi=>setRow_other w g i _ hi⟩
   unfold Own
   rw [setRow_heap w g _ _ e _ hown']
   congr 2
   apply Array.ext
   ·
    simp; omega
   ·
    intro j h1 h2
    simp only [List.take_zero,List.nil_append,Nat.zero_add,List.getElem_toArray,List.getElem_map,List.getElem_range]
    simp only [List.size_toArray,List.length_map,List.length_range] at h2
    by_cases hj:j < m
    ·
     rw [List.getElem_append_left (by simpa using hj)]; simp [hj]
    ·
     rw [List.getElem_append_right (by simp; omega)]; simp [hj]; congr 2; omega
/-- The cost of a residual without its sign, and of a knee; how steep it is. -/
def rhA (a k:Int):Int:=if a≤k then a*a else 2*k*a - k*k
def slA (a k:Int):Int:=if a≤k then a else k
theorem hsq_nonneg (a:Int):0≤a*a:=by
 rcases Int.le_total 0 a with h | h
 ·
  exact Int.mul_nonneg h h
 ·
  have:=Int.mul_nonneg (show 0≤-a by omega) (show 0≤-a by omega)
  rwa [Int.neg_mul_neg] at this
theorem mul_nn {a b:Int} (ha:0≤a) (hb:0≤b):0≤a*b:=Int.mul_nonneg ha hb
section
variable {a b k l:Int}
theorem rhA_nonneg (ha:0≤a) (hk:0≤k):0≤rhA a k:=by
 unfold rhA
 split
 ·
  exact mul_nn ha ha
 ·
  have h1:=mul_nn hk (show 0≤a - k by omega)
  have h2:=mul_nn hk ha
  grind
theorem rhA_sq (ha:0≤a) (hk:0≤k):rhA a k≤a*a:=by
 unfold rhA
 split
 ·
  exact Int.le_refl _
 ·
  have h:=hsq_nonneg (a - k)
  grind
end
section
variable {r s k:Int}
end
end Go.Proofs.YtncbajehmdnibaaDoor
