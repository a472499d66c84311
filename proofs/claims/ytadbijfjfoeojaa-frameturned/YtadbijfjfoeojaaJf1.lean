/- Parts of the proof. -/
import Derived.WalkKit
import Derived.WalkSpells
import Derived.WalkLawsBesides
import Derived.Lib.Hide
import Derived.Laws.CopyOwn
import Derived.Deep.OwnRows
import Derived.Deep.QuietTactic
import Derived.BigQuiet
import Derived.Deep.RegionHeld3
import Derived.Deep.DeepCutAuto
set_option linter.unusedSimpArgs false
set_option linter.unusedVariables false
/- What the walks of this seat lean on: numbers that lie in slices of memory, part by part; no statement of the seat is proved here. -/
namespace Go.Proofs.Ytadbijfjfoeojaa
open Go.RowKit
/-- The base of the parts: 2^32. -/
def BB:Nat:=4294967296
/-- The i-th part of a number. -/
def lmb (N i:Nat):Nat:=N / BB ^ i % BB
theorem BB_pos:0 < BB:=by decide
theorem BBp (i:Nat):0 < BB ^ i:=Nat.pow_pos BB_pos
/-- n is how many parts N has. -/
def Fit (n N:Nat):Prop:=N < BB ^ n∧(n=0∨BB ^ (n - 1)≤N)
/-- A slice (address a, length n, capacity c) of n numbers of kind k: the i-th one is f i. -/
structure Lie (k:IntKind) (w:World) (a:Option Addr) (n c:Nat) (f:Nat→Nat):Prop where
 cap:n≤c
 capm:c≤maxLen
 nil:a=none→n=0∧c=0
 spot:∀ p,a=some p→p.spot=none∧p.block < w.heap.size
 cell:∀ p,a=some p→∀ i,i < n→w.cell? ⟨p.block,p.off+i,none⟩=some (.int k (f i:Nat))
theorem Lie.at {k:IntKind} {w:World} {b o n c:Nat} {f:Nat→Nat} (h:Lie k w (some ⟨b,o,none⟩) n c f) (i:Nat) (hi:i < n) :
  w.cell? ⟨b,o+i,none⟩=some (.int k (f i:Nat)):=h.cell _ rfl i hi
theorem Lie.below {k:IntKind} {w w':World} {a:Option Addr} {n c:Nat} {f:Nat→Nat} (h:Lie k w a n c f) (hb:Below w.heap.size w w'):Lie k w' a n c f :=
 ⟨h.cap,h.capm,h.nil,fun p hp=>⟨(h.spot p hp).1,Nat.lt_of_lt_of_le (h.spot p hp).2 hb.size⟩,
  fun p hp i hi=>by rw [hb.cell (p:=⟨p.block,p.off+i,none⟩) (h.spot p hp).2]; exact h.cell p hp i hi⟩
theorem Lie.cut {k:IntKind} {w:World} {a:Option Addr} {n c m:Nat} {f:Nat→Nat} (h:Lie k w a n c f) (hm:m≤n):Lie k w a m c f :=
 ⟨Nat.le_trans hm h.cap,h.capm,fun e=>⟨by have:=(h.nil e).1; omega,(h.nil e).2⟩,h.spot,fun p hp i hi=>h.cell p hp i (by omega)⟩
theorem ret_int {k:IntKind} {a b:Int} (h:a=b):Ending.returned (.int k a)=.returned (.int k b):=by rw [h]
/-- A number of package long: its sign, its parts in memory. -/
structure Num (w:World) (bl:Bool) (a:Option Addr) (n c:Nat) (z:Int):Prop where
 lie:Lie .u32 w a n c (lmb z.natAbs)
 fit:Fit n z.natAbs
 sgn:bl=decide (z < 0)
theorem Num.below {w w':World} {bl:Bool} {a:Option Addr} {n c:Nat} {z:Int} (h:Num w bl a n c z) (hb:Below w.heap.size w w'):Num w' bl a n c z:=⟨h.lie.below hb,h.fit,h.sgn⟩
/-- A value is handed back, and no memory that was there is turned. -/
def PVal (v:Value) (w:World) (e:Ending) (w':World):Prop:=e=.returned v∧Below w.heap.size w w'
theorem Fit.lt {n N:Nat} (h:Fit n N):N < BB ^ n:=h.1
/-- Block g alone is turned between two worlds. -/
structure Only (g:Nat) (w w':World):Prop where
 os:w'.os=w.os
 tape:w'.tape=w.tape
 output:w'.output=w.output
 size:w'.heap.size=w.heap.size
 block:∀ k,k ≠ g→w'.heap[k]?=w.heap[k]?
theorem Only.refl (g:Nat) (w:World):Only g w w:=⟨rfl,rfl,rfl,rfl,fun _ _=>rfl⟩
theorem Only.trans {g:Nat} {a b c:World} (h:Only g a b) (k:Only g b c):Only g a c :=
 ⟨k.os.trans h.os,k.tape.trans h.tape,k.output.trans h.output,k.size.trans h.size,fun i hi=>(k.block i hi).trans (h.block i hi)⟩
theorem Only.below {g B:Nat} {w w':World} (h:Only g w w') (hB:B≤g):Below B w w' :=
 ⟨h.os,h.tape,h.output,by rw [h.size]; exact Nat.le_refl _,fun k hk=>h.block k (by omega)⟩
theorem Only.drew {g:Nat} {a w:World} (h:Only g a w):Only g a w.drew:=⟨h.os,h.tape,h.output,h.size,h.block⟩
theorem Only.setCell (w:World) (g i:Nat) (v:Value):Only g w (w.setCell ⟨g,i,none⟩ v) :=
 ⟨rfl,rfl,rfl,by simp [World.setCell],fun k hk=>Below.heap_setCell _ _ _ _ hk⟩
theorem Lie.only {k:IntKind} {w w':World} {a:Option Addr} {n c g:Nat} {f:Nat→Nat} (h:Lie k w a n c f) (ho:Only g w w') (hg:∀ p,a=some p→p.block ≠ g):Lie k w' a n c f :=
 ⟨h.cap,h.capm,h.nil,fun p hp=>⟨(h.spot p hp).1,by rw [ho.size]; exact (h.spot p hp).2⟩,
  fun p hp i hi=>by rw [World.cell?_of_block (w:=w) (a:=⟨p.block,p.off+i,none⟩) (ho.block p.block (hg p hp))]; exact h.cell p hp i hi⟩
/-- Block g is a row of n numbers of kind k (elements of type e) that may be written: the i-th one is f i. -/
def Own (k:IntKind) (e:TypeId) (w:World) (g n:Nat) (f:Nat→Nat):Prop :=
 w.heap[g]?=some (.cells ((List.range n).map fun i=>Value.int k (f i:Nat)).toArray e (0,0))
section
variable {k:IntKind} {e:TypeId} {w:World} {g n:Nat} {f:Nat→Nat}
theorem Own.lt (h:Own k e w g n f):g < w.heap.size:=(Array.getElem?_eq_some_iff.1 h).1
theorem Own.cell (h:Own k e w g n f) (i:Nat) (hi:i < n):w.cell? ⟨g,i,none⟩=some (.int k (f i:Nat)):=by
 rw [cell_of_row w g i _ e (0,0) h]
 simp [hi]
theorem Own.free (h:Own k e w g n f) (i:Nat):w.frozen? ⟨g,i,none⟩=false:=by
 unfold Own at h
 simp [World.frozen?,h]
theorem Own.lie (h:Own k e w g n f) {m:Nat} (hm:m≤n) (hn:n≤maxLen):Lie k w (some ⟨g,0,none⟩) m n f :=
 ⟨hm,hn,(fun e=>by cases e),(fun p hp=>by cases hp; exact ⟨rfl,h.lt⟩),(fun p hp i hi=>by cases hp; simpa using h.cell i (by omega))⟩
theorem Own.congr (h:Own k e w g n f) {f':Nat→Nat} (hf:∀ i,i < n→f i=f' i):Own k e w g n f':=by
 unfold Own at h ⊢
 rw [h]
 congr 3
 refine List.map_congr_left fun i hi=>?_
 rw [hf i (by simpa using hi)]
theorem Own.below {w':World} (h:Own k e w g n f) (hb:Below w.heap.size w w'):Own k e w' g n f:=by
 unfold Own at h ⊢
 rw [hb.block g (Array.getElem?_eq_some_iff.1 h).1]; exact h
theorem Own.only {w':World} {g':Nat} (h:Own k e w g n f) (ho:Only g' w w') (hg:g ≠ g'):Own k e w' g n f:=by
 unfold Own at h ⊢
 rw [ho.block g hg]; exact h
theorem Own.drew (h:Own k e w g n f):Own k e w.drew g n f:=h
theorem Own.set (h:Own k e w g n f) {i:Nat} (x:Nat) (hi:i < n):Own k e (w.setCell ⟨g,i,none⟩ (.int k (x:Nat))) g n (fun j=>if j=i then x else f j):=by
 unfold Own at h ⊢
 have hlt:=(Array.getElem?_eq_some_iff.1 h).1
 simp only [World.setCell,Array.getElem?_modify,if_true,h,Option.map_some]
 congr 2
 apply Array.ext
 ·
  simp
 ·
  intro j h1 h2
  by_cases hj:j=i
  ·
   subst hj; simp
  ·
   simp [hj,Ne.symm hj,Array.getElem_setIfInBounds]
theorem Own.put (h:Own k e w g n f) {i:Nat} {x:Int} {F:Nat→Nat} (hi:i < n) (hx:x=(F i:Nat)) (hf:∀ j,j < n→j ≠ i→f j=F j):Own k e (w.setCell ⟨g,i,none⟩ (.int k x)) g n F:=by
 subst hx
 refine (h.set (F i) hi).congr fun j hj=>?_
 by_cases e:j=i
 ·
  subst e; simp
 ·
  simp [e,hf j hj e]
end
end Go.Proofs.Ytadbijfjfoeojaa

/- The check sum, bit by bit: it is linear, no sum but 0 comes to 0, and a row of up to 16 bits is told (no walk). No statement of the seat is proved here. -/
namespace Go.Proofs.Ytadbijfjfoeojaa.X
open Go Go.RowKit
/-- A sum, moved up by one bit. -/
def cb (x:Nat):Nat:=(x <<< 1) % 65536 ^^^ (if x.testBit 15 then 4129 else 0)
theorem cb_lt (x:Nat):cb x < 65536:=by
 unfold cb
 refine Nat.xor_lt_two_pow (n:=16) (Nat.mod_lt _ (by decide)) ?_
 split <;> decide
theorem xlc (a b c:Nat):a ^^^ (b ^^^ c)=b ^^^ (a ^^^ c):=by rw [← Nat.xor_assoc,Nat.xor_comm a b,Nat.xor_assoc]
theorem x4 (a b c d:Nat):a ^^^ b ^^^ (c ^^^ d)=a ^^^ c ^^^ (b ^^^ d):=by rw [Nat.xor_assoc,Nat.xor_assoc,xlc b c d]
theorem xite (p q:Bool) (c:Nat):(if (p ^^ q)=true then c else 0)=(if p=true then c else 0) ^^^ (if q=true then c else 0):=by cases p <;> cases q <;> simp
theorem xor_eq {a b:Nat} (e:a ^^^ b=0):a=b:=by
 have h:=congrArg (· ^^^ b) e
 simp only [Nat.xor_assoc,Nat.xor_self,Nat.xor_zero,Nat.zero_xor] at h
 exact h
theorem cb_lin (x y:Nat):cb (x ^^^ y)=cb x ^^^ cb y:=by
 unfold cb
 have e1:((x ^^^ y) <<< 1) % 65536=(x <<< 1) % 65536 ^^^ (y <<< 1) % 65536:=by
  refine Nat.eq_of_testBit_eq fun i=>?_
  rw [show 65536=2 ^ 16 from rfl]
  simp only [Nat.testBit_mod_two_pow,Nat.testBit_shiftLeft,Nat.testBit_xor]
  cases decide (i < 16) <;> cases decide (1≤i) <;> simp
 rw [e1,Nat.testBit_xor,xite]
 exact x4 _ _ _ _
theorem cb_zero:cb 0=0:=by decide
theorem hi_bit {x:Nat} (h:x < 65536):x.testBit 15=decide (32768≤x):=by
 rw [Nat.testBit_eq_decide_div_mod_eq]
 refine decide_eq_decide.2 ?_
 rw [show 2 ^ 15=32768 from rfl]
 omega
theorem cb_small {x:Nat} (h:x < 32768):cb x=2*x:=by
 unfold cb
 rw [hi_bit (by omega),decide_eq_false (by omega),Nat.shiftLeft_eq]
 simp
 omega
theorem cb_inj {x:Nat} (h:x < 65536) (e:cb x=0):x=0:=by
 by_cases hx:x < 32768
 ·
  rw [cb_small hx] at e; omega
 ·
  exfalso
  unfold cb at e
  rw [hi_bit h,decide_eq_true (by omega)] at e
  have e2:(x <<< 1) % 65536=4129:=by
   have:=xor_eq e
   simpa using this
  rw [Nat.shiftLeft_eq] at e2
  omega
def cbn:Nat→Nat→Nat
 | 0,x=>x
 | n+1,x=>cbn n (cb x)
theorem cbn_lin:∀ (n x y:Nat),cbn n (x ^^^ y)=cbn n x ^^^ cbn n y
 | 0,_,_=>rfl
 | n+1,x,y=>by show cbn n (cb (x ^^^ y))=_; rw [cb_lin]; exact cbn_lin n _ _
theorem cbn_zero:∀ n,cbn n 0=0
 | 0=>rfl
 | n+1=>by show cbn n (cb 0)=0; rw [cb_zero]; exact cbn_zero n
theorem cbn_inj:∀ {n x:Nat},x < 65536→cbn n x=0→x=0
 | 0,_,_,e=>e
 | n+1,x,h,e=>cb_inj h (cbn_inj (cb_lt x) e)
theorem cbn_add:∀ (m n x:Nat),cbn (m+n) x=cbn n (cbn m x)
 | 0,n,x=>by rw [Nat.zero_add]; rfl
 | m+1,n,x=>by rw [show m+1+n=m+n+1 by omega]; exact cbn_add m n (cb x)
def top (b:Bool):Nat:=if b then 32768 else 0
/-- Bits go through a sum, the first one first. -/
def cs:Nat→List Bool→Nat
 | s,[]=>s
 | s,b :: r=>cs (cb (s ^^^ top b)) r
theorem cs_append:∀ (l m:List Bool) (s:Nat),cs s (l++m)=cs (cs s l) m
 | [],_,_=>rfl
 | b :: l,m,s=>cs_append l m (cb (s ^^^ top b))
theorem cs_zeros:∀ (n s:Nat),cs s (List.replicate n false)=cbn n s
 | 0,_=>rfl
 | n+1,s=>by
  show cs (cb (s ^^^ 0)) (List.replicate n false)=cbn n (cb s)
  rw [Nat.xor_zero]
  exact cs_zeros n _
def xorL (l m:List Bool):List Bool:=List.zipWith (fun a b=>a ^^ b) l m
theorem top_xor (a b:Bool):top (a ^^ b)=top a ^^^ top b:=by cases a <;> cases b <;> decide
theorem cs_lin:∀ (l m:List Bool) (s t:Nat),l.length=m.length→cs (s ^^^ t) (xorL l m)=cs s l ^^^ cs t m
 | [],[],_,_,_=>rfl
 | a :: l,b :: m,s,t,h=>by
  show cs (cb (s ^^^ t ^^^ top (a ^^ b))) (xorL l m)=cs (cb (s ^^^ top a)) l ^^^ cs (cb (t ^^^ top b)) m
  rw [← cs_lin l m _ _ (by simpa using h),← cb_lin,top_xor]
  congr 2
  exact x4 _ _ _ _
theorem cs_lt:∀ (l:List Bool) {s:Nat},s < 65536→cs s l < 65536
 | [],_,h=>h
 | b :: l,s,_=>cs_lt l (cb_lt _)
/-- The bits of a byte, the highest first. -/
def b8 (b:Nat):List Bool:=[b.testBit 7,b.testBit 6,b.testBit 5,b.testBit 4,b.testBit 3,b.testBit 2,b.testBit 1,b.testBit 0]
theorem b8_all:∀ b:Fin 256,cbn 8 (b.val*256)=cs 0 (b8 b.val):=by decide +kernel
/-- A byte goes through a sum, bit by bit. -/
theorem cs_byte (s:Nat) {b:Nat} (h:b < 256):cbn 8 (s ^^^ b*256)=cs s (b8 b):=by
 rw [cbn_lin,b8_all ⟨b,h⟩,← cs_zeros,← cs_lin _ _ _ _ (by simp [b8]),Nat.xor_zero]
 congr 1
 simp [xorL,b8,List.replicate]
/-- A row of bits, as a number. -/
def bv:List Bool→Nat
 | []=>0
 | b :: r=>(if b then 2 ^ r.length else 0)+bv r
theorem bv_lt:∀ l:List Bool,bv l < 2 ^ l.length
 | []=>by decide
 | b :: r=>by
  have:=bv_lt r
  simp only [bv,List.length_cons,Nat.pow_succ]
  split <;> omega
theorem bv_zero:∀ {l:List Bool},bv l=0→∀ b,b ∈ l→b=false
 | [],_,b,h=>by cases h
 | c :: r,e,b,h=>by
  simp only [bv] at e
  have hp:0 < 2 ^ r.length:=Nat.pow_pos (by decide)
  cases c
  ·
   rcases List.mem_cons.1 h with rfl | h
   ·
    rfl
   ·
    exact bv_zero (by simpa using e) b h
  ·
   exfalso
   simp only [if_true] at e
   omega
theorem xor_add {a k:Nat} (b:Bool) (h:a < 2 ^ k):(if b then 2 ^ k else 0) ^^^ a=(if b then 2 ^ k else 0)+a:=by
 cases b
 ·
  simp
 ·
  simp only [if_true]
  refine Nat.eq_of_testBit_eq fun i=>?_
  rw [Nat.testBit_xor]
  have:=Nat.testBit_two_pow_add_eq a k
  by_cases hi:i=k
  ·
   subst hi
   rw [Nat.testBit_two_pow_add_eq,Nat.testBit_two_pow_self,Nat.testBit_lt_two_pow h]
   rfl
  ·
   rcases Nat.lt_or_gt_of_ne hi with hl | hg
   ·
    rw [Nat.testBit_two_pow_add_gt hl,Nat.testBit_two_pow_of_ne (fun e=>hi e.symm)]
    simp
   ·
    have h1:2 ^ k+a < 2 ^ i:=Nat.lt_of_lt_of_le (by rw [Nat.pow_succ]; omega) (Nat.pow_le_pow_right (by decide) (show k+1≤i by omega))
    rw [Nat.testBit_lt_two_pow h1,Nat.testBit_two_pow_of_ne (fun e=>hi e.symm),Nat.testBit_lt_two_pow (Nat.lt_trans h (Nat.pow_lt_pow_right (by decide) hg))]
    rfl
/-- Up to 16 bits go through a sum: as if they had stood at its head. -/
theorem cs_head:∀ (w:List Bool) (s:Nat),w.length≤16→cs s w=cbn w.length (s ^^^ bv w*2 ^ (16 - w.length))
 | [],s,_=>by simp [cs,bv,cbn]
 | b :: w,s,h=>by
  simp only [List.length_cons] at h
  have hl:=bv_lt w
  have hsm:bv w*2 ^ (16 - (w.length+1)) < 32768:=by
   have h1:bv w*2 ^ (16 - (w.length+1)) < 2 ^ w.length*2 ^ (16 - (w.length+1)):=Nat.mul_lt_mul_of_pos_right hl (Nat.pow_pos (by decide))
   rw [← Nat.pow_add,show w.length+(16 - (w.length+1))=15 by omega] at h1
   exact h1
  have e1:bv (b :: w)*2 ^ (16 - (w.length+1))=top b ^^^ bv w*2 ^ (16 - (w.length+1)):=by
   have:=xor_add (k:=15) b hsm
   rw [show top b=(if b then 2 ^ 15 else 0) from rfl,this]
   simp only [bv]
   rw [Nat.add_mul]
   congr 1
   cases b
   ·
    simp
   ·
    simp only [if_true]
    rw [← Nat.pow_add]
    congr 1
    omega
  show cs (cb (s ^^^ top b)) w=cbn w.length (cb (s ^^^ bv (b :: w)*2 ^ (16 - (w.length+1))))
  rw [cs_head w _ (by omega),e1,← Nat.xor_assoc,cb_lin (s ^^^ top b),cb_small hsm]
  congr 2
  rw [show 16 - w.length=16 - (w.length+1)+1 by omega,Nat.pow_succ]
  grind
/-- Of noughts but for up to 16 bits in a row 0 comes just if these are noughts too. -/
theorem cs_window {m n:Nat} {w:List Bool} (h:w.length≤16) (e:cs 0 (List.replicate m false++(w++List.replicate n false))=0):∀ b,b ∈ w→b=false:=by
 rw [cs_append,cs_zeros,cbn_zero,cs_append,cs_zeros,cs_head w 0 h,← cbn_add,Nat.zero_xor] at e
 have hlt:bv w*2 ^ (16 - w.length) < 65536:=by
  have h1:bv w*2 ^ (16 - w.length) < 2 ^ w.length*2 ^ (16 - w.length):=Nat.mul_lt_mul_of_pos_right (bv_lt w) (Nat.pow_pos (by decide))
  rw [← Nat.pow_add,show w.length+(16 - w.length)=16 by omega] at h1
  exact h1
 have h0:=cbn_inj hlt e
 refine bv_zero ?_
 rcases Nat.mul_eq_zero.1 h0 with h1 | h1
 ·
  exact h1
 ·
  have:=Nat.pow_pos (n:=16 - w.length) (show 0 < 2 by decide); omega
/-- Bytes go through a sum. -/
def csB:Nat→List UInt8→Nat
 | s,[]=>s
 | s,b :: r=>csB (cbn 8 (s ^^^ b.toNat*256)) r
def bitsL:List UInt8→List Bool
 | []=>[]
 | b :: r=>b8 b.toNat++bitsL r
theorem csB_bits:∀ (l:List UInt8) (s:Nat),csB s l=cs s (bitsL l)
 | [],_=>rfl
 | b :: r,s=>by
  show csB (cbn 8 (s ^^^ b.toNat*256)) r=cs s (b8 b.toNat++bitsL r)
  rw [cs_append,csB_bits r,cs_byte s b.toNat_lt]
theorem csB_append:∀ (l m:List UInt8) (s:Nat),csB s (l++m)=csB (csB s l) m
 | [],_,_=>rfl
 | b :: l,m,s=>csB_append l m _
theorem csB_snoc (l:List UInt8) (b:UInt8) (s:Nat):csB s (l++[b])=cbn 8 (csB s l ^^^ b.toNat*256):=csB_append l [b] s
theorem csB_lt (l:List UInt8) {s:Nat} (h:s < 65536):csB s l < 65536:=by rw [csB_bits]; exact cs_lt _ h
theorem bits_len:∀ l:List UInt8,(bitsL l).length=8*l.length
 | []=>rfl
 | b :: r=>by
  show (b8 b.toNat++bitsL r).length=_
  rw [List.length_append,bits_len r,List.length_cons]
  show 8+_=_
  omega
theorem xor_lt16 {a b:Nat} (ha:a < 65536) (hb:b < 65536):a ^^^ b < 65536:=Nat.xor_lt_two_pow (n:=16) ha hb
theorem bv_append:∀ l m:List Bool,bv (l++m)=bv l*2 ^ m.length+bv m
 | [],m=>by rw [List.nil_append]; show bv m=0*_+bv m; omega
 | b :: l,m=>by
  show (if b then 2 ^ (l++m).length else 0)+bv (l++m)=((if b then 2 ^ l.length else 0)+bv l)*2 ^ m.length+bv m
  rw [bv_append l m,List.length_append,Nat.add_mul,Nat.pow_add]
  cases b
  ·
   simp
  ·
   simp only [if_true]; omega
theorem bv_b8:∀ b:Fin 256,bv (b8 b.val)=b.val:=by decide +kernel
/-- Two bytes more come to 0 just if they are the sum. -/
theorem csB_two {s:Nat} (hs:s < 65536) (h l:UInt8):csB s [h,l]=0↔s=h.toNat*256+l.toNat:=by
 have e:csB s [h,l]=cbn 16 (s ^^^ (h.toNat*256+l.toNat)):=by
  rw [csB_bits]
  show cs s (b8 h.toNat++(b8 l.toNat++[]))=_
  rw [List.append_nil,cs_head _ _ (by simp [b8]),bv_append,bv_b8 ⟨h.toNat,h.toNat_lt⟩,bv_b8 ⟨l.toNat,l.toNat_lt⟩]
  show cbn 16 (s ^^^ (h.toNat*2 ^ 8+l.toNat)*2 ^ 0)=_
  rw [show (2:Nat) ^ 8=256 from rfl,Nat.pow_zero,Nat.mul_one]
 have hh:=h.toNat_lt
 have hl:=l.toNat_lt
 rw [e]
 constructor
 ·
  intro hz
  exact xor_eq (cbn_inj (xor_lt16 hs (by omega)) hz)
 ·
  intro hz
  rw [← hz,Nat.xor_self]
  exact cbn_zero 16
/-- The two bytes of a sum. -/
def twoB (n:Nat):List UInt8:=[UInt8.ofNat (n / 256),UInt8.ofNat (n % 256)]
theorem twoB_at {n:Nat} (h:n < 65536):(UInt8.ofNat (n / 256)).toNat=n / 256∧(UInt8.ofNat (n % 256)).toNat=n % 256:=by
 constructor <;> simp <;> omega
def sealB (l:List UInt8):List UInt8:=l++twoB (csB 65535 l)
def rightB (l:List UInt8):Bool:=decide (2≤l.length) && decide (sealB (l.take (l.length - 2))=l)
theorem twoB_zero {n:Nat} (h:n < 65536):csB n (twoB n)=0:=by
 refine (csB_two h _ _).2 ?_
 obtain ⟨e1,e2⟩:=twoB_at h
 rw [e1,e2]
 omega
theorem seal_zero (l:List UInt8):csB 65535 (sealB l)=0:=by
 unfold sealB
 rw [csB_append]
 exact twoB_zero (csB_lt l (by decide))
theorem seal_len (l:List UInt8):(sealB l).length=l.length+2:=by unfold sealB twoB; simp
theorem seal_take (l:List UInt8):(sealB l).take ((sealB l).length - 2)=l:=by
 rw [seal_len]
 unfold sealB
 simp
theorem two_of {n:Nat} {h l:UInt8} (e:n=h.toNat*256+l.toNat):twoB n=[h,l]:=by
 have hh:=h.toNat_lt
 have hl:=l.toNat_lt
 unfold twoB
 rw [show n / 256=h.toNat by omega,show n % 256=l.toNat by omega]
 simp
/-- A text is sealed just if its sum, over its two last bytes too, is 0. -/
theorem right_iff (l:List UInt8):rightB l=(decide (2≤l.length) && decide (csB 65535 l=0)):=by
 unfold rightB
 by_cases h2:2≤l.length
 ·
  rw [decide_eq_true h2,Bool.true_and,Bool.true_and]
  refine decide_eq_decide.2 ⟨fun e=>by rw [← e]; exact seal_zero _,fun e=>?_⟩
  have hd:l.take (l.length - 2)++l.drop (l.length - 2)=l:=List.take_append_drop _ _
  have hl:(l.drop (l.length - 2)).length=2:=by rw [List.length_drop]; omega
  generalize l.drop (l.length - 2)=d at *
  match d,hl with
  | [x,y],_ =>
   rw [← hd,csB_append] at e
   have:=(csB_two (csB_lt _ (by decide)) x y).1 e
   unfold sealB
   rw [two_of this]
   exact hd
 ·
  rw [decide_eq_false h2,Bool.false_and,Bool.false_and]
/-- The q-th bit of bytes. -/
def bitA (f:Nat→Nat) (q:Nat):Bool:=(f (q / 8)).testBit (7 - q % 8)
theorem b8_eq (b:Nat):b8 b=(List.range 8).map fun r=>b.testBit (7 - r):=rfl
/-- Bytes by a function. -/
def byF (f:Nat→Nat) (n:Nat):List UInt8:=(List.range n).map fun j=>UInt8.ofNat (f j)
theorem byF_succ (f:Nat→Nat) (n:Nat):byF f (n+1)=byF f n++[UInt8.ofNat (f n)]:=by unfold byF; rw [List.range_succ,List.map_append]; rfl
theorem byF_len (f:Nat→Nat) (n:Nat):(byF f n).length=n:=by unfold byF; simp
theorem bits_append:∀ l m:List UInt8,bitsL (l++m)=bitsL l++bitsL m
 | [],_=>rfl
 | b :: l,m=>by
  show b8 b.toNat++bitsL (l++m)=b8 b.toNat++bitsL l++bitsL m
  rw [bits_append l m,List.append_assoc]
theorem bits_byF (f:Nat→Nat):∀ n:Nat,(∀ j,j < n→f j < 256)→bitsL (byF f n)=(List.range (8*n)).map (bitA f)
 | 0,_=>rfl
 | n+1,h=>by
  rw [byF_succ,bits_append,bits_byF f n (fun j hj=>h j (by omega)),show 8*(n+1)=8*n+8 by omega,List.range_add,List.map_append]
  congr 1
  have hn:=h n (by omega)
  have e:(UInt8.ofNat (f n)).toNat=f n:=by simp; omega
  show b8 (UInt8.ofNat (f n)).toNat++[]=_
  rw [List.append_nil,e,b8_eq,List.map_map]
  refine List.map_congr_left fun r hr=>?_
  have hr:=List.mem_range.1 hr
  show (f n).testBit (7 - r)=(f ((8*n+r) / 8)).testBit (7 - (8*n+r) % 8)
  rw [show (8*n+r) / 8=n by omega,show (8*n+r) % 8=r by omega]
theorem xorL_map (f g:Nat→Bool):∀ n:Nat,xorL ((List.range n).map f) ((List.range n).map g)=(List.range n).map fun q=>f q ^^ g q:=by
 intro n
 unfold xorL
 rw [List.zipWith_map]
 refine List.ext_getElem (by simp) fun i h1 h2=>?_
 simp
/-- What stands nowhere but in 16 places in a row. -/
def winF (a:Nat) (p:Nat→Bool) (q:Nat):Bool:=decide (a≤q) && decide (q < a+16) && p (q - a)
theorem map_false {f:Nat→Bool} {l:List Nat} (h:∀ q,q ∈ l→f q=false):l.map f=List.replicate l.length false:=by
 refine List.eq_replicate_iff.2 ⟨by simp,fun b hb=>?_⟩
 obtain ⟨q,hq,rfl⟩:=List.mem_map.1 hb
 exact h q hq
theorem win_list (a m:Nat) (p:Nat→Bool) (ha:a≤m):(List.range m).map (winF a p)=List.replicate a false++((List.range (min 16 (m - a))).map p++List.replicate (m - a - min 16 (m - a)) false):=by
 obtain ⟨k,hk⟩:∃ k,k=min 16 (m - a):=⟨_,rfl⟩
 rw [← hk,show m=a+(k+(m - a - k)) by omega,List.range_add,List.range_add,List.map_append,List.map_append,List.map_append]
 congr 1
 ·
  rw [map_false,List.length_range]
  intro q hq
  have:=List.mem_range.1 hq
  unfold winF
  rw [decide_eq_false (by omega)]
  rfl
 ·
  congr 1
  ·
   rw [List.map_map]
   refine List.map_congr_left fun q hq=>?_
   have:=List.mem_range.1 hq
   show winF a p (a+q)=p q
   unfold winF
   rw [decide_eq_true (by omega),decide_eq_true (by omega),Nat.add_sub_cancel_left]
   rfl
  ·
   rw [show a+(k+(m - a - k)) - a - k=m - a - k by omega,List.map_map,List.map_map,map_false,List.length_range]
   intro q hq
   have:=List.mem_range.1 hq
   show winF a p (a+(k+q))=false
   unfold winF
   rw [decide_eq_false (show ¬ a+(k+q) < a+16 by omega)]
   simp
/-- Bytes in which some of 16 bits in a row are turned have another sum, if any is. -/
theorem win_sum {f g:Nat→Nat} {n a:Nat} {p:Nat→Bool} (hf:∀ j,j < n→f j < 256) (hg:∀ j,j < n→g j < 256) (ha:a≤8*n) (h:∀ q,q < 8*n→bitA g q=(bitA f q ^^ winF a p q)) (s:Nat) :
  csB s (byF g n)=csB s (byF f n)↔∀ i,i < 16→a+i < 8*n→p i=false:=by
 have eg:bitsL (byF g n)=xorL (bitsL (byF f n)) ((List.range (8*n)).map (winF a p)):=by
  rw [bits_byF f n hf,bits_byF g n hg,xorL_map]
  exact List.map_congr_left fun q hq=>h q (List.mem_range.1 hq)
 have hl:(bitsL (byF f n)).length=((List.range (8*n)).map (winF a p)).length:=by rw [bits_len,byF_len]; simp
 have key:=cs_lin _ _ s 0 hl
 rw [Nat.xor_zero,← eg,← csB_bits,← csB_bits] at key
 constructor
 ·
  intro e i hi hai
  rw [e] at key
  have hz:cs 0 ((List.range (8*n)).map (winF a p))=0:=by
   have h2:=congrArg (fun x=>csB s (byF f n) ^^^ x) key
   simp only [← Nat.xor_assoc,Nat.xor_self,Nat.zero_xor] at h2
   exact h2.symm
  rw [win_list a _ p ha] at hz
  exact cs_window (by simp; omega) hz (p i) (List.mem_map.2 ⟨i,List.mem_range.2 (by omega),rfl⟩)
 ·
  intro hp
  have hz:(List.range (8*n)).map (winF a p)=List.replicate (8*n) false:=by
   rw [map_false,List.length_range]
   intro q hq
   have:=List.mem_range.1 hq
   unfold winF
   by_cases h1:a≤q
   ·
    by_cases h2:q < a+16
    ·
     rw [hp (q - a) (by omega) (by omega)]; simp
    ·
     rw [decide_eq_false h2]; simp
   ·
    rw [decide_eq_false h1]; rfl
  rw [key,hz,cs_zeros,cbn_zero,Nat.xor_zero]
/-- One bit is turned. -/
def turn1 (f:Nat→Nat) (q:Nat):Nat→Nat:=fun j=>if j=q / 8 then f j ^^^ 128 >>> (q % 8) else f j
theorem one_bit:∀ k r:Fin 8,(128 >>> k.val).testBit (7 - r.val)=decide (r=k):=by decide
theorem turn1_lt {f:Nat→Nat} {q:Nat} (h:∀ j,f j < 256):∀ j,turn1 f q j < 256:=by
 intro j
 unfold turn1
 split
 ·
  refine Nat.xor_lt_two_pow (n:=8) (h j) ?_
  exact Nat.lt_of_le_of_lt (Nat.shiftRight_le 128 _) (by decide)
 ·
  exact h j
theorem turn1_bit (f:Nat→Nat) (q r:Nat):bitA (turn1 f q) r=(bitA f r ^^ decide (r=q)):=by
 unfold bitA turn1
 by_cases e:r / 8=q / 8
 ·
  rw [if_pos e,Nat.testBit_xor]
  congr 1
  have:=one_bit ⟨q % 8,Nat.mod_lt _ (by decide)⟩ ⟨r % 8,Nat.mod_lt _ (by decide)⟩
  rw [this]
  refine decide_eq_decide.2 ?_
  simp only [Fin.mk.injEq]
  omega
 ·
  rw [if_neg e,decide_eq_false (by intro h; exact e (by rw [h])),Bool.xor_false]
/-- Some of the first i bits from a on are turned. -/
def turnN (f:Nat→Nat) (a:Nat) (p:Nat→Bool):Nat→Nat→Nat
 | 0=>f
 | i+1=>if p i then turn1 (turnN f a p i) (a+i) else turnN f a p i
theorem turnN_lt {f:Nat→Nat} (h:∀ j,f j < 256) (a:Nat) (p:Nat→Bool):∀ i j,turnN f a p i j < 256
 | 0,j=>h j
 | i+1,j=>by
  show (if p i then turn1 (turnN f a p i) (a+i) else turnN f a p i) j < 256
  split
  ·
   exact turn1_lt (turnN_lt h a p i) j
  ·
   exact turnN_lt h a p i j
theorem turnN_bit (f:Nat→Nat) (a:Nat) (p:Nat→Bool) (q:Nat):∀ i,bitA (turnN f a p i) q=(bitA f q ^^ (decide (a≤q) && decide (q < a+i) && p (q - a)))
 | 0=>by
  show bitA f q=_
  by_cases h:a≤q
  ·
   rw [decide_eq_false (show ¬ q < a+0 by omega)]; simp
  ·
   rw [decide_eq_false h]; simp
 | i+1=>by
  have ih:=turnN_bit f a p q i
  show bitA (if p i then turn1 (turnN f a p i) (a+i) else turnN f a p i) q=_
  by_cases e:q=a+i
  ·
   subst e
   rw [decide_eq_true (show a≤a+i by omega),decide_eq_false (show ¬ a+i < a+i by omega),Bool.true_and,Bool.false_and,Bool.xor_false] at ih
   rw [decide_eq_true (show a≤a+i by omega),decide_eq_true (show a+i < a+(i+1) by omega),Nat.add_sub_cancel_left,Bool.true_and,Bool.true_and]
   cases hp:p i
   ·
    simp only [Bool.false_eq_true,if_false]; rw [ih,Bool.xor_false]
   ·
    simp only [if_true]; rw [turn1_bit,ih,decide_eq_true rfl]
  ·
   rw [show decide (q < a+(i+1))=decide (q < a+i) from decide_eq_decide.2 (by omega)]
   cases hp:p i
   ·
    simp only [Bool.false_eq_true,if_false]; exact ih
   ·
    simp only [if_true]; rw [turn1_bit,ih,decide_eq_false e,Bool.xor_false]
/-- As many rounds as there are places, up to 16. -/
theorem turnN_win {f:Nat→Nat} {a n i:Nat} {p:Nat→Bool} (hi:i=16∨(i < 16∧8*n≤a+i)):∀ q,q < 8*n→bitA (turnN f a p i) q=(bitA f q ^^ winF a p q):=by
 intro q hq
 rw [turnN_bit]
 unfold winF
 by_cases h:a≤q
 ·
  rw [show decide (q < a+i)=decide (q < a+16) from decide_eq_decide.2 (by omega)]
 ·
  rw [decide_eq_false h]; rfl
end Go.Proofs.Ytadbijfjfoeojaa.X

/- Frames on a line, by what is to be done next: how bytes are cut does not matter, what was wrapped is told (no walk). No statement of the seat is proved here. -/
namespace Go.Proofs.Ytadbijfjfoeojaa.W
open Go Go.RowKit
/-- What is done with the first bytes that wait. -/
inductive Ev where
 | drop:Ev
 | bad:Ev
 | told:UInt8→List UInt8→Ev
abbrev Rs:=List (UInt8 × List UInt8) × Nat × List UInt8
def Ev.on:Ev→Rs→Rs
 | .drop,r=>r
 | .bad,r=>(r.1,r.2.1+1,r.2.2)
 | .told k p,r=>((k,p) :: r.1,r.2.1,r.2.2)
section
variable (rt:List UInt8→Bool)
/-- Behind 165 and 90: kind, count, and so on. -/
def body (m:List UInt8):Option (Ev × List UInt8) :=
 match m with
 | k :: n :: t=>if 64 < n.toNat then some (.bad,m) else if t.length < n.toNat+2 then none else if rt (k :: n :: t.take (n.toNat+2)) then some (.told k (t.take n.toNat),t.drop (n.toNat+2)) else some (.bad,m)
 | _=>none
/-- What is to be done next; none: the bytes wait. -/
def stp (l:List UInt8):Option (Ev × List UInt8) :=
 match l with
 | []=>none
 | a :: l=>if a=165 then (match l with
  | []=>none
  | b :: m=>if b=90 then body rt m else some (.drop,l)) else some (.drop,l)
variable {rt:List UInt8→Bool} {l l' m:List UInt8} {e:Ev}
theorem body_len (h:body rt m=some (e,l')):l'.length≤m.length:=by
 unfold body at h
 split at h
 ·
  next k n t =>
  split at h
  ·
   simp only [Option.some.injEq,Prod.mk.injEq] at h; rw [← h.2]; exact Nat.le_refl _
  ·
   split at h
   ·
    cases h
   ·
    split at h
    ·
     simp only [Option.some.injEq,Prod.mk.injEq] at h; rw [← h.2]; simp; omega
    ·
     simp only [Option.some.injEq,Prod.mk.injEq] at h; rw [← h.2]; exact Nat.le_refl _
 ·
  cases h
theorem stp_len (h:stp rt l=some (e,l')):l'.length < l.length:=by
 unfold stp at h
 split at h
 ·
  cases h
 ·
  next a l =>
  split at h
  ·
   split at h
   ·
    cases h
   ·
    next b m =>
    split at h
    ·
     have:=body_len h; simp; omega
    ·
     simp only [Option.some.injEq,Prod.mk.injEq] at h; rw [← h.2]; simp
  ·
   simp only [Option.some.injEq,Prod.mk.injEq] at h; rw [← h.2]; simp
theorem body_app (h:body rt m=some (e,l')) (z:List UInt8):body rt (m++z)=some (e,l'++z):=by
 unfold body at h
 split at h
 ·
  next k n t =>
  show body rt (k :: n :: (t++z))=_
  unfold body
  simp only
  split at h
  ·
   next hn=>rw [if_pos hn]; simp only [Option.some.injEq,Prod.mk.injEq] at h; rw [← h.1,← h.2]; rfl
  ·
   next hn =>
   rw [if_neg hn]
   split at h
   ·
    cases h
   ·
    next hl =>
    rw [if_neg (by rw [List.length_append]; omega),List.take_append_of_le_length (by omega),List.take_append_of_le_length (by omega),List.drop_append_of_le_length (by omega)]
    split at h
    ·
     next hr=>rw [if_pos hr]; simp only [Option.some.injEq,Prod.mk.injEq] at h; rw [← h.1,← h.2]
    ·
     next hr=>rw [if_neg hr]; simp only [Option.some.injEq,Prod.mk.injEq] at h; rw [← h.1,← h.2]; rfl
 ·
  cases h
theorem stp_app (h:stp rt l=some (e,l')) (z:List UInt8):stp rt (l++z)=some (e,l'++z):=by
 unfold stp at h
 split at h
 ·
  cases h
 ·
  next a l =>
  show stp rt (a :: (l++z))=_
  unfold stp
  simp only
  split at h
  ·
   next ha =>
   rw [if_pos ha]
   split at h
   ·
    cases h
   ·
    next b m =>
    show (if b=90 then body rt (m++z) else some (Ev.drop,b :: (m++z)))=_
    split at h
    ·
     next hb=>rw [if_pos hb]; exact body_app h z
    ·
     next hb=>rw [if_neg hb]; simp only [Option.some.injEq,Prod.mk.injEq] at h; rw [← h.1,← h.2]; rfl
  ·
   next ha=>rw [if_neg ha]; simp only [Option.some.injEq,Prod.mk.injEq] at h; rw [← h.1,← h.2]
variable (rt)
def rn:Nat→List UInt8→Rs
 | 0,l=>([],0,l)
 | f+1,l=>match stp rt l with
  | none=>([],0,l)
  | some (e,l')=>e.on (rn f l')
/-- All that is done. -/
def run (l:List UInt8):Rs:=rn rt l.length l
variable {rt}
theorem rn_fuel:∀ (f:Nat) (l:List UInt8),l.length≤f→rn rt f l=rn rt l.length l:=by
 intro f
 induction f using Nat.strongRecOn with
 | _ f ih =>
  intro l hl
  cases f with
  | zero=>rw [show l.length=0 by omega]
  | succ f =>
   cases hk:l.length with
   | zero =>
    have:l=[]:=List.length_eq_zero_iff.1 hk
    subst this
    rfl
   | succ k =>
    show (match stp rt l with | none=>([],0,l) | some (e,l')=>e.on (rn rt f l'))=(match stp rt l with | none=>([],0,l) | some (e,l')=>e.on (rn rt k l'))
    cases hs:stp rt l with
    | none=>rfl
    | some p =>
     obtain ⟨e,l'⟩:=p
     have:=stp_len hs
     show e.on (rn rt f l')=e.on (rn rt k l')
     rw [ih f (by omega) l' (by omega)]
     by_cases hkf:k=f
     ·
      subst hkf; rw [ih k (by omega) l' (by omega)]
     ·
      rw [ih k (by omega) l' (by omega)]
theorem run_some (h:stp rt l=some (e,l')):run rt l=e.on (run rt l'):=by
 have hlt:=stp_len h
 unfold run
 cases hk:l.length with
 | zero=>omega
 | succ k =>
  show (match stp rt l with | none=>([],0,l) | some (e,l')=>e.on (rn rt k l'))=_
  rw [h]
  show e.on (rn rt k l')=_
  rw [rn_fuel k l' (by omega)]
theorem run_none (h:stp rt l=none):run rt l=([],0,l):=by
 unfold run
 cases hk:l.length with
 | zero=>rfl
 | succ k =>
  show (match stp rt l with | none=>([],0,l) | some (e,l')=>e.on (rn rt k l'))=_
  rw [h]
/-- Both, one behind the other. -/
def cat (a b:Rs):Rs:=(a.1++b.1,a.2.1+b.2.1,b.2.2)
theorem on_cat (e:Ev) (a b:Rs):e.on (cat a b)=cat (e.on a) b:=by
 cases e with
 | drop=>rfl
 | bad=>unfold Ev.on cat; simp only [Prod.mk.injEq]; exact ⟨trivial,by omega,trivial⟩
 | told k p=>rfl
theorem on_rest (e:Ev) (a:Rs):(e.on a).2.2=a.2.2:=by cases e <;> rfl
/-- What comes later is done behind what was done. -/
theorem run_app:∀ (n:Nat) (l z:List UInt8),l.length=n→run rt (l++z)=cat (run rt l) (run rt ((run rt l).2.2++z)):=by
 intro n
 induction n using Nat.strongRecOn with
 | _ n ih =>
  intro l z hl
  cases h:stp rt l with
  | none =>
   rw [run_none h]
   show _=cat ([],0,l) (run rt (l++z))
   unfold cat
   simp only [List.nil_append,Nat.zero_add]
  | some p =>
   obtain ⟨e,l'⟩:=p
   rw [run_some h,run_some (stp_app h z),ih _ (hl ▸ stp_len h) l' z rfl,on_cat,on_rest]
/-- Bytes that are not 165 are dropped. -/
theorem run_junk:∀ (j z:List UInt8),(∀ x,x ∈ j→x ≠ 165)→run rt (j++z)=run rt z
 | [],_,_=>rfl
 | a :: j,z,h=>by
  have hs:stp rt (a :: (j++z))=some (.drop,j++z):=by
   unfold stp
   simp only
   rw [if_neg (h a (List.mem_cons_self ..))]
  show run rt (a :: (j++z))=_
  rw [run_some hs]
  exact run_junk j z fun x hx=>h x (List.mem_cons_of_mem _ hx)
/-- A right frame is told. -/
theorem stp_told {k n:UInt8} {p s z:List UInt8} (hn:n.toNat=p.length) (hp:p.length≤64) (hs:s.length=2) (hr:rt (k :: n :: (p++s))=true):stp rt (165 :: 90 :: k :: n :: (p++s)++z)=some (.told k p,z):=by
 have hb:body rt (k :: n :: (p++(s++z)))=some (.told k p,z):=by
  unfold body
  simp only
  rw [if_neg (by omega),if_neg (by simp; omega)]
  have e1:(p++(s++z)).take (n.toNat+2)=p++s:=by
   rw [← List.append_assoc,List.take_append_of_le_length (by simp; omega),List.take_of_length_le (by simp; omega)]
  have e2:(p++(s++z)).take n.toNat=p:=by rw [hn,List.take_left']; rfl
  have e3:(p++(s++z)).drop (n.toNat+2)=z:=by
   rw [← List.append_assoc,List.drop_append,List.drop_of_length_le (by simp; omega)]
   rw [show n.toNat+2 - (p++s).length=0 by simp; omega]
   rfl
  rw [e1,e2,e3,if_pos hr]
 show stp rt (165 :: 90 :: k :: n :: (p++s++z))=_
 unfold stp
 simp only
 rw [if_pos trivial,if_pos trivial,List.append_assoc]
 exact hb
theorem run_told {k n:UInt8} {p s z:List UInt8} (hn:n.toNat=p.length) (hp:p.length≤64) (hs:s.length=2) (hr:rt (k :: n :: (p++s))=true):run rt (165 :: 90 :: k :: n :: (p++s)++z)=((k,p) :: (run rt z).1,(run rt z).2.1,(run rt z).2.2):=by
 rw [run_some (stp_told hn hp hs hr)]
 rfl
/-- A frame that is not right is bad. -/
theorem run_wrong {k n:UInt8} {t z:List UInt8} (hn:n.toNat≤64) (ht:t.length=n.toNat+2) (hr:rt (k :: n :: t)=false):0 < (run rt (165 :: 90 :: k :: n :: t++z)).2.1:=by
 have hb:body rt (k :: n :: (t++z))=some (.bad,k :: n :: (t++z)):=by
  unfold body
  simp only
  rw [if_neg (by omega),if_neg (by simp; omega),List.take_append_of_le_length (by omega),List.take_of_length_le (by omega),if_neg (by rw [hr]; decide)]
 have hs:stp rt (165 :: 90 :: k :: n :: (t++z))=some (.bad,k :: n :: (t++z)):=by
  unfold stp
  simp only
  rw [if_pos trivial,if_pos trivial]
  exact hb
 show 0 < (run rt (165 :: 90 :: k :: n :: (t++z))).2.1
 rw [run_some hs]
 show 0 < (run rt _).2.1+1
 omega
/-- What is cut off waits. -/
theorem stp_cut {k n:UInt8} {t:List UInt8} (hn:n.toNat≤64) (ht:t.length=n.toNat+2) (c:Nat) (hc:c < t.length+4):stp rt ((165 :: 90 :: k :: n :: t).take c)=none:=by
 match c,hc with
 | 0,_=>rfl
 | 1,_=>rfl
 | 2,_=>rfl
 | 3,_=>rfl
 | c+4,hc =>
  show stp rt (165 :: 90 :: k :: n :: t.take c)=none
  unfold stp
  simp only
  rw [if_pos trivial,if_pos trivial]
  unfold body
  simp only
  rw [if_neg (by omega),if_pos (by rw [List.length_take]; omega)]
end
end Go.Proofs.Ytadbijfjfoeojaa.W
