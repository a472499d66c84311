/- Parts of the proof. -/
import Derived.WalkKit
import Derived.WalkSpells
import Derived.WalkLawsBesides
import Derived.Lib.Hide
import Derived.Laws.CopyOwn
import Derived.Deep.OwnRows
import Derived.Deep.QuietTactic
import Derived.BigQuiet
import Derived.Deep.RegionHeld3
import Derived.Deep.DeepCutAuto
set_option linter.unusedSimpArgs false
set_option linter.unusedVariables false
/- What the walks of this seat lean on: numbers that lie in slices of memory, part by part; no statement of the seat is proved here. -/
namespace Go.Proofs.YtcoenncgoepadaaDoor
open Go.RowKit
/-- The base of the parts: 2^32. -/
def BB:Nat:=4294967296
/-- The i-th part of a number. -/
def lmb (N i:Nat):Nat:=N / BB ^ i % BB
/-- n is how many parts N has. -/
def Fit (n N:Nat):Prop:=N < BB ^ n∧(n=0∨BB ^ (n - 1)≤N)
/-- A slice (address a, length n, capacity c) of n numbers of kind k: the i-th one is f i. -/
structure Lie (k:IntKind) (w:World) (a:Option Addr) (n c:Nat) (f:Nat→Nat):Prop where
 cap:n≤c
 capm:c≤maxLen
 nil:a=none→n=0∧c=0
 spot:∀ p,a=some p→p.spot=none∧p.block < w.heap.size
 cell:∀ p,a=some p→∀ i,i < n→w.cell? ⟨p.block,p.off+i,none⟩=some (.int k (f i:Nat))
theorem Lie.at {k:IntKind} {w:World} {b o n c:Nat} {f:Nat→Nat} (h:Lie k w (some ⟨b,o,none⟩) n c f) (i:Nat) (hi:i < n) :
  w.cell? ⟨b,o+i,none⟩=some (.int k (f i:Nat)):=h.cell _ rfl i hi
theorem Lie.below {k:IntKind} {w w':World} {a:Option Addr} {n c:Nat} {f:Nat→Nat} (h:Lie k w a n c f) (hb:Below w.heap.size w w'):Lie k w' a n c f :=
 ⟨h.cap,h.capm,h.nil,fun p hp=>⟨(h.spot p hp).1,Nat.lt_of_lt_of_le (h.spot p hp).2 hb.size⟩,
  fun p hp i hi=>by rw [hb.cell (p:=⟨p.block,p.off+i,none⟩) (h.spot p hp).2]; exact h.cell p hp i hi⟩
theorem ret_int {k:IntKind} {a b:Int} (h:a=b):Ending.returned (.int k a)=.returned (.int k b):=by rw [h]
/-- A number of package long: its sign, its parts in memory. -/
structure Num (w:World) (bl:Bool) (a:Option Addr) (n c:Nat) (z:Int):Prop where
 lie:Lie .u32 w a n c (lmb z.natAbs)
 fit:Fit n z.natAbs
 sgn:bl=decide (z < 0)
theorem Num.below {w w':World} {bl:Bool} {a:Option Addr} {n c:Nat} {z:Int} (h:Num w bl a n c z) (hb:Below w.heap.size w w'):Num w' bl a n c z:=⟨h.lie.below hb,h.fit,h.sgn⟩
/-- A value is handed back, and no memory that was there is turned. -/
def PVal (v:Value) (w:World) (e:Ending) (w':World):Prop:=e=.returned v∧Below w.heap.size w w'
theorem Fit.lt {n N:Nat} (h:Fit n N):N < BB ^ n:=h.1
/-- Block g alone is turned between two worlds. -/
structure Only (g:Nat) (w w':World):Prop where
 os:w'.os=w.os
 tape:w'.tape=w.tape
 output:w'.output=w.output
 size:w'.heap.size=w.heap.size
 block:∀ k,k ≠ g→w'.heap[k]?=w.heap[k]?
theorem Only.refl (g:Nat) (w:World):Only g w w:=⟨rfl,rfl,rfl,rfl,fun _ _=>rfl⟩
theorem Only.trans {g:Nat} {a b c:World} (h:Only g a b) (k:Only g b c):Only g a c :=
 ⟨k.os.trans h.os,k.tape.trans h.tape,k.output.trans h.output,k.size.trans h.size,fun i hi=>(k.block i hi).trans (h.block i hi)⟩
theorem Only.below {g B:Nat} {w w':World} (h:Only g w w') (hB:B≤g):Below B w w' :=
 ⟨h.os,h.tape,h.output,by rw [h.size]; exact Nat.le_refl _,fun k hk=>h.block k (by omega)⟩
theorem Only.drew {g:Nat} {a w:World} (h:Only g a w):Only g a w.drew:=⟨h.os,h.tape,h.output,h.size,h.block⟩
theorem Only.setCell (w:World) (g i:Nat) (v:Value):Only g w (w.setCell ⟨g,i,none⟩ v) :=
 ⟨rfl,rfl,rfl,by simp [World.setCell],fun k hk=>Below.heap_setCell _ _ _ _ hk⟩
theorem Lie.only {k:IntKind} {w w':World} {a:Option Addr} {n c g:Nat} {f:Nat→Nat} (h:Lie k w a n c f) (ho:Only g w w') (hg:∀ p,a=some p→p.block ≠ g):Lie k w' a n c f :=
 ⟨h.cap,h.capm,h.nil,fun p hp=>⟨(h.spot p hp).1,by rw [ho.size]; exact (h.spot p hp).2⟩,
  fun p hp i hi=>by rw [World.cell?_of_block (w:=w) (a:=⟨p.block,p.off+i,none⟩) (ho.block p.block (hg p hp))]; exact h.cell p hp i hi⟩
/-- Block g is a row of n numbers of kind k (elements of type e) that may be written: the i-th one is f i. -/
def Own (k:IntKind) (e:TypeId) (w:World) (g n:Nat) (f:Nat→Nat):Prop :=
 w.heap[g]?=some (.cells ((List.range n).map fun i=>Value.int k (f i:Nat)).toArray e (0,0))
section
variable {k:IntKind} {e:TypeId} {w:World} {g n:Nat} {f:Nat→Nat}
theorem Own.lt (h:Own k e w g n f):g < w.heap.size:=(Array.getElem?_eq_some_iff.1 h).1
theorem Own.cell (h:Own k e w g n f) (i:Nat) (hi:i < n):w.cell? ⟨g,i,none⟩=some (.int k (f i:Nat)):=by
 rw [cell_of_row w g i _ e (0,0) h]
 simp [hi]
theorem Own.free (h:Own k e w g n f) (i:Nat):w.frozen? ⟨g,i,none⟩=false:=by
 unfold Own at h
 simp [World.frozen?,h]
theorem Own.lie (h:Own k e w g n f) {m:Nat} (hm:m≤n) (hn:n≤maxLen):Lie k w (some ⟨g,0,none⟩) m n f :=
 ⟨hm,hn,(fun e=>by cases e),(fun p hp=>by cases hp; exact ⟨rfl,h.lt⟩),(fun p hp i hi=>by cases hp; simpa using h.cell i (by omega))⟩
theorem Own.congr (h:Own k e w g n f) {f':Nat→Nat} (hf:∀ i,i < n→f i=f' i):Own k e w g n f':=by
 unfold Own at h ⊢
 rw [h]
 congr 3
 refine List.map_congr_left fun i hi=>?_
 rw [hf i (by simpa using hi)]
theorem Own.below {w':World} (h:Own k e w g n f) (hb:Below w.heap.size w w'):Own k e w' g n f:=by
 unfold Own at h ⊢
 rw [hb.block g (Array.getElem?_eq_some_iff.1 h).1]; exact h
theorem Own.only {w':World} {g':Nat} (h:Own k e w g n f) (ho:Only g' w w') (hg:g ≠ g'):Own k e w' g n f:=by
 unfold Own at h ⊢
 rw [ho.block g hg]; exact h
theorem Own.drew (h:Own k e w g n f):Own k e w.drew g n f:=h
theorem Own.set (h:Own k e w g n f) {i:Nat} (x:Nat) (hi:i < n):Own k e (w.setCell ⟨g,i,none⟩ (.int k (x:Nat))) g n (fun j=>if j=i then x else f j):=by
 unfold Own at h ⊢
 have hlt:=(Array.getElem?_eq_some_iff.1 h).1
 simp only [World.setCell,Array.getElem?_modify,if_true,h,Option.map_some]
 congr 2
 apply Array.ext
 ·
  simp
 ·
  intro j h1 h2
  by_cases hj:j=i
  ·
   subst hj; simp
  ·
   simp [hj,Ne.symm hj,Array.getElem_setIfInBounds]
theorem Own.put (h:Own k e w g n f) {i:Nat} {x:Int} {F:Nat→Nat} (hi:i < n) (hx:x=(F i:Nat)) (hf:∀ j,j < n→j ≠ i→f j=F j):Own k e (w.setCell ⟨g,i,none⟩ (.int k x)) g n F:=by
 subst hx
 refine (h.set (F i) hi).congr fun j hj=>?_
 by_cases e:j=i
 ·
  subst e; simp
 ·
  simp [e,hf j hj e]
end
/-- 'make([]T, n)': a new block of n noughts. -/
theorem wpList_mk {P:Program} (w:World) {ops:Array Oper} {rest:List Oper} {o:Oper} {a:Act} {Q:Exit→Act→World→Prop}
  (hg:o.guard=none) (l c:Operand) (t:TypeId) (hop:o.op=Op.makeSlice t l c)
  (e:TypeId) (k:IntKind) (bytes:Nat) (ht:P.underlying t=some (.slice e)) (hinfo:(P.info? e).map (fun i=>(i.zero,i.size,i.bytes))=some (some (.int k 0),1,bytes))
  (L C:Int) (n:Nat) (hl:a.eval l=.int .i64 L) (hc:a.eval c=.int .i64 C) (hL:L=(n:Int)) (hC:C=(n:Int)) (hbytes:bytes*n≤281474976710656) (hn:n≤9223372036854775807)
  (hK:∀ (g:Nat) (w':World),w.heap.size≤g→Own k e w' g n (fun _=>0)→Below w.heap.size w w'→wpList P ops Q rest (a.put o.dst (.slice (some ⟨g,0,none⟩) n n)) w') :
  wpList P ops Q (o :: rest) a w:=by
 refine wpList_plain hg fun K hK'=>?_
 subst hL
 subst hC
 have hrun:=run_make_row' (P:=P) t e (.int k 0) bytes ht hinfo rfl .i64 .i64 n hbytes hn w
 unfold Oper.wp
 simp [execOp,hop,hl,hc,hrun,Result.andThen]
 refine hK' _ _ (hK _ _ (Nat.le_refl _) ?_ ((Below.refl _ _).alloc (Nat.le_refl _) _))
 unfold Own
 rw [heap_alloc_new]
 congr 2
 apply Array.ext
 ·
  simp [madeCells]
 ·
  intro j h1 h2
  simp [madeCells,Nat.mod_one]
end Go.Proofs.YtcoenncgoepadaaDoor

/- Numbers as bytes, the highest byte first (no walk): for stage 12. No statement of the seat is proved here. -/
namespace Go.Proofs.YtcoenncgoepadaaDoor.B
open Go Go.RowKit
def b4 (n:Nat):List UInt8:=[UInt8.ofNat (n / 16777216),UInt8.ofNat (n / 65536 % 256),UInt8.ofNat (n / 256 % 256),UInt8.ofNat (n % 256)]
def b2 (n:Nat):List UInt8:=[UInt8.ofNat (n / 256),UInt8.ofNat (n % 256)]
def nm (l:List UInt8):Nat:=l.foldl (fun n x=>256*n+x.toNat) 0
theorem of_nat {n:Nat} (h:n < 256):(UInt8.ofNat n).toNat=n:=by
 rw [UInt8.toNat_ofNat']
 exact Nat.mod_eq_of_lt h
theorem nm_b4 {n:Nat} (h:n < 4294967296):nm (b4 n)=n:=by
 unfold nm b4
 simp only [List.foldl_cons,List.foldl_nil]
 rw [of_nat (by omega),of_nat (by omega),of_nat (by omega),of_nat (by omega)]
 omega
theorem nm_b2 {n:Nat} (h:n < 65536):nm (b2 n)=n:=by
 unfold nm b2
 simp only [List.foldl_cons,List.foldl_nil]
 rw [of_nat (by omega),of_nat (by omega)]
 omega
theorem u8_eq {n:Nat} {a:UInt8} (h:n=a.toNat):UInt8.ofNat n=a:=by
 subst h
 exact UInt8.ofNat_toNat
theorem b4_nm (a b c d:UInt8):b4 (nm [a,b,c,d])=[a,b,c,d]:=by
 have ha:=a.toNat_lt
 have hb:=b.toNat_lt
 have hc:=c.toNat_lt
 have hd:=d.toNat_lt
 unfold nm b4
 simp only [List.foldl_cons,List.foldl_nil]
 rw [u8_eq (a:=a) (by omega),u8_eq (a:=b) (by omega),u8_eq (a:=c) (by omega),u8_eq (a:=d) (by omega)]
theorem b2_nm (a b:UInt8):b2 (nm [a,b])=[a,b]:=by
 have ha:=a.toNat_lt
 have hb:=b.toNat_lt
 unfold nm b2
 simp only [List.foldl_cons,List.foldl_nil]
 rw [u8_eq (a:=a) (by omega),u8_eq (a:=b) (by omega)]
theorem nm_lt4 (a b c d:UInt8):nm [a,b,c,d] < 4294967296:=by
 have ha:=a.toNat_lt
 have hb:=b.toNat_lt
 have hc:=c.toNat_lt
 have hd:=d.toNat_lt
 unfold nm
 simp only [List.foldl_cons,List.foldl_nil]
 omega
theorem len4 (n:Nat):(b4 n).length=4:=rfl
theorem len2 (n:Nat):(b2 n).length=2:=rfl
theorem of_len4:∀ {l:List UInt8},l.length=4→∃ a b c d,l=[a,b,c,d]
 | [a,b,c,d],_=>⟨a,b,c,d,rfl⟩
theorem of_len2:∀ {l:List UInt8},l.length=2→∃ a b,l=[a,b]
 | [a,b],_=>⟨a,b,rfl⟩
/-- Numbers below 0 as 2^32 more. -/
def tc (v:Int):Nat:=(if v < 0 then v+4294967296 else v).toNat
def un (u:Nat):Int:=if 2147483648≤u then (u:Int) - 4294967296 else u
theorem un_tc {v:Int} (h:-2147483648≤v∧v≤2147483647):un (tc v)=v:=by
 unfold un tc
 split <;> split <;> omega
theorem tc_un {u:Nat} (h:u < 4294967296):tc (un u)=u:=by
 unfold un tc
 split <;> split <;> omega
theorem tc_lt {v:Int} (h:-2147483648≤v∧v≤2147483647):tc v < 4294967296:=by
 unfold tc
 split <;> omega
theorem un_in {u:Nat} (h:u < 4294967296):-2147483648≤un u∧un u≤2147483647:=by
 unfold un
 split <;> omega
/-- The values' bytes. -/
def ev:List Int→List UInt8
 | []=>[]
 | v :: l=>b4 (tc v)++ev l
def dv:Nat→List UInt8→List Int
 | 0,_=>[]
 | n+1,l=>un (nm (l.take 4)) :: dv n (l.drop 4)
theorem ev_len:∀ l:List Int,(ev l).length=4*l.length
 | []=>rfl
 | v :: l=>by
  show (b4 (tc v)++ev l).length=4*(l.length+1)
  rw [List.length_append,len4,ev_len l]
  omega
theorem dv_ev:∀ (l:List Int),(∀ v,v ∈ l→-2147483648≤v∧v≤2147483647)→dv l.length (ev l)=l
 | [],_=>rfl
 | v :: l,h=>by
  have hv:=h v (List.mem_cons_self ..)
  show un (nm ((b4 (tc v)++ev l).take 4)) :: dv l.length ((b4 (tc v)++ev l).drop 4)=v :: l
  rw [List.take_left' (len4 _),List.drop_left' (len4 _),nm_b4 (tc_lt hv),un_tc hv,dv_ev l fun x hx=>h x (List.mem_cons_of_mem _ hx)]
theorem dv_len:∀ (n:Nat) (l:List UInt8),(dv n l).length=n
 | 0,_=>rfl
 | n+1,l=>by show (dv n (l.drop 4)).length+1=n+1; rw [dv_len]
theorem ev_dv:∀ (n:Nat) (l:List UInt8),l.length=4*n→ev (dv n l)=l
 | 0,l,h=>by
  have:l=[]:=List.length_eq_zero_iff.1 (by omega)
  subst this; rfl
 | n+1,l,h=>by
  obtain ⟨a,b,c,d,e⟩:=of_len4 (l:=l.take 4) (by rw [List.length_take]; omega)
  show b4 (tc (un (nm (l.take 4))))++ev (dv n (l.drop 4))=l
  rw [ev_dv n _ (by rw [List.length_drop]; omega),e,tc_un (nm_lt4 a b c d),b4_nm,← e,List.take_append_drop]
/-- A measurement's bytes: At, Seq, values. -/
def enc (at_ seq:Nat) (v:List Int):List UInt8:=b4 at_++(b2 seq++ev v)
theorem enc_len (at_ seq:Nat) (v:List Int):(enc at_ seq v).length=6+4*v.length:=by
 unfold enc
 rw [List.length_append,List.length_append,len4,len2,ev_len]
 omega
theorem enc_back {at_ seq:Nat} {v:List Int} (ha:at_ < 4294967296) (hs:seq < 65536) (hv:∀ x,x ∈ v→-2147483648≤x∧x≤2147483647):nm ((enc at_ seq v).take 4)=at_∧nm (((enc at_ seq v).drop 4).take 2)=seq∧dv v.length ((enc at_ seq v).drop 6)=v:=by
 unfold enc
 refine ⟨by rw [List.take_left' (len4 _),nm_b4 ha],by rw [List.drop_left' (len4 _),List.take_left' (len2 _),nm_b2 hs],?_⟩
 rw [← List.append_assoc,List.drop_left' (by rw [List.length_append,len4,len2]),dv_ev v hv]
theorem enc_only {n:Nat} {l:List UInt8} (h:l.length=6+4*n):enc (nm (l.take 4)) (nm ((l.drop 4).take 2)) (dv n (l.drop 6))=l:=by
 obtain ⟨a,b,c,d,e⟩:=of_len4 (l:=l.take 4) (by rw [List.length_take]; omega)
 obtain ⟨x,y,e2⟩:=of_len2 (l:=(l.drop 4).take 2) (by rw [List.length_take,List.length_drop]; omega)
 unfold enc
 rw [ev_dv n _ (by rw [List.length_drop]; omega),e,b4_nm,e2,b2_nm,← e,← e2]
 have h1:(l.drop 4).take 2++l.drop 6=l.drop 4:=by
  rw [show l.drop 6=(l.drop 4).drop 2 by rw [List.drop_drop]]
  exact List.take_append_drop 2 _
 rw [h1,List.take_append_drop]
end Go.Proofs.YtcoenncgoepadaaDoor.B

/- The check sum, bit by bit: it is linear, no sum but 0 comes to 0, and a row of up to 16 bits is told (no walk). No statement of the seat is proved here. -/
namespace Go.Proofs.YtcoenncgoepadaaDoor.X
open Go Go.RowKit
/-- A sum, moved up by one bit. -/
def cb (x:Nat):Nat:=(x <<< 1) % 65536 ^^^ (if x.testBit 15 then 4129 else 0)
def top (b:Bool):Nat:=if b then 32768 else 0
/-- Bits go through a sum, the first one first. -/
def cs:Nat→List Bool→Nat
 | s,[]=>s
 | s,b :: r=>cs (cb (s ^^^ top b)) r
/-- A row of bits, as a number. -/
def bv:List Bool→Nat
 | []=>0
 | b :: r=>(if b then 2 ^ r.length else 0)+bv r
end Go.Proofs.YtcoenncgoepadaaDoor.X

/- Frames on a line, by what is to be done next: how bytes are cut does not matter, what was wrapped is told (no walk). No statement of the seat is proved here. -/
namespace Go.Proofs.YtcoenncgoepadaaDoor.W
open Go Go.RowKit
/-- What is done with the first bytes that wait. -/
inductive Ev where
 | drop:Ev
 | bad:Ev
 | told:UInt8→List UInt8→Ev
abbrev Rs:=List (UInt8 × List UInt8) × Nat × List UInt8
def Ev.on:Ev→Rs→Rs
 | .drop,r=>r
 | .bad,r=>(r.1,r.2.1+1,r.2.2)
 | .told k p,r=>((k,p) :: r.1,r.2.1,r.2.2)
section
variable (rt:List UInt8→Bool)
/-- Behind 165 and 90: kind, count, and so on. -/
def body (m:List UInt8):Option (Ev × List UInt8) :=
 match m with
 | k :: n :: t=>if 64 < n.toNat then some (.bad,m) else if t.length < n.toNat+2 then none else if rt (k :: n :: t.take (n.toNat+2)) then some (.told k (t.take n.toNat),t.drop (n.toNat+2)) else some (.bad,m)
 | _=>none
/-- What is to be done next; none: the bytes wait. -/
def stp (l:List UInt8):Option (Ev × List UInt8) :=
 match l with
 | []=>none
 | a :: l=>if a=165 then (match l with
  | []=>none
  | b :: m=>if b=90 then body rt m else some (.drop,l)) else some (.drop,l)
variable {rt:List UInt8→Bool} {l l' m:List UInt8} {e:Ev}
variable (rt)
def rn:Nat→List UInt8→Rs
 | 0,l=>([],0,l)
 | f+1,l=>match stp rt l with
  | none=>([],0,l)
  | some (e,l')=>e.on (rn f l')
/-- All that is done. -/
def run (l:List UInt8):Rs:=rn rt l.length l
variable {rt}
end
end Go.Proofs.YtcoenncgoepadaaDoor.W
