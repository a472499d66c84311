/- Parts of the proof. -/
import Derived.Test.YtjclllindbfmhabGreatDoorHs0
import Derived.Test.YtjclllindbfmhabGreatDoorHs18
import Derived.Test.YtjclllindbfmhabGreatDoorHs10
import Derived.Test.YtjclllindbfmhabGreatDoorHs19
import Derived.Test.YtjclllindbfmhabGreatDoorHs11
set_option linter.unusedSimpArgs false
set_option linter.unusedVariables false
namespace Go.Proofs.YtjclllindbfmhabGreatDoor
/- Lists and matrices of numbers in memory, and what keeps them: blocks that may be written are told apart. No statement of the seat is proved here. -/
open Go Go.RowKit
/-- A world behind another one: what X does not name is as it was; X' names no more of the old. -/
structure Ext (X:Nat→Prop) (W:World) (X':Nat→Prop) (W':World):Prop where
 size:W.heap.size≤W'.heap.size
 keep:∀ k,k < W.heap.size→¬ X k→W'.heap[k]?=W.heap[k]?
 grow:∀ k,X' k→k < W.heap.size→X k
def NX (X:Nat→Prop) (W:World):Prop:=∀ k,X k→k < W.heap.size
abbrev Fa:=(Nat→Prop)→World→Prop
/-- What stays. -/
def Stb (F:Fa):Prop:=∀ X W X' W',Ext X W X' W'→F X W→F X' W'
section
variable {X X' X2:Nat→Prop} {w W W' W2:World}
theorem Ext.refl (X:Nat→Prop) (W:World):Ext X W X W:=⟨Nat.le_refl _,fun _ _ _=>rfl,fun _ h _=>h⟩
theorem Ext.trans (h:Ext X W X' W') (k:Ext X' W' X2 W2):Ext X W X2 W2 :=
 ⟨Nat.le_trans h.size k.size,fun i hi hx=>(k.keep i (Nat.lt_of_lt_of_le hi h.size) (fun h'=>hx (h.grow i h' hi))).trans (h.keep i hi hx),fun i hx hi=>h.grow i (k.grow i hx (Nat.lt_of_lt_of_le hi h.size)) hi⟩
theorem Ext.below (X:Nat→Prop) (hb:Below W.heap.size W W'):Ext X W X W':=⟨hb.size,fun i hi _=>hb.block i hi,fun _ h _=>h⟩
theorem Ext.less (W:World) (h:∀ k,X' k→X k):Ext X W X' W:=⟨Nat.le_refl _,fun _ _ _=>rfl,fun k hx _=>h k hx⟩
theorem Ext.cell (h:Ext X W X' W') {q:Addr} (hl:q.block < W.heap.size) (hx:¬ X q.block):W'.cell? q=W.cell? q:=World.cell?_of_block (h.keep _ hl hx)
theorem NX.later (h:NX X W) (hb:W.heap.size≤W'.heap.size):NX X W':=fun k hk=>Nat.lt_of_lt_of_le (h k hk) hb
end
/-- A number's sign, parts and value. -/
structure NL where
 b:Bool
 a:Option Addr
 n:Nat
 c:Nat
 z:Int
def NL.v (p:NL):Value:=.agg #[.bool p.b,.slice p.a p.n p.c]
def NL.is (p:NL):Fa:=fun X W=>Num W p.b p.a p.n p.c p.z∧∀ q,p.a=some q→0 < p.n→¬ X q.block
theorem NL.stb (p:NL):Stb p.is:=by
 intro X W X' W' he h
 refine ⟨⟨⟨h.1.lie.cap,h.1.lie.capm,h.1.lie.nil,fun q hq=>⟨(h.1.lie.spot q hq).1,Nat.lt_of_lt_of_le (h.1.lie.spot q hq).2 he.size⟩,fun q hq i hi=>?_⟩,h.1.fit,h.1.sgn⟩,fun q hq h0 hx=>h.2 q hq h0 (he.grow _ hx (h.1.lie.spot q hq).2)⟩
 exact (he.cell (q:=⟨q.block,q.off+i,none⟩) (h.1.lie.spot q hq).2 (h.2 q hq (by omega))).trans (h.1.lie.cell q hq i hi)
def nlz:NL:=⟨false,none,0,0,0⟩
theorem nlz_is (X:Nat→Prop) (W:World):nlz.is X W:=⟨num_zero W,nofun⟩
/-- A slice. -/
structure Sl where
 a:Option Addr
 n:Nat
 c:Nat
def Sl.v (s:Sl):Value:=.slice s.a s.n s.c
/-- The address of place i, of elements of k cells. -/
def Sl.at (s:Sl) (k i:Nat):Value:=match s.a with
 | some q=>.pointer (some (q.add (i*k)))
 | none=>undef
/-- What a place's cells are. -/
abbrev El:=(Nat→Prop)→World→Nat→List Value→Prop
structure Sq (k:Nat) (E:El) (s:Sl) (X:Nat→Prop) (W:World):Prop where
 cap:s.n≤s.c
 capm:s.c≤maxLen
 nil:s.a=none→s.n=0∧s.c=0
 spot:∀ q,s.a=some q→0 < s.n→q.spot=none∧q.block < W.heap.size∧¬ X q.block
 el:∀ q,s.a=some q→∀ i,i < s.n→∃ cs:List Value,cs.length=k∧(∀ j,j < k→W.cell? ⟨q.block,q.off+i*k+j,none⟩=cs[j]?)∧E X W i cs
def EStb (E:El):Prop:=∀ i cs,Stb (fun X W=>E X W i cs)
theorem Sq.stb {k:Nat} {E:El} (hE:EStb E) (s:Sl):Stb (Sq k E s):=by
 intro X W X' W' he h
 refine ⟨h.cap,h.capm,h.nil,fun q hq h0=>⟨(h.spot q hq h0).1,Nat.lt_of_lt_of_le (h.spot q hq h0).2.1 he.size,fun hx=>(h.spot q hq h0).2.2 (he.grow _ hx (h.spot q hq h0).2.1)⟩,fun q hq i hi=>?_⟩
 have h0:0 < s.n:=Nat.lt_of_le_of_lt (Nat.zero_le _) hi
 obtain ⟨cs,h1,h2,h3⟩:=h.el q hq i hi
 exact ⟨cs,h1,fun j hj=>(he.cell (q:=⟨q.block,q.off+i*k+j,none⟩) (h.spot q hq h0).2.1 (h.spot q hq h0).2.2).trans (h2 j hj),hE i cs X W X' W' he h3⟩
def EN (x:Nat→Int):El:=fun X W i cs=>∃ p:NL,p.z=x i∧p.is X W∧cs=[.bool p.b,.slice p.a p.n p.c]
theorem EN.stb (x:Nat→Int):EStb (EN x):=fun _ _ X W X' W' he ⟨p,h1,h2,h3⟩=>⟨p,h1,p.stb X W X' W' he h2,h3⟩
/-- A list of n numbers. -/
structure Ls (n:Nat) (x:Nat→Int) (s:Sl) (X:Nat→Prop) (W:World):Prop where
 n:s.n=n
 sq:Sq 2 (EN x) s X W
theorem Ls.stb (n:Nat) (x:Nat→Int) (s:Sl):Stb (Ls n x s):=fun X W X' W' he h=>⟨h.n,Sq.stb (EN.stb x) s X W X' W' he h.sq⟩
def ER (c:Nat→Nat) (B:Nat→Nat→Int):El:=fun X W i cs=>∃ r:Sl,Ls (c i) (B i) r X W∧cs=[r.v]
theorem ER.stb (c:Nat→Nat) (B:Nat→Nat→Int):EStb (ER c B):=fun i _ X W X' W' he ⟨r,h1,h2⟩=>⟨r,Ls.stb (c i) (B i) r X W X' W' he h1,h2⟩
/-- Rows, the i-th of c i numbers. -/
structure Mt (m:Nat) (c:Nat→Nat) (B:Nat→Nat→Int) (s:Sl) (X:Nat→Prop) (W:World):Prop where
 n:s.n=m
 sq:Sq 1 (ER c B) s X W
theorem Mt.stb (m:Nat) (c:Nat→Nat) (B:Nat→Nat→Int) (s:Sl):Stb (Mt m c B s):=fun X W X' W' he h=>⟨h.n,Sq.stb (ER.stb c B) s X W X' W' he h.sq⟩
def EI (x:Nat→Int):El:=fun _ _ i cs=>cs=[.int .i64 (x i)]
theorem EI.stb (x:Nat→Int):EStb (EI x):=fun _ _ _ _ _ _ _ h=>h
structure Li (n:Nat) (x:Nat→Int) (s:Sl) (X:Nat→Prop) (W:World):Prop where
 n:s.n=n
 sq:Sq 1 (EI x) s X W
theorem Li.stb (n:Nat) (x:Nat→Int) (s:Sl):Stb (Li n x s):=fun X W X' W' he h=>⟨h.n,Sq.stb (EI.stb x) s X W X' W' he h.sq⟩
def EIR (c:Nat→Nat) (B:Nat→Nat→Int):El:=fun X W i cs=>∃ r:Sl,Li (c i) (B i) r X W∧cs=[r.v]
theorem EIR.stb (c:Nat→Nat) (B:Nat→Nat→Int):EStb (EIR c B):=fun i _ X W X' W' he ⟨r,h1,h2⟩=>⟨r,Li.stb (c i) (B i) r X W X' W' he h1,h2⟩
structure Mi (m:Nat) (c:Nat→Nat) (B:Nat→Nat→Int) (s:Sl) (X:Nat→Prop) (W:World):Prop where
 n:s.n=m
 sq:Sq 1 (EIR c B) s X W
theorem Mi.stb (m:Nat) (c:Nat→Nat) (B:Nat→Nat→Int) (s:Sl):Stb (Mi m c B s):=fun X W X' W' he h=>⟨h.n,Sq.stb (EIR.stb c B) s X W X' W' he h.sq⟩
/-- A variable that is captured, and not written. -/
def Cf (b:Nat) (C:Array Value) (T:TypeId):Fa:=fun X W=>Cl W (b,C,T)∧¬ X b
theorem Cf.stb (b:Nat) (C:Array Value) (T:TypeId):Stb (Cf b C T):=fun X W X' W' he h=>by
 have hl:b < W.heap.size:=(Array.getElem?_eq_some_iff.1 h.1).1
 exact ⟨(he.keep b hl h.2).trans h.1,fun hx=>h.2 (he.grow b hx hl)⟩
theorem Sq.congr {k:Nat} {E E':El} {s:Sl} {X:Nat→Prop} {W:World} (h:Sq k E s X W) (hE:∀ i cs,i < s.n→E X W i cs→E' X W i cs):Sq k E' s X W :=
 ⟨h.cap,h.capm,h.nil,h.spot,fun q hq i hi=>by obtain ⟨cs,h1,h2,h3⟩:=h.el q hq i hi; exact ⟨cs,h1,h2,hE i cs hi h3⟩⟩
theorem Ls.congr {n:Nat} {x y:Nat→Int} {s:Sl} {X:Nat→Prop} {W:World} (h:Ls n x s X W) (e:∀ i,i < n→x i=y i):Ls n y s X W :=
 ⟨h.n,h.sq.congr fun i _ hi ⟨p,h1,h2⟩=>⟨p,h1.trans (e i (h.n ▸ hi)),h2⟩⟩
theorem Mt.congr {m:Nat} {c c':Nat→Nat} {B B':Nat→Nat→Int} {s:Sl} {X:Nat→Prop} {W:World} (h:Mt m c B s X W) (ec:∀ i,i < m→c i=c' i) (e:∀ i j,i < m→j < c i→B i j=B' i j):Mt m c' B' s X W :=
 ⟨h.n,h.sq.congr fun i _ hi ⟨r,h1,h2⟩=>⟨r,by rw [← ec i (h.n ▸ hi)]; exact h1.congr fun j hj=>e i j (h.n ▸ hi) hj,h2⟩⟩
/-- The state of a walk: variables of its own, and what holds. -/
structure Zs (w W:World) (X0 X:Nat→Prop) (l:List (Nat × Array Value × TypeId)) (fs:List Fa):Prop where
 es:Es w W l
 nx:NX X W
 own:∀ p,p ∈ l→X p.1
 sub:∀ k,X0 k→X k
 fs:∀ f,f ∈ fs→Stb f∧f X W
 ext:Ext X0 w X W
section
variable {w W W':World} {X0 X:Nat→Prop} {l:List (Nat × Array Value × TypeId)} {fs:List Fa}
theorem zs_start (hx:NX X0 w):Zs w w X0 X0 [] []:=⟨es_nil w,hx,nofun,fun _ h=>h,nofun,Ext.refl _ _⟩
theorem Zs.more (h:Zs w W X0 X l fs) {f:Fa} (hs:Stb f) (hf:f X W):Zs w W X0 X l (f :: fs):=⟨h.es,h.nx,h.own,h.sub,fun g hg=>by
 rcases List.mem_cons.1 hg with rfl | hg
 ·
  exact ⟨hs,hf⟩
 ·
  exact h.fs g hg,h.ext⟩
theorem Zs.get (h:Zs w W X0 X l fs) (i:Nat) {f:Fa} (hi:fs[i]?=some f):f X W:=(h.fs f (List.mem_of_getElem? hi)).2
theorem Zs.later (h:Zs w W X0 X l fs) (hb:Below W.heap.size W W'):Zs w W' X0 X l fs:=⟨h.es.later hb,h.nx.later hb.size,h.own,h.sub,fun f hf=>⟨(h.fs f hf).1,(h.fs f hf).1 _ _ _ _ (Ext.below X hb) (h.fs f hf).2⟩,h.ext.trans (Ext.below X hb)⟩
theorem Zs.only (h:Zs w W X0 X l fs) (gs:List Fa) (hg:∀ g,g ∈ gs→g ∈ fs):Zs w W X0 X l gs:=⟨h.es,h.nx,h.own,h.sub,fun f hf=>h.fs f (hg f hf),h.ext⟩
theorem Zs.below (h:Zs w W X0 X l fs):Below w.heap.size w W:=h.es.below
theorem Zs.new (h:Zs w W X0 X l fs) (C:Array Value) (T:TypeId):Zs w (W.alloc (.cells C T)) X0 (fun k=>X k∨k=W.heap.size) ((W.heap.size,C,T) :: l) fs:=by
 have hb:Below W.heap.size W (W.alloc (.cells C T)):=(Below.refl _ _).alloc (Nat.le_refl _) _
 have he:Ext X W (fun k=>X k∨k=W.heap.size) (W.alloc (.cells C T)):=⟨hb.size,fun k hk _=>hb.block k hk,fun k hk hl=>hk.elim id fun e=>absurd e (by omega)⟩
 refine ⟨h.es.new C T,fun k hk=>?_,fun p hp=>?_,fun k hk=>.inl (h.sub k hk),fun f hf=>⟨(h.fs f hf).1,(h.fs f hf).1 _ _ _ _ he (h.fs f hf).2⟩,h.ext.trans he⟩
 ·
  have:(W.alloc (.cells C T)).heap.size=W.heap.size+1:=by simp
  rcases hk with hk | rfl
  ·
   have:=h.nx k hk; omega
  ·
   omega
 ·
  rcases List.mem_cons.1 hp with rfl | hp
  ·
   exact .inr rfl
  ·
   exact .inl (h.own p hp)
theorem Zs.put (h:Zs w W X0 X l fs) {j b:Nat} {C C':Array Value} {T:TypeId} (hj:l[j]?=some (b,C,T)) (he:Es w W' (l.set j (b,C',T))) (hk:∀ k,k ≠ b→W'.heap[k]?=W.heap[k]?) (hz:W'.heap.size=W.heap.size):Zs w W' X0 X (l.set j (b,C',T)) fs:=by
 have hX:X b:=h.own _ (List.mem_of_getElem? hj)
 have hx:Ext X W X W':=⟨by rw [hz]; exact Nat.le_refl _,fun k _ hn=>hk k fun e=>hn (e ▸ hX),fun _ h _=>h⟩
 refine ⟨he,fun k hk=>by rw [hz]; exact h.nx k hk,fun p hp=>?_,h.sub,fun f hf=>⟨(h.fs f hf).1,(h.fs f hf).1 _ _ _ _ hx (h.fs f hf).2⟩,h.ext.trans hx⟩
 obtain ⟨k,hk⟩:=List.mem_iff_getElem?.1 hp
 rw [List.getElem?_set] at hk
 by_cases e:j=k
 ·
  rw [if_pos e,if_pos (List.getElem?_eq_some_iff.1 hj).1] at hk
  cases hk
  exact hX
 ·
  rw [if_neg e] at hk
  exact h.own p (List.mem_of_getElem? hk)
theorem Zs.drop (h:Zs w W X0 X l fs) {l':List (Nat × Array Value × TypeId)} (hs:l'.Sublist l):Zs w W X0 X l' fs:=⟨h.es.sub hs,h.nx,fun p hp=>h.own p (hs.subset hp),h.sub,h.fs,h.ext⟩
/-- What holds, for the one who called. -/
theorem Zs.out (h:Zs w W X0 X l fs) (i:Nat) {f:Fa} (hi:fs[i]?=some f):f X0 W:=(h.fs f (List.mem_of_getElem? hi)).1 _ _ _ _ (Ext.less W h.sub) (h.fs f (List.mem_of_getElem? hi)).2
end
section
variable {P:Program} {ops:Array Oper} {Q:Exit→Act→World→Prop} {a:Act} {w W:World} {rest:List Oper} {o:Oper} {l:List (Nat × Array Value × TypeId)} {X0 X:Nat→Prop} {fs:List Fa} {next:Act→World→Prop}
theorem zsa (T:TypeId) (C:Array Value) (z:Value) (hg:o.guard=none) (ho:o.op=.alloc T) (hz:∀ W,(zeroValue T).run P W=.ok z W) (hC:z.cells=C) (h:Zs w W X0 X l fs) (k:∀ (b:Nat) (X':Nat→Prop) (W':World),Zs w W' X0 X' ((b,C,T) :: l) fs→Stop (wpList P ops Q rest (a.put o.dst (.pointer (some ⟨b,0,none⟩))) W')):wpList P ops Q (o :: rest) a W :=
 wpList_plain hg fun K hK=>wp_alloc T ho z hz (hK _ _ (k _ _ _ (by subst hC; exact h.new z.cells T)))
theorem zsb (T:TypeId) (x:Operand) (C:Array Value) (hg:o.guard=none) (ho:o.op=.box T x) (hC:(a.eval x).cells=C) (h:Zs w W X0 X l fs) (k:∀ (b:Nat) (X':Nat→Prop) (W':World),Zs w W' X0 X' ((b,C,T) :: l) fs→Stop (wpList P ops Q rest (a.put o.dst (.pointer (some ⟨b,0,none⟩))) W')):wpList P ops Q (o :: rest) a W :=
 wpList_plain hg fun K hK=>wp_box T x ho (hK _ _ (k _ _ _ (by subst hC; exact h.new (a.eval x).cells T)))
theorem zss (T:TypeId) (p x:Operand) (j b off:Nat) (C:Array Value) (T':TypeId) (n:Nat) (vs:List Value) (C':Array Value) (l':List (Nat × Array Value × TypeId)) (hg:o.guard=none) (ho:o.op=.store T p x) (hp:a.eval p=.pointer (some ⟨b,off,none⟩)) (hx:(a.eval x).cells.toList=vs) (hn:∀ W,(sizeOf T).run P W=.ok n W) (h:Zs w W X0 X l fs) (hj:l[j]?=some (b,C,T')) (hv:vs.length=n) (hs:off+n≤C.size) (hb:vs.all (·.oneCell')=true) (hC:putC C off vs=C') (hl:l.set j (b,C',T')=l')
  (k:∀ W',Zs w W' X0 X l' fs→Stop (wpList P ops Q rest (a.put o.dst undef) W')):wpList P ops Q (o :: rest) a W :=
 wpList_plain hg fun K hK=>wp_store T p x ho j b off C T' n vs h.es hj hp hx hn hv hs hb (fun W' e hk hz=>hK _ _ (k W' (by
  have:=h.put (C':=C') hj (by rw [hC] at e; exact e) hk hz
  rw [hl] at this
  exact this)))
theorem run_ixs {T e:TypeId} {k:Nat} (ht:P.underlying T=some (.slice e)) (hk:∀ W,(sizeOf e).run P W=.ok k W) {s:Sl} {i:Nat} (hn:s.a=none→s.n=0) (hi:i < s.n) (W:World):(Instr.indexAt T s.v (.int .i64 (i:Int))).run P W=.ok (s.at k i) W:=by
 obtain ⟨a,n,c⟩:=s
 cases a with
 | none=>have:=hn rfl; omega
 | some q =>
  have h1:(0:Int)≤(i:Int)∧(i:Int) < (n:Int):=⟨by omega,by simp only at hi; omega⟩
  simp [Instr.indexAt,Sl.v,Sl.at,asIntOf,run_underlying ht,hk,Sem.run_bind,Result.andThen,h1.2]
  intro hc
  simp only at hi
  omega
theorem wp_ixs (T:TypeId) (p x:Operand) (s:Sl) (i k:Nat) (e:TypeId) (ho:o.op=.indexAddr T p x) (hp:a.eval p=s.v) (hx:a.eval x=.int .i64 (i:Int)) (ht:P.underlying T=some (.slice e)) (hk:∀ W,(sizeOf e).run P W=.ok k W) (hn:s.a=none→s.n=0) (hi:i < s.n) (K:next (a.put o.dst (s.at k i)) W):o.wp P a W next Q :=
 wp_ixa T p x ho hp hx (run_ixs ht hk hn hi) K
theorem run_lds2 {T:TypeId} {s:Sl} {i:Nat} {n:Nat} {x:Nat→Int} (h:Ls n x s X W) (hi:i < s.n) (hagg:∀ W,(isAgg T).run P W=.ok true W) (hn:∀ W,(sizeOf T).run P W=.ok 2 W):∃ p:NL,p.z=x i∧p.is X W∧(Instr.loadAt T (s.at 2 i)).run P W=.ok p.v W:=by
 obtain ⟨sa,sn,sc⟩:=s
 cases sa with
 | none=>have:=(h.sq.nil rfl).1; simp only at this hi; omega
 | some q =>
  obtain ⟨cs,h1,h2,p,h3,h4,rfl⟩:=h.sq.el q rfl i hi
  obtain ⟨hq,_,_⟩:=h.sq.spot q rfl (Nat.lt_of_le_of_lt (Nat.zero_le _) hi)
  obtain ⟨qb,qo,qs⟩:=q
  simp only at hq
  subst hq
  refine ⟨p,h3,h4,?_⟩
  have hadd:(⟨qb,qo,none⟩:Addr).add (i*2)=⟨qb,qo+i*2,none⟩:=by unfold Addr.add; split <;> simp_all
  have hl:(loadCells ⟨qb,qo+i*2,none⟩ 2).run P W=.ok #[.bool p.b,.slice p.a p.n p.c] W:=run_loadCells_list (P:=P) W ⟨qb,qo+i*2,none⟩ [.bool p.b,.slice p.a p.n p.c] (fun j v hj=>by
   have hadd2:(⟨qb,qo+i*2,none⟩:Addr).add j=⟨qb,qo+i*2+j,none⟩:=by unfold Addr.add; split <;> simp_all
   have hj2:j < 2:=(List.getElem?_eq_some_iff.1 hj).1
   rw [hadd2]
   exact (h2 j hj2).trans hj)
  have hsa:(Instr.sureAddr (.pointer (some ⟨qb,qo+i*2,none⟩))).run P W=.ok ⟨qb,qo+i*2,none⟩ W:=rfl
  show (Instr.loadAt T (.pointer (some ((⟨qb,qo,none⟩:Addr).add (i*2))))).run P W=_
  rw [hadd]
  unfold Instr.loadAt loadVar
  simp only [Sem.run_bind,hsa,Result.andThen,hagg,hn,if_true,hl]
  rfl
theorem run_lds1 {T:TypeId} {s:Sl} {i:Nat} {E:El} (h:Sq 1 E s X W) (hi:i < s.n) (hagg:∀ W,(isAgg T).run P W=.ok false W):∃ v:Value,E X W i [v]∧(Instr.loadAt T (s.at 1 i)).run P W=.ok v W:=by
 obtain ⟨sa,sn,sc⟩:=s
 cases sa with
 | none=>have:=(h.nil rfl).1; simp only at this hi; omega
 | some q =>
  obtain ⟨cs,h1,h2,h3⟩:=h.el q rfl i hi
  obtain ⟨v,rfl⟩:∃ v,cs=[v]:=by
   match cs,h1 with
   | [v],_=>exact ⟨v,rfl⟩
  obtain ⟨hq,_,_⟩:=h.spot q rfl (Nat.lt_of_le_of_lt (Nat.zero_le _) hi)
  obtain ⟨qb,qo,qs⟩:=q
  simp only at hq
  subst hq
  refine ⟨v,h3,?_⟩
  have hadd:(⟨qb,qo,none⟩:Addr).add (i*1)=⟨qb,qo+i*1,none⟩:=by unfold Addr.add; split <;> simp_all
  have hc:W.cell? ⟨qb,qo+i*1,none⟩=some v:=h2 0 (by omega)
  have hsa:(Instr.sureAddr (.pointer (some ⟨qb,qo+i*1,none⟩))).run P W=.ok ⟨qb,qo+i*1,none⟩ W:=rfl
  show (Instr.loadAt T (.pointer (some ((⟨qb,qo,none⟩:Addr).add (i*1))))).run P W=_
  rw [hadd]
  unfold Instr.loadAt loadVar
  simp only [Sem.run_bind,hsa,Result.andThen,hagg]
  rw [Nat.mul_one] at hc
  simp [go_sem,hc]
theorem wp_ldr {v:Value} (T:TypeId) (p:Operand) {pv:Value} (ho:o.op=.load T p) (hp:a.eval p=pv) (hr:(Instr.loadAt T pv).run P W=.ok v W) (k:next (a.put o.dst v) W):o.wp P a W next Q:=by
 refine wp_run ?_ k
 unfold execOp
 rw [ho]
 simp only [hp,Sem.run_bind,hr,Result.andThen]
 rfl
/-- A number of a list. -/
theorem wp_ldn (T:TypeId) (p:Operand) (s:Sl) (i n:Nat) (x:Nat→Int) (ho:o.op=.load T p) (hp:a.eval p=s.at 2 i) (h:Ls n x s X W) (hi:i < n) (hagg:∀ W,(isAgg T).run P W=.ok true W) (hn:∀ W,(sizeOf T).run P W=.ok 2 W) (k:∀ p:NL,p.z=x i→p.is X W→next (a.put o.dst p.v) W):o.wp P a W next Q:=by
 obtain ⟨q,h1,h2,h3⟩:=run_lds2 (P:=P) (T:=T) h (by rw [h.n]; exact hi) hagg hn
 exact wp_ldr T p ho hp h3 (k q h1 h2)
/-- A row of a matrix. -/
theorem wp_ldm (T:TypeId) (p:Operand) (s:Sl) (i m:Nat) (c:Nat→Nat) (B:Nat→Nat→Int) (ho:o.op=.load T p) (hp:a.eval p=s.at 1 i) (h:Mt m c B s X W) (hi:i < m) (hagg:∀ W,(isAgg T).run P W=.ok false W) (k:∀ r:Sl,Ls (c i) (B i) r X W→next (a.put o.dst r.v) W):o.wp P a W next Q:=by
 obtain ⟨v,⟨r,h1,h2⟩,h3⟩:=run_lds1 (P:=P) (T:=T) h.sq (by rw [h.n]; exact hi) hagg
 cases h2
 exact wp_ldr T p ho hp h3 (k r h1)
/-- An int64 of a list of them. -/
theorem wp_ldi (T:TypeId) (p:Operand) (s:Sl) (i n:Nat) (x:Nat→Int) (ho:o.op=.load T p) (hp:a.eval p=s.at 1 i) (h:Li n x s X W) (hi:i < n) (hagg:∀ W,(isAgg T).run P W=.ok false W) (k:next (a.put o.dst (.int .i64 (x i))) W):o.wp P a W next Q:=by
 obtain ⟨v,h2,h3⟩:=run_lds1 (P:=P) (T:=T) h.sq (by rw [h.n]; exact hi) hagg
 have h4:[v]=[Value.int .i64 (x i)]:=h2
 cases h4
 exact wp_ldr T p ho hp h3 k
theorem wp_ldim (T:TypeId) (p:Operand) (s:Sl) (i m:Nat) (c:Nat→Nat) (B:Nat→Nat→Int) (ho:o.op=.load T p) (hp:a.eval p=s.at 1 i) (h:Mi m c B s X W) (hi:i < m) (hagg:∀ W,(isAgg T).run P W=.ok false W) (k:∀ r:Sl,Li (c i) (B i) r X W→next (a.put o.dst r.v) W):o.wp P a W next Q:=by
 obtain ⟨v,⟨r,h1,h2⟩,h3⟩:=run_lds1 (P:=P) (T:=T) h.sq (by rw [h.n]; exact hi) hagg
 cases h2
 exact wp_ldr T p ho hp h3 (k r h1)
theorem wp_lens (x:Operand) (t e:TypeId) (s:Sl) (ho:o.op=.call { callee:=.builtin .len,args:=#[x],argTypes:=#[t] }) (ht:P.underlying t=some (.slice e)) (hx:a.eval x=s.v) (k:next (a.put o.dst (.int .i64 (s.n:Int))) W):o.wp P a W next Q:=by
 refine wp_run ?_ k
 unfold execOp
 rw [ho]
 simp [resolve,invoke,builtin,hx,Sl.v,Sem.run_bind,Result.andThen,Builtin.len_,run_underlying ht,goInt]
end
/-- A number is handed back. -/
def PNX (X:Nat→Prop) (z:Int) (w:World) (e:Ending) (w':World):Prop:=∃ p:NL,e=.returned p.v∧p.z=z∧p.is X w'∧Below w.heap.size w w'
def PLX (X:Nat→Prop) (n:Nat) (x:Nat→Int) (w:World) (e:Ending) (w':World):Prop:=∃ s:Sl,e=.returned s.v∧Ls n x s X w'∧Below w.heap.size w w'
def PMX (X:Nat→Prop) (m:Nat) (c:Nat→Nat) (B:Nat→Nat→Int) (w:World) (e:Ending) (w':World):Prop:=∃ s:Sl,e=.returned s.v∧Mt m c B s X w'∧Below w.heap.size w w'
theorem pnx_of {X:Nat→Prop} {z:Int} {w:World} (hx:NX X w) {e:Ending} {w':World} (h:PNum z w e w'):PNX X z w e w':=by
 obtain ⟨b,a,n,c,rfl,h1,h2,h3⟩:=h
 exact ⟨⟨b,a,n,c,z⟩,rfl,rfl,⟨h1,fun q hq _ hX=>by have:=h2 q hq; have:=hx _ hX; omega⟩,h3⟩
/-- z has no more than e parts. -/
def Sz (e:Nat) (z:Int):Prop:=z.natAbs < BB ^ e
theorem Sz.mono {e f:Nat} {z:Int} (h:Sz e z) (hf:e≤f):Sz f z:=Nat.lt_of_lt_of_le h (Nat.pow_le_pow_right BB_pos hf)
theorem Sz.plus {e:Nat} {x y:Int} (h:Sz e x) (k:Sz e y):Sz (e+1) (x+y):=by
 unfold Sz at *
 have h3:=Int.natAbs_add_le x y
 have:BB ^ e*2≤BB ^ e*BB:=Nat.mul_le_mul_left _ (by decide)
 rw [Nat.pow_succ]
 omega
theorem Sz.neg {e:Nat} {x:Int} (h:Sz e x):Sz e (-x):=by unfold Sz at *; rw [Int.natAbs_neg]; exact h
theorem Sz.minus {e:Nat} {x y:Int} (h:Sz e x) (k:Sz e y):Sz (e+1) (x - y):=by rw [Int.sub_eq_add_neg]; exact h.plus k.neg
theorem Sz.mul {e f:Nat} {x y:Int} (h:Sz e x) (k:Sz f y):Sz (e+f) (x*y):=by
 unfold Sz at *
 rw [Int.natAbs_mul,Nat.pow_add]
 exact Nat.mul_lt_mul'' h k
theorem sz_int {x:Int} (h1:-9223372036854775808≤x) (h2:x≤9223372036854775807):Sz 2 x:=by
 show x.natAbs < BB ^ 2
 rw [show BB ^ 2=18446744073709551616 from by decide]
 omega
theorem sz_zero (e:Nat):Sz e 0:=BBp e
theorem sz_one:Sz 1 1:=by show 1 < BB ^ 1; decide
/-- The whole part of a quotient. -/
theorem isQuo_fdiv {x y q r:Int} (h:IsQuo x y q r) (hy:y ≠ 0):q=Int.fdiv x y:=by
 obtain ⟨h1,h2,h3⟩:=h
 rcases Int.lt_or_gt_of_ne hy with hl | hl
 ·
  obtain ⟨k1,k2⟩:=h3 hl
  have e:x.fdiv y=(-x).fdiv (-y):=(Int.neg_fdiv_neg x y).symm
  rw [e,Int.fdiv_eq_ediv_of_nonneg _ (by omega)]
  refine ((Int.ediv_emod_unique (a:=-x) (b:=-y) (r:=-r) (q:=q) (by omega)).2 ⟨?_,by omega,by omega⟩).1.symm
  rw [h1]; grind
 ·
  obtain ⟨k1,k2⟩:=h2 hl
  rw [Int.fdiv_eq_ediv_of_nonneg _ (by omega)]
  refine ((Int.ediv_emod_unique (a:=x) (b:=y) (r:=r) (q:=q) hl).2 ⟨?_,by omega,by omega⟩).1.symm
  rw [h1]; grind
theorem Sz.fdiv {e:Nat} {x y:Int} (h:Sz e x) (hy:y ≠ 0):Sz e (Int.fdiv x y):=by
 refine Nat.lt_of_le_of_lt ?_ h
 have key:∀ a b:Int,0 < b→(a.fdiv b).natAbs≤a.natAbs:=by
  intro a b hb
  rw [Int.fdiv_eq_ediv_of_nonneg _ (by omega)]
  rcases Int.lt_or_le a 0 with ha | ha
  ·
   have h1:=Int.ediv_lt_of_lt_mul hb (show a < 0*b by omega)
   have h2:a≤a / b:=by
    rw [Int.le_ediv_iff_mul_le hb]
    have:=Int.mul_le_mul_of_nonneg_left (show 1≤b by omega) (show 0≤-a by omega)
    grind
   omega
  ·
   have h1:=Int.ediv_nonneg ha (show 0≤b by omega)
   have h2:=Int.ediv_le_self b ha
   omega
 rcases Int.lt_or_gt_of_ne hy with hl | hl
 ·
  have:=key (-x) (-y) (by omega)
  rw [Int.neg_fdiv_neg,Int.natAbs_neg] at this
  exact this
 ·
  exact key x y hl
section
variable {X:Nat→Prop} {W:World} {p q:NL} {x y:Int} {e f:Nat}
theorem NL.len (hp:p.is X W) (ex:p.z=x) (b:Sz e x) (he:e≤9000000):p.n≤9000000:=num_len hp.1 (by rw [ex]; exact b) he
theorem zAdd (hx:NX X W) (hp:p.is X W) (hq:q.is X W) (ex:p.z=x) (ey:q.z=y) (b:Sz e x) (c:Sz f y) (he:e≤9000000) (hf:f≤9000000):Calls Tryz.prog 11 #[p.v,q.v] W (PNX X (x+y) W):=by
 have h1:=NL.len hp ex b he
 have h2:=NL.len hq ey c hf
 subst ex ey
 exact (Add_any _ _ _ _ _ _ _ _ _ _ W hp.1 hq.1 (by omega) (by omega)).mono fun _ _ h=>pnx_of hx h
theorem zSub (hx:NX X W) (hp:p.is X W) (hq:q.is X W) (ex:p.z=x) (ey:q.z=y) (b:Sz e x) (c:Sz f y) (he:e≤9000000) (hf:f≤9000000):Calls Tryz.prog 35 #[p.v,q.v] W (PNX X (x - y) W):=by
 have h1:=NL.len hp ex b he
 have h2:=NL.len hq ey c hf
 subst ex ey
 exact (Sub_any _ _ _ _ _ _ _ _ _ _ W hp.1 hq.1 (by omega) (by omega)).mono fun _ _ h=>pnx_of hx h
theorem zMul (hx:NX X W) (hp:p.is X W) (hq:q.is X W) (ex:p.z=x) (ey:q.z=y) (b:Sz e x) (c:Sz f y) (he:e≤9000000) (hf:f≤9000000):Calls Tryz.prog 12 #[p.v,q.v] W (PNX X (x*y) W):=by
 have h1:=NL.len hp ex b he
 have h2:=NL.len hq ey c hf
 subst ex ey
 exact (Mul_any _ _ _ _ _ _ _ _ _ _ W hp.1 hq.1 (by omega) (by omega)).mono fun _ _ h=>pnx_of hx h
theorem zNeg (hx:NX X W) (hp:p.is X W) (ex:p.z=x) (b:Sz e x) (he:e≤9000000):Calls Tryz.prog 53 #[p.v] W (PNX X (-x) W):=by
 have h1:=NL.len hp ex b he
 subst ex
 exact (Neg_any _ _ _ _ _ W hp.1 (by omega)).mono fun _ _ h=>pnx_of hx h
theorem zOf (hx:NX X W) (h1:-9223372036854775808≤x) (h2:x≤9223372036854775807):Calls Tryz.prog 30 #[.int .i64 x] W (PNX X x W) :=
 (Of_any x W h1 h2).mono fun _ _ h=>pnx_of hx h
theorem zSign (hp:p.is X W) (ex:p.z=x):Calls Tryz.prog 44 #[p.v] W (PVal (.int .i64 (sgnI x)) W):=by
 subst ex
 exact Sign_any _ _ _ _ _ W hp.1
theorem zCmp (hp:p.is X W) (hq:q.is X W) (ex:p.z=x) (ey:q.z=y):Calls Tryz.prog 9 #[p.v,q.v] W (PVal (.int .i64 (cmpI x y)) W):=by
 subst ex ey
 exact Cmp_any _ _ _ _ _ _ _ _ _ _ W hp.1 hq.1
theorem zStr (hp:p.is X W) (ex:p.z=x) (b:Sz e x) (he:e≤9000000):Calls Tryz.prog 14 #[p.v] W (PTxt x W):=by
 have h1:=NL.len hp ex b he
 subst ex
 exact String_all _ _ _ _ _ W hp.1 (by omega)
/-- A quotient, a rest, no error. -/
def PQX (X:Nat→Prop) (z:Int) (w:World) (e:Ending) (w':World):Prop:=∃ p r:NL,e=.returned (.tuple #[p.v,r.v,.int .i64 0])∧p.z=z∧p.is X w'∧r.is X w'∧Below w.heap.size w w'
theorem zQuo (hx:NX X W) (hp:p.is X W) (hq:q.is X W) (ex:p.z=x) (ey:q.z=y) (b:Sz e x) (c:Sz f y) (he:e≤9000000) (hf:f≤9000000) (hy:y ≠ 0):Calls Tryz.prog 99 #[p.v,q.v] W (PQX X (Int.fdiv x y) W):=by
 have h1:=NL.len hp ex b he
 have h2:=NL.len hq ey c hf
 subst ex ey
 refine (Quo_any _ _ _ _ _ _ _ _ _ _ W hp.1 hq.1 h1 h2 hy).mono ?_
 rintro _ w' ⟨u,r,hu,b1,a1,n1,c1,b2,a2,n2,c2,rfl,h3,h4,h5,h6,h7⟩
 refine ⟨⟨b1,a1,n1,c1,u⟩,⟨b2,a2,n2,c2,r⟩,rfl,isQuo_fdiv hu hy,⟨h3,fun k hk _ hX=>?_⟩,⟨h4,fun k hk _ hX=>?_⟩,h7⟩
 ·
  have:=h5 k hk; have:=hx _ hX; omega
 ·
  have:=h6 k hk; have:=hx _ hX; omega
end
section
variable {P:Program} {Q:Exit→Act→World→Prop} {a:Act} {W:World} {o:Oper} {next:Act→World→Prop}
theorem wp_lenq (x:Operand) (t e:TypeId) (s:Sl) (ho:o.op=.call { callee:=.builtin .len,args:=#[x],argTypes:=#[t] }) (ht:P.underlying t=some (.slice e)) (hx:a.eval x=s.v) {n:Nat} (hn:s.n=n) (k:next (a.put o.dst (.int .i64 ((n:Nat):Int))) W):o.wp P a W next Q:=by
 subst hn
 exact wp_lens x t e s ho ht hx k
theorem zcz (f:Operand) (args:Array Operand) (ty:Array TypeId) (k':FuncId) (caps vs vs':Array Value) (ho:o.op=.call { callee:=.value f,args:=args,argTypes:=ty }) (hf:a.eval f=.func (.func k') #[] caps) (ha:args.map a.eval=vs) (hv:vs++caps=vs') (hk:∀ (args:Array Value) (W:World),(callFunc k' args).run P W=.ok (.enter k' args) W)
  {post:Ending→World→Prop} (H:Calls P k' vs' W post) (k:∀ e W',post e W'→∃ v,e=.returned v∧next (a.put o.dst v) W'):o.wp P a W next Q:=by
 have e:(execOp a.eval o).run P W=.ok (.enter k' vs') W:=by
  unfold execOp
  rw [ho]
  simp only [resolve,hf,ha,Sem.run_bind]
  simp only [Deferred.ofValue,invoke,Result.andThen,Sem.run_pure]
  simp [hk,hv]
 unfold Oper.wp
 rw [e,Oper.upon_enter]
 refine H.mono ?_
 intro zz W' hp
 obtain ⟨v,rfl,hn⟩:=k zz W' hp
 exact hn
end
/-- What an operation of a region gives. -/
abbrev VF:=Value→Fa
def veq (v:Value):VF:=fun u _ _=>u=v
def vnum (z:Int):VF:=fun u X W=>∃ p:NL,u=p.v∧p.z=z∧p.is X W
def vls (n:Nat) (x:Nat→Int):VF:=fun u X W=>∃ s:Sl,u=s.v∧Ls n x s X W
def vmt (m:Nat) (c:Nat→Nat) (B:Nat→Nat→Int):VF:=fun u X W=>∃ s:Sl,u=s.v∧Mt m c B s X W
def vany:VF:=fun _ _ _=>True
def VSt (k:VF):Prop:=∀ v X W W',Below W.heap.size W W'→k v X W→k v X W'
theorem veq_st (v:Value):VSt (veq v):=fun _ _ _ _ _ h=>h
theorem vnum_st (z:Int):VSt (vnum z):=fun _ X W W' hb ⟨p,h1,h2,h3⟩=>⟨p,h1,h2,p.stb X W X W' (Ext.below X hb) h3⟩
theorem vls_st (n:Nat) (x:Nat→Int):VSt (vls n x):=fun _ X W W' hb ⟨s,h1,h2⟩=>⟨s,h1,Ls.stb n x s X W X W' (Ext.below X hb) h2⟩
theorem vmt_st (m:Nat) (c:Nat→Nat) (B:Nat→Nat→Int):VSt (vmt m c B):=fun _ X W W' hb ⟨s,h1,h2⟩=>⟨s,h1,Mt.stb m c B s X W X W' (Ext.below X hb) h2⟩
def vat (n:Nat) (x:Nat→Int) (i:Nat):VF:=fun u X W=>∃ s:Sl,u=s.at 2 i∧Ls n x s X W
theorem vat_st (n:Nat) (x:Nat→Int) (i:Nat):VSt (vat n x i):=fun _ X W W' hb ⟨s,h1,h2⟩=>⟨s,h1,Ls.stb n x s X W X W' (Ext.below X hb) h2⟩
/-- A number that was there. -/
def vnum0 (z:Int) (X0:Nat→Prop) (W0:World):VF:=fun u _ _=>∃ p:NL,u=p.v∧p.z=z∧p.is X0 W0
theorem vnum0_st (z:Int) (X0:Nat→Prop) (W0:World):VSt (vnum0 z X0 W0):=fun _ _ _ _ _ h=>h
/-- A new variable. -/
def vbox (m:Nat) (C:Array Value) (T:TypeId):VF:=fun u _ W=>∃ b,u=.pointer (some ⟨b,0,none⟩)∧m≤b∧Cl W (b,C,T)
theorem vbox_st (m:Nat) (C:Array Value) (T:TypeId):VSt (vbox m C T):=fun _ _ _ _ hb ⟨b,h1,h2,h3⟩=>⟨b,h1,h2,h3.below hb⟩
theorem vany_st:VSt vany:=fun _ _ _ _ _ _=>trivial
def vzL (ks:List VF) (X:Nat→Prop) (j:Nat):Value→World→Prop:=fun v W=>(ks.getD j vany) v X W
theorem zvl {ks:List VF} (hk:∀ k,k ∈ ks→VSt k) {X:Nat→Prop} {n:Nat} {u:Nat→Value} {W W':World} (hb:Below W.heap.size W W'):∀ j,j < n→vzL ks X j (u j) W→vzL ks X j (u j) W':=by
 intro j _ h
 unfold vzL at *
 have:VSt (ks.getD j vany):=by
  rw [List.getD_eq_getElem?_getD]
  cases e:ks[j]? with
  | none=>exact vany_st
  | some k=>exact hk k (List.mem_of_getElem? e)
 exact this _ _ _ _ hb h
theorem zvs {ks:List VF} {X:Nat→Prop} {n:Nat} {u:Nat→Value} {W:World}:∀ j,j < n→vzL ks X j (u j) W→vzL ks X j (u j) W:=fun _ _ h=>h
section
variable {Q:Exit→Act→World→Prop} {a:Act} {W:World} {o:Oper} {next:Act→World→Prop} {A B:Int} {x y:Operand}
theorem wp_addi (x y:Operand) (ho:o.op=.binOp .add 3 x y 3) (hx:a.eval x=.int .i64 A) (hy:a.eval y=.int .i64 B) {C:Int} (hC:A+B=C) (h1:-9223372036854775808≤C) (h2:C≤9223372036854775807) (k:next (a.put o.dst (.int .i64 C)) W):o.wp Tryz.prog a W next Q:=by
 subst hC
 refine wp_run ?_ k
 unfold execOp
 rw [ho]
 simp only [hx,hy]
 have hw:IntKind.i64.wrap (A+B)=A+B:=IntWalk.i64_in _ ⟨by omega,by omega⟩
 simp [go_sem,hw]
theorem wp_subi (x y:Operand) (ho:o.op=.binOp .sub 3 x y 3) (hx:a.eval x=.int .i64 A) (hy:a.eval y=.int .i64 B) {C:Int} (hC:A - B=C) (h1:-9223372036854775808≤C) (h2:C≤9223372036854775807) (k:next (a.put o.dst (.int .i64 C)) W):o.wp Tryz.prog a W next Q:=by
 subst hC
 refine wp_run ?_ k
 unfold execOp
 rw [ho]
 simp only [hx,hy]
 have hw:IntKind.i64.wrap (A - B)=A - B:=IntWalk.i64_in _ ⟨by omega,by omega⟩
 simp [go_sem,hw]
theorem wp_lssi (x y:Operand) (ho:o.op=.binOp .lss 3 x y 3) (hx:a.eval x=.int .i64 A) (hy:a.eval y=.int .i64 B) {r:Bool} (hr:decide (A < B)=r) (k:next (a.put o.dst (.bool r)) W):o.wp Tryz.prog a W next Q:=by
 subst hr
 refine wp_run ?_ k
 unfold execOp
 rw [ho]
 simp only [hx,hy]
 simp [go_sem]
theorem wp_gtri (x y:Operand) (ho:o.op=.binOp .gtr 3 x y 3) (hx:a.eval x=.int .i64 A) (hy:a.eval y=.int .i64 B) {r:Bool} (hr:decide (B < A)=r) (k:next (a.put o.dst (.bool r)) W):o.wp Tryz.prog a W next Q:=by
 subst hr
 refine wp_run ?_ k
 unfold execOp
 rw [ho]
 simp only [hx,hy]
 simp [go_sem]
theorem wp_geqi (x y:Operand) (ho:o.op=.binOp .geq 3 x y 3) (hx:a.eval x=.int .i64 A) (hy:a.eval y=.int .i64 B) {r:Bool} (hr:decide (B≤A)=r) (k:next (a.put o.dst (.bool r)) W):o.wp Tryz.prog a W next Q:=by
 subst hr
 refine wp_run ?_ k
 unfold execOp
 rw [ho]
 simp only [hx,hy]
 simp [go_sem]
theorem wp_leqi (x y:Operand) (ho:o.op=.binOp .leq 3 x y 3) (hx:a.eval x=.int .i64 A) (hy:a.eval y=.int .i64 B) {r:Bool} (hr:decide (A≤B)=r) (k:next (a.put o.dst (.bool r)) W):o.wp Tryz.prog a W next Q:=by
 subst hr
 refine wp_run ?_ k
 unfold execOp
 rw [ho]
 simp only [hx,hy]
 simp [go_sem]
theorem wp_eqli (x y:Operand) (T T':TypeId) (hT:(T == 3)=true) (ho:o.op=.binOp .eql T x y T') (hx:a.eval x=.int .i64 A) (hy:a.eval y=.int .i64 B) {r:Bool} (hr:decide (A=B)=r) (k:next (a.put o.dst (.bool r)) W):o.wp Tryz.prog a W next Q:=by
 have:=eq_of_beq hT
 subst this
 subst hr
 refine wp_run ?_ k
 unfold execOp
 rw [ho]
 simp only [hx,hy]
 simp [go_sem]
 rfl
theorem wp_neqi (x y:Operand) (T T':TypeId) (hT:(T == 3)=true) (ho:o.op=.binOp .neq T x y T') (hx:a.eval x=.int .i64 A) (hy:a.eval y=.int .i64 B) {r:Bool} (hr:decide (A ≠ B)=r) (k:next (a.put o.dst (.bool r)) W):o.wp Tryz.prog a W next Q:=by
 have:=eq_of_beq hT
 subst this
 subst hr
 refine wp_run ?_ k
 unfold execOp
 rw [ho]
 simp only [hx,hy]
 simp [go_sem]
 rfl
end
section
variable {P:Program}
/-- A region that draws its order; what a slot holds ahead of the operation that writes it can be read too. -/
theorem wp_region_q {Q:Exit→Act→World→Prop} {id:Nat} {a:Act} {w:World} {l:List Oper} (n:Nat) (ds:List (Option Tmp)) (VP:Nat→Value→World→Prop) (J:World→Prop) (hm:P.follows .mixedOrders=true) (hB:tailsB2 .any l.toArray n=true) (hds:ds=(l.take n).map (·.dst)) (hs:slotsB ds=true)
  (hz:ds.all (fun d=>match d with | some t=>decide (t < a.tmps.size) | none=>true)=true)
  (h0:J w.drew)
  (step:∀ i (hi:i < l.length),i < n→∀ (L:Nat→Bool) (u:Nat→Value) (W:World) (A:Act),L i=false→(∀ k,k < n→L k=true→∀ j,Region.waitsFor .any l.toArray k j=true→L j=true)→J W→(∀ j,j < n→Region.waitsFor .any l.toArray i j=true→VP j (u j) W) →
   (∀ t,some t ∉ ds→A.tmps[t]?=a.tmps[t]?)→(∀ j d,ds[j]?=some (some d)→A.tmps[d]?=some (u j))→(∀ j d,j < n→L j=false→ds[j]?=some (some d)→A.tmps[d]?=some (a.tmps.getD d undef))→OpZ P Q l[i] l.toArray A VP J n i u W)
  (fin:∀ (u:Nat→Value) (W:World),J W→(∀ j,j < n→VP j (u j) W)→wpList P l.toArray Q (l.drop n) (layS a ds u 0) W):(Code.region id l.toArray true).wp P Q a w:=by
 have hl:n≤l.length:=by
  have hB':=hB
  unfold tailsB2 at hB'
  simp only [Bool.and_eq_true,decide_eq_true_eq] at hB'
  simpa using hB'.1.1.1
 have hlen:ds.length=n:=by rw [hds]; simp; omega
 obtain ⟨old,hold⟩:∃ old:Nat→Value,old=fun k=>((ds.getD k none).map fun t=>a.tmps.getD t undef).getD undef:=⟨_,rfl⟩
 refine wp_region_inv2 n (fun L a' W=>∃ u:Nat→Value,J W∧(∀ j,j < n→L j=true→VP j (u j) W)∧(∀ j,j < n→L j=false→u j=old j)∧(∀ k,k < n→L k=true→∀ j,Region.waitsFor .any l.toArray k j=true→L j=true)∧a'=layS a ds u 0) hm hB ⟨old,h0,nofun,fun _ _ _=>rfl,nofun,?_⟩ ?_ ?_
 ·
  refine (layS_self a ds _ 0 (fun j d hj=>?_)).symm
  have:ds.getD (0+j) none=d:=by rw [Nat.zero_add,List.getD_eq_getElem?_getD,hj]; rfl
  rw [hold]
  simp only
  rw [this]
 ·
  rintro L a' W i hi ⟨u,hJ,hu,ho,hc,rfl⟩ hLi hw
  have hil:i < l.length:=Nat.lt_of_lt_of_le hi hl
  have hid:ds[i]?=some l[i].dst:=by
   rw [hds]
   simp [List.getElem?_take,hi,hil]
  have hinn:∀ j d,ds[j]?=some (some d)→(layS a ds u 0).tmps[d]?=some (u j):=by
   intro j d hj
   have hd':d < a.tmps.size:=by
    have:=List.all_eq_true.1 hz _ (List.mem_of_getElem? hj)
    simpa using this
   have h1:=layS_in ds a u 0 j d hs hj hd'
   rwa [Nat.zero_add] at h1
  have hout:∀ j d,j < n→L j=false→ds[j]?=some (some d)→(layS a ds u 0).tmps[d]?=some (a.tmps.getD d undef):=by
   intro j d hj hL hd
   rw [hinn j d hd,ho j hj hL,hold]
   simp only [List.getD_eq_getElem?_getD,hd,Option.getD_some,Option.map_some]
  refine wpOp_step (o:=l[i]) (by simp [hil]) (fun K' hK=>?_)
  have key:∀ W' v,J W'→VP i v W'→(∀ j,j < n→VP j (u j) W→VP j (u j) W')→K' ((layS a ds u 0).put l[i].dst v) W':=by
   intro W' v hj hv hb
   rw [layS_put hs hid]
   refine hK _ _ ⟨updV u i v,hj,fun j hjn hLj=>?_,fun j hjn hLj=>?_,fun k hk hLk j hj=>?_,rfl⟩
   ·
    unfold updV
    by_cases h:j=i
    ·
     rw [if_pos h,h]; exact hv
    ·
     rw [if_neg h]
     rw [upd_ne h] at hLj
     exact hb j hjn (hu j hjn hLj)
   ·
    have h:j ≠ i:=by
     intro e
     subst e
     rw [upd_self] at hLj
     cases hLj
    unfold updV
    rw [if_neg h]
    rw [upd_ne h] at hLj
    exact ho j hjn hLj
   ·
    by_cases h:k=i
    ·
     subst h; exact upd_mono (hw j hj)
    ·
     rw [upd_ne h] at hLk
     exact upd_mono (hc k hk hLk j hj)
  rcases step i hil hi L u W _ hLi hc hJ (fun j hjn hj=>hu j hjn (hw j hj)) (fun t ht=>layS_out _ _ _ _ _ ht) hinn hout with ⟨h1,h2⟩ | ⟨h1,h2⟩
  ·
   rw [if_neg (by rw [h1]; decide)]
   exact key W undef hJ h2 (fun _ _ h=>h)
  ·
   rw [if_pos h1]
   exact h2 K' (fun v W' hj hv hb=>key W' v hj hv hb)
 ·
  rintro a' W ⟨L,hL,u,hJ,hu,_,_,rfl⟩
  exact fin u W hJ (fun j hj=>hu j hj (hL j hj))
end
set_option maxRecDepth 100000 in
set_option maxHeartbeats 12800000 in
theorem lOver {X0:Nat→Prop} {w:World} (hX:NX X0 w) (p q:NL) {x y:Int} {e f:Nat} (ez_p:p.z=x) (ez_q:q.z=y) (hp:p.is X0 w) (hq:q.is X0 w) (bx:Sz e x) (by_:Sz f y) (he:e≤9000000) (hf:f≤9000000) (hy:y ≠ 0):Calls Tryz.prog 94 #[p.v,q.v] w (PNX X0 (Int.fdiv x y) w):=by
 have hZ0:=zs_start hX
 have hZ1:=hZ0.more (f:=p.is) p.stb hp
 clear hZ0
 have hZ2:=hZ1.more (f:=q.is) q.stb hq
 clear hZ1
 go_enter Tryz.func94,Tryz.ntmps94
 go_wp2_with (refine zsb 30 (.tmp 0) #[.bool p.b,.slice p.a p.n p.c] rfl rfl rfl hZ2 (fun bk1 X3 W1 hZ3=>?_))
 clear hZ2
 simp only [Stop,Act.put,zzC,zzD,zzE]
 go_wp2_with (refine zsb 30 (.tmp 1) #[.bool q.b,.slice q.a q.n q.c] rfl rfl rfl hZ3 (fun bk2 X4 W2 hZ4=>?_))
 clear hZ3
 simp only [Stop,Act.put,zzC,zzD,zzE]
 go_wp2_with (refine zsa 30 #[.bool false,.slice none 0 0] (.agg #[.bool false,.slice none 0 0]) rfl rfl zv30 rfl hZ4 (fun bk3 X5 W3 hZ5=>?_))
 clear hZ4
 simp only [Stop,Act.put,zzC,zzD,zzE]
 go_wp2_with (refine zso rfl (fun K hK=>wp_load 30 (.tmp 2) rfl bk1 0 2 #[.bool p.b,.slice p.a p.n p.c] #[.bool p.b,.slice p.a p.n p.c] 30 (hZ5.es.at' _ (zzG (i:=2) rfl)) rfl ag30 sz30 (zzF (by kernel_rfl)) (by kernel_rfl) (hK _ _ ?_)))
 simp only [Stop,Act.put,zzC,zzD,zzE]
 go_wp2_with (refine zso rfl (fun K hK=>wp_load 30 (.tmp 3) rfl bk2 0 2 #[.bool q.b,.slice q.a q.n q.c] #[.bool q.b,.slice q.a q.n q.c] 30 (hZ5.es.at' _ (zzG (i:=1) rfl)) rfl ag30 sz30 (zzF (by kernel_rfl)) (by kernel_rfl) (hK _ _ ?_)))
 simp only [Stop,Act.put,zzC,zzD,zzE]
 go_wp2_with fail
 refine (zQuo hZ5.nx (hZ5.get 1 (f:=p.is) rfl) (hZ5.get 0 (f:=q.is) rfl) ez_p ez_q bx by_ (by omega) (by omega) hy).mono ?_
 rintro zz W4 ⟨q1,q1r,rfl,ez_q1,hi_q1,hi_q1r,hB⟩
 have hZ6:=hZ5.later hB
 clear hB hZ5
 have hZ7:=hZ6.more (f:=q1.is) q1.stb hi_q1
 clear hZ6 hi_q1
 have hZ8:=hZ7.more (f:=q1r.is) q1r.stb hi_q1r
 clear hZ7 hi_q1r
 go_wp2_with (refine zsa 30 #[.bool false,.slice none 0 0] (.agg #[.bool false,.slice none 0 0]) rfl rfl zv30 rfl hZ8 (fun bk4 X9 W5 hZ9=>?_))
 clear hZ8
 simp only [Stop,Act.put,zzC,zzD,zzE]
 go_wp2_with (refine zsa 30 #[.bool false,.slice none 0 0] (.agg #[.bool false,.slice none 0 0]) rfl rfl zv30 rfl hZ9 (fun bk5 X10 W6 hZ10=>?_))
 clear hZ9
 simp only [Stop,Act.put,zzC,zzD,zzE]
 go_wp2_with (refine zss 30 (.tmp 5) (.tmp 12) 1 bk4 0 #[.bool false,.slice none 0 0] 30 2 [.bool q1.b,.slice q1.a q1.n q1.c] #[.bool q1.b,.slice q1.a q1.n q1.c] [(bk5,#[.bool false,.slice none 0 0],30),(bk4,#[.bool q1.b,.slice q1.a q1.n q1.c],30),(bk3,#[.bool false,.slice none 0 0],30),(bk2,#[.bool q.b,.slice q.a q.n q.c],30),(bk1,#[.bool p.b,.slice p.a p.n p.c],30)] rfl rfl rfl rfl sz30 hZ10 rfl rfl (zzF (by kernel_rfl)) (by kernel_rfl) (by kernel_rfl) (by kernel_rfl) (fun W7 hZ11=>?_))
 clear hZ10
 simp only [Stop,Act.put,zzC,zzD,zzE]
 go_wp2_with (refine zss 30 (.tmp 6) (.tmp 13) 0 bk5 0 #[.bool false,.slice none 0 0] 30 2 [.bool q1r.b,.slice q1r.a q1r.n q1r.c] #[.bool q1r.b,.slice q1r.a q1r.n q1r.c] [(bk5,#[.bool q1r.b,.slice q1r.a q1r.n q1r.c],30),(bk4,#[.bool q1.b,.slice q1.a q1.n q1.c],30),(bk3,#[.bool false,.slice none 0 0],30),(bk2,#[.bool q.b,.slice q.a q.n q.c],30),(bk1,#[.bool p.b,.slice p.a p.n p.c],30)] rfl rfl rfl rfl sz30 hZ11 rfl rfl (zzF (by kernel_rfl)) (by kernel_rfl) (by kernel_rfl) (by kernel_rfl) (fun W8 hZ12=>?_))
 clear hZ11
 simp only [Stop,Act.put,zzC,zzD,zzE]
 go_wp2_with (refine zso rfl (fun K hK=>wp_load 30 (.tmp 5) rfl bk4 0 2 #[.bool q1.b,.slice q1.a q1.n q1.c] #[.bool q1.b,.slice q1.a q1.n q1.c] 30 (hZ12.es.at' _ (zzG (i:=1) rfl)) rfl ag30 sz30 (zzF (by kernel_rfl)) (by kernel_rfl) (hK _ _ ?_)))
 simp only [Stop,Act.put,zzC,zzD,zzE]
 go_wp2_with (refine zss 30 (.tmp 4) (.tmp 15) 2 bk3 0 #[.bool false,.slice none 0 0] 30 2 [.bool q1.b,.slice q1.a q1.n q1.c] #[.bool q1.b,.slice q1.a q1.n q1.c] [(bk5,#[.bool q1r.b,.slice q1r.a q1r.n q1r.c],30),(bk4,#[.bool q1.b,.slice q1.a q1.n q1.c],30),(bk3,#[.bool q1.b,.slice q1.a q1.n q1.c],30),(bk2,#[.bool q.b,.slice q.a q.n q.c],30),(bk1,#[.bool p.b,.slice p.a p.n p.c],30)] rfl rfl rfl rfl sz30 hZ12 rfl rfl (zzF (by kernel_rfl)) (by kernel_rfl) (by kernel_rfl) (by kernel_rfl) (fun W9 hZ13=>?_))
 clear hZ12
 simp only [Stop,Act.put,zzC,zzD,zzE]
 go_wp2
 exact bodyPost_ret (v:=q1.v) (results_cell 2 Tryz.results94 hZ13.es rfl ag30 sz30 (zzF (by kernel_rfl)) rfl (by kernel_rfl)) rfl ⟨q1,rfl,ez_q1,hZ13.out 1 (f:=q1.is) rfl,hZ13.below⟩
theorem sm_sz {e:Nat} {f:Nat→Int}:∀ {i:Nat},(∀ k,k < i→Sz e (f k))→Sz (e+i) (M.sm i f)
 | 0,_=>sz_zero _
 | i+1,h=>by
  rw [M.sm]
  exact Sz.plus (sm_sz fun k hk=>h k (by omega)) ((h i (by omega)).mono (Nat.le_add_right _ _))
set_option maxRecDepth 100000 in
set_option maxHeartbeats 12800000 in
theorem lInner {X0:Nat→Prop} {w:World} (hX:NX X0 w) (xs ys:Sl) {n m:Nat} {x y:Nat→Int} {e:Nat} (hx:Ls n x xs X0 w) (hy:Ls m y ys X0 w) (hnm:n≤m) (bx:∀ k,k < n→Sz e (x k)) (by_:∀ k,k < n→Sz e (y k)) (hn:n≤1000) (he:e≤1000000):Calls Tryz.prog 68 #[xs.v,ys.v] w (PNX X0 (M.sm n (fun k=>x k*y k)) w):=by
 have hZ0:=zs_start hX
 have hZ1:=hZ0.more (f:=Ls m y ys) (Ls.stb _ _ _) hy
 clear hZ0
 have hZ2:=hZ1.more (f:=Ls n x xs) (Ls.stb _ _ _) hx
 clear hZ1
 go_enter Tryz.func68,Tryz.ntmps68
 go_wp2_with (refine zsa 30 #[.bool false,.slice none 0 0] (.agg #[.bool false,.slice none 0 0]) rfl rfl zv30 rfl hZ2 (fun bk1 X3 W1 hZ3=>?_))
 clear hZ2
 simp only [Stop,Act.put,zzC,zzD,zzE]
 go_wp2_with (refine zsa 30 #[.bool false,.slice none 0 0] (.agg #[.bool false,.slice none 0 0]) rfl rfl zv30 rfl hZ3 (fun bk2 X4 W2 hZ4=>?_))
 clear hZ3
 simp only [Stop,Act.put,zzC,zzD,zzE]
 go_wp2_with (refine zso rfl (fun K hK=>wp_lenq (.tmp 8) 27 30 xs rfl (by kernel_rfl) rfl (hZ4.get 0 (f:=Ls n x xs) rfl).n (hK _ _ ?_)))
 simp only [Stop,Act.put,zzC,zzD,zzE]
 go_wp2
 go_loopw [10] (fun iv wr=>∃ i:Nat,i≤n∧iv=.int .i64 ((i:Nat):Int)∧∃ (p:NL) (X:Nat→Prop),p.z=M.sm i (fun k=>x k*y k)∧Zs w wr X0 X [(bk2,#[.bool p.b,.slice p.a p.n p.c],30),(bk1,#[.bool false,.slice none 0 0],30)] [p.is,Ls n x xs,Ls m y ys]) (fun iv _=>n - (intOf iv).toNat)
 case atStart=>exact ⟨0,by omega,rfl,nlz,_,rfl,hZ4.more nlz.stb (nlz_is _ _)⟩
 case round =>
  obtain ⟨i,hi,rfl,p,X,ez_p,hZ⟩:=hrel
  have hbp:Sz (e+e+i) p.z:=by rw [ez_p]; exact sm_sz (fun k hk=>Sz.mul (bx k (by omega)) (by_ k (by omega)))
  by_cases hlt:i < n
  ·
   go_wp2_with (refine zso rfl (fun K hK=>wp_lssi (.tmp 10) (.tmp 9) rfl rfl rfl (r:=true) (decide_eq_true (by omega)) (hK _ _ ?_)))
   simp only [Stop,Act.put,zzC,zzD,zzE]
   go_wp2_with (refine zso rfl (fun K hK=>wp_ixs 27 (.tmp 8) (.tmp 10) xs i 2 30 rfl rfl rfl (by kernel_rfl) sz30 (fun h=>((hZ.get 1 (f:=Ls n x xs) rfl).sq.nil h).1) ((hZ.get 1 (f:=Ls n x xs) rfl).n ▸ (by omega)) (hK _ _ ?_)))
   simp only [Stop,Act.put,zzC,zzD,zzE]
   go_wp2_with (refine zso rfl (fun K hK=>wp_ldn 30 (.tmp 13) xs i n x rfl rfl (hZ.get 1 (f:=Ls n x xs) rfl) (by omega) ag30 sz30 (fun q1 ez_q1 hi_q1=>hK _ _ ?_)))
   simp only [Stop,Act.put,zzC,zzD,zzE]
   have hZ5:=hZ.more (f:=q1.is) q1.stb hi_q1
   clear hZ hi_q1
   go_wp2_with (refine zsa 30 #[.bool false,.slice none 0 0] (.agg #[.bool false,.slice none 0 0]) rfl rfl zv30 rfl hZ5 (fun bk3 X6 W3 hZ6=>?_))
   clear hZ5
   simp only [Stop,Act.put,zzC,zzD,zzE]
   go_wp2_with (refine zss 30 (.tmp 7) (.tmp 14) 0 bk3 0 #[.bool false,.slice none 0 0] 30 2 [.bool q1.b,.slice q1.a q1.n q1.c] #[.bool q1.b,.slice q1.a q1.n q1.c] [(bk3,#[.bool q1.b,.slice q1.a q1.n q1.c],30),(bk2,#[.bool p.b,.slice p.a p.n p.c],30),(bk1,#[.bool false,.slice none 0 0],30)] rfl rfl rfl rfl sz30 hZ6 rfl rfl (zzF (by kernel_rfl)) (by kernel_rfl) (by kernel_rfl) (by kernel_rfl) (fun W4 hZ7=>?_))
   clear hZ6
   simp only [Stop,Act.put,zzC,zzD,zzE]
   go_wp2
   have hM:Zs w W4.drew X0 X6 [(bk3,#[.bool q1.b,.slice q1.a q1.n q1.c],30),(bk2,#[.bool p.b,.slice p.a p.n p.c],30),(bk1,#[.bool false,.slice none 0 0],30)] [q1.is,p.is,Ls n x xs,Ls m y ys]∧Below W4.heap.size W4 W4.drew:=⟨hZ7.later (Below.refl _ _).drew,(Below.refl _ _).drew⟩
   clear hZ7
   have hVS5:∀ k,k ∈ ([veq (p.v),veq (q1.v),veq (ys.v),veq (.int .i64 (((i:Nat):Int))),veq ((ys.at 2 i)),vnum (y i),vnum ((x i)*(y i)),vnum ((M.sm i (fun k=>x k*y k))+((x i)*(y i)))]:List VF)→VSt k:=by
    intro k hk
    simp only [List.mem_cons,List.not_mem_nil,or_false] at hk
    rcases hk with rfl | rfl | rfl | rfl | rfl | rfl | rfl | rfl
    ·
     exact veq_st _
    ·
     exact veq_st _
    ·
     exact veq_st _
    ·
     exact veq_st _
    ·
     exact veq_st _
    ·
     exact vnum_st _
    ·
     exact vnum_st _
    ·
     exact vnum_st _
   refine wp_region_q 8 [some 15,some 16,some 17,some 18,some 19,some 20,some 21,some 22] (vzL [veq (p.v),veq (q1.v),veq (ys.v),veq (.int .i64 (((i:Nat):Int))),veq ((ys.at 2 i)),vnum (y i),vnum ((x i)*(y i)),vnum ((M.sm i (fun k=>x k*y k))+((x i)*(y i)))] X6) (fun W=>Zs w W X0 X6 [(bk3,#[.bool q1.b,.slice q1.a q1.n q1.c],30),(bk2,#[.bool p.b,.slice p.a p.n p.c],30),(bk1,#[.bool false,.slice none 0 0],30)] [q1.is,p.is,Ls n x xs,Ls m y ys]∧Below W4.heap.size W4 W) (by kernel_rfl) (by kernel_rfl) (by rfl) (by decide) (by rfl) hM ?_ ?_
   ·
    intro i hl hi LL uu ww aa hLi hLc hJ hd hev hin hold
    clear hM
    obtain ⟨hJ,hJb⟩:=hJ
    obtain rfl | rfl | rfl | rfl | rfl | rfl | rfl | rfl:i=0∨i=1∨i=2∨i=3∨i=4∨i=5∨i=6∨i=7:=by omega
    ·
     exact .inr ⟨rfl,fun K' hK=>wp_load 30 (.tmp 5) rfl bk2 0 2 #[.bool p.b,.slice p.a p.n p.c] #[.bool p.b,.slice p.a p.n p.c] 30 (hJ.es.at' _ (zzG (i:=1) rfl)) (zet ((hev 5 (by decide)).trans rfl)) ag30 sz30 (zzF (by kernel_rfl)) (by kernel_rfl) (hK _ _ ⟨hJ,hJb⟩ rfl zvs)⟩
    ·
     exact .inr ⟨rfl,fun K' hK=>wp_load 30 (.tmp 7) rfl bk3 0 2 #[.bool q1.b,.slice q1.a q1.n q1.c] #[.bool q1.b,.slice q1.a q1.n q1.c] 30 (hJ.es.at' _ (zzG (i:=0) rfl)) (zet ((hev 7 (by decide)).trans rfl)) ag30 sz30 (zzF (by kernel_rfl)) (by kernel_rfl) (hK _ _ ⟨hJ,hJb⟩ rfl zvs)⟩
    ·
     exact .inr ⟨rfl,fun K' hK=>wp_move (.tmp 1) rfl (zet ((hev 1 (by decide)).trans rfl)) (hK _ _ ⟨hJ,hJb⟩ rfl zvs)⟩
    ·
     exact .inr ⟨rfl,fun K' hK=>wp_move (.tmp 6) rfl (zet ((hev 6 (by decide)).trans rfl)) (hK _ _ ⟨hJ,hJb⟩ rfl zvs)⟩
    ·
     exact .inr ⟨rfl,fun K' hK=>wp_ixs 27 (.tmp 17) (.tmp 18) ys i 2 30 rfl (zet ((hin 2 17 rfl).trans (congrArg some (show uu 2=ys.v from hd 2 (by decide) (by kernel_rfl))))) (zet ((hin 3 18 rfl).trans (congrArg some (show uu 3=.int .i64 (((i:Nat):Int)) from hd 3 (by decide) (by kernel_rfl))))) (by kernel_rfl) sz30 (fun h=>((hJ.get 3 (f:=Ls m y ys) rfl).sq.nil h).1) ((hJ.get 3 (f:=Ls m y ys) rfl).n ▸ (by omega)) (hK _ _ ⟨hJ,hJb⟩ rfl zvs)⟩
    ·
     exact .inr ⟨rfl,fun K' hK=>wp_ldn 30 (.tmp 19) ys i m y rfl (zet ((hin 4 19 rfl).trans (congrArg some (show uu 4=(ys.at 2 i) from hd 4 (by decide) (by kernel_rfl))))) (hJ.get 3 (f:=Ls m y ys) rfl) (by omega) ag30 sz30 (fun q2 ez_q2 hi_q2=>hK _ _ ⟨hJ,hJb⟩ ⟨q2,rfl,ez_q2,hi_q2⟩ zvs)⟩
    ·
     obtain ⟨q2,e5,ez_q2,hi_q2⟩:=(show (vnum (y i)) (uu 5) X6 ww from hd 5 (by decide) (by kernel_rfl))
     replace hJ:=hJ.more (f:=q2.is) q2.stb hi_q2
     refine .inr ⟨rfl,fun K' hK=>?_⟩
     refine zcz (.func 12) #[.tmp 16,.tmp 20] #[30,30] 12 #[] #[q1.v,q2.v] _ rfl rfl (map2 (zet ((hin 1 16 rfl).trans (congrArg some (show uu 1=q1.v from hd 1 (by decide) (by kernel_rfl))))) (zet ((hin 5 20 rfl).trans (congrArg some e5)))) rfl (fun _ _=>rfl) (zMul hJ.nx (hJ.get 1 (f:=q1.is) rfl) (hJ.get 0 (f:=q2.is) rfl) ez_q1 ez_q2 (bx i (by omega)) (by_ i (by omega)) (by omega) (by omega)) ?_
     rintro zz ww2 ⟨q3,rfl,ez_q3,hi_q3,hB⟩
     exact ⟨_,rfl,hK _ _ ⟨(hJ.only [q1.is,p.is,Ls n x xs,Ls m y ys] (by simp)).later hB,hJb.trans (hB.mono hJb.size)⟩ ⟨q3,rfl,ez_q3,hi_q3⟩ (zvl hVS5 hB)⟩
    ·
     obtain ⟨q3,e6,ez_q3,hi_q3⟩:=(show (vnum ((x i)*(y i))) (uu 6) X6 ww from hd 6 (by decide) (by kernel_rfl))
     replace hJ:=hJ.more (f:=q3.is) q3.stb hi_q3
     refine .inr ⟨rfl,fun K' hK=>?_⟩
     refine zcz (.func 11) #[.tmp 15,.tmp 21] #[30,30] 11 #[] #[p.v,q3.v] _ rfl rfl (map2 (zet ((hin 0 15 rfl).trans (congrArg some (show uu 0=p.v from hd 0 (by decide) (by kernel_rfl))))) (zet ((hin 6 21 rfl).trans (congrArg some e6)))) rfl (fun _ _=>rfl) (zAdd hJ.nx (hJ.get 2 (f:=p.is) rfl) (hJ.get 0 (f:=q3.is) rfl) ez_p ez_q3 (ez_p ▸ hbp) (Sz.mul (bx i (by omega)) (by_ i (by omega))) (by omega) (by omega)) ?_
     rintro zz ww2 ⟨q4,rfl,ez_q4,hi_q4,hB⟩
     exact ⟨_,rfl,hK _ _ ⟨(hJ.only [q1.is,p.is,Ls n x xs,Ls m y ys] (by simp)).later hB,hJb.trans (hB.mono hJb.size)⟩ ⟨q4,rfl,ez_q4,hi_q4⟩ (zvl hVS5 hB)⟩
   clear hM
   intro uu W5 hZ8p hd
   obtain ⟨hZ8,hb5⟩:=hZ8p
   have e_0:uu 0=p.v:=hd 0 (by decide)
   have e_1:uu 1=q1.v:=hd 1 (by decide)
   have e_2:uu 2=ys.v:=hd 2 (by decide)
   have e_3:uu 3=.int .i64 (((i:Nat):Int)):=hd 3 (by decide)
   have e_4:uu 4=(ys.at 2 i):=hd 4 (by decide)
   obtain ⟨q2,e_5,ez_q2,hi_q2⟩:=(show (vnum (y i)) (uu 5) X6 W5 from hd 5 (by decide))
   obtain ⟨q3,e_6,ez_q3,hi_q3⟩:=(show (vnum ((x i)*(y i))) (uu 6) X6 W5 from hd 6 (by decide))
   obtain ⟨q4,e_7,ez_q4,hi_q4⟩:=(show (vnum ((M.sm i (fun k=>x k*y k))+((x i)*(y i)))) (uu 7) X6 W5 from hd 7 (by decide))
   clear hd hVS5
   simp only [layS,Act.put,zzC,zzD,zzE,Nat.zero_add,Nat.reduceAdd,List.drop_succ_cons,List.drop_zero,List.drop_nil,e_0,e_1,e_2,e_3,e_4,e_5,e_6,e_7]
   clear e_0 e_1 e_2 e_3 e_4 e_5 e_6 e_7
   have hZ9:=hZ8.more (f:=q2.is) q2.stb hi_q2
   clear hZ8 hi_q2
   have hZ10:=hZ9.more (f:=q3.is) q3.stb hi_q3
   clear hZ9 hi_q3
   have hZ11:=hZ10.more (f:=q4.is) q4.stb hi_q4
   clear hZ10 hi_q4
   go_wp2_with (refine zss 30 (.tmp 5) (.tmp 22) 1 bk2 0 #[.bool p.b,.slice p.a p.n p.c] 30 2 [.bool q4.b,.slice q4.a q4.n q4.c] #[.bool q4.b,.slice q4.a q4.n q4.c] [(bk3,#[.bool q1.b,.slice q1.a q1.n q1.c],30),(bk2,#[.bool q4.b,.slice q4.a q4.n q4.c],30),(bk1,#[.bool false,.slice none 0 0],30)] rfl rfl rfl rfl sz30 hZ11 rfl rfl (zzF (by kernel_rfl)) (by kernel_rfl) (by kernel_rfl) (by kernel_rfl) (fun W6 hZ12=>?_))
   clear hZ11
   simp only [Stop,Act.put,zzC,zzD,zzE]
   go_wp2_with (refine zso rfl (fun K hK=>wp_addi (.tmp 10) (.const (.int .i64 1)) rfl rfl rfl (C:=((i+1:Nat):Int)) (by omega) (by omega) (by omega) (hK _ _ ?_)))
   simp only [Stop,Act.put,zzC,zzD,zzE]
   have hZ13:=hZ12.only [q4.is,Ls n x xs,Ls m y ys] (by simp)
   clear hZ12
   go_wp2
   go_roundw
   case rel=>exact ⟨i+1,by omega,by go_num,q4,_,by rw [ez_q4]; rfl,hZ13.drop (List.sublist_cons_self _ _)⟩
   case measure=>simp [intOf]; omega
  ·
   obtain rfl:i=n:=by omega
   go_wp2_with (refine zso rfl (fun K hK=>wp_lssi (.tmp 10) (.tmp 9) rfl rfl rfl (r:=false) (decide_eq_false (Int.lt_irrefl _)) (hK _ _ ?_)))
   simp only [Stop,Act.put,zzC,zzD,zzE]
   go_wp2_with (refine zso rfl (fun K hK=>wp_load 30 (.tmp 5) rfl bk2 0 2 #[.bool p.b,.slice p.a p.n p.c] #[.bool p.b,.slice p.a p.n p.c] 30 (hZ.es.at' _ (zzG (i:=0) rfl)) rfl ag30 sz30 (zzF (by kernel_rfl)) (by kernel_rfl) (hK _ _ ?_)))
   simp only [Stop,Act.put,zzC,zzD,zzE]
   go_wp2_with (refine zss 30 (.tmp 4) (.tmp 24) 1 bk1 0 #[.bool false,.slice none 0 0] 30 2 [.bool p.b,.slice p.a p.n p.c] #[.bool p.b,.slice p.a p.n p.c] [(bk2,#[.bool p.b,.slice p.a p.n p.c],30),(bk1,#[.bool p.b,.slice p.a p.n p.c],30)] rfl rfl rfl rfl sz30 hZ rfl rfl (zzF (by kernel_rfl)) (by kernel_rfl) (by kernel_rfl) (by kernel_rfl) (fun W7 hZ14=>?_))
   clear hZ
   simp only [Stop,Act.put,zzC,zzD,zzE]
   go_wp2
   exact bodyPost_ret (v:=p.v) (results_cell 1 Tryz.results68 hZ14.es rfl ag30 sz30 (zzF (by kernel_rfl)) rfl (by kernel_rfl)) rfl ⟨p,rfl,ez_p,hZ14.out 0 (f:=p.is) rfl,hZ14.below⟩
end Go.Proofs.YtjclllindbfmhabGreatDoor
