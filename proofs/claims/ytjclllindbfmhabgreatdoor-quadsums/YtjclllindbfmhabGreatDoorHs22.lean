/- Parts of the proof. -/
import Derived.Test.YtjclllindbfmhabGreatDoorHs0
import Derived.Test.YtjclllindbfmhabGreatDoorHs21
import Derived.Test.YtjclllindbfmhabGreatDoorHs11
import Derived.IntWalk
import Derived.Test.YtjclllindbfmhabGreatDoorHs12
set_option linter.unusedSimpArgs false
set_option linter.unusedVariables false
namespace Go.Proofs.YtjclllindbfmhabGreatDoor
/- A list that is copied by append; rows of one's own that are told, in matrices of one's own. No statement of the seat is proved here. -/
open Go Go.RowKit
section
variable {P:Program} {ops:Array Oper} {Q:Exit→Act→World→Prop} {a:Act} {w W:World} {rest:List Oper} {o:Oper} {l:List (Nat × Array Value × TypeId)} {X0 X:Nat→Prop} {fs:List Fa} {next:Act→World→Prop}
/-- What lies in a place of an own slice is loaded. -/
theorem wp_ldown (T e:TypeId) (p:Operand) (s:Sl) (i:Nat) (C:Array Value) {v:Value} (ho:o.op=.load T p) (hp:a.eval p=s.at 1 i) (hw:Wr 1 s C) (h:Zs w W X0 X (owl s C e++l) fs) (hi:i < s.n) (hv:C[i*1+0]?=some v) (hagg:∀ W,(isAgg T).run P W=.ok false W) (k:next (a.put o.dst v) W):o.wp P a W next Q:=by
 obtain ⟨sa,sn,sc⟩:=s
 rcases hw.at_ with ⟨h1,h2⟩ | ⟨b,h1⟩
 ·
  have:=hw.cap
  simp only at h2 this hi
  omega
 ·
  simp only at h1
  subst h1
  refine wp_ldr (v:=v) T p ho hp ?_ k
  have hg:W.heap[b]?=some (.cells C e (0,0)):=h.es.at' (b,C,e) (List.mem_cons_self ..)
  have hadd:(⟨b,0,none⟩:Addr).add (i*1)=⟨b,i*1,none⟩:=by unfold Addr.add; split <;> simp_all
  have hc:W.cell? ⟨b,i*1,none⟩=some v:=by
   simp only [World.cell?,hg]
   simpa using hv
  have hsa:(Instr.sureAddr (.pointer (some ⟨b,i*1,none⟩))).run P W=.ok ⟨b,i*1,none⟩ W:=rfl
  show (Instr.loadAt T (.pointer (some ((⟨b,0,none⟩:Addr).add (i*1))))).run P W=_
  rw [hadd]
  unfold Instr.loadAt loadVar
  simp only [Sem.run_bind,hsa,Result.andThen,hagg]
  rw [Nat.mul_one] at hc
  simp [go_sem,hc]
end
section
variable {w W:World} {X0 X:Nat→Prop} {l:List (Nat × Array Value × TypeId)} {fs:List Fa}
/-- A row of one's own is told, and not written any more. -/
theorem Zs.tell {s:Sl} {C:Array Value} {T:TypeId} {f:Nat→Int} {n:Nat} (h:Zs w W X0 X (owl s C T++l) fs) (hx:NX X0 w) (hw:Wr 2 s C) (hn:s.n=n) (hf:Fl 2 (EN f) n C X W):∃ X',Zs w W X0 X' l (Ls n f s :: fs):=by
 obtain ⟨sa,sn,sc⟩:=s
 rcases hw.at_ with ⟨h1,h2⟩ | ⟨b,h1⟩
 ·
  have hcap:=hw.cap
  simp only at h1 h2 hcap hn
  subst h1 h2 hn
  obtain rfl:sn=0:=by omega
  exact ⟨X,Zs.more (l:=l) h (Ls.stb 0 f ⟨none,0,0⟩) ⟨rfl,Nat.le_refl _,Nat.zero_le _,fun _=>⟨rfl,rfl⟩,nofun,nofun⟩⟩
 simp only at h1 hn
 subst h1 hn
 have hlt:=h.es.lt (b,C,T) (List.mem_cons_self ..)
 have hc:W.heap[b]?=some (.cells C T (0,0)):=h.es.at' (b,C,T) (List.mem_cons_self ..)
 have hr:=Zs.release (b:=b) (C:=C) (T:=T) h hx
 refine ⟨_,(hr.more (Ls.stb sn f ⟨some ⟨b,0,none⟩,sn,sc⟩) ⟨rfl,hw.cap,hw.capm,nofun,fun q hq _=>?_,fun q hq i hi=>?_⟩).only _ (by
  intro g hg
  rcases List.mem_cons.1 hg with rfl | hg
  ·
   exact List.mem_cons_self ..
  ·
   exact List.mem_cons_of_mem _ (List.mem_cons_of_mem _ hg))⟩
 ·
  cases hq; exact ⟨rfl,hlt,fun hk=>hk.2 rfl⟩
 ·
  cases hq
  obtain ⟨cs,h1,h2,h3⟩:=hf i hi
  refine ⟨cs,h1,fun j hj=>?_,EN.stb f i cs _ _ _ _ (Ext.less W fun k hk=>hk.1) h3⟩
  rw [← h2 j hj]
  have hsz:=hw.sz
  have hcap:=hw.cap
  simp only at hsz hcap hi
  simp only [Nat.zero_add]
  have hl2:i*2+j < C.size:=by omega
  simp [World.cell?,hc,hl2]
/-- An own slice is told: what its elements are is known where nothing is written any more. -/
theorem Zs.sq0 (h:Zs w W X0 X l fs) (hx:NX X0 w) {k:Nat} {E:El} {s:Sl} {C:Array Value} {T:TypeId} (hw:Wr k s C) (hl:∀ p,p ∈ owl s C T→p ∈ l) (hf:Fl k E s.n C X0 W):Sq k E s X0 W:=by
 refine ⟨hw.cap,hw.capm,fun e=>?_,fun q hq _=>?_,fun q hq i hi=>?_⟩
 ·
  rcases hw.at_ with ⟨_,h2⟩ | ⟨b,h1⟩
  ·
   have:=hw.cap; omega
  ·
   rw [e] at h1; cases h1
 ·
  obtain ⟨b,rfl⟩:∃ b,q=⟨b,0,none⟩:=by
   rcases hw.at_ with ⟨h1,_⟩ | ⟨b,h1⟩
   ·
    rw [h1] at hq; cases hq
   ·
    rw [h1] at hq; cases hq; exact ⟨b,rfl⟩
  have hm:(b,C,T) ∈ l:=hl _ (by unfold owl; rw [hq]; exact List.mem_singleton.2 rfl)
  refine ⟨rfl,h.es.lt _ hm,fun hX=>?_⟩
  have h1:=h.es.ge _ hm
  have h2:=hx _ hX
  simp only at h1 h2
  omega
 ·
  obtain ⟨b,rfl⟩:∃ b,q=⟨b,0,none⟩:=by
   rcases hw.at_ with ⟨h1,_⟩ | ⟨b,h1⟩
   ·
    rw [h1] at hq; cases hq
   ·
    rw [h1] at hq; cases hq; exact ⟨b,rfl⟩
  have hm:(b,C,T) ∈ l:=hl _ (by unfold owl; rw [hq]; exact List.mem_singleton.2 rfl)
  have hc:W.heap[b]?=some (.cells C T (0,0)):=h.es.at' _ hm
  obtain ⟨cs,h1,h2,h3⟩:=hf i hi
  refine ⟨cs,h1,fun j hj=>?_,h3⟩
  rw [← h2 j hj]
  simp only [Nat.zero_add]
  have h5:=hw.sz
  have h6:(i+1)*k≤s.c*k:=Nat.mul_le_mul_right k (by have:=hw.cap; omega)
  rw [Nat.add_mul] at h6
  have hl2:i*k+j < C.size:=by omega
  simp [World.cell?,hc,hl2]
/-- One place is written anew: the others are as they were. -/
theorem Fl.put {k:Nat} {E:El} {n i:Nat} {C C':Array Value} {X:Nat→Prop} {W:World} (h:Fl k E n C X W) {cs:List Value} (hk:cs.length=k) (hg:∀ j,j < k→C'[i*k+j]?=cs[j]?) (ho:∀ j,(j < i*k∨i*k+k≤j)→C'[j]?=C[j]?) {E':El} (hE:E' X W i cs) (hE':∀ m cs,m < n→m ≠ i→E X W m cs→E' X W m cs):Fl k E' n C' X W:=by
 intro m hm
 by_cases e:m=i
 ·
  subst e; exact ⟨cs,hk,hg,hE⟩
 ·
  obtain ⟨ds,h1,h2,h3⟩:=h m hm
  refine ⟨ds,h1,fun j hj=>?_,hE' m ds hm e h3⟩
  rw [ho]
  ·
   exact h2 j hj
  ·
   rcases Nat.lt_or_gt_of_ne e with hl | hl
   ·
    have:(m+1)*k≤i*k:=Nat.mul_le_mul_right k (by omega)
    rw [Nat.add_mul] at this
    omega
   ·
    have:(i+1)*k≤m*k:=Nat.mul_le_mul_right k (by omega)
    rw [Nat.add_mul] at this
    omega
end
def NL.ir (p:NL):Fa:=fun X W=>RNum W p.b p.a p.n p.c p.z∧∀ q,p.a=some q→0 < p.n→¬ X q.block
theorem NL.stbr (p:NL):Stb p.ir:=by
 intro X W X' W' he h
 refine ⟨⟨⟨h.1.lie.cap,h.1.lie.capm,h.1.lie.nil,fun q hq=>⟨(h.1.lie.spot q hq).1,Nat.lt_of_lt_of_le (h.1.lie.spot q hq).2 he.size⟩,fun q hq i hi=>?_⟩,h.1.fit,h.1.sgn⟩,fun q hq h0 hx=>h.2 q hq h0 (he.grow _ hx (h.1.lie.spot q hq).2)⟩
 exact (he.cell (q:=⟨q.block,q.off+i,none⟩) (h.1.lie.spot q hq).2 (h.2 q hq (by omega))).trans (h.1.lie.cell q hq i hi)
def ENr (x:Nat→Int):El:=fun X W i cs=>∃ p:NL,p.z=x i∧p.ir X W∧cs=[.bool p.b,.slice p.a p.n p.c]
theorem ENr.stb (x:Nat→Int):EStb (ENr x):=fun _ _ X W X' W' he ⟨p,h1,h2,h3⟩=>⟨p,h1,p.stbr X W X' W' he h2,h3⟩
/-- A list of n numbers. -/
structure Lr (n:Nat) (x:Nat→Int) (s:Sl) (X:Nat→Prop) (W:World):Prop where
 n:s.n=n
 sq:Sq 2 (ENr x) s X W
theorem Lr.stb (n:Nat) (x:Nat→Int) (s:Sl):Stb (Lr n x s):=fun X W X' W' he h=>⟨h.n,Sq.stb (ENr.stb x) s X W X' W' he h.sq⟩
def ERr (c:Nat→Nat) (B:Nat→Nat→Int):El:=fun X W i cs=>∃ r:Sl,Lr (c i) (B i) r X W∧cs=[r.v]
theorem ERr.stb (c:Nat→Nat) (B:Nat→Nat→Int):EStb (ERr c B):=fun i _ X W X' W' he ⟨r,h1,h2⟩=>⟨r,Lr.stb (c i) (B i) r X W X' W' he h1,h2⟩
/-- Rows, the i-th of c i numbers. -/
structure Mr (m:Nat) (c:Nat→Nat) (B:Nat→Nat→Int) (s:Sl) (X:Nat→Prop) (W:World):Prop where
 n:s.n=m
 sq:Sq 1 (ERr c B) s X W
theorem Mr.stb (m:Nat) (c:Nat→Nat) (B:Nat→Nat→Int) (s:Sl):Stb (Mr m c B s):=fun X W X' W' he h=>⟨h.n,Sq.stb (ERr.stb c B) s X W X' W' he h.sq⟩
theorem Lr.congr {n:Nat} {x y:Nat→Int} {s:Sl} {X:Nat→Prop} {W:World} (h:Lr n x s X W) (e:∀ i,i < n→x i=y i):Lr n y s X W :=
 ⟨h.n,h.sq.congr fun i _ hi ⟨p,h1,h2⟩=>⟨p,h1.trans (e i (h.n ▸ hi)),h2⟩⟩
/-- A number is handed back. -/
def PNXr (X:Nat→Prop) (z:Int) (w:World) (e:Ending) (w':World):Prop:=∃ p:NL,e=.returned p.v∧p.z=z∧p.ir X w'∧Below w.heap.size w w'
def PMXr (X:Nat→Prop) (m:Nat) (c:Nat→Nat) (B:Nat→Nat→Int) (w:World) (e:Ending) (w':World):Prop:=∃ s:Sl,e=.returned s.v∧Mr m c B s X w'∧Below w.heap.size w w'
theorem pnx_ofr {X:Nat→Prop} {z:Int} {w:World} (hx:NX X w) {e:Ending} {w':World} (h:PRNumF z w e w'):PNXr X z w e w':=by
 obtain ⟨b,a,n,c,rfl,h1,h2,h3⟩:=h
 exact ⟨⟨b,a,n,c,z⟩,rfl,rfl,⟨h1,fun q hq _ hX=>by have:=h2 q hq; have:=hx _ hX; omega⟩,h3⟩
section
variable {P:Program} {ops:Array Oper} {Q:Exit→Act→World→Prop} {a:Act} {w W W0:World} {rest:List Oper} {o:Oper} {l:List (Nat × Array Value × TypeId)} {X0 X:Nat→Prop} {fs:List Fa} {next:Act→World→Prop}
end
section
variable {w W:World} {X0 X:Nat→Prop} {l:List (Nat × Array Value × TypeId)} {fs:List Fa}
/-- A row of one's own is told, and not written any more. -/
theorem Zs.tellr {s:Sl} {C:Array Value} {T:TypeId} {f:Nat→Int} {n:Nat} (h:Zs w W X0 X (owl s C T++l) fs) (hx:NX X0 w) (hw:Wr 2 s C) (hn:s.n=n) (hf:Fl 2 (ENr f) n C X W):∃ X',Zs w W X0 X' l (Lr n f s :: fs):=by
 obtain ⟨sa,sn,sc⟩:=s
 rcases hw.at_ with ⟨h1,h2⟩ | ⟨b,h1⟩
 ·
  have hcap:=hw.cap
  simp only at h1 h2 hcap hn
  subst h1 h2 hn
  obtain rfl:sn=0:=by omega
  exact ⟨X,Zs.more (l:=l) h (Lr.stb 0 f ⟨none,0,0⟩) ⟨rfl,Nat.le_refl _,Nat.zero_le _,fun _=>⟨rfl,rfl⟩,nofun,nofun⟩⟩
 simp only at h1 hn
 subst h1 hn
 have hlt:=h.es.lt (b,C,T) (List.mem_cons_self ..)
 have hc:W.heap[b]?=some (.cells C T (0,0)):=h.es.at' (b,C,T) (List.mem_cons_self ..)
 have hr:=Zs.release (b:=b) (C:=C) (T:=T) h hx
 refine ⟨_,(hr.more (Lr.stb sn f ⟨some ⟨b,0,none⟩,sn,sc⟩) ⟨rfl,hw.cap,hw.capm,nofun,fun q hq _=>?_,fun q hq i hi=>?_⟩).only _ (by
  intro g hg
  rcases List.mem_cons.1 hg with rfl | hg
  ·
   exact List.mem_cons_self ..
  ·
   exact List.mem_cons_of_mem _ (List.mem_cons_of_mem _ hg))⟩
 ·
  cases hq; exact ⟨rfl,hlt,fun hk=>hk.2 rfl⟩
 ·
  cases hq
  obtain ⟨cs,h1,h2,h3⟩:=hf i hi
  refine ⟨cs,h1,fun j hj=>?_,ENr.stb f i cs _ _ _ _ (Ext.less W fun k hk=>hk.1) h3⟩
  rw [← h2 j hj]
  have hsz:=hw.sz
  have hcap:=hw.cap
  simp only at hsz hcap hi
  simp only [Nat.zero_add]
  have hl2:i*2+j < C.size:=by omega
  simp [World.cell?,hc,hl2]
end
def vnumr (z:Int):VF:=fun u X W=>∃ p:NL,u=p.v∧p.z=z∧p.ir X W
def vlsr (n:Nat) (x:Nat→Int):VF:=fun u X W=>∃ s:Sl,u=s.v∧Lr n x s X W
def vmtr (m:Nat) (c:Nat→Nat) (B:Nat→Nat→Int):VF:=fun u X W=>∃ s:Sl,u=s.v∧Mr m c B s X W
def vatr (n:Nat) (x:Nat→Int) (i:Nat):VF:=fun u X W=>∃ s:Sl,u=s.at 2 i∧Lr n x s X W
section
variable {X:Nat→Prop} {W:World} {p q:NL} {x y:Int} {e f:Nat}
theorem zOfr (hx:NX X W) (h1:-9223372036854775808≤x) (h2:x≤9223372036854775807):Calls Tryz.prog 31 #[.int .i64 x] W (PNXr X x W) :=
 (rOf_any x W h1 h2).mono fun _ _ h=>pnx_ofr hx h
end
section
variable {w W W':World} {X0 X X':Nat→Prop} {l l':List (Nat × Array Value × TypeId)} {fs gs:List Fa}
/-- What a call has made joins. -/
theorem Zs.andThen (h:Zs w W X0 X l fs) (k:Zs W W' X X' l' gs):Zs w W' X0 X' (l'++l) (gs++fs):=by
 refine ⟨⟨h.es.below.trans (k.es.below.mono h.es.below.size),fun p hp=>?_,?_,fun p hp=>?_⟩,k.nx,fun p hp=>?_,fun q hq=>k.sub q (h.sub q hq),fun f hf=>?_,h.ext.trans k.ext⟩
 ·
  rcases List.mem_append.1 hp with hp | hp
  ·
   exact k.es.at' p hp
  ·
   exact (h.es.at' p hp).below k.es.below
 ·
  rw [List.map_append]
  refine List.nodup_append.2 ⟨k.es.nd,h.es.nd,?_⟩
  intro a ha b hb e
  obtain ⟨p,hp,rfl⟩:=List.mem_map.1 ha
  obtain ⟨q,hq,rfl⟩:=List.mem_map.1 hb
  have h1:=k.es.ge p hp
  have h2:=h.es.lt q hq
  omega
 ·
  rcases List.mem_append.1 hp with hp | hp
  ·
   exact Nat.le_trans h.es.below.size (k.es.ge p hp)
  ·
   exact h.es.ge p hp
 ·
  rcases List.mem_append.1 hp with hp | hp
  ·
   exact k.own p hp
  ·
   exact k.sub _ (h.own p hp)
 ·
  rcases List.mem_append.1 hf with hf | hf
  ·
   exact k.fs f hf
  ·
   exact ⟨(h.fs f hf).1,(h.fs f hf).1 _ _ _ _ k.ext (h.fs f hf).2⟩
end
/-- A function, changed at one place. -/
def upf {α:Type} (f:Nat→α) (i:Nat) (x:α) (j:Nat):α:=if j=i then x else f j
theorem upf_self {α:Type} (f:Nat→α) (i:Nat) (x:α):upf f i x i=x:=if_pos rfl
theorem upf_ne {α:Type} (f:Nat→α) {i j:Nat} (x:α) (h:j ≠ i):upf f i x j=f j:=if_neg h
/-- The blocks of n rows of one's own. -/
def rwl (r:Nat→Sl) (D:Nat→Array Value) (T:TypeId):Nat→List (Nat × Array Value × TypeId)
 | 0=>[]
 | n+1=>rwl r D T n++owl (r n) (D n) T
/-- Those but row i's. -/
def rwx (r:Nat→Sl) (D:Nat→Array Value) (T:TypeId) (i:Nat):Nat→List (Nat × Array Value × TypeId)
 | 0=>[]
 | n+1=>if n=i then rwx r D T i n else rwx r D T i n++owl (r n) (D n) T
section
variable {r r':Nat→Sl} {D D':Nat→Array Value} {T:TypeId} {i:Nat}
theorem rwl_congr:∀ {n:Nat},(∀ j,j < n→r j=r' j)→(∀ j,j < n→D j=D' j)→rwl r D T n=rwl r' D' T n
 | 0,_,_=>rfl
 | n+1,h,k=>by rw [rwl,rwl,rwl_congr (fun j hj=>h j (by omega)) (fun j hj=>k j (by omega)),h n (by omega),k n (by omega)]
theorem rwx_congr:∀ {n:Nat},(∀ j,j < n→j ≠ i→r j=r' j)→(∀ j,j < n→j ≠ i→D j=D' j)→rwx r D T i n=rwx r' D' T i n
 | 0,_,_=>rfl
 | n+1,h,k=>by
  rw [rwx,rwx,rwx_congr (fun j hj=>h j (by omega)) (fun j hj=>k j (by omega))]
  by_cases e:n=i
  ·
   rw [if_pos e,if_pos e]
  ·
   rw [if_neg e,if_neg e,h n (by omega) e,k n (by omega) e]
theorem rwx_none:∀ {n:Nat},n≤i→rwx r D T i n=rwl r D T n
 | 0,_=>rfl
 | n+1,h=>by rw [rwx,rwl,if_neg (by omega),rwx_none (by omega)]
theorem rwl_front:∀ {n:Nat},i < n→(rwl r D T n).Perm (owl (r i) (D i) T++rwx r D T i n)
 | n+1,h=>by
  rw [rwl,rwx]
  by_cases e:n=i
  ·
   subst e
   rw [if_pos rfl,rwx_none (Nat.le_refl _)]
   exact List.perm_append_comm
  ·
   rw [if_neg e,← List.append_assoc]
   exact (rwl_front (show i < n by omega)).append_right _
theorem rwl_back {n:Nat} (h:i < n) (C:Array Value):(owl (r i) C T++rwx r D T i n).Perm (rwl r (upf D i C) T n):=by
 have h1:=rwl_front (r:=r) (D:=upf D i C) (T:=T) h
 rw [upf_self,rwx_congr (r':=r) (D':=D) (fun _ _ _=>rfl) (fun j _ hj=>upf_ne D C hj)] at h1
 exact h1.symm
theorem rwl_snoc (n:Nat) (s:Sl) (C:Array Value):rwl (upf r n s) (upf D n C) T (n+1)=rwl r D T n++owl s C T:=by
 rw [rwl,upf_self,upf_self,rwl_congr (r':=r) (D':=D) (fun j hj=>upf_ne r s (by omega)) (fun j hj=>upf_ne D C (by omega))]
theorem rwl_mem {n:Nat} (h:i < n):∀ p,p ∈ owl (r i) (D i) T→p ∈ rwl r D T n:=fun _ hp=>(rwl_front h).mem_iff.2 (List.mem_append_left _ hp)
end
/-- Rows of one's own: their numbers. -/
def Rw (k:Nat) (E:Nat→El) (m:Nat) (c:Nat→Nat) (r:Nat→Sl) (D:Nat→Array Value):Fa:=fun X W=>∀ i,i < m→(r i).n=c i∧Wr k (r i) (D i)∧Fl k (E i) (c i) (D i) X W
theorem Rw.stb {k:Nat} {E:Nat→El} (hE:∀ i,EStb (E i)) (m:Nat) (c:Nat→Nat) (r:Nat→Sl) (D:Nat→Array Value):Stb (Rw k E m c r D):=fun X W X' W' he h i hi=>⟨(h i hi).1,(h i hi).2.1,Fl.stb (hE i) _ _ X W X' W' he (h i hi).2.2⟩
theorem rw_zero (k:Nat) (E:Nat→El) (c:Nat→Nat) (r:Nat→Sl) (D:Nat→Array Value) (X:Nat→Prop) (W:World):Rw k E 0 c r D X W:=fun i hi=>absurd hi (Nat.not_lt_zero i)
theorem Rw.snoc {k:Nat} {E:Nat→El} {m n:Nat} {c:Nat→Nat} {r:Nat→Sl} {D:Nat→Array Value} {X:Nat→Prop} {W:World} (h:Rw k E m c r D X W) {s:Sl} {C:Array Value} (hn:s.n=n) (hc:c m=n) (hw:Wr k s C) (hf:Fl k (E m) n C X W):Rw k E (m+1) c (upf r m s) (upf D m C) X W:=fun i hi=>by
 by_cases e:i=m
 ·
  subst e; rw [upf_self,upf_self,hc]; exact ⟨hn,hw,hf⟩
 ·
  rw [upf_ne _ _ e,upf_ne _ _ e]; exact h i (by omega)
section
variable {w W:World} {X0 X:Nat→Prop} {l:List (Nat × Array Value × TypeId)} {fs:List Fa}
theorem Zs.rows (h:Zs w W X0 X l fs) (hx:NX X0 w) {k:Nat} {E:Nat→El} {m:Nat} {c:Nat→Nat} {r:Nat→Sl} {D:Nat→Array Value} {T:TypeId} (hE:∀ i,EStb (E i)) (hR:Rw k E m c r D X W) (hm:∀ p,p ∈ rwl r D T m→p ∈ l):∀ i,i < m→(r i).n=c i∧Sq k (E i) (r i) X0 W:=fun i hi =>
 ⟨(hR i hi).1,h.sq hx (hE i) (hR i hi).2.1 (T:=T) (fun p hp=>hm p (rwl_mem hi p hp)) ((hR i hi).1 ▸ (hR i hi).2.2)⟩
/-- A matrix of rows of one's own is told: nothing is written any more. -/
theorem Zs.tab (h:Zs w W X0 X l fs) (hx:NX X0 w) {m:Nat} {c:Nat→Nat} {B:Nat→Nat→Int} {s:Sl} {C:Array Value} {r:Nat→Sl} {D:Nat→Array Value} {T1 T:TypeId} (hw:Wr 1 s C) (hn:s.n=m) (hC:∀ i,i < m→C[i]?=some (r i).v) (hR:Rw 2 (fun i=>EN (B i)) m c r D X W) (hm1:∀ p,p ∈ owl s C T1→p ∈ l) (hm:∀ p,p ∈ rwl r D T m→p ∈ l):Mt m c B s X0 W:=by
 have hr:=h.rows hx (fun i=>EN.stb (B i)) hR hm
 refine ⟨hn,h.sq0 hx hw hm1 fun i hi=>⟨[(r i).v],rfl,fun j hj=>?_,r i,⟨(hr i (hn ▸ hi)).1,(hr i (hn ▸ hi)).2⟩,rfl⟩⟩
 obtain rfl:j=0:=by omega
 rw [Nat.mul_one,Nat.add_zero]
 exact hC i (hn ▸ hi)
theorem Zs.tabi (h:Zs w W X0 X l fs) (hx:NX X0 w) {m:Nat} {c:Nat→Nat} {B:Nat→Nat→Int} {s:Sl} {C:Array Value} {r:Nat→Sl} {D:Nat→Array Value} {T1 T:TypeId} (hw:Wr 1 s C) (hn:s.n=m) (hC:∀ i,i < m→C[i]?=some (r i).v) (hR:Rw 1 (fun i=>EI (B i)) m c r D X W) (hm1:∀ p,p ∈ owl s C T1→p ∈ l) (hm:∀ p,p ∈ rwl r D T m→p ∈ l):Mi m c B s X0 W:=by
 have hr:=h.rows hx (fun i=>EI.stb (B i)) hR hm
 refine ⟨hn,h.sq0 hx hw hm1 fun i hi=>⟨[(r i).v],rfl,fun j hj=>?_,r i,⟨(hr i (hn ▸ hi)).1,(hr i (hn ▸ hi)).2⟩,rfl⟩⟩
 obtain rfl:j=0:=by omega
 rw [Nat.mul_one,Nat.add_zero]
 exact hC i (hn ▸ hi)
end
/-- An own slice is handed back. -/
def POwn (X:Nat→Prop) (k:Nat) (E:El) (n:Nat) (T:TypeId) (w:World) (e:Ending) (w':World):Prop:=∃ (s:Sl) (C:Array Value) (X':Nat→Prop),e=.returned s.v∧s.n=n∧Wr k s C∧Zs w w' X X' (owl s C T) [Fl k E n C]
/-- A matrix of rows of one's own is handed back. -/
def PTab (X:Nat→Prop) (k:Nat) (E:Nat→El) (m:Nat) (c:Nat→Nat) (T1 T:TypeId) (w:World) (e:Ending) (w':World):Prop:=∃ (s:Sl) (C:Array Value) (r:Nat→Sl) (D:Nat→Array Value) (X':Nat→Prop),e=.returned s.v∧s.n=m∧Wr 1 s C∧(∀ i,i < m→C[i]?=some (r i).v)∧Zs w w' X X' (owl s C T1++rwl r D T m) [Rw k E m c r D]
theorem pown_ls {X:Nat→Prop} {n:Nat} {f:Nat→Int} {T:TypeId} {w:World} (hx:NX X w) (e:Ending) (w':World) (h:POwn X 2 (EN f) n T w e w'):PLX X n f w e w':=by
 obtain ⟨s,C,X',rfl,hn,hw,hz⟩:=h
 exact ⟨s,rfl,⟨hn,hz.sq hx (EN.stb f) hw (T:=T) (fun p hp=>hp) (hn ▸ hz.get 0 (f:=Fl 2 (EN f) n C) rfl)⟩,hz.below⟩
theorem ptab_mt {X:Nat→Prop} {m:Nat} {c:Nat→Nat} {B:Nat→Nat→Int} {T1 T:TypeId} {w:World} (hx:NX X w) (e:Ending) (w':World) (h:PTab X 2 (fun i=>EN (B i)) m c T1 T w e w'):PMX X m c B w e w':=by
 obtain ⟨s,C,r,D,X',rfl,hn,hw,hC,hz⟩:=h
 exact ⟨s,rfl,hz.tab hx hw hn hC (hz.get 0 (f:=Rw 2 (fun i=>EN (B i)) m c r D) rfl) (T1:=T1) (T:=T) (fun p hp=>List.mem_append_left _ hp) (fun p hp=>List.mem_append_right _ hp),hz.below⟩
/-- A slice of rows is held, and not written: its cells. -/
def Os (s:Sl) (C:Array Value) (T:TypeId):Fa:=fun X W=>∀ p,p ∈ owl s C T→Cl W p∧¬ X p.1
theorem Os.stb (s:Sl) (C:Array Value) (T:TypeId):Stb (Os s C T):=fun X W X' W' he h p hp=>by
 have hl:p.1 < W.heap.size:=(Array.getElem?_eq_some_iff.1 (h p hp).1).1
 exact ⟨(he.keep p.1 hl (h p hp).2).trans (h p hp).1,fun hx=>(h p hp).2 (he.grow p.1 hx hl)⟩
theorem Zs.releaseO {w W:World} {X0 X:Nat→Prop} {l:List (Nat × Array Value × TypeId)} {fs:List Fa} {s:Sl} {C:Array Value} {T:TypeId} (h:Zs w W X0 X (owl s C T++l) fs) (hx:NX X0 w):∃ X',Zs w W X0 X' l (Os s C T :: fs):=by
 obtain ⟨sa,sn,sc⟩:=s
 cases sa with
 | none=>exact ⟨X,Zs.more (l:=l) h (Os.stb _ _ _) nofun⟩
 | some q =>
  have hr:=Zs.release (b:=q.block) (C:=C) (T:=T) h hx
  refine ⟨_,(hr.more (Os.stb ⟨some q,sn,sc⟩ C T) fun p hp=>?_).only _ (by
   intro g hg
   rcases List.mem_cons.1 hg with rfl | hg
   ·
    exact List.mem_cons_self ..
   ·
    exact List.mem_cons_of_mem _ (List.mem_cons_of_mem _ hg))⟩
  obtain rfl:=List.mem_singleton.1 hp
  exact hr.get 0 (f:=Cf q.block C T) rfl
/-- n places of the one, then the other's. -/
def E2 (n:Nat) (E E':El):El:=fun X W i cs=>if i < n then E X W i cs else E' X W (i - n) cs
theorem E2.stb {n:Nat} {E E':El} (h:EStb E) (h':EStb E'):EStb (E2 n E E'):=fun i cs X W X' W' he hk=>by
 by_cases e:i < n
 ·
  have hk':E X W i cs:=by simpa only [E2,if_pos e] using hk
  have:=h i cs X W X' W' he hk'
  simpa only [E2,if_pos e] using this
 ·
  have hk':E' X W (i - n) cs:=by simpa only [E2,if_neg e] using hk
  have:=h' (i - n) cs X W X' W' he hk'
  simpa only [E2,if_neg e] using this
/-- A slice's cells, one behind another. -/
theorem Sq.cells {k:Nat} {E:El} {s:Sl} {X:Nat→Prop} {W:World} (h:Sq k E s X W) (hk:0 < k) (h0:0 < s.n):∃ (q o:Nat) (g:Nat→Value),s.a=some ⟨q,o,none⟩∧q < W.heap.size∧(∀ j,j < s.n*k→W.cell? ⟨q,o+j,none⟩=some (g j)):=by
 obtain ⟨p,hp⟩:∃ p,s.a=some p:=by
  cases hc:s.a with
  | none=>have:=(h.nil hc).1; omega
  | some p=>exact ⟨p,rfl⟩
 obtain ⟨hs,hb,_⟩:=h.spot p hp h0
 obtain ⟨pb,po,ps⟩:=p
 simp only at hs hb
 subst hs
 refine ⟨pb,po,fun j=>(W.cell? ⟨pb,po+j,none⟩).getD undef,hp,hb,fun j hj=>?_⟩
 have hjk:j / k < s.n:=by rw [Nat.div_lt_iff_lt_mul hk]; exact hj
 obtain ⟨cs,h1,h2,_⟩:=h.el _ hp (j / k) hjk
 have hm:j % k < k:=Nat.mod_lt _ hk
 have h3:=h2 (j % k) hm
 simp only at h3
 have e:po+j / k*k+j % k=po+j:=by rw [Nat.add_assoc,Nat.mul_comm,Nat.div_add_mod]
 rw [e,List.getElem?_eq_getElem (show j % k < cs.length by omega)] at h3
 rw [h3]
 show some _=some ((W.cell? ⟨pb,po+j,none⟩).getD undef)
 rw [h3]
 rfl
section
variable {P:Program} {ops:Array Oper} {Q:Exit→Act→World→Prop} {a:Act} {w W:World} {rest:List Oper} {o:Oper} {l:List (Nat × Array Value × TypeId)} {X0 X:Nat→Prop} {fs:List Fa} {next:Act→World→Prop}
theorem mul_place {n k i j:Nat} (hi:i < n) (hj:j < k):i*k+j < n*k:=by
 have:(i+1)*k≤n*k:=Nat.mul_le_mul_right k (by omega)
 rw [Nat.add_mul] at this
 omega
/-- A list, cut at its end, is made longer: in new memory. -/
theorem wp_longer {t e:TypeId} {k by_:Nat} {z:Value} (hI:EInf P t e k z by_) (x y:Operand) (ho:o.op=.call { callee:=.builtin .append,args:=#[x,y],argTypes:=#[t,t] }) {s1 s2:Sl} {n m:Nat} {E E':El} (hE:EStb E) (hE':EStb E') (hx:a.eval x=.slice s1.a s1.n s1.n) (hy:a.eval y=s2.v) (h1:Sq k E s1 X W) (n1:s1.n=n) (h2:Sq k E' s2 X W) (n2:s2.n=m) (h0:0 < m) (hn:n+m≤1000) (h:Zs w W X0 X l fs)
  (K:∀ (s':Sl) (C':Array Value) (X':Nat→Prop) (W':World),s'.n=n+m→Wr k s' C'→Zs w W' X0 X' (owl s' C' e++l) (Fl k (E2 n E E') (n+m) C' :: fs)→next (a.put o.dst s'.v) W'):o.wp P a W next Q:=by
 obtain ⟨i,hi,hz,hsz,hb⟩:=info_parts hI.hi
 have hfew:=hI.few
 have hpos:=hI.pos
 obtain ⟨q2,o2,g2,ha2,hq2,hg2⟩:=h2.cells hpos (by omega)
 have hadd:∀ (q o j:Nat),(⟨q,o,none⟩:Addr).add j=⟨q,o+j,none⟩:=fun q o j=>by unfold Addr.add; split <;> simp_all
 have hv2:s2.v=.slice (some ⟨q2,o2,none⟩) m s2.c:=by unfold Sl.v; rw [ha2,n2]
 have hby:(n+m)*i.bytes≤1000*64:=by rw [hb]; exact Nat.mul_le_mul hn hfew
 have lst:∀ (q o c:Nat) (g:Nat→Value),(∀ j,j < c→W.cell? ⟨q,o+j,none⟩=some (g j))→∀ j v,((List.range c).map g)[j]?=some v→W.cell? ((⟨q,o,none⟩:Addr).add j)=some v:=fun q o c g hg j v hj=>by
  rw [List.getElem?_map] at hj
  by_cases hjn:j < c
  ·
   rw [List.getElem?_range hjn] at hj
   rw [hadd,hg j hjn]
   exact hj
  ·
   rw [List.getElem?_eq_none (by simpa using hjn)] at hj
   cases hj
 -- the new cells, however the old ones lie
 have key:∀ (D:Array Value) (cp:Nat),n+m≤cp→cp≤maxLen→D.size=cp*k→(∀ i j,i < n→j < k→∀ q,s1.a=some q→D[i*k+j]?=W.cell? ⟨q.block,q.off+i*k+j,none⟩)→(∀ j,j < m*k→D[n*k+j]?=some (g2 j))→next (a.put o.dst (.slice (some ⟨W.heap.size,0,none⟩) (n+m) cp)) (W.drew.alloc (.cells D e)):=by
  intro D cp hcp hcm hD ho1 ho2
  have hz':Zs w (W.drew.alloc (.cells D e)) X0 (fun q=>X q∨q=W.drew.heap.size) (owl ⟨some ⟨W.heap.size,0,none⟩,n+m,cp⟩ D e++l) (Sq k E s1 :: Sq k E' s2 :: fs):=(((h.more (Sq.stb hE' s2) h2).more (Sq.stb hE s1) h1).later (Below.refl _ _).drew).new D e
  have k1:=hz'.get 0 (f:=Sq k E s1) rfl
  have k2:=hz'.get 1 (f:=Sq k E' s2) rfl
  have hB:Below W.heap.size W (W.drew.alloc (.cells D e)):=((Below.refl _ _).drew).alloc (Nat.le_refl _) _
  have hfl:Fl k (E2 n E E') (n+m) D (fun q=>X q∨q=W.drew.heap.size) (W.drew.alloc (.cells D e)):=by
   intro u hu
   by_cases e1:u < n
   ·
    obtain ⟨p,hp⟩:∃ p,s1.a=some p:=by
     cases hc:s1.a with
     | none=>have:=(h1.nil hc).1; omega
     | some p=>exact ⟨p,rfl⟩
    have hlt:=(h1.spot p hp (by omega)).2.1
    obtain ⟨cs,c1,c2,c3⟩:=k1.el p hp u (by omega)
    refine ⟨cs,c1,fun j hj=>?_,by unfold E2; rw [if_pos e1]; exact c3⟩
    rw [ho1 u j e1 hj p hp,← c2 j hj,hB.cell (p:=⟨p.block,p.off+u*k+j,none⟩) hlt]
   ·
    obtain ⟨cs,c1,c2,c3⟩:=k2.el _ ha2 (u - n) (by omega)
    refine ⟨cs,c1,fun j hj=>?_,by unfold E2; rw [if_neg e1]; exact c3⟩
    have e2:u*k+j=n*k+((u - n)*k+j):=by
     rw [← Nat.add_assoc,← Nat.add_mul]; congr 2; omega
    rw [e2,ho2 _ (mul_place (show u - n < m by omega) hj),← c2 j hj,hB.cell (p:=⟨q2,o2+(u - n)*k+j,none⟩) hq2]
    have:=hg2 ((u - n)*k+j) (by rw [n2]; exact mul_place (show u - n < m by omega) hj)
    rw [← Nat.add_assoc] at this
    exact this.symm
  have hz2:Zs w (W.drew.alloc (.cells D e)) X0 (fun q=>X q∨q=W.drew.heap.size) (owl ⟨some ⟨W.heap.size,0,none⟩,n+m,cp⟩ D e++l) (Fl k (E2 n E E') (n+m) D :: fs):=(hz'.more (Fl.stb (E2.stb hE hE') (n+m) D) hfl).only _ (by
   intro g hg
   rcases List.mem_cons.1 hg with rfl | hg
   ·
    exact List.mem_cons_self ..
   ·
    exact List.mem_cons_of_mem _ (List.mem_cons_of_mem _ (List.mem_cons_of_mem _ hg)))
  exact K ⟨some ⟨W.heap.size,0,none⟩,n+m,cp⟩ D _ _ rfl ⟨hcp,hcm,hD,.inr ⟨_,rfl⟩⟩ hz2
 cases hs1:s1.a with
 | none =>
  have hn0:n=0:=by have:=(h1.nil hs1).1; omega
  subst hn0
  have hr:=run_append_nil (P:=P) W t o.type e i z hI.ht hi hz ⟨q2,o2,none⟩ m s2.c ((List.range (m*k)).map g2) (by simp [hsz]) (lst q2 o2 (m*k) g2 (fun j hj=>hg2 j (by rw [n2]; exact hj))) h0 (by omega) (by rw [Nat.zero_add] at hby; omega)
  have hge:=grownCap_ge W m 0 e
  have hle:=grownCap_le_maxLen W m 0 e (by unfold maxLen; omega)
  unfold Oper.wp execOp
  simp only [ho,resolve,invoke,builtin,Sem.run_bind,Sem.run_pure,Result.andThen_ok,List.map_toArray,List.map_cons,List.map_nil,hx,hy,hv2,hs1,n1,hr]
  have:=key (((List.range (m*k)).map g2).toArray++Builtin.zeroCells z.cells (grownCap W m 0 e - m)) (grownCap W m 0 e) (by omega) hle (by
   simp only [Array.size_append,List.size_toArray,List.length_map,List.length_range,size_zeroCells,hI.zs]
   rw [← Nat.add_mul]; congr 1; omega) (fun i j hi _=>absurd hi (Nat.not_lt_zero i)) (fun j hj=>by
   rw [Nat.zero_mul,Nat.zero_add,Array.getElem?_append_left (by simpa using hj)]
   simp [hj])
  rw [Nat.zero_add] at this
  exact this
 | some p =>
  obtain ⟨b1,o1,hp,holds⟩:∃ (b1:Addr) (gl:List Value),p=b1∧(gl.length=n*k∧(∀ j v,gl[j]?=some v→W.cell? (b1.add j)=some v)∧∀ i j,i < n→j < k→gl[i*k+j]?=W.cell? ⟨p.block,p.off+i*k+j,none⟩):=by
   by_cases e0:n=0
   ·
    subst e0
    exact ⟨p,[],rfl,by simp,fun j v hj=>by simp at hj,fun i j hi _=>absurd hi (Nat.not_lt_zero i)⟩
   ·
    obtain ⟨q1,o1,g1,ha1,hq1,hg1⟩:=h1.cells hpos (by omega)
    rw [hs1] at ha1
    cases ha1
    refine ⟨_,(List.range (n*k)).map g1,rfl,by simp,lst q1 o1 (n*k) g1 (fun j hj=>hg1 j (by rw [n1]; exact hj)),fun i j hi hj=>?_⟩
    have hlt:=mul_place hi hj
    have:=hg1 (i*k+j) (by rw [n1]; exact hlt)
    rw [← Nat.add_assoc] at this
    simp only
    rw [this]
    simp [hlt]
  subst hp
  have hr:=run_append_grow (P:=P) W t o.type e i z hI.ht hi hz p n n o1 (by rw [hsz]; exact holds.1) holds.2.1 ⟨q2,o2,none⟩ m s2.c ((List.range (m*k)).map g2) (by simp [hsz]) (lst q2 o2 (m*k) g2 (fun j hj=>hg2 j (by rw [n2]; exact hj))) (by omega) (by omega) (growslice_fits (by omega) (by omega))
  have hge:=grownCap_ge W (n+m) n e
  have hle:=grownCap_le_maxLen W (n+m) n e (by unfold maxLen; omega)
  unfold Oper.wp execOp
  simp only [ho,resolve,invoke,builtin,Sem.run_bind,Sem.run_pure,Result.andThen_ok,List.map_toArray,List.map_cons,List.map_nil,hx,hy,hv2,hs1,n1,hr]
  have hol:=holds.1
  refine key _ _ hge hle (by
   simp only [Array.size_append,List.size_toArray,List.length_map,List.length_range,size_zeroCells,hI.zs,hol]
   rw [← Nat.add_mul,← Nat.add_mul]; congr 1; omega) (fun i j hi hj q hq=>?_) (fun j hj=>?_)
  ·
   rw [hs1] at hq
   cases hq
   have hlt:=mul_place hi hj
   rw [Array.append_assoc,Array.getElem?_append_left (by simp only [List.size_toArray,hol]; exact hlt),List.getElem?_toArray]
   exact holds.2.2 i j hi hj
  ·
   rw [Array.append_assoc,Array.getElem?_append_right (by simp only [List.size_toArray,hol]; omega)]
   simp only [List.size_toArray,hol]
   rw [show n*k+j - n*k=j by omega,Array.getElem?_append_left (by simpa using hj)]
   simp [hj]
/-- Nothing is appended. -/
theorem run_append_none {t e:TypeId} {k by_:Nat} {z:Value} (hI:EInf P t e k z by_) (ty:TypeId) (s1 s2:Sl) (h2:s2.n=0) (W:World):(Builtin.append_ #[t,t] ty #[.slice s1.a s1.n s1.n,s2.v]).run P W=.ok (.slice s1.a s1.n s1.n) W:=by
 obtain ⟨i,hi,hz,hs,hb⟩:=info_parts hI.hi
 obtain ⟨a2,n2,c2⟩:=s2
 simp only at h2
 subst h2
 have hl:∀ (x:Addr),(loadCells x 0).run P W=.ok #[] W:=fun x=>by simpa using run_loadCells_list (P:=P) W x [] (by simp)
 cases h1:s1.a <;> cases a2 <;> simp [Builtin.append_,run_underlying hI.ht,Builtin.lenOf,Builtin.firstCells,sizeOf,typeInfo,hi,Sl.v,storeCells,hl]
theorem wp_longer0 {t e:TypeId} {k by_:Nat} {z:Value} (hI:EInf P t e k z by_) (x y:Operand) (ho:o.op=.call { callee:=.builtin .append,args:=#[x,y],argTypes:=#[t,t] }) {s1 s2:Sl} (hx:a.eval x=.slice s1.a s1.n s1.n) (hy:a.eval y=s2.v) (n2:s2.n=0) (K:next (a.put o.dst (.slice s1.a s1.n s1.n)) W):o.wp P a W next Q:=by
 unfold Oper.wp execOp
 simp only [ho,resolve,invoke,builtin,Sem.run_bind,Sem.run_pure,Result.andThen_ok,List.map_toArray,List.map_cons,List.map_nil,hx,hy,run_append_none hI o.type s1 s2 n2 W]
 exact K
end
/-- A part of a slice, cut by three indices. -/
def Sl.cut3 (s:Sl) (k l h m:Nat):Sl:=⟨if m=l then s.a else s.a.map (·.add (l*k)),h - l,m - l⟩
theorem Sq.cut3 {k:Nat} {E:El} {s:Sl} {X:Nat→Prop} {W:World} (h:Sq k E s X W) {l u m:Nat} (hl:l≤u) (hu:u≤s.n) (hm:u≤m) (hc:m≤s.c):Sq k (fun X W i cs=>E X W (l+i) cs) (s.cut3 k l u m) X W:=by
 refine ⟨?_,?_,?_,?_,?_⟩
 ·
  show u - l≤m - l; omega
 ·
  have:=h.capm; show m - l≤maxLen; omega
 ·
  intro e
  have e':s.a=none∨m=l:=by
   unfold Sl.cut3 at e
   simp only at e
   split at e
   ·
    next h=>exact .inr h
   ·
    cases hs:s.a with
    | none=>exact .inl rfl
    | some q=>rw [hs] at e; cases e
  rcases e' with e' | e'
  ·
   have:=h.nil e'
   exact ⟨by show u - l=0; omega,by show m - l=0; omega⟩
  ·
   exact ⟨by show u - l=0; omega,by show m - l=0; omega⟩
 ·
  intro q hq h0
  change 0 < u - l at h0
  unfold Sl.cut3 at hq
  simp only at hq
  split at hq
  ·
   omega
  ·
   cases hs:s.a with
   | none=>rw [hs] at hq; cases hq
   | some p =>
    rw [hs] at hq
    simp only [Option.map_some,Option.some.injEq] at hq
    subst hq
    obtain ⟨h1,h2,h3⟩:=h.spot p hs (by omega)
    obtain ⟨pb,po,ps⟩:=p
    simp only at h1
    subst h1
    have hadd:(⟨pb,po,none⟩:Addr).add (l*k)=⟨pb,po+l*k,none⟩:=by unfold Addr.add; split <;> simp_all
    rw [hadd]
    exact ⟨rfl,h2,h3⟩
 ·
  intro q hq i hi
  change i < u - l at hi
  unfold Sl.cut3 at hq
  simp only at hq
  split at hq
  ·
   omega
  ·
   cases hs:s.a with
   | none=>rw [hs] at hq; cases hq
   | some p =>
    rw [hs] at hq
    simp only [Option.map_some,Option.some.injEq] at hq
    subst hq
    obtain ⟨h1,h2,h3⟩:=h.spot p hs (by omega)
    obtain ⟨pb,po,ps⟩:=p
    simp only at h1
    subst h1
    have hadd:(⟨pb,po,none⟩:Addr).add (l*k)=⟨pb,po+l*k,none⟩:=by unfold Addr.add; split <;> simp_all
    obtain ⟨cs,k1,k2,k3⟩:=h.el _ hs (l+i) (by omega)
    refine ⟨cs,k1,fun j hj=>?_,k3⟩
    rw [hadd]
    have:=k2 j hj
    simp only at this ⊢
    rw [show po+l*k+i*k+j=po+(l+i)*k+j by rw [Nat.add_mul]; omega]
    exact this
section
variable {P:Program} {Q:Exit→Act→World→Prop} {a:Act} {W:World} {X:Nat→Prop} {o:Oper} {next:Act→World→Prop}
theorem run_cut3 {t e:TypeId} {k:Nat} (ht:P.underlying t=some (.slice e)) (hk:∀ W,(sizeOf e).run P W=.ok k W) (s:Sl) (u m:Nat) (hu:u≤m) (hm:m≤s.c):(Instr.sliceAt t s.v none (some (.int .i64 (u:Int))) (some (.int .i64 (m:Int)))).run P W=.ok (s.cut3 k 0 u m).v W:=by
 have h1:(0:Int)≤(u:Int)∧(u:Int)≤(m:Int):=⟨by omega,by omega⟩
 have h2:(0:Int)≤(m:Int)∧(m:Int)≤(s.c:Int):=⟨by omega,by omega⟩
 simp [Instr.sliceAt,Instr.slice,Instr.sliceBounds,Instr.sliceBound,Sl.v,asIntOf,run_underlying ht,hk,Sem.run_bind,Result.andThen,Sl.cut3,hu,hm]
/-- The first u of a slice, cut by three indices. -/
theorem wp_sl3 (t e:TypeId) (k:Nat) (x y z:Operand) (s:Sl) (u m:Nat) (ho:o.op=.slice t x none (some y) (some z)) (hx:a.eval x=s.v) (hy:a.eval y=.int .i64 (u:Int)) (hz:a.eval z=.int .i64 (m:Int)) (ht:P.underlying t=some (.slice e)) (hk:∀ W,(sizeOf e).run P W=.ok k W) (hu:u≤m) (hm:m≤s.c) (K:next (a.put o.dst (s.cut3 k 0 u m).v) W):o.wp P a W next Q:=by
 refine wp_run ?_ K
 unfold execOp
 rw [ho]
 simp only [hx,hy,hz,Option.map_some,Option.map_none,Sem.run_bind,run_cut3 ht hk s u m hu hm,Result.andThen]
 rfl
theorem wp_sl3n (t e:TypeId) (x y z:Operand) (s:Sl) (u:Nat) {n:Nat} {f:Nat→Int} (ho:o.op=.slice t x none (some y) (some z)) (hx:a.eval x=s.v) (hy:a.eval y=.int .i64 (u:Int)) (hz:a.eval z=.int .i64 (u:Int)) (ht:P.underlying t=some (.slice e)) (hk:∀ W,(sizeOf e).run P W=.ok 2 W) (h:Ls n f s X W) (hu:u≤n) (K:∀ s':Sl,s'.c=u→Ls u f s' X W→next (a.put o.dst s'.v) W):o.wp P a W next Q :=
 wp_sl3 t e 2 x y z s u u ho hx hy hz ht hk (Nat.le_refl _) (by have:=h.sq.cap; have:=h.n; omega) (K _ rfl ⟨rfl,((h.sq.cut3 (Nat.zero_le u) (by rw [h.n]; exact hu) (Nat.le_refl _) (by have:=h.sq.cap; have:=h.n; omega)).congr fun i cs _ hE=>by rw [Nat.zero_add] at hE; exact hE)⟩)
/-- The rows from l on. -/
theorem wp_slm (t e:TypeId) (x y:Operand) (s:Sl) (l:Nat) {n:Nat} {c:Nat→Nat} {B:Nat→Nat→Int} (ho:o.op=.slice t x (some y) none none) (hx:a.eval x=s.v) (hy:a.eval y=.int .i64 (l:Int)) (ht:P.underlying t=some (.slice e)) (hk:∀ W,(sizeOf e).run P W=.ok 1 W) (h:Mt n c B s X W) (hl:l≤n) (K:∀ s':Sl,Mt (n - l) (fun i=>c (l+i)) (fun i=>B (l+i)) s' X W→next (a.put o.dst s'.v) W):o.wp P a W next Q:=by
 have hn:=h.n
 have hc:=h.sq.cap
 refine wp_slcn t e 1 x y s l ho hx hy ht hk (by omega) ?_
 exact K (s.cut3 1 l s.n s.c) ⟨by show s.n - l=n - l; omega,h.sq.cut3 (by omega) (Nat.le_refl _) hc (Nat.le_refl _)⟩
/-- A number of an own list. -/
theorem wp_ldno {w:World} {X0:Nat→Prop} {l:List (Nat × Array Value × TypeId)} {fs:List Fa} (T e:TypeId) (p:Operand) (s:Sl) (i n:Nat) (x:Nat→Int) (C:Array Value) (ho:o.op=.load T p) (hp:a.eval p=s.at 2 i) (hw:Wr 2 s C) (h:Zs w W X0 X (owl s C e++l) fs) (hf:Fl 2 (EN x) n C X W) (hi:i < n) (hn':i < s.n) (hagg:∀ W,(isAgg T).run P W=.ok true W) (hn:∀ W,(sizeOf T).run P W=.ok 2 W) (k:∀ q:NL,q.z=x i→q.is X W→next (a.put o.dst q.v) W):o.wp P a W next Q:=by
 obtain ⟨sa,sn,sc⟩:=s
 rcases hw.at_ with ⟨h1,h2⟩ | ⟨b,h1⟩
 ·
  have:=hw.cap
  simp only at h2 this hn'
  omega
 ·
  simp only at h1
  subst h1
  obtain ⟨cs,c1,c2,q,c3,c4,rfl⟩:=hf i hi
  refine wp_ldr (v:=q.v) T p ho hp ?_ (k q c3 c4)
  have hg:W.heap[b]?=some (.cells C e (0,0)):=h.es.at' (b,C,e) (List.mem_append_left _ (List.mem_singleton.2 rfl))
  have hadd:(⟨b,0,none⟩:Addr).add (i*2)=⟨b,i*2,none⟩:=by unfold Addr.add; split <;> simp_all
  have hl:(loadCells ⟨b,i*2,none⟩ 2).run P W=.ok #[.bool q.b,.slice q.a q.n q.c] W:=run_loadCells_list (P:=P) W ⟨b,i*2,none⟩ [.bool q.b,.slice q.a q.n q.c] (fun j v hj=>by
   have hadd2:(⟨b,i*2,none⟩:Addr).add j=⟨b,i*2+j,none⟩:=by unfold Addr.add; split <;> simp_all
   have hj2:j < 2:=(List.getElem?_eq_some_iff.1 hj).1
   rw [hadd2]
   simp only [World.cell?,hg]
   have:=(c2 j hj2).trans hj
   simpa using this)
  have hsa:(Instr.sureAddr (.pointer (some ⟨b,i*2,none⟩))).run P W=.ok ⟨b,i*2,none⟩ W:=rfl
  show (Instr.loadAt T (.pointer (some ((⟨b,0,none⟩:Addr).add (i*2))))).run P W=_
  rw [hadd]
  unfold Instr.loadAt loadVar
  simp only [Sem.run_bind,hsa,Result.andThen,hagg,hn,if_true,hl]
  rfl
end
/-- A function that tells a number of each two places below n. -/
def At2 (X:Nat→Prop) (w:World) (k:FuncId) (cs:Array Value) (n:Nat) (g:Nat→Nat→Int):Prop:=(∀ (args:Array Value) (W:World),(callFunc k args).run Tryz.prog W=.ok (.enter k args) W)∧∀ i j,i < n→j < n→∀ (X':Nat→Prop) (W:World),NX X' W→Ext X w X' W→Below w.heap.size w W→Calls Tryz.prog k (#[.int .i64 ((i:Nat):Int),.int .i64 ((j:Nat):Int)]++cs) W (PNX X' (g i j) W)
theorem At2.ext {X X1:Nat→Prop} {w W:World} {k:FuncId} {cs:Array Value} {n:Nat} {g:Nat→Nat→Int} (h:At2 X w k cs n g) (he:Ext X w X1 W) (hb:Below w.heap.size w W):At2 X1 W k cs n g :=
 ⟨h.1,fun i j hi hj X' W' hx he' hb'=>h.2 i j hi hj X' W' hx (he.trans he') (hb.trans (hb'.mono hb.size))⟩
set_option maxRecDepth 100000 in
set_option maxHeartbeats 12800000 in
theorem lSq11 {X0:Nat→Prop} {w:World} (hX:NX X0 w) {n:Nat} {k:FuncId} {cs:Array Value} {g:Nat→Nat→Int} (bA bI i j:Nat) (hi:i < n) (hj:j < n) (cA:Cf bA #[.func (.func k) #[] cs] 102 X0 w) (cI:Cf bI #[.int .i64 ((i:Nat):Int)] 3 X0 w) (hf0:At2 X0 w k cs n g):Calls Tryz.prog 87 #[.int .i64 ((j:Nat):Int),.pointer (some ⟨bA,0,none⟩),.pointer (some ⟨bI,0,none⟩)] w (PNX X0 (g i j) w):=by
 have hf:Hid (At2 X0 w k cs n g):=hf0
 clear hf0
 have hZ0:=zs_start hX
 have hZ1:=hZ0.more (f:=Cf bA #[.func (.func k) #[] cs] 102) (Cf.stb _ _ _) cA
 clear hZ0
 have hZ2:=hZ1.more (f:=Cf bI #[.int .i64 (((i:Nat):Int))] 3) (Cf.stb _ _ _) cI
 clear hZ1
 go_enter Tryz.func87,Tryz.ntmps87
 go_wp2_with (refine zsa 30 #[.bool false,.slice none 0 0] (.agg #[.bool false,.slice none 0 0]) rfl rfl zv30 rfl hZ2 (fun bk1 X3 W1 hZ3=>?_))
 clear hZ2
 simp only [Stop,Act.put,zzC,zzD,zzE]
 go_wp2_with (refine zso rfl (fun K hK=>wp_load1 (v:=.func (.func k) #[] cs) 102 (.tmp 1) rfl bA 0 #[.func (.func k) #[] cs] 102 (hZ3.get 1 (f:=Cf bA #[.func (.func k) #[] cs] 102) rfl).1 rfl ag102 (by kernel_rfl) (hK _ _ ?_)))
 simp only [Stop,Act.put,zzC,zzD,zzE]
 go_wp2_with (refine zso rfl (fun K hK=>wp_load1 (v:=.int .i64 (((i:Nat):Int))) 3 (.tmp 2) rfl bI 0 #[.int .i64 (((i:Nat):Int))] 3 (hZ3.get 0 (f:=Cf bI #[.int .i64 (((i:Nat):Int))] 3) rfl).1 rfl ag3 (by kernel_rfl) (hK _ _ ?_)))
 simp only [Stop,Act.put,zzC,zzD,zzE]
 go_wp2_with (refine zso rfl (fun K hK=>zcz (.tmp 5) #[.tmp 6,.tmp 7] #[3,3] k cs #[.int .i64 (((i:Nat):Int)),.int .i64 (((j:Nat):Int))] _ rfl rfl (map2 rfl rfl) rfl hf.out.1 (hf.out.2 i j (by omega) (by omega) _ _ hZ3.nx hZ3.ext hZ3.below) (fun zz W2=>?_)))
 rintro ⟨q1,rfl,ez_q1,hi_q1,hB⟩
 refine ⟨_,rfl,hK _ _ ?_⟩
 have hZ4:=hZ3.later hB
 clear hB
 simp only [Stop,Act.put,zzC,zzD,zzE]
 clear hZ3
 have hZ5:=hZ4.more (f:=q1.is) q1.stb hi_q1
 clear hZ4 hi_q1
 go_wp2_with (refine zss 30 (.tmp 4) (.tmp 8) 0 bk1 0 #[.bool false,.slice none 0 0] 30 2 [.bool q1.b,.slice q1.a q1.n q1.c] #[.bool q1.b,.slice q1.a q1.n q1.c] [(bk1,#[.bool q1.b,.slice q1.a q1.n q1.c],30)] rfl rfl rfl rfl sz30 hZ5 rfl rfl (zzF (by kernel_rfl)) (by kernel_rfl) (by kernel_rfl) (by kernel_rfl) (fun W3 hZ6=>?_))
 clear hZ5
 simp only [Stop,Act.put,zzC,zzD,zzE]
 go_wp2
 exact bodyPost_ret (v:=q1.v) (results_cell 0 Tryz.results87 hZ6.es rfl ag30 sz30 (zzF (by kernel_rfl)) rfl (by kernel_rfl)) rfl ⟨q1,rfl,ez_q1,hZ6.out 0 (f:=q1.is) rfl,hZ6.below⟩
set_option maxRecDepth 100000 in
set_option maxHeartbeats 12800000 in
theorem lSq1 {X0:Nat→Prop} {w:World} (hX:NX X0 w) {n:Nat} {k:FuncId} {cs:Array Value} {g:Nat→Nat→Int} (bA bN i:Nat) (hn:n≤1000) (hi:i < n) (cA:Cf bA #[.func (.func k) #[] cs] 102 X0 w) (cN:Cf bN #[.int .i64 ((n:Nat):Int)] 3 X0 w) (hf0:At2 X0 w k cs n g):Calls Tryz.prog 86 #[.int .i64 ((i:Nat):Int),.pointer (some ⟨bN,0,none⟩),.pointer (some ⟨bA,0,none⟩)] w (PLX X0 n (g i) w):=by
 have hf:Hid (At2 X0 w k cs n g):=hf0
 clear hf0
 have hZ0:=zs_start hX
 have hZ1:=hZ0.more (f:=Cf bA #[.func (.func k) #[] cs] 102) (Cf.stb _ _ _) cA
 clear hZ0
 have hZ2:=hZ1.more (f:=Cf bN #[.int .i64 (((n:Nat):Int))] 3) (Cf.stb _ _ _) cN
 clear hZ1
 go_enter Tryz.func86,Tryz.ntmps86
 go_wp2_with (refine zsb 3 (.tmp 0) #[.int .i64 (((i:Nat):Int))] rfl rfl rfl hZ2 (fun bk1 X3 W1 hZ3=>?_))
 clear hZ2
 simp only [Stop,Act.put,zzC,zzD,zzE]
 have hZ4:=hZ3.release hX
 clear hZ3
 go_wp2_with (refine zso rfl (fun K hK=>wp_load1 (v:=.int .i64 (((n:Nat):Int))) 3 (.tmp 1) rfl bN 0 #[.int .i64 (((n:Nat):Int))] 3 (hZ4.get 1 (f:=Cf bN #[.int .i64 (((n:Nat):Int))] 3) rfl).1 rfl ag3 (by kernel_rfl) (hK _ _ ?_)))
 simp only [Stop,Act.put,zzC,zzD,zzE]
 go_wp2_with (refine zso rfl (fun K hK=>wp_mkf 87 #[.tmp 2,.tmp 3] #[.pointer (some ⟨bA,0,none⟩),.pointer (some ⟨bk1,0,none⟩)] rfl (map2 rfl rfl) (hK _ _ ?_)))
 simp only [Stop,Act.put,zzC,zzD,zzE]
 go_wp2_with fail
 refine (lMadeN hZ4.nx n 87 #[.pointer (some ⟨bA,0,none⟩),.pointer (some ⟨bk1,0,none⟩)] (g i) (by omega) ⟨fun _ _=>rfl,fun j hj X' W' hx he hb=>(show Calls _ _ #[.int .i64 ((j:Nat):Int),.pointer (some ⟨bA,0,none⟩),.pointer (some ⟨bk1,0,none⟩)] _ _ from lSq11 hx bA bk1 i j hi hj (Cf.stb _ _ _ _ _ _ _ he (hZ4.get 2 (f:=Cf bA #[.func (.func k) #[] cs] 102) rfl)) (Cf.stb _ _ _ _ _ _ _ he (hZ4.get 0 (f:=Cf bk1 #[.int .i64 (((i:Nat):Int))] 3) rfl)) ((hf.out.ext hZ4.ext hZ4.below).ext he hb))⟩).mono ?_
 rintro zz W2 ⟨s1,rfl,hi_s1,hB⟩
 have hZ5:=hZ4.later hB
 clear hB hZ4
 have hZ6:=hZ5.more (f:=Ls n (g i) s1) (Ls.stb _ _ _) hi_s1
 clear hZ5 hi_s1
 go_wp2
 go_ret
 exact ⟨s1,rfl,hZ6.out 0 (f:=Ls n (g i) s1) rfl,hZ6.below⟩
set_option maxRecDepth 100000 in
set_option maxHeartbeats 12800000 in
theorem lSquare {X0:Nat→Prop} {w:World} (hX:NX X0 w) (n:Nat) (k:FuncId) (cs:Array Value) (g:Nat→Nat→Int) (hn:n≤1000) (hf0:At2 X0 w k cs n g):Calls Tryz.prog 71 #[.int .i64 ((n:Nat):Int),.func (.func k) #[] cs] w (PMX X0 n (fun _=>n) g w):=by
 have hf:Hid (At2 X0 w k cs n g):=hf0
 clear hf0
 have hZ0:=zs_start hX
 go_enter Tryz.func71,Tryz.ntmps71
 go_wp2_with (refine zsb 3 (.tmp 0) #[.int .i64 (((n:Nat):Int))] rfl rfl rfl hZ0 (fun bk1 X1 W1 hZ1=>?_))
 clear hZ0
 simp only [Stop,Act.put,zzC,zzD,zzE]
 go_wp2_with (refine zsb 102 (.tmp 1) #[.func (.func k) #[] cs] rfl rfl rfl hZ1 (fun bk2 X2 W2 hZ2=>?_))
 clear hZ1
 simp only [Stop,Act.put,zzC,zzD,zzE]
 have hZ3:=hZ2.release hX
 clear hZ2
 have hZ4:=hZ3.release hX
 clear hZ3
 go_wp2_with (refine zso rfl (fun K hK=>wp_load1 (v:=.int .i64 (((n:Nat):Int))) 3 (.tmp 2) rfl bk1 0 #[.int .i64 (((n:Nat):Int))] 3 (hZ4.get 0 (f:=Cf bk1 #[.int .i64 (((n:Nat):Int))] 3) rfl).1 rfl ag3 (by kernel_rfl) (hK _ _ ?_)))
 simp only [Stop,Act.put,zzC,zzD,zzE]
 go_wp2_with (refine zso rfl (fun K hK=>wp_mkf 86 #[.tmp 2,.tmp 3] #[.pointer (some ⟨bk1,0,none⟩),.pointer (some ⟨bk2,0,none⟩)] rfl (map2 rfl rfl) (hK _ _ ?_)))
 simp only [Stop,Act.put,zzC,zzD,zzE]
 go_wp2_with fail
 refine (lMadeL hZ4.nx n 86 #[.pointer (some ⟨bk1,0,none⟩),.pointer (some ⟨bk2,0,none⟩)] (fun _=>n) g (by omega) ⟨fun _ _=>rfl,fun i hi X' W' hx he hb=>(show Calls _ _ #[.int .i64 ((i:Nat):Int),.pointer (some ⟨bk1,0,none⟩),.pointer (some ⟨bk2,0,none⟩)] _ _ from lSq1 hx bk2 bk1 i (by omega) hi (Cf.stb _ _ _ _ _ _ _ he (hZ4.get 1 (f:=Cf bk2 #[.func (.func k) #[] cs] 102) rfl)) (Cf.stb _ _ _ _ _ _ _ he (hZ4.get 0 (f:=Cf bk1 #[.int .i64 (((n:Nat):Int))] 3) rfl)) ((hf.out.ext hZ4.ext hZ4.below).ext he hb))⟩).mono ?_
 rintro zz W3 ⟨s1,rfl,hi_s1,hB⟩
 have hZ5:=hZ4.later hB
 clear hB hZ4
 have hZ6:=hZ5.more (f:=Mt n (fun _=>n) g s1) (Mt.stb _ _ _ _) hi_s1
 clear hZ5 hi_s1
 go_wp2
 go_ret
 exact ⟨s1,rfl,hZ6.out 0 (f:=Mt n (fun _=>n) g s1) rfl,hZ6.below⟩
end Go.Proofs.YtjclllindbfmhabGreatDoor
