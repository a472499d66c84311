/- Parts of the proof. -/
import Derived.Test.YtjclllindbfmhabGreatDoorHs0
import Derived.Test.YtjclllindbfmhabGreatDoorHs27
set_option linter.unusedSimpArgs false
set_option linter.unusedVariables false
namespace Go.Proofs.YtjclllindbfmhabGreatDoor
/- Quadratic functions: their least values, and what is left of them without their first numbers (no walk). No statement of the seat is proved here. -/
open Go Go.RowKit
theorem crx_congr {m:Nat} {A B:Nat→Nat→Int} {u v:Nat→Int} {j:Nat} (hA:∀ i k,i < m→k < m→A i k=B i k) (h:∀ i,i < m→u i=v i):crx m A u j=crx m B v j:=M.dt_congr fun i k hi hk=>by
 unfold M.cl'
 split
 ·
  exact h i hi
 ·
  exact hA i k hi hk
theorem crx_solves {m i:Nat} (A:Nat→Nat→Int) (b:Nat→Int) (hi:i < m):M.sm m (fun j=>A i j*crx m A b j)=M.dt m A*b i:=M.cramer A b hi
/-- Of a matrix that is its own turned one. -/
theorem crx_sym {m:Nat} {A:Nat→Nat→Int} (hs:Sym m A) (hd:M.dt m A ≠ 0) (a b:Nat→Int):M.sm m (fun i=>a i*crx m A b i)=M.sm m (fun i=>b i*crx m A a i):=by
 refine Int.eq_of_mul_eq_mul_left hd ?_
 rw [← M.sm_mul,← M.sm_mul]
 have e1:M.sm m (fun i=>M.dt m A*(a i*crx m A b i))=M.sm m (fun i=>M.sm m (fun j=>A i j*crx m A a j*crx m A b i)):=M.sm_congr fun i hi=>by
  rw [show M.dt m A*(a i*crx m A b i)=crx m A b i*(M.dt m A*a i) by grind,← crx_solves A a hi,← M.sm_mul]
  exact M.sm_congr fun j _=>by grind
 have e2:M.sm m (fun j=>M.dt m A*(b j*crx m A a j))=M.sm m (fun j=>M.sm m (fun i=>A i j*crx m A a j*crx m A b i)):=M.sm_congr fun j hj=>by
  rw [show M.dt m A*(b j*crx m A a j)=crx m A a j*(M.dt m A*b j) by grind,← crx_solves A b hj,← M.sm_mul]
  exact M.sm_congr fun i hi=>by rw [hs i j hi hj]; grind
 rw [e1,e2,M.sm_swap]
/-- A quadratic function's value. -/
def Vq (n:Nat) (P:Nat→Nat→Int) (q:Nat→Int) (C:Int) (x:Nat→Int):Int:=Qf n P x - 2*M.sm n (fun i=>q i*x i)+C
section
variable {n:Nat} {P:Nat→Nat→Int} {q:Nat→Int} {C:Int}
/-- The least value, times the divisor. -/
def topq (n:Nat) (P:Nat→Nat→Int) (q:Nat→Int) (C:Int):Int:=M.dt n P*C - M.sm n (fun i=>q i*crx n P q i)
end
section
variable {k r:Nat} {P:Nat→Nat→Int} {q:Nat→Int} {C:Int}
/-- The function with its last r numbers told. -/
def wq (k r:Nat) (P:Nat→Nat→Int) (q y:Nat→Int) (i:Nat):Int:=q i - M.sm r (fun j=>P i (k+j)*y j)
def wc (k r:Nat) (P:Nat→Nat→Int) (q:Nat→Int) (C:Int) (y:Nat→Int):Int:=C - 2*M.sm r (fun j=>q (k+j)*y j)+Qf r (fun i j=>P (k+i) (k+j)) y
theorem sm_split (f:Nat→Int):∀ r,M.sm (k+r) f=M.sm k f+M.sm r (fun j=>f (k+j))
 | 0=>by show M.sm k f=M.sm k f+0; omega
 | r+1=>by
  show M.sm (k+r) f+f (k+r)=M.sm k f+(M.sm r (fun j=>f (k+j))+f (k+r))
  rw [sm_split f r]; omega
/-- Its value is that of the whole. -/
theorem with_val (hs:Sym (k+r) P) (x:Nat→Int):Vq (k+r) P q C x=Vq k P (wq k r P q (fun j=>x (k+j))) (wc k r P q C (fun j=>x (k+j))) x:=by
 have e1:Qf (k+r) P x=Qf k P x+2*M.sm k (fun i=>x i*M.sm r (fun j=>P i (k+j)*x (k+j)))+Qf r (fun i j=>P (k+i) (k+j)) (fun j=>x (k+j)):=by
  unfold Qf
  rw [sm_split]
  have a1:M.sm k (fun i=>x i*M.mulv (k+r) P x i)=M.sm k (fun i=>x i*M.mulv k P x i)+M.sm k (fun i=>x i*M.sm r (fun j=>P i (k+j)*x (k+j))):=by
   rw [← M.sm_add]
   exact M.sm_congr fun i _=>by unfold M.mulv; rw [sm_split]; grind
  have a2:M.sm r (fun j=>x (k+j)*M.mulv (k+r) P x (k+j))=M.sm r (fun j=>x (k+j)*M.sm k (fun i=>P (k+j) i*x i))+M.sm r (fun i=>x (k+i)*M.mulv r (fun i j=>P (k+i) (k+j)) (fun j=>x (k+j)) i):=by
   rw [← M.sm_add]
   exact M.sm_congr fun j _=>by unfold M.mulv; rw [sm_split]; grind
  have a3:M.sm r (fun j=>x (k+j)*M.sm k (fun i=>P (k+j) i*x i))=M.sm k (fun i=>x i*M.sm r (fun j=>P i (k+j)*x (k+j))):=by
   have b1:M.sm r (fun j=>x (k+j)*M.sm k (fun i=>P (k+j) i*x i))=M.sm r (fun j=>M.sm k (fun i=>x (k+j)*(P (k+j) i*x i))):=M.sm_congr fun j _=>by rw [M.sm_mul]
   have b2:M.sm k (fun i=>x i*M.sm r (fun j=>P i (k+j)*x (k+j)))=M.sm k (fun i=>M.sm r (fun j=>x i*(P i (k+j)*x (k+j)))):=M.sm_congr fun i _=>by rw [M.sm_mul]
   rw [b1,b2,M.sm_swap]
   exact M.sm_congr fun i hi=>M.sm_congr fun j hj=>by rw [hs i (k+j) (by omega) (by omega)]; grind
  rw [a1,a2,a3]
  grind
 have e2:M.sm (k+r) (fun i=>q i*x i)=M.sm k (fun i=>q i*x i)+M.sm r (fun j=>q (k+j)*x (k+j)):=sm_split _ r
 have e3:M.sm k (fun i=>wq k r P q (fun j=>x (k+j)) i*x i)=M.sm k (fun i=>q i*x i)+(-1)*M.sm k (fun i=>x i*M.sm r (fun j=>P i (k+j)*x (k+j))):=by
  rw [← M.sm_mul,← M.sm_add]
  exact M.sm_congr fun i _=>by unfold wq; grind
 unfold Vq
 rw [e1,e2,e3]
 unfold wc
 grind
/-- The function without its first k numbers. -/
def lp (k:Nat) (P:Nat→Nat→Int) (i j:Nat):Int:=M.dt k P*P (k+i) (k+j) - M.sm k (fun t=>P t (k+i)*crx k P (fun u=>P u (k+j)) t)
def lq (k:Nat) (P:Nat→Nat→Int) (q:Nat→Int) (i:Nat):Int:=M.dt k P*q (k+i) - M.sm k (fun t=>P t (k+i)*crx k P q t)
def lc (k:Nat) (P:Nat→Nat→Int) (q:Nat→Int) (C:Int):Int:=M.dt k P*C - M.sm k (fun t=>q t*crx k P q t)
end
section
variable {n:Nat} {P:Nat→Nat→Int} {q:Nat→Int} {C:Int}
theorem qf_congr2 {A B:Nat→Nat→Int} {x y:Nat→Int} (hA:∀ i j,i < n→j < n→A i j=B i j) (h:∀ i,i < n→x i=y i):Qf n A x=Qf n B y:=by
 unfold Qf M.mulv
 refine M.sm_congr fun i hi=>?_
 rw [h i hi]
 congr 1
 exact M.sm_congr fun j hj=>by rw [hA i j hi hj,h j hj]
theorem vq_congr {A B:Nat→Nat→Int} {u v x y:Nat→Int} {D E:Int} (hA:∀ i j,i < n→j < n→A i j=B i j) (hu:∀ i,i < n→u i=v i) (hD:D=E) (h:∀ i,i < n→x i=y i):Vq n A u D x=Vq n B v E y:=by
 unfold Vq
 rw [qf_congr2 hA h,hD,M.sm_congr fun i hi=>by rw [hu i hi,h i hi]]
end
section
variable {m n:Nat} {P:Nat→Nat→Int} {q:Nat→Int} {C:Int}
/-- Two lists, one behind the other. -/
def jn (m:Nat) (z y:Nat→Int) (i:Nat):Int:=if i < m then z i else y (i - m)
theorem jn_a {z y:Nat→Int} {i:Nat} (h:i < m):jn m z y i=z i:=if_pos h
theorem jn_b (z y:Nat→Int) (j:Nat):jn m z y (m+j)=y j:=by unfold jn; rw [if_neg (by omega)]; congr 1; omega
end
theorem Es.loadBox {P:Program} {w W:World} {l:List (Nat × Array Value × TypeId)} {n b:Nat} {T T':TypeId} {C D:Array Value} (k:Nat) (h:Es w W l) (hj:l[k]?=some (b,C,T')) (hagg:∀ W,(isAgg T).run P W=.ok true W) (hn:∀ W,(sizeOf T).run P W=.ok n W) (hs:n≤C.size) (hD:C.extract 0 (0+n)=D):(loadVar T ⟨b,0,none⟩).run P W=.ok (.agg D) W:=by
 have hl:=run_loadAgg (P:=P) (T:=T) (off:=0) (h.at' _ (List.mem_of_getElem? hj)) hagg hn (by omega)
 rw [hD] at hl
 unfold Instr.loadAt at hl
 have hsa:(Instr.sureAddr (.pointer (some ⟨b,0,none⟩))).run P W=.ok ⟨b,0,none⟩ W:=rfl
 simpa only [Sem.run_bind,hsa,Result.andThen] using hl
section
variable {P:Program} {W:World} {fn:Func} {tmps:Array Value} {t0 t t' t1 b b':Nat} {T T':TypeId} {D D':Array Value} {v u:Value}
theorem tmp_get {t:Nat} {v:Value} (h:tmps.getD t undef=v):tmps[t]?.getD undef=v:=by rw [← Array.getD_eq_getD_getElem?]; exact h
theorem results_ct (hf:fn.results=#[.cell t T,.tmp t1]) (h1:(loadVar T ⟨b,0,none⟩).run P W=.ok (.agg D) W) (hp:tmps.getD t undef=.pointer (some ⟨b,0,none⟩)) (hu:tmps.getD t1 undef=u):(results fn tmps).run P W=.ok (.tuple #[.agg D,u]) W:=by
 unfold results
 rw [hf]
 simp [tmp_get hp,tmp_get hu,asAddr,Sem.run_bind,h1,Result.andThen,Sem.run_pure]
theorem results_cct (hf:fn.results=#[.cell t T,.cell t' T',.tmp t1]) (h1:(loadVar T ⟨b,0,none⟩).run P W=.ok (.agg D) W) (h2:(loadVar T' ⟨b',0,none⟩).run P W=.ok (.agg D') W) (hp:tmps.getD t undef=.pointer (some ⟨b,0,none⟩)) (hp':tmps.getD t' undef=.pointer (some ⟨b',0,none⟩)) (hu:tmps.getD t1 undef=u):(results fn tmps).run P W=.ok (.tuple #[.agg D,.agg D',u]) W:=by
 unfold results
 rw [hf]
 simp [tmp_get hp,tmp_get hp',tmp_get hu,asAddr,Sem.run_bind,h1,h2,Result.andThen,Sem.run_pure]
theorem results_tcct (hf:fn.results=#[.tmp t0,.cell t T,.cell t' T',.tmp t1]) (h1:(loadVar T ⟨b,0,none⟩).run P W=.ok (.agg D) W) (h2:(loadVar T' ⟨b',0,none⟩).run P W=.ok (.agg D') W) (hv:tmps.getD t0 undef=v) (hp:tmps.getD t undef=.pointer (some ⟨b,0,none⟩)) (hp':tmps.getD t' undef=.pointer (some ⟨b',0,none⟩)) (hu:tmps.getD t1 undef=u):(results fn tmps).run P W=.ok (.tuple #[v,.agg D,.agg D',u]) W:=by
 unfold results
 rw [hf]
 simp [tmp_get hv,tmp_get hp,tmp_get hp',tmp_get hu,asAddr,Sem.run_bind,h1,h2,Result.andThen,Sem.run_pure]
end
/-- A list of n values, whatever they are, of one cell each. -/
def EV (g:Nat→Value):El:=fun _ _ i cs=>cs=[g i]
theorem EV.stb (g:Nat→Value):EStb (EV g):=fun _ _ _ _ _ _ _ h=>h
structure Vs (n:Nat) (g:Nat→Value) (s:Sl) (X:Nat→Prop) (W:World):Prop where
 n:s.n=n
 sq:Sq 1 (EV g) s X W
theorem Vs.stb (n:Nat) (g:Nat→Value) (s:Sl):Stb (Vs n g s):=fun X W X' W' he h=>⟨h.n,Sq.stb (EV.stb g) s X W X' W' he h.sq⟩
theorem Sl.full {s:Sl} {n:Nat} (hn:s.n=n) (hc:s.c=n):s.v=.slice s.a s.n s.n:=by unfold Sl.v; rw [hn,hc]
/-- An own list's cells are told, it is not written any more. -/
theorem Zs.releaseV {w W:World} {X0 X:Nat→Prop} {l:List (Nat × Array Value × TypeId)} {fs:List Fa} {s:Sl} {C:Array Value} {T:TypeId} {n:Nat} {g:Nat→Value} (h:Zs w W X0 X (owl s C T++l) fs) (hx:NX X0 w) (hw:Wr 1 s C) (hn:s.n=n) (hC:∀ i,i < n→C[i]?=some (g i)):∃ X',Zs w W X0 X' l (Vs n g s :: fs):=by
 obtain ⟨X',h'⟩:=h.releaseO hx
 refine ⟨X',(h'.more (Vs.stb n g s) ⟨hn,hw.cap,hw.capm,fun e=>?_,fun q hq h0=>?_,fun q hq i hi=>⟨[g i],rfl,fun j hj=>?_,rfl⟩⟩).only _ (by
  intro f hf
  rcases List.mem_cons.1 hf with rfl | hf
  ·
   exact List.mem_cons_self ..
  ·
   exact List.mem_cons_of_mem _ (List.mem_cons_of_mem _ hf))⟩
 ·
  rcases hw.at_ with ⟨_,h2⟩ | ⟨b,h1⟩
  ·
   have:=hw.cap; omega
  ·
   rw [e] at h1; cases h1
 ·
  have ho:=h'.get 0 (f:=Os s C T) rfl
  obtain ⟨b,rfl⟩:∃ b,q=⟨b,0,none⟩:=by
   rcases hw.at_ with ⟨h1,_⟩ | ⟨b,h1⟩
   ·
    rw [h1] at hq; cases hq
   ·
    rw [h1] at hq; cases hq; exact ⟨b,rfl⟩
  have:=ho (b,C,T) (by unfold owl; rw [hq]; exact List.mem_singleton.2 rfl)
  exact ⟨rfl,(Array.getElem?_eq_some_iff.1 this.1).1,this.2⟩
 ·
  have ho:=h'.get 0 (f:=Os s C T) rfl
  obtain ⟨b,rfl⟩:∃ b,q=⟨b,0,none⟩:=by
   rcases hw.at_ with ⟨h1,_⟩ | ⟨b,h1⟩
   ·
    rw [h1] at hq; cases hq
   ·
    rw [h1] at hq; cases hq; exact ⟨b,rfl⟩
  have hc:W.heap[b]?=some (.cells C T (0,0)):=(ho (b,C,T) (by unfold owl; rw [hq]; exact List.mem_singleton.2 rfl)).1
  obtain rfl:j=0:=by omega
  have:=hC i (hn ▸ hi)
  simp only [Nat.mul_one,Nat.add_zero,Nat.zero_add,World.cell?,hc]
  simpa using this
section
variable {P:Program} {Q:Exit→Act→World→Prop} {a:Act} {w W:World} {X0 X:Nat→Prop} {o:Oper} {l:List (Nat × Array Value × TypeId)} {fs:List Fa} {next:Act→World→Prop}
theorem wp_sl3v (t e:TypeId) (x y z:Operand) (s:Sl) (u:Nat) {n:Nat} {g:Nat→Value} (ho:o.op=.slice t x none (some y) (some z)) (hx:a.eval x=s.v) (hy:a.eval y=.int .i64 (u:Int)) (hz:a.eval z=.int .i64 (u:Int)) (ht:P.underlying t=some (.slice e)) (hk:∀ W,(sizeOf e).run P W=.ok 1 W) (h:Vs n g s X W) (hu:u≤n) (K:∀ s':Sl,s'.c=u→Vs u g s' X W→next (a.put o.dst s'.v) W):o.wp P a W next Q :=
 wp_sl3 t e 1 x y z s u u ho hx hy hz ht hk (Nat.le_refl _) (by have:=h.sq.cap; have:=h.n; omega) (K _ rfl ⟨rfl,((h.sq.cut3 (Nat.zero_le u) (by rw [h.n]; exact hu) (Nat.le_refl _) (by have:=h.sq.cap; have:=h.n; omega)).congr fun i cs _ hE=>by rw [Nat.zero_add] at hE; exact hE)⟩)
/-- A list of one number is built. -/
theorem wp_bsn {t e:TypeId} {by_:Nat} {z:Value} (hI:EInf P t e 2 z by_) (x:Operand) (p:NL) (ho:o.op=.buildSlice t 1 #[(0,x)]) (hx:a.eval x=p.v) (h:Zs w W X0 X l fs) (hp:p.is X W) (K:∀ (s:Sl) (W':World),Below W.heap.size W W'→Zs w W' X0 X l (Ls 1 (fun _=>p.z) s :: fs)→next (a.put o.dst s.v) W'):o.wp P a W next Q:=by
 refine wp_bs2 hI x ho hx ?_
 have hb:Below W.heap.size W (W.alloc (.cells #[.bool p.b,.slice p.a p.n p.c] e)):=below_new _ _
 have hz:=h.later hb
 refine K ⟨some ⟨W.heap.size,0,none⟩,1,1⟩ _ hb (hz.more (Ls.stb _ _ _) ⟨rfl,Nat.le_refl _,by show 1≤maxLen; unfold maxLen; decide,nofun,fun q hq _=>?_,fun q hq i hi=>?_⟩)
 ·
  cases hq
  refine ⟨rfl,by simp,fun hX=>?_⟩
  have:=h.nx _ hX
  simp only at this
  omega
 ·
  cases hq
  change i < 1 at hi
  obtain rfl:i=0:=by omega
  refine ⟨[.bool p.b,.slice p.a p.n p.c],rfl,fun j hj=>?_,p,rfl,p.stb _ _ _ _ (Ext.below X hb) hp,rfl⟩
  have hh:(W.alloc (.cells #[.bool p.b,.slice p.a p.n p.c] e)).heap[W.heap.size]?=some (.cells #[.bool p.b,.slice p.a p.n p.c] e (0,0)):=heap_new W _
  simp only [World.cell?,hh]
  obtain rfl | rfl:j=0∨j=1:=by omega
  ·
   rfl
  ·
   rfl
/-- A list of one value is built. -/
theorem wp_bsv {t e:TypeId} {by_:Nat} {z:Value} (hI:EInf P t e 1 z by_) (x:Operand) (v:Value) (ho:o.op=.buildSlice t 1 #[(0,x)]) (hx:a.eval x=v) (hv:v.cells=#[v]) (h:Zs w W X0 X l fs) (K:∀ (s:Sl) (W':World),Zs w W' X0 X l (Vs 1 (fun _=>v) s :: fs)→next (a.put o.dst s.v) W'):o.wp P a W next Q:=by
 refine wp_bs1 hI x ho hx hv ?_
 have hb:Below W.heap.size W (W.alloc (.cells #[v] e)):=below_new _ _
 have hz:=h.later hb
 refine K ⟨some ⟨W.heap.size,0,none⟩,1,1⟩ _ (hz.more (Vs.stb _ _ _) ⟨rfl,Nat.le_refl _,by show 1≤maxLen; unfold maxLen; decide,nofun,fun q hq _=>?_,fun q hq i hi=>?_⟩)
 ·
  cases hq
  refine ⟨rfl,by simp,fun hX=>?_⟩
  have:=h.nx _ hX
  simp only at this
  omega
 ·
  cases hq
  change i < 1 at hi
  obtain rfl:i=0:=by omega
  refine ⟨[v],rfl,fun j hj=>?_,rfl⟩
  have hh:(W.alloc (.cells #[v] e)).heap[W.heap.size]?=some (.cells #[v] e (0,0)):=heap_new W _
  simp only [World.cell?,hh]
  obtain rfl:j=0:=by omega
  rfl
end
theorem fl_jn {n m:Nat} {x y:Nat→Int} {C:Array Value} {X:Nat→Prop} {W:World} (h:Fl 2 (E2 n (EN x) (EN y)) (n+m) C X W):Fl 2 (EN (jn n x y)) (n+m) C X W:=h.congr fun i cs _ hE=>by
 by_cases e:i < n
 ·
  have h':EN x X W i cs:=by simpa only [E2,if_pos e] using hE
  obtain ⟨p,h1,h2⟩:=h'
  exact ⟨p,h1.trans (jn_a e).symm,h2⟩
 ·
  have h':EN y X W (i - n) cs:=by simpa only [E2,if_neg e] using hE
  obtain ⟨p,h1,h2⟩:=h'
  exact ⟨p,h1.trans (by unfold jn; rw [if_neg e]),h2⟩
/-- The rows' list is made longer by one. -/
def PVs (X:Nat→Prop) (n:Nat) (g:Nat→Value) (v:Value) (T:TypeId) (w:World) (e:Ending) (w':World):Prop:=∃ (s:Sl) (C:Array Value) (X':Nat→Prop),e=.returned s.v∧s.n=n+1∧Wr 1 s C∧(∀ i,i < n→C[i]?=some (g i))∧C[n]?=some v∧Zs w w' X X' (owl s C T) []
theorem fl_vs {n:Nat} {g g':Nat→Value} {C:Array Value} {X:Nat→Prop} {W:World} (h:Fl 1 (E2 n (EV g) (EV g')) (n+1) C X W):(∀ i,i < n→C[i]?=some (g i))∧C[n]?=some (g' 0):=by
 have key:∀ i,i < n+1→∀ v,(∀ cs,E2 n (EV g) (EV g') X W i cs→cs=[v])→C[i]?=some v:=fun i hi v hv=>by
  obtain ⟨cs,h1,h2,h3⟩:=h i hi
  have h4:=h2 0 (by omega)
  rw [hv cs h3,Nat.mul_one,Nat.add_zero] at h4
  exact h4
 refine ⟨fun i hi=>key i (by omega) _ fun cs h=>?_,key n (by omega) _ fun cs h=>?_⟩
 ·
  have h':EV g X W i cs:=by simpa only [E2,if_pos hi] using h
  exact h'
 ·
  have h':EV g' X W (n - n) cs:=by simpa only [E2,if_neg (Nat.lt_irrefl n)] using h
  rw [Nat.sub_self] at h'
  exact h'
def VSe (k:VF):Prop:=∀ v X W X' W',Ext X W X' W'→k v X W→k v X' W'
def VSp (b:Nat) (k:VF):Prop:=∀ v X W W',X b→(∀ q,q ≠ b→W'.heap[q]?=W.heap[q]?)→W'.heap.size=W.heap.size→k v X W→k v X W'
theorem ext_put {b:Nat} {X:Nat→Prop} {W W':World} (hb:X b) (hk:∀ q,q ≠ b→W'.heap[q]?=W.heap[q]?) (hz:W'.heap.size=W.heap.size):Ext X W X W':=⟨by rw [hz]; exact Nat.le_refl _,fun k _ hn=>hk k fun e=>hn (e ▸ hb),fun _ h _=>h⟩
theorem VSe.st {k:VF} (h:VSe k):VSt k:=fun v X W W' hb hk=>h v X W X W' (Ext.below X hb) hk
theorem VSe.sp {k:VF} (h:VSe k) (b:Nat):VSp b k:=fun v X W W' hX hq hz hk=>h v X W X W' (ext_put hX hq hz) hk
theorem zve (v:Value):VSe (veq v):=fun _ _ _ _ _ _ h=>h
theorem vnum_se (z:Int):VSe (vnum z):=fun _ X W X' W' he ⟨p,h1,h2,h3⟩=>⟨p,h1,h2,p.stb X W X' W' he h3⟩
theorem vls_se (n:Nat) (x:Nat→Int):VSe (vls n x):=fun _ X W X' W' he ⟨s,h1,h2⟩=>⟨s,h1,Ls.stb n x s X W X' W' he h2⟩
theorem vmt_se (m:Nat) (c:Nat→Nat) (B:Nat→Nat→Int):VSe (vmt m c B):=fun _ X W X' W' he ⟨s,h1,h2⟩=>⟨s,h1,Mt.stb m c B s X W X' W' he h2⟩
theorem vat_se (n:Nat) (x:Nat→Int) (i:Nat):VSe (vat n x i):=fun _ X W X' W' he ⟨s,h1,h2⟩=>⟨s,h1,Ls.stb n x s X W X' W' he h2⟩
theorem vany_se:VSe vany:=fun _ _ _ _ _ _ _=>trivial
/-- A list and a number, no error. -/
def vtq (n:Nat) (x:Nat→Int) (z:Int):VF:=fun u X W=>∃ (s:Sl) (p:NL),u=.tuple #[s.v,p.v,.int .i64 0]∧Ls n x s X W∧p.z=z∧p.is X W
theorem vtq_se (n:Nat) (x:Nat→Int) (z:Int):VSe (vtq n x z):=fun _ X W X' W' he ⟨s,p,h1,h2,h3,h4⟩=>⟨s,p,h1,Ls.stb n x s X W X' W' he h2,h3,p.stb X W X' W' he h4⟩
/-- A function. -/
def vux (n:Nat) (P:Nat→Nat→Int) (q:Nat→Int) (C:Int):VF:=fun u X W=>∃ (p s:Sl) (c:NL),u=.agg #[p.v,s.v,.bool c.b,.slice c.a c.n c.c]∧Mt n (fun _=>n) P p X W∧Ls n q s X W∧c.z=C∧c.is X W
theorem vux_se (n:Nat) (P:Nat→Nat→Int) (q:Nat→Int) (C:Int):VSe (vux n P q C):=fun _ X W X' W' he ⟨p,s,c,h1,h2,h3,h4,h5⟩=>⟨p,s,c,h1,Mt.stb _ _ _ p X W X' W' he h2,Ls.stb _ _ s X W X' W' he h3,h4,c.stb X W X' W' he h5⟩
/-- A number was stored. -/
def vstN (b:Nat) (z:Int) (T:TypeId):VF:=fun _ X W=>∃ q:NL,q.z=z∧q.is X W∧Cl W (b,#[.bool q.b,.slice q.a q.n q.c],T)
theorem vstN_st (b:Nat) (z:Int) (T:TypeId):VSt (vstN b z T):=fun _ X W W' hb ⟨q,h1,h2,h3⟩=>⟨q,h1,q.stb X W X W' (Ext.below X hb) h2,h3.below hb⟩
theorem vstN_sp {b b':Nat} (h:b ≠ b') (z:Int) (T:TypeId):VSp b' (vstN b z T):=fun _ X W W' hX hq hz ⟨q,h1,h2,h3⟩=>⟨q,h1,q.stb X W X W' (ext_put hX hq hz) h2,(hq b h).trans h3⟩
/-- A function was stored. -/
def vstU (b n:Nat) (P:Nat→Nat→Int) (q:Nat→Int) (C:Int) (T:TypeId):VF:=fun _ X W=>∃ (p s:Sl) (c:NL),Mt n (fun _=>n) P p X W∧Ls n q s X W∧c.z=C∧c.is X W∧Cl W (b,#[p.v,s.v,.bool c.b,.slice c.a c.n c.c],T)
theorem vstU_st (b n:Nat) (P:Nat→Nat→Int) (q:Nat→Int) (C:Int) (T:TypeId):VSt (vstU b n P q C T):=fun _ X W W' hb ⟨p,s,c,h1,h2,h3,h4,h5⟩=>⟨p,s,c,Mt.stb _ _ _ p X W X W' (Ext.below X hb) h1,Ls.stb _ _ s X W X W' (Ext.below X hb) h2,h3,c.stb X W X W' (Ext.below X hb) h4,h5.below hb⟩
/-- What is known was stored. -/
def vstK (b:Nat) (C:Array Value) (T:TypeId):VF:=fun _ _ W=>Cl W (b,C,T)
theorem vstK_st (b:Nat) (C:Array Value) (T:TypeId):VSt (vstK b C T):=fun _ _ _ _ hb h=>h.below hb
theorem vstK_sp {b b':Nat} (h:b ≠ b') (C:Array Value) (T:TypeId):VSp b' (vstK b C T):=fun _ _ _ _ _ hq _ h3=>(hq b h).trans h3
/-- A list of one's own was handed back. -/
def vown (w:World) (X0:Nat→Prop) (l:List (Nat × Array Value × TypeId)) (fs:List Fa) (f:Nat→Int) (n:Nat) (T:TypeId):VF:=fun u _ W=>∃ (s:Sl) (C:Array Value) (X':Nat→Prop),u=s.v∧s.n=n∧Wr 2 s C∧Zs w W X0 X' (owl s C T++l) (Fl 2 (EN f) n C :: fs)
theorem vown_st (w:World) (X0:Nat→Prop) (l:List (Nat × Array Value × TypeId)) (fs:List Fa) (f:Nat→Int) (n:Nat) (T:TypeId):VSt (vown w X0 l fs f n T):=fun _ _ _ _ hb ⟨s,C,X',h1,h2,h3,h4⟩=>⟨s,C,X',h1,h2,h3,h4.later hb⟩
theorem vzL_e {ks:List VF} (hk:∀ k,k ∈ ks→VSe k) {X X':Nat→Prop} {n:Nat} {u:Nat→Value} {W W':World} (he:Ext X W X' W'):∀ j,j < n→vzL ks X j (u j) W→vzL ks X' j (u j) W':=by
 intro j _ h
 unfold vzL at *
 rw [List.getD_eq_getElem?_getD] at *
 cases e:ks[j]? with
 | none=>trivial
 | some k=>rw [e] at h; exact hk k (List.mem_of_getElem? e) _ _ _ _ _ he h
theorem vzL_p {ks:List VF} {b:Nat} {X:Nat→Prop} {n:Nat} {u:Nat→Value} {W W':World} (hX:X b) (hq:∀ q,q ≠ b→W'.heap[q]?=W.heap[q]?) (hz:W'.heap.size=W.heap.size) (hk:∀ k,k ∈ ks→VSp b k∨∀ v,k v X W'):∀ j,j < n→vzL ks X j (u j) W→vzL ks X j (u j) W':=by
 intro j _ h
 unfold vzL at *
 rw [List.getD_eq_getElem?_getD] at *
 cases e:ks[j]? with
 | none=>trivial
 | some k =>
  rw [e] at h
  rcases hk k (List.mem_of_getElem? e) with h1 | h1
  ·
   exact h1 _ _ _ _ hX hq hz h
  ·
   exact h1 _
abbrev BX:=List (Nat × Array Value × TypeId)
/-- What an operation of a region must give. -/
def OpT (P:Program) (Q:Exit→Act→World→Prop) (o:Oper) (ops:Array Oper) (A:Act) (ks:List VF) (Rel:(Nat→Bool)→(Nat→Value)→(Nat→Prop)→BX→Prop) (w:World) (X0:Nat→Prop) (fs:List Fa) (n i:Nat) (L:Nat→Bool) (u:Nat→Value) (W:World) (X':Nat→Prop):Prop :=
 (Region.wanted o (yielded ops A.tmps)=false∧∃ X2 l2,Rel (upd L i) (updV u i undef) X2 l2∧Zs w W X0 X2 l2 fs∧vzL ks X2 i undef W∧∀ j,j < n→vzL ks X' j (u j) W→vzL ks X2 j (u j) W) ∨
 (Region.wanted o (yielded ops A.tmps)=true∧∀ K':Act→World→Prop,(∀ v W' X2 l2,Rel (upd L i) (updV u i v) X2 l2→Zs w W' X0 X2 l2 fs→vzL ks X2 i v W'→(∀ j,j < n→vzL ks X' j (u j) W→vzL ks X2 j (u j) W')→K' (A.put o.dst v) W')→Oper.wp P o A W K' Q)
theorem zos {P:Program} {Q:Exit→Act→World→Prop} {o:Oper} {ops:Array Oper} {A:Act} {ks:List VF} {Rel:(Nat→Bool)→(Nat→Value)→(Nat→Prop)→BX→Prop} {w:World} {X0:Nat→Prop} {fs:List Fa} {n i:Nat} {L:Nat→Bool} {u:Nat→Value} {W:World} {X':Nat→Prop} {l':BX} (hJ:Zs w W X0 X' l' fs) (hR:∀ v,Rel (upd L i) (updV u i v) X' l')
  (h:OpZ P Q o ops A (vzL ks X') (fun W=>Zs w W X0 X' l' fs) n i u W):OpT P Q o ops A ks Rel w X0 fs n i L u W X':=by
 rcases h with ⟨h1,h2⟩ | ⟨h1,h2⟩
 ·
  exact .inl ⟨h1,X',l',hR _,hJ,h2,fun _ _ h=>h⟩
 ·
  exact .inr ⟨h1,fun K' hK=>h2 K' fun v W' hj hv hs=>hK v W' X' l' (hR v) hj hv hs⟩
section
variable {P:Program}
theorem wp_region_s {Q:Exit→Act→World→Prop} {id:Nat} {a:Act} {w W0:World} {X0:Nat→Prop} {l:List Oper} (n:Nat) (ds:List (Option Tmp)) (ks:List VF) (Rel:(Nat→Bool)→(Nat→Value)→(Nat→Prop)→BX→Prop) (fs:List Fa) (hm:P.follows .mixedOrders=true) (hB:tailsB2 .any l.toArray n=true) (hds:ds=(l.take n).map (·.dst)) (hs:slotsB ds=true)
  (hz:ds.all (fun d=>match d with | some t=>decide (t < a.tmps.size) | none=>true)=true)
  (h0:∀ u,∃ X1 l1,Rel (fun _=>false) u X1 l1∧Zs w W0.drew X0 X1 l1 fs)
  (step:∀ i (hi:i < l.length),i < n→∀ (L:Nat→Bool) (u:Nat→Value) (W:World) (A:Act) (X1:Nat→Prop) (l1:BX),L i=false→(∀ k,k < n→L k=true→∀ j,Region.waitsFor .any l.toArray k j=true→L j=true)→Rel L u X1 l1→Zs w W X0 X1 l1 fs→(∀ j,j < n→Region.waitsFor .any l.toArray i j=true→L j=true∧vzL ks X1 j (u j) W)→(∀ j,j < n→L j=true→vzL ks X1 j (u j) W) →
   (∀ t,some t ∉ ds→A.tmps[t]?=a.tmps[t]?)→(∀ j d,ds[j]?=some (some d)→A.tmps[d]?=some (u j))→(∀ j d,j < n→L j=false→ds[j]?=some (some d)→A.tmps[d]?=some (a.tmps.getD d undef))→OpT P Q l[i] l.toArray A ks Rel w X0 fs n i L u W X1)
  (fin:∀ (L:Nat→Bool) (u:Nat→Value) (W:World) (X1:Nat→Prop) (l1:BX),(∀ j,j < n→L j=true)→Rel L u X1 l1→Zs w W X0 X1 l1 fs→(∀ j,j < n→vzL ks X1 j (u j) W)→wpList P l.toArray Q (l.drop n) (layS a ds u 0) W):(Code.region id l.toArray true).wp P Q a W0:=by
 have hl:n≤l.length:=by
  have hB':=hB
  unfold tailsB2 at hB'
  simp only [Bool.and_eq_true,decide_eq_true_eq] at hB'
  simpa using hB'.1.1.1
 have hlen:ds.length=n:=by rw [hds]; simp; omega
 obtain ⟨old,hold⟩:∃ old:Nat→Value,old=fun k=>((ds.getD k none).map fun t=>a.tmps.getD t undef).getD undef:=⟨_,rfl⟩
 refine wp_region_inv2 n (fun L a' W=>∃ (u:Nat→Value) (X1:Nat→Prop) (l1:BX),Rel L u X1 l1∧Zs w W X0 X1 l1 fs∧(∀ j,j < n→L j=true→vzL ks X1 j (u j) W)∧(∀ j,j < n→L j=false→u j=old j)∧(∀ k,k < n→L k=true→∀ j,Region.waitsFor .any l.toArray k j=true→L j=true)∧a'=layS a ds u 0) hm hB ?_ ?_ ?_
 ·
  obtain ⟨X1,l1,h1,h2⟩:=h0 old
  refine ⟨old,X1,l1,h1,h2,nofun,fun _ _ _=>rfl,nofun,(layS_self a ds _ 0 (fun j d hj=>?_)).symm⟩
  have:ds.getD (0+j) none=d:=by rw [Nat.zero_add,List.getD_eq_getElem?_getD,hj]; rfl
  rw [hold]
  simp only
  rw [this]
 ·
  rintro L a' W i hi ⟨u,X1,l1,hR,hJ,hu,ho,hc,rfl⟩ hLi hw
  have hil:i < l.length:=Nat.lt_of_lt_of_le hi hl
  have hid:ds[i]?=some l[i].dst:=by
   rw [hds]
   simp [List.getElem?_take,hi,hil]
  have hinn:∀ j d,ds[j]?=some (some d)→(layS a ds u 0).tmps[d]?=some (u j):=by
   intro j d hj
   have hd':d < a.tmps.size:=by
    have:=List.all_eq_true.1 hz _ (List.mem_of_getElem? hj)
    simpa using this
   have h1:=layS_in ds a u 0 j d hs hj hd'
   rwa [Nat.zero_add] at h1
  have hout:∀ j d,j < n→L j=false→ds[j]?=some (some d)→(layS a ds u 0).tmps[d]?=some (a.tmps.getD d undef):=by
   intro j d hj hL hd
   rw [hinn j d hd,ho j hj hL,hold]
   simp only [List.getD_eq_getElem?_getD,hd,Option.getD_some,Option.map_some]
  refine wpOp_step (o:=l[i]) (by simp [hil]) (fun K' hK=>?_)
  have key:∀ W' v X2 l2,Rel (upd L i) (updV u i v) X2 l2→Zs w W' X0 X2 l2 fs→vzL ks X2 i v W'→(∀ j,j < n→vzL ks X1 j (u j) W→vzL ks X2 j (u j) W')→K' ((layS a ds u 0).put l[i].dst v) W':=by
   intro W' v X2 l2 hr hj hv hb
   rw [layS_put hs hid]
   refine hK _ _ ⟨updV u i v,X2,l2,hr,hj,fun j hjn hLj=>?_,fun j hjn hLj=>?_,fun k hk hLk j hj=>?_,rfl⟩
   ·
    unfold updV
    by_cases h:j=i
    ·
     rw [if_pos h,h]; exact hv
    ·
     rw [if_neg h]
     rw [upd_ne h] at hLj
     exact hb j hjn (hu j hjn hLj)
   ·
    have h:j ≠ i:=by
     intro e
     subst e
     rw [upd_self] at hLj
     cases hLj
    unfold updV
    rw [if_neg h]
    rw [upd_ne h] at hLj
    exact ho j hjn hLj
   ·
    by_cases h:k=i
    ·
     subst h; exact upd_mono (hw j hj)
    ·
     rw [upd_ne h] at hLk
     exact upd_mono (hc k hk hLk j hj)
  rcases step i hil hi L u W _ X1 l1 hLi hc hR hJ (fun j hjn hj=>⟨hw j hj,hu j hjn (hw j hj)⟩) hu (fun t ht=>layS_out _ _ _ _ _ ht) hinn hout with ⟨h1,X2,l2,h2,h3,h4,h5⟩ | ⟨h1,h2⟩
  ·
   rw [if_neg (by rw [h1]; decide)]
   exact key W undef X2 l2 h2 h3 h4 h5
  ·
   rw [if_pos h1]
   exact h2 K' (fun v W' X2 l2 hr hj hv hb=>key W' v X2 l2 hr hj hv hb)
 ·
  rintro a' W ⟨L,hL,u,X1,l1,hR,hJ,hu,_,_,rfl⟩
  exact fin L u W X1 l1 hL hR hJ (fun j hj=>hu j hj (hL j hj))
end
/-- What is known of values goes on when memory grows: told by classes. -/
class Vq1 (k:VF):Prop where
 out:VSt k
class Vqs (ks:List VF):Prop where
 out:∀ k,k ∈ ks→VSt k
instance vqs_nil:Vqs []:=⟨nofun⟩
instance vqs_cons {k:VF} {ks:List VF} [h:Vq1 k] [t:Vqs ks]:Vqs (k :: ks):=⟨fun q hq=>by
 rcases List.mem_cons.1 hq with rfl | hq
 ·
  exact h.out
 ·
  exact t.out q hq⟩
instance vq_eq (v:Value):Vq1 (veq v):=⟨(zve v).st⟩
instance vq_num (z:Int):Vq1 (vnum z):=⟨(vnum_se z).st⟩
instance vq_ls (n:Nat) (x:Nat→Int):Vq1 (vls n x):=⟨(vls_se n x).st⟩
instance vq_mt (m:Nat) (c:Nat→Nat) (B:Nat→Nat→Int):Vq1 (vmt m c B):=⟨(vmt_se m c B).st⟩
instance vq_at (n:Nat) (x:Nat→Int) (i:Nat):Vq1 (vat n x i):=⟨(vat_se n x i).st⟩
instance vq_any:Vq1 vany:=⟨vany_se.st⟩
instance vq_tq (n:Nat) (x:Nat→Int) (z:Int):Vq1 (vtq n x z):=⟨(vtq_se n x z).st⟩
instance vq_ux (n:Nat) (P:Nat→Nat→Int) (q:Nat→Int) (C:Int):Vq1 (vux n P q C):=⟨(vux_se n P q C).st⟩
instance vq_own (w:World) (X0:Nat→Prop) (l:List (Nat × Array Value × TypeId)) (fs:List Fa) (f:Nat→Int) (n:Nat) (T:TypeId):Vq1 (vown w X0 l fs f n T):=⟨vown_st w X0 l fs f n T⟩
theorem vlat {ks:List VF} [h:Vqs ks] {X:Nat→Prop} {n:Nat} {u:Nat→Value} {W W':World} (hb:Below W.heap.size W W'):∀ j,j < n→vzL ks X j (u j) W→vzL ks X j (u j) W':=zvl h.out hb
theorem vsm {ks:List VF} {X:Nat→Prop} {n:Nat} {u:Nat→Value} {W:World}:∀ j,j < n→vzL ks X j (u j) W→vzL ks X j (u j) W:=fun _ _ h=>h
theorem zj {A:Act} {t:Nat} {x v:Value} (h:A.tmps[t]?=some x) (e:x=v):A.eval (.tmp t)=v:=zet (h.trans (congrArg some e))
theorem oz {P:Program} {Q:Exit→Act→World→Prop} {o:Oper} {ops:Array Oper} {A:Act} {VP:Nat→Value→World→Prop} {J:World→Prop} {n i:Nat} {u:Nat→Value} {W:World} (hw:Region.wanted o (yielded ops A.tmps)=true) (h:∀ K':Act→World→Prop,(∀ v W',J W'→VP i v W'→(∀ j,j < n→VP j (u j) W→VP j (u j) W')→K' (A.put o.dst v) W')→Oper.wp P o A W K' Q):OpZ P Q o ops A VP J n i u W:=.inr ⟨hw,h⟩
theorem zrp {P:Program} {Q:Exit→Act→World→Prop} {id:Nat} {a:Act} {w W0:World} {X0 X:Nat→Prop} {l:List Oper} {lb:BX} {fs:List Fa} (n:Nat) (ds:List (Option Tmp)) (ks:List VF) (hm:P.follows .mixedOrders=true) (hB:tailsB2 .any l.toArray n=true) (hds:ds=(l.take n).map (·.dst)) (hs:slotsB ds=true)
  (hz:ds.all (fun d=>match d with | some t=>decide (t < a.tmps.size) | none=>true)=true)
  (h0:Zs w W0 X0 X lb fs)
  (step:∀ i (hi:i < l.length),i < n→∀ (L:Nat→Bool) (u:Nat→Value) (W:World) (A:Act),L i=false→(∀ k,k < n→L k=true→∀ j,Region.waitsFor .any l.toArray k j=true→L j=true)→Zs w W X0 X lb fs→(∀ j,(Nat.blt j n && Region.waitsFor .any l.toArray i j)=true→vzL ks X j (u j) W)→(∀ j,j < n→L j=true→vzL ks X j (u j) W) →
   (∀ t,some t ∉ ds→A.tmps[t]?=a.tmps[t]?)→(∀ j d,ds[j]?=some (some d)→A.tmps[d]?=some (u j))→(∀ j d,j < n→L j=false→ds[j]?=some (some d)→A.tmps[d]?=some (a.tmps.getD d undef))→OpZ P Q l[i] l.toArray A (vzL ks X) (fun W=>Zs w W X0 X lb fs) n i u W)
  (fin:∀ (u:Nat→Value) (W:World),Zs w W X0 X lb fs→(∀ j,j < n→vzL ks X j (u j) W)→wpList P l.toArray Q (l.drop n) (layS a ds u 0) W):(Code.region id l.toArray true).wp P Q a W0 :=
 wp_region_s n ds ks (fun _ _ X1 l1=>X=X1∧lb=l1) fs hm hB hds hs hz (fun _=>⟨X,lb,⟨rfl,rfl⟩,h0.later (Below.refl _ _).drew⟩)
  (fun i hi hin L u W A X1 l1 h1 h2 hR hJ hd hall hev hinn hold=>by
   obtain ⟨eX,el⟩:=hR
   subst eX
   subst el
   exact zos hJ (fun _=>⟨rfl,rfl⟩) (step i hi hin L u W A h1 h2 hJ (fun j hj=>by
    rw [Bool.and_eq_true] at hj
    exact (hd j (zzF hj.1) hj.2).2) hall hev hinn hold))
  (fun L u W X1 l1 _ hR hJ hd=>by
   obtain ⟨eX,el⟩:=hR
   subst eX
   subst el
   exact fin u W hJ hd)
/-- A variable that was made in a region, or not yet. -/
def RelA (i:Nat) (X:Nat→Prop) (l:BX) (T:TypeId) (PC:Array Value→Prop) (L:Nat→Bool) (u:Nat→Value) (X1:Nat→Prop) (l1:BX):Prop:=(∀ p,p ∈ l→p ∈ l1)∧((L i=false∧X=X1∧l=l1)∨(L i=true∧∃ (b:Nat) (C:Array Value),u i=.pointer (some ⟨b,0,none⟩)∧PC C∧l1=(b,C,T) :: l))
theorem RelA.keep {i j:Nat} {X X1:Nat→Prop} {l l1:BX} {T:TypeId} {PC:Array Value→Prop} {L:Nat→Bool} {u:Nat→Value} (h:RelA i X l T PC L u X1 l1) (hj:i ≠ j) (v:Value):RelA i X l T PC (upd L j) (updV u j v) X1 l1:=by
 unfold RelA at *
 rw [upd_ne hj,updV_ne hj]
 exact h
theorem RelA.start {i:Nat} {X:Nat→Prop} {l:BX} {T:TypeId} {PC:Array Value→Prop} {u:Nat→Value}:RelA i X l T PC (fun _=>false) u X l:=⟨fun _ h=>h,.inl ⟨rfl,rfl,rfl⟩⟩
theorem RelA.no {i:Nat} {X X1:Nat→Prop} {l l1:BX} {T:TypeId} {PC:Array Value→Prop} {L:Nat→Bool} {u:Nat→Value} (h:RelA i X l T PC L u X1 l1) (hL:L i=false):X=X1∧l=l1:=by
 rcases h.2 with ⟨_,h1⟩ | ⟨h1,_⟩
 ·
  exact h1
 ·
  rw [hL] at h1; cases h1
theorem RelA.yes {i:Nat} {X X1:Nat→Prop} {l l1:BX} {T:TypeId} {PC:Array Value→Prop} {L:Nat→Bool} {u:Nat→Value} (h:RelA i X l T PC L u X1 l1) (hL:L i=true):∃ (b:Nat) (C:Array Value),u i=.pointer (some ⟨b,0,none⟩)∧PC C∧l1=(b,C,T) :: l:=by
 rcases h.2 with ⟨h1,_⟩ | ⟨_,h1⟩
 ·
  rw [hL] at h1; cases h1
 ·
  exact h1
theorem RelA.made {i b:Nat} {X X1:Nat→Prop} {l:BX} {C:Array Value} {T:TypeId} {PC:Array Value→Prop} {L:Nat→Bool} {u:Nat→Value} {v:Value} (hv:v=.pointer (some ⟨b,0,none⟩)) (hC:PC C):RelA i X l T PC (upd L i) (updV u i v) X1 ((b,C,T) :: l) :=
 ⟨fun _ hp=>List.mem_cons_of_mem _ hp,.inr ⟨upd_self _ _,b,C,by unfold updV; rw [if_pos rfl]; exact hv,hC,rfl⟩⟩
theorem RelA.put {i j b:Nat} {X X1:Nat→Prop} {l:BX} {C:Array Value} {T:TypeId} {PC:Array Value→Prop} {L:Nat→Bool} {u:Nat→Value} {v:Value} (hL:L i=true) (hj:i ≠ j) (hu:u i=.pointer (some ⟨b,0,none⟩)) (hC:PC C):RelA i X l T PC (upd L j) (updV u j v) X1 ((b,C,T) :: l) :=
 ⟨fun _ hp=>List.mem_cons_of_mem _ hp,.inr ⟨upd_mono hL,b,C,by rw [updV_ne hj]; exact hu,hC,rfl⟩⟩
theorem ext_new (X:Nat→Prop) (W:World) (C:Array Value) (T:TypeId):Ext X W (fun k=>X k∨k=W.heap.size) (W.alloc (.cells C T)):=by
 have hb:Below W.heap.size W (W.alloc (.cells C T)):=(Below.refl _ _).alloc (Nat.le_refl _) _
 exact ⟨hb.size,fun k hk _=>hb.block k hk,fun k hk hl=>hk.elim id fun e=>absurd e (by omega)⟩
theorem put_cl {w W':World} {l:BX} {j b:Nat} {C:Array Value} {T:TypeId} {vs:List Value} (h:Es w W' (l.set j (b,putC C 0 vs,T))) (hj:l[j]?=some (b,C,T)) (hs:C.size=vs.length):Cl W' (b,vs.toArray,T):=by
 rw [putC_full hs] at h
 exact h.at' _ (zzG (i:=j) (by rw [List.getElem?_set,if_pos rfl,if_pos (List.getElem?_eq_some_iff.1 hj).1]))
theorem cl_eq {W:World} {b:Nat} {C D:Array Value} {T:TypeId} (h1:Cl W (b,C,T)) (h2:Cl W (b,D,T)):C=D:=by
 have a1:W.heap[b]?=some (.cells C T (0,0)):=h1
 have a2:W.heap[b]?=some (.cells D T (0,0)):=h2
 rw [a1] at a2
 cases a2
 rfl
theorem box_ne {w W:World} {X0 X:Nat→Prop} {l:BX} {fs:List Fa} (h:Zs w W X0 X l fs) (i j:Nat) {b b':Nat} {C C':Array Value} {T T':TypeId} (hi:l[i]?=some (b,C,T)) (hj:l[j]?=some (b',C',T')) (hne:i ≠ j):b ≠ b':=fun e=>by
 subst e
 exact hne (nodup_get h.es.nd (i:=i) (j:=j) (x:=b) (by simp [hi]) (by simp [hj]))
theorem wanted_at {o:Oper} {ops:Array Oper} {A:Act} {g t:Nat} {b val r:Bool} (ho:o.guard=some (g,b)) (hd:(ops[g]?).bind (·.dst)=some t) (he:A.tmps[t]?=some (.bool val)) (hr:(val == b)=r):Region.wanted o (yielded ops A.tmps)=r:=by
 unfold Region.wanted yielded
 rw [ho]
 simp only [hd,Option.bind_some,he]
 subst hr
 cases val <;> cases b <;> rfl
end Go.Proofs.YtjclllindbfmhabGreatDoor
