/- Parts of the proof. -/
import Derived.Test.YtjclllindbfmhabGreatDoorHs0
import Derived.Test.YtjclllindbfmhabGreatDoorHs28
import Derived.Laws.CopyRow
import Derived.Test.YtjclllindbfmhabGreatDoorHs22
import Derived.Test.YtjclllindbfmhabGreatDoorHs21
import Derived.Test.YtjclllindbfmhabGreatDoorHs29
import Derived.Test.YtjclllindbfmhabGreatDoorHs27
set_option linter.unusedSimpArgs false
set_option linter.unusedVariables false
namespace Go.Proofs.YtjclllindbfmhabGreatDoor
/- Slices that are made hold noughts; copies; what With and Without come to. No statement of the seat is proved here. -/
open Go Go.RowKit
theorem made_at {z:Array Value} {n k i j:Nat} (hz:z.size=k) (hi:i < n) (hj:j < k):(madeCells z (n*k))[i*k+j]?=z.toList[j]?:=by
 have hlt:=mul_place hi hj
 unfold madeCells
 rw [Array.getElem?_map,Array.getElem?_range,if_pos hlt]
 simp only [Option.map_some]
 have hm:(i*k+j) % z.size=j:=by rw [hz,Nat.mul_comm,Nat.mul_add_mod,Nat.mod_eq_of_lt hj]
 rw [hm,getElem!_pos z j (by omega)]
 simp [hz,hj]
section
variable {P:Program} {ops:Array Oper} {Q:Exit→Act→World→Prop} {a:Act} {w W:World} {rest:List Oper} {o:Oper} {l:BX} {X0 X:Nat→Prop} {fs:List Fa}
theorem stopz_makez {t e:TypeId} {k by_:Nat} {z:Value} (hI:EInf P t e k z by_) (x y:Operand) (n:Nat) (hg:o.guard=none) (ho:o.op=.makeSlice t x y) (hx:a.eval x=.int .i64 (n:Int)) (hy:a.eval y=.int .i64 (n:Int)) (hn:n≤1000000) (h:Zs w W X0 X l fs)
  (K:∀ (s:Sl) (C:Array Value) (X':Nat→Prop) (W':World),s.n=n→Wr k s C→(∀ i j,i < n→j < k→C[i*k+j]?=z.cells.toList[j]?)→Zs w W' X0 X' (owl s C e++l) fs→Stop (wpList P ops Q rest (a.put o.dst s.v) W')):wpList P ops Q (o :: rest) a W:=by
 refine wpList_plain hg fun K' hK=>?_
 obtain ⟨i,hi,hz,hs,hb⟩:=info_parts hI.hi
 have hr:=run_make (P:=P) W t e i z hI.ht hi hz .i64 .i64 (n:Int) (n:Int) (by omega) (Int.le_refl _) (by
  rw [hb]
  have:=hI.few
  have:=Nat.mul_le_mul this hn
  have e:((by_:Nat):Int)*(n:Int)=((by_*n:Nat):Int):=by rw [Int.natCast_mul]
  rw [e]
  omega) (by omega)
 rw [Int.toNat_natCast,hs] at hr
 have e1:(execOp a.eval o).run P W=.ok (.value (.slice (some ⟨W.heap.size,0,none⟩) n n)) (W.alloc (.cells (madeCells z.cells (n*k)) e)):=by
  unfold execOp
  rw [ho]
  simp only [hx,hy,Sem.run_bind,hr,Result.andThen]
  rfl
 unfold Oper.wp
 rw [e1]
 exact hK _ _ (K ⟨some ⟨W.heap.size,0,none⟩,n,n⟩ (madeCells z.cells (n*k)) _ _ rfl ⟨Nat.le_refl _,(by show n≤maxLen; unfold maxLen; omega),size_madeCells _ _,.inr ⟨_,rfl⟩⟩ (fun i j hi hj=>made_at hI.zs hi hj) (h.new _ e))
end
theorem fl_noughts {n:Nat} {C:Array Value} {X:Nat→Prop} {W:World} (h:∀ i j,i < n→j < 2→C[i*2+j]?=(Value.agg #[.bool false,.slice none 0 0]).cells.toList[j]?):Fl 2 (EN (fun _=>0)) n C X W:=fun i hi =>
 ⟨[.bool false,.slice none 0 0],rfl,fun j hj=>h i j hi hj,nlz,rfl,nlz_is X W,rfl⟩
theorem fl_zeros {n:Nat} {C:Array Value} {X:Nat→Prop} {W:World} (h:∀ i j,i < n→j < 1→C[i*1+j]?=(Value.int .i64 0).cells.toList[j]?):Fl 1 (EI (fun _=>0)) n C X W:=fun i hi =>
 ⟨[.int .i64 0],rfl,fun j hj=>h i j hi hj,rfl⟩
theorem Mt.cast {m m':Nat} {c:Nat→Nat} {B:Nat→Nat→Int} {s:Sl} {X:Nat→Prop} {W:World} (e:m=m') (h:Mt m c B s X W):Mt m' c B s X W:=e ▸ h
/-- With noughts ahead of the last numbers. -/
theorem with_q (k r:Nat) (P:Nat→Nat→Int) (q y:Nat→Int) (i:Nat):-(M.mulv (k+r) P (jn k (fun _=>0) y) i - q i)=wq k r P q y i:=by
 unfold wq M.mulv
 rw [sm_split,M.sm_zero fun j hj=>by rw [jn_a hj,Int.mul_zero],M.sm_congr (f:=fun j=>P i (k+j)*jn k (fun _=>0) y (k+j)) (g:=fun j=>P i (k+j)*y j) fun j _=>by rw [jn_b]]
 omega
theorem with_c {k r:Nat} {P:Nat→Nat→Int} (hs:Sym (k+r) P) (q:Nat→Int) (C:Int) (y:Nat→Int):Vq (k+r) P q C (jn k (fun _=>0) y)=wc k r P q C y:=by
 rw [with_val hs]
 have e:(fun j=>jn k (fun _=>0) y (k+j))=y:=funext fun j=>jn_b _ y j
 rw [e]
 unfold Vq Qf
 rw [M.sm_zero fun i hi=>by rw [jn_a hi,Int.zero_mul],M.sm_zero fun i hi=>by rw [jn_a hi,Int.mul_zero]]
 omega
section
variable {k r:Nat} {P:Nat→Nat→Int} {q:Nat→Int} {C:Int}
theorem tbl_pp {n i j:Nat} (hi:i < n) (hj:j < n):tbl n P q C i j=P i j:=by unfold tbl; rw [if_pos hi,if_pos hj]
theorem tbl_qb {n j:Nat} (hj:j < n):tbl n P q C n j=q j:=by unfold tbl; rw [if_neg (Nat.lt_irrefl n),if_pos hj]
theorem tbl_cc (n:Nat):tbl n P q C n n=C:=by unfold tbl; rw [if_neg (Nat.lt_irrefl n),if_neg (Nat.lt_irrefl n)]
/-- What is condensed. -/
def cdn (k n:Nat) (P:Nat→Nat→Int) (q:Nat→Int) (C:Int) (i j:Nat):Int:=M.dt k P*tbl n P q C (k+i) (k+j) - M.sm k (fun t=>crx k P (tbl n P q C (k+i)) t*tbl n P q C (k+j) t)
theorem cdn_lp (hs:Sym (k+r) P) (hd:M.dt k P ≠ 0) {i j:Nat} (hi:i < r) (hj:j < r):cdn k (k+r) P q C i j=lp k P i j:=by
 have hsk:Sym k P:=fun a b ha hb=>hs a b (by omega) (by omega)
 unfold cdn lp
 rw [tbl_pp (by omega) (by omega)]
 have e1:M.sm k (fun t=>crx k P (tbl (k+r) P q C (k+i)) t*tbl (k+r) P q C (k+j) t)=M.sm k (fun t=>P t (k+j)*crx k P (fun u=>P u (k+i)) t):=M.sm_congr fun t ht=>by
  rw [tbl_pp (by omega) (by omega),hs (k+j) t (by omega) (by omega),Int.mul_comm]
  congr 1
  exact crx_congr (fun _ _ _ _=>rfl) fun u hu=>by rw [tbl_pp (by omega) (by omega),hs (k+i) u (by omega) (by omega)]
 rw [e1,crx_sym hsk hd (fun u=>P u (k+j)) (fun u=>P u (k+i))]
theorem cdn_lq (hs:Sym (k+r) P) {j:Nat} (hj:j < r):cdn k (k+r) P q C r j=lq k P q j:=by
 unfold cdn lq
 rw [tbl_qb (by omega)]
 congr 1
 refine M.sm_congr fun t ht=>?_
 rw [tbl_pp (by omega) (by omega),hs (k+j) t (by omega) (by omega),Int.mul_comm]
 congr 1
 exact crx_congr (fun _ _ _ _=>rfl) fun u hu=>tbl_qb (by omega)
theorem cdn_lc:cdn k (k+r) P q C r r=lc k P q C:=by
 unfold cdn lc
 rw [tbl_cc]
 congr 1
 refine M.sm_congr fun t ht=>?_
 rw [tbl_qb (by omega),Int.mul_comm]
 congr 1
 exact crx_congr (fun _ _ _ _=>rfl) fun u hu=>tbl_qb (by omega)
/-- How many parts they may have. -/
def lpb (e k:Nat):Nat:=dtb e k+e+k+1
theorem lp_sz {e n:Nat} (hk:k≤n) (bP:∀ i j,i < k+r→j < k+r→Sz e (P i j)) {i j:Nat} (hi:i < r) (hj:j < r):Sz (lpb e k) (lp k P i j):=by
 have h1:Sz (dtb e k) (M.dt k P):=dt_sz fun i j hi hj=>bP i j (by omega) (by omega)
 have h2:Sz (dtb e k+e+k) (M.dt k P*P (k+i) (k+j)):=(Sz.mul h1 (bP _ _ (by omega) (by omega))).mono (by omega)
 have h3:Sz (dtb e k+e+k) (M.sm k (fun t=>P t (k+i)*crx k P (fun u=>P u (k+j)) t)):=(sm_sz fun t ht=>(Sz.mul (bP t (k+i) (by omega) (by omega)) (crx_sz (fun i j hi hj=>bP i j (by omega) (by omega)) (fun u hu=>bP u (k+j) (by omega) (by omega)) t)).mono (show e+dtb e k≤dtb e k+e by omega)).mono (by omega)
 exact (Sz.minus h2 h3).mono (by unfold lpb; omega)
theorem lq_sz {e:Nat} (bP:∀ i j,i < k+r→j < k+r→Sz e (P i j)) (bq:∀ i,i < k+r→Sz e (q i)) {i:Nat} (hi:i < r):Sz (lpb e k) (lq k P q i):=by
 have h1:Sz (dtb e k) (M.dt k P):=dt_sz fun i j hi hj=>bP i j (by omega) (by omega)
 have h2:Sz (dtb e k+e+k) (M.dt k P*q (k+i)):=(Sz.mul h1 (bq _ (by omega))).mono (by omega)
 have h3:Sz (dtb e k+e+k) (M.sm k (fun t=>P t (k+i)*crx k P q t)):=(sm_sz fun t ht=>(Sz.mul (bP t (k+i) (by omega) (by omega)) (crx_sz (fun i j hi hj=>bP i j (by omega) (by omega)) (fun u hu=>bq u (by omega)) t)).mono (show e+dtb e k≤dtb e k+e by omega)).mono (by omega)
 exact (Sz.minus h2 h3).mono (by unfold lpb; omega)
theorem lc_sz {e:Nat} (bP:∀ i j,i < k→j < k→Sz e (P i j)) (bq:∀ i,i < k→Sz e (q i)) (bC:Sz e C):Sz (lpb e k) (lc k P q C):=by
 have h1:Sz (dtb e k) (M.dt k P):=dt_sz bP
 have h2:Sz (dtb e k+e+k) (M.dt k P*C):=(Sz.mul h1 bC).mono (by omega)
 have h3:Sz (dtb e k+e+k) (M.sm k (fun t=>q t*crx k P q t)):=(sm_sz fun t ht=>(Sz.mul (bq t ht) (crx_sz bP bq t)).mono (show e+dtb e k≤dtb e k+e by omega)).mono (by omega)
 exact (Sz.minus h2 h3).mono (by unfold lpb; omega)
theorem tbl_sz {e n:Nat} (bP:∀ i j,i < n→j < n→Sz e (P i j)) (bq:∀ i,i < n→Sz e (q i)) (bC:Sz e C) (i j:Nat):Sz e (tbl n P q C i j):=by
 unfold tbl
 split
 ·
  split
  ·
   exact bP i j (by assumption) (by assumption)
  ·
   exact bq i (by assumption)
 ·
  split
  ·
   exact bq j (by assumption)
  ·
   exact bC
theorem qf_sz {e n:Nat} {x:Nat→Int} (bP:∀ i j,i < n→j < n→Sz e (P i j)) (bx:∀ i,i < n→Sz e (x i)):Sz (e+(e+e+n)+n) (Qf n P x):=sm_sz fun i hi=>Sz.mul (bx i hi) (sm_sz fun j hj=>Sz.mul (bP i j hi hj) (bx j hj))
theorem vq_sz {e n:Nat} {x:Nat→Int} (bP:∀ i j,i < n→j < n→Sz e (P i j)) (bq:∀ i,i < n→Sz e (q i)) (bC:Sz e C) (bx:∀ i,i < n→Sz e (x i)):Sz (3*e+2*n+3) (Vq n P q C x):=by
 have h1:Sz (3*e+2*n) (Qf n P x):=(qf_sz bP bx).mono (by omega)
 have h2:Sz (3*e+2*n) (M.sm n (fun i=>q i*x i)):=(sm_sz fun i hi=>Sz.mul (bq i hi) (bx i hi)).mono (by omega)
 have h3:=((h1.minus h2).minus (h2.mono (Nat.le_add_right _ 1))).plus (bC.mono (show e≤3*e+2*n+1+1 by omega))
 have e1:Qf n P x - M.sm n (fun i=>q i*x i) - M.sm n (fun i=>q i*x i)+C=Vq n P q C x:=by unfold Vq; omega
 rw [e1] at h3
 exact h3
end
section
variable {P:Program} {ops:Array Oper} {Q:Exit→Act→World→Prop} {a:Act} {w W:World} {rest:List Oper} {o:Oper} {l:BX} {X0 X:Nat→Prop} {fs:List Fa} {next:Act→World→Prop}
/-- What a copy does to one's own. -/
theorem run_copy_own {t e:TypeId} {k by_:Nat} {z:Value} (hI:EInf P t e k z by_) (ty:TypeId) {E:El} (hE:EStb E) (hone:∀ i cs X W,E X W i cs→cs.all (·.oneCell')=true) {s1 s2:Sl} {C:Array Value} {lo m:Nat} (hw:Wr k s1 C) (h:Zs w W X0 X (owl s1 C e++l) fs) (h2:Sq k E s2 X W) (hlo:lo≤s1.n) (hm:m=Nat.min s2.n (s1.n - lo)) :
  ∃ (C':Array Value) (W':World),(Builtin.copy_ #[t,t] ty #[(s1.cut k lo s1.n).v,s2.v]).run P W=.ok (goInt m) W'∧Wr k s1 C'∧Zs w W' X0 X (owl s1 C' e++l) fs∧(∀ i,i < m→∃ cs:List Value,cs.length=k∧(∀ j,j < k→C'[(lo+i)*k+j]?=cs[j]?)∧E X W' i cs)∧(∀ j,(j < lo*k∨(lo+m)*k≤j)→C'[j]?=C[j]?):=by
 obtain ⟨i,hi,hz,hsz,hb⟩:=info_parts hI.hi
 have hpos:=hI.pos
 have hl0:∀ (x:Addr),(loadCells x 0).run P W=.ok #[] W:=fun x=>by simpa using run_loadCells_list (P:=P) W x [] (by simp)
 by_cases h0:m=0
 ·
  subst h0
  refine ⟨C,W,?_,hw,h,fun i hi=>absurd hi (Nat.not_lt_zero i),fun _ _=>rfl⟩
  have hmin:Nat.min s2.n (s1.n - lo)=0:=hm.symm
  obtain ⟨a1,n1,c1⟩:=s1
  obtain ⟨a2,n2,c2⟩:=s2
  simp only at hmin
  unfold Sl.cut Sl.v
  simp only
  generalize (if c1=lo then a1 else a1.map (·.add (lo*k)))=ad
  cases ad <;> cases a2 <;> simp [Builtin.copy_,run_underlying hI.ht,Builtin.lenOf,Builtin.firstCells,sizeOf,typeInfo,hi,hsz,storeCells,hl0,hmin,goInt]
 ·
  have hm2:m≤s2.n:=by rw [hm]; exact Nat.min_le_left _ _
  have hm1:m≤s1.n - lo:=by rw [hm]; exact Nat.min_le_right _ _
  obtain ⟨q2,o2,g2,ha2,hq2,hg2⟩:=h2.cells hpos (by omega)
  obtain ⟨a1,n1,c1⟩:=s1
  have hcap:=hw.cap
  simp only at hcap hm1 hm hlo
  rcases hw.at_ with ⟨_,hc0⟩ | ⟨b,ha1⟩
  ·
   simp only at hc0; omega
  simp only at ha1
  subst ha1
  obtain ⟨vs,hvs⟩:∃ vs,vs=(List.range (m*k)).map g2:=⟨_,rfl⟩
  have hvl:vs.length=m*k:=by rw [hvs]; simp
  have hmk:(lo+m)*k≤c1*k:=Nat.mul_le_mul_right k (by omega)
  have hCs:C.size=c1*k:=hw.sz
  have hget:∀ j,j < m*k→vs[j]?=some (g2 j):=fun j hj=>by rw [hvs]; simp [hj]
  have hg2':∀ j,j < m*k→W.cell? ⟨q2,o2+j,none⟩=some (g2 j):=fun j hj=>hg2 j (Nat.lt_of_lt_of_le hj (Nat.mul_le_mul_right k hm2))
  -- what they are
  have hel:∀ i,i < m→∃ cs:List Value,cs.length=k∧(∀ j,j < k→vs[i*k+j]?=cs[j]?)∧E X W i cs:=fun i hi=>by
   obtain ⟨cs,c1',c2',c3'⟩:=h2.el _ ha2 i (by omega)
   refine ⟨cs,c1',fun j hj=>?_,c3'⟩
   have hlt:=mul_place hi hj
   rw [hget _ hlt,← c2' j hj]
   have:=hg2' _ hlt
   rw [← Nat.add_assoc] at this
   exact this.symm
  have hall:vs.all (·.oneCell')=true:=by
   rw [List.all_eq_true]
   intro v hv
   obtain ⟨j,hj⟩:=List.mem_iff_getElem?.1 hv
   have hjm:j < m*k:=by have:=(List.getElem?_eq_some_iff.1 hj).1; omega
   obtain ⟨cs,d1,d2,d3⟩:=hel (j / k) (by rw [Nat.div_lt_iff_lt_mul hpos]; exact hjm)
   have hjk:j % k < k:=Nat.mod_lt _ hpos
   have:=d2 (j % k) hjk
   rw [Nat.mul_comm,Nat.div_add_mod,hj] at this
   exact List.all_eq_true.1 (hone _ _ _ _ d3) v (List.mem_of_getElem? this.symm)
  obtain ⟨W',e1,e2,e3,e4⟩:=run_storeCells (P:=P) b (lo*k) e vs 0 C ((b,C,e) :: l) 0 W h.es rfl (by rw [hvl,Nat.add_zero,← Nat.add_mul,hCs]; exact hmk) hall
  rw [Nat.add_zero] at e2
  have hput:=h.put (j:=0) (b:=b) (C:=C) (C':=putC C (lo*k) vs) (T:=e) rfl e2 e3 e4
  have hX:X b:=h.own (b,C,e) (List.mem_cons_self ..)
  have hx:Ext X W X W':=ext_put hX e3 e4
  have hadd:(⟨b,0,none⟩:Addr).add (lo*k)=⟨b,lo*k,none⟩:=by unfold Addr.add; split <;> simp_all
  have hsrc:∀ j v,vs[j]?=some v→W.cell? ((⟨q2,o2,none⟩:Addr).add j)=some v:=fun j v hj=>by
   have hjm:j < m*k:=by have:=(List.getElem?_eq_some_iff.1 hj).1; omega
   have hadd2:(⟨q2,o2,none⟩:Addr).add j=⟨q2,o2+j,none⟩:=by unfold Addr.add; split <;> simp_all
   rw [hadd2,hg2' j hjm,← hget j hjm]
   exact hj
  have hfc:=run_firstCells_some (P:=P) (w:=W) k m ⟨q2,o2,none⟩ s2.n s2.c vs hvl hsrc
  refine ⟨putC C (lo*k) vs,W',?_,⟨hw.cap,hw.capm,by rw [putC_size]; exact hw.sz,.inr ⟨b,rfl⟩⟩,hput,fun i hi=>?_,fun j hj=>?_⟩
  ·
   have hv2:s2.v=.slice (some ⟨q2,o2,none⟩) s2.n s2.c:=by unfold Sl.v; rw [ha2]
   have hv1:((⟨some ⟨b,0,none⟩,n1,c1⟩:Sl).cut k lo n1).v=.slice (some ⟨b,lo*k,none⟩) (n1 - lo) (c1 - lo):=by
    unfold Sl.cut Sl.v
    simp only
    rw [if_neg (by omega)]
    simp only [Option.map_some,hadd]
   rw [hv1,hv2]
   rw [← hsz] at hfc
   simp [Builtin.copy_,run_underlying hI.ht,Builtin.lenOf,sizeOf,typeInfo,hi,← hm,hfc,e1,goInt]
  ·
   obtain ⟨cs,d1,d2,d3⟩:=hel i hi
   refine ⟨cs,d1,fun j hj=>?_,hE i cs X W X W' hx d3⟩
   have hlt:=mul_place hi hj
   have hfit:lo*k+vs.length≤C.size:=by rw [hvl,← Nat.add_mul,hCs]; exact hmk
   rw [putC_get _ _ _ _ hfit,if_pos (by rw [hvl,Nat.add_mul]; omega),← d2 j hj]
   congr 1
   rw [Nat.add_mul]; omega
  ·
   have hfit:lo*k+vs.length≤C.size:=by rw [hvl,← Nat.add_mul,hCs]; exact hmk
   rw [putC_get _ _ _ _ hfit,if_neg (by rw [hvl,← Nat.add_mul]; omega)]
theorem wp_copy {t e:TypeId} {k by_:Nat} {z:Value} (hI:EInf P t e k z by_) (x y:Operand) (ho:o.op=.call { callee:=.builtin .copy,args:=#[x,y],argTypes:=#[t,t] }) {E:El} (hE:EStb E) (hone:∀ i cs X W,E X W i cs→cs.all (·.oneCell')=true) {s1 s2:Sl} {C:Array Value} (lo m:Nat) (hx:a.eval x=(s1.cut k lo s1.n).v) (hy:a.eval y=s2.v) (hw:Wr k s1 C) (h:Zs w W X0 X (owl s1 C e++l) fs) (h2:Sq k E s2 X W) (hlo:lo≤s1.n) (hm:m=Nat.min s2.n (s1.n - lo))
  (K:∀ (C':Array Value) (W':World),Wr k s1 C'→Zs w W' X0 X (owl s1 C' e++l) fs→(∀ i,i < m→∃ cs:List Value,cs.length=k∧(∀ j,j < k→C'[(lo+i)*k+j]?=cs[j]?)∧E X W' i cs)→(∀ j,(j < lo*k∨(lo+m)*k≤j)→C'[j]?=C[j]?)→next (a.put o.dst (.int .i64 (m:Int))) W'):o.wp P a W next Q:=by
 obtain ⟨C',W',e1,e2,e3,e4,e5⟩:=run_copy_own hI o.type hE hone hw h h2 hlo hm
 unfold Oper.wp execOp
 simp only [ho,resolve,invoke,builtin,Sem.run_bind,Sem.run_pure,Result.andThen_ok,List.map_toArray,List.map_cons,List.map_nil,hx,hy,e1]
 exact K C' W' e2 e3 e4 e5
theorem cut_none (s:Sl) (k:Nat) {C:Array Value} (hw:Wr k s C):s.cut k 0 s.n=s:=by
 obtain ⟨a1,n1,c1⟩:=s
 unfold Sl.cut
 simp only [Nat.zero_mul,Nat.sub_zero]
 rcases hw.at_ with ⟨h1,h2⟩ | ⟨b,h1⟩
 ·
  simp only at h1 h2; subst h1 h2; simp
 ·
  simp only at h1; subst h1
  have hadd:(⟨b,0,none⟩:Addr).add 0=⟨b,0,none⟩:=by unfold Addr.add; split <;> simp_all
  by_cases e:c1=0
  ·
   rw [if_pos e]
  ·
   rw [if_neg e]; simp [hadd]
theorem EI.one (x:Nat→Int):∀ i cs (X:Nat→Prop) (W:World),EI x X W i cs→cs.all (·.oneCell')=true:=fun i cs _ _ h=>by
 have h':cs=[.int .i64 (x i)]:=h
 rw [h']; rfl
theorem EN.one (x:Nat→Int):∀ i cs (X:Nat→Prop) (W:World),EN x X W i cs→cs.all (·.oneCell')=true:=fun i cs _ _ ⟨p,_,_,h⟩=>by
 rw [h]; rfl
theorem wp_mini {A B Cm:Int} (x y:Operand) (T T':TypeId) (ho:o.op=.call { callee:=.builtin .min,args:=#[x,y],argTypes:=#[T,T'] }) (hx:a.eval x=.int .i64 A) (hy:a.eval y=.int .i64 B) (hC:(A≤B∧Cm=A)∨(B < A∧Cm=B)) (k:next (a.put o.dst (.int .i64 Cm)) W):o.wp P a W next Q:=by
 refine wp_run ?_ k
 unfold execOp
 rw [ho]
 simp only [hx,hy,resolve,invoke,builtin,List.map_toArray,List.map_cons,List.map_nil]
 have:(Builtin.min_ #[T,T'] o.type #[.int .i64 A,.int .i64 B]).run P W=.ok (.int .i64 Cm) W:=by
  have h2:(Builtin.min2 (.int .i64 A) (.int .i64 B)).run P W=.ok (.int .i64 Cm) W:=by
   show (pure (Value.int .i64 (if B < A then B else A)):Sem Value).run P W=_
   rcases hC with ⟨h1,h2⟩ | ⟨h1,h2⟩
   ·
    rw [h2,if_neg (show ¬ B < A by omega)]; rfl
   ·
    rw [h2,if_pos h1]; rfl
  simp [Builtin.min_,h2,Sem.run_bind,Result.andThen]
 simp [this,Sem.run_bind,Result.andThen]
end
def vli (n:Nat) (x:Nat→Int):VF:=fun u X W=>∃ s:Sl,u=s.v∧Li n x s X W
theorem vli_se (n:Nat) (x:Nat→Int):VSe (vli n x):=fun _ X W X' W' he ⟨s,h1,h2⟩=>⟨s,h1,Li.stb n x s X W X' W' he h2⟩
def vati (n:Nat) (x:Nat→Int) (i:Nat):VF:=fun u X W=>∃ s:Sl,u=s.at 1 i∧Li n x s X W
theorem vati_se (n:Nat) (x:Nat→Int) (i:Nat):VSe (vati n x i):=fun _ X W X' W' he ⟨s,h1,h2⟩=>⟨s,h1,Li.stb n x s X W X' W' he h2⟩
/-- What is mirrored. -/
def mir (c:Nat→Nat) (R:Nat→Nat→Int) (x y:Nat):Int:=if x≤y then (if x < c y then R y x else 0) else (if y < c x then R x y else 0)
/-- Rows below i are, and of row i the first k. -/
def mirA (i k:Nat) (c:Nat→Nat) (R:Nat→Nat→Int) (x y:Nat):Int:=if x≤y then (if (y < i∨(y=i∧x < k))∧x < c y then R y x else 0) else (if (x < i∨(x=i∧y < k))∧y < c x then R x y else 0)
section
variable {i k:Nat} {c:Nat→Nat} {R:Nat→Nat→Int}
theorem mirA_0 (x y:Nat):mirA 0 0 c R x y=0:=by
 unfold mirA
 split <;> rw [if_neg (by omega)]
theorem mirA_end {n x y:Nat} (hx:x < n) (hy:y < n):mirA n 0 c R x y=mir c R x y:=by
 unfold mirA mir
 by_cases h:x≤y
 ·
  rw [if_pos h,if_pos h]
  by_cases h2:x < c y
  ·
   rw [if_pos ⟨.inl hy,h2⟩,if_pos h2]
  ·
   rw [if_neg (fun h=>h2 h.2),if_neg h2]
 ·
  rw [if_neg h,if_neg h]
  by_cases h2:y < c x
  ·
   rw [if_pos ⟨.inl hx,h2⟩,if_pos h2]
  ·
   rw [if_neg (fun h=>h2 h.2),if_neg h2]
theorem mirA_row (h:i < k∨c i≤k) (x y:Nat):mirA i k c R x y=mirA (i+1) 0 c R x y:=by
 unfold mirA
 by_cases h1:x≤y
 ·
  rw [if_pos h1,if_pos h1]
  by_cases h2:x < c y
  ·
   by_cases h3:y < i∨(y=i∧x < k)
   ·
    rw [if_pos ⟨h3,h2⟩,if_pos ⟨by omega,h2⟩]
   ·
    rw [if_neg (fun h=>h3 h.1),if_neg (fun h=>h3 (by
     rcases h.1 with h4 | h4
     ·
      by_cases e:y=i
      ·
       subst e; exact .inr ⟨rfl,by omega⟩
      ·
       exact .inl (by omega)
     ·
      omega))]
  ·
   rw [if_neg (fun h=>h2 h.2),if_neg (fun h=>h2 h.2)]
 ·
  rw [if_neg h1,if_neg h1]
  by_cases h2:y < c x
  ·
   by_cases h3:x < i∨(x=i∧y < k)
   ·
    rw [if_pos ⟨h3,h2⟩,if_pos ⟨by omega,h2⟩]
   ·
    rw [if_neg (fun h=>h3 h.1),if_neg (fun h=>h3 (by
     rcases h.1 with h4 | h4
     ·
      by_cases e:x=i
      ·
       subst e; exact .inr ⟨rfl,by omega⟩
      ·
       exact .inl (by omega)
     ·
      omega))]
  ·
   rw [if_neg (fun h=>h2 h.2),if_neg (fun h=>h2 h.2)]
theorem mirA_at1 (hk:k≤i) (hc:k < c i):mirA i (k+1) c R i k=R i k:=by
 unfold mirA
 by_cases e:i≤k
 ·
  obtain rfl:k=i:=by omega
  rw [if_pos e,if_pos ⟨.inr ⟨rfl,by omega⟩,hc⟩]
 ·
  rw [if_neg e,if_pos ⟨.inr ⟨rfl,by omega⟩,hc⟩]
theorem mirA_at2 (hk:k≤i) (hc:k < c i):mirA i (k+1) c R k i=R i k:=by
 unfold mirA
 rw [if_pos hk,if_pos ⟨.inr ⟨rfl,by omega⟩,hc⟩]
theorem mirA_ne {x y:Nat} (h1:¬ (x=i∧y=k)) (h2:¬ (x=k∧y=i)):mirA i (k+1) c R x y=mirA i k c R x y:=by
 unfold mirA
 by_cases e:x≤y
 ·
  rw [if_pos e,if_pos e]
  by_cases h3:(y < i∨(y=i∧x < k))∧x < c y
  ·
   rw [if_pos h3,if_pos ⟨by omega,h3.2⟩]
  ·
   rw [if_neg h3,if_neg (fun h=>h3 ⟨by omega,h.2⟩)]
 ·
  rw [if_neg e,if_neg e]
  by_cases h3:(x < i∨(x=i∧y < k))∧y < c x
  ·
   rw [if_pos h3,if_pos ⟨by omega,h3.2⟩]
  ·
   rw [if_neg h3,if_neg (fun h=>h3 ⟨by omega,h.2⟩)]
theorem mir_sym (c:Nat→Nat) (R:Nat→Nat→Int) (x y:Nat):mir c R x y=mir c R y x:=by
 unfold mir
 by_cases e:x=y
 ·
  subst e; rfl
 ·
  by_cases h:x≤y
  ·
   rw [if_pos h,if_neg (show ¬ y≤x by omega)]
  ·
   rw [if_neg h,if_pos (show y≤x by omega)]
theorem mir_in {m:Nat} (hR:∀ i j,i < m→j < c i→-9223372036854775808≤R i j∧R i j≤9223372036854775807) {x y:Nat} (hx:x < m) (hy:y < m):-9223372036854775808≤mir c R x y∧mir c R x y≤9223372036854775807:=by
 unfold mir
 split
 ·
  split
  ·
   exact hR y x hy (by assumption)
  ·
   omega
 ·
  split
  ·
   exact hR x y hx (by assumption)
  ·
   omega
end
instance vq_li (n:Nat) (x:Nat→Int):Vq1 (vli n x):=⟨(vli_se n x).st⟩
instance vq_ati (n:Nat) (x:Nat→Int) (i:Nat):Vq1 (vati n x i):=⟨(vati_se n x i).st⟩
theorem vnum_ser (z:Int):VSe (vnumr z):=fun _ X W X' W' he ⟨p,h1,h2,h3⟩=>⟨p,h1,h2,p.stbr X W X' W' he h3⟩
theorem vls_ser (n:Nat) (x:Nat→Int):VSe (vlsr n x):=fun _ X W X' W' he ⟨s,h1,h2⟩=>⟨s,h1,Lr.stb n x s X W X' W' he h2⟩
theorem vmt_ser (m:Nat) (c:Nat→Nat) (B:Nat→Nat→Int):VSe (vmtr m c B):=fun _ X W X' W' he ⟨s,h1,h2⟩=>⟨s,h1,Mr.stb m c B s X W X' W' he h2⟩
theorem vat_ser (n:Nat) (x:Nat→Int) (i:Nat):VSe (vatr n x i):=fun _ X W X' W' he ⟨s,h1,h2⟩=>⟨s,h1,Lr.stb n x s X W X' W' he h2⟩
/-- A function. -/
def vuxr (n:Nat) (P:Nat→Nat→Int) (q:Nat→Int) (C:Int):VF:=fun u X W=>∃ (p s:Sl) (c:NL),u=.agg #[p.v,s.v,.bool c.b,.slice c.a c.n c.c]∧Mr n (fun _=>n) P p X W∧Lr n q s X W∧c.z=C∧c.ir X W
theorem vuxr_se (n:Nat) (P:Nat→Nat→Int) (q:Nat→Int) (C:Int):VSe (vuxr n P q C):=fun _ X W X' W' he ⟨p,s,c,h1,h2,h3,h4,h5⟩=>⟨p,s,c,h1,Mr.stb _ _ _ p X W X' W' he h2,Lr.stb _ _ s X W X' W' he h3,h4,c.stbr X W X' W' he h5⟩
/-- A function was stored. -/
def vstUr (b n:Nat) (P:Nat→Nat→Int) (q:Nat→Int) (C:Int) (T:TypeId):VF:=fun _ X W=>∃ (p s:Sl) (c:NL),Mr n (fun _=>n) P p X W∧Lr n q s X W∧c.z=C∧c.ir X W∧Cl W (b,#[p.v,s.v,.bool c.b,.slice c.a c.n c.c],T)
theorem vstUr_st (b n:Nat) (P:Nat→Nat→Int) (q:Nat→Int) (C:Int) (T:TypeId):VSt (vstUr b n P q C T):=fun _ X W W' hb ⟨p,s,c,h1,h2,h3,h4,h5⟩=>⟨p,s,c,Mr.stb _ _ _ p X W X W' (Ext.below X hb) h1,Lr.stb _ _ s X W X W' (Ext.below X hb) h2,h3,c.stbr X W X W' (Ext.below X hb) h4,h5.below hb⟩
theorem vstUr_sp {b b':Nat} (h:b ≠ b') (n:Nat) (P:Nat→Nat→Int) (q:Nat→Int) (C:Int) (T:TypeId):VSp b' (vstUr b n P q C T):=fun _ X W W' hX hq hz ⟨p,s,c,h1,h2,h3,h4,h5⟩=>⟨p,s,c,Mr.stb _ _ _ p X W X W' (ext_put hX hq hz) h1,Lr.stb _ _ s X W X W' (ext_put hX hq hz) h2,h3,c.stbr X W X W' (ext_put hX hq hz) h4,(hq b h).trans h5⟩
/-- A list of one number: where it lies. -/
theorem Ls.one {f:Nat→Int} {s:Sl} {X:Nat→Prop} {W:World} (h:Ls 1 f s X W):∃ (q:Addr) (p:NL),s.v=.slice (some q) 1 s.c∧p.z=f 0∧p.is X W∧(∀ j u,[Value.bool p.b,.slice p.a p.n p.c][j]?=some u→W.cell? (q.add j)=some u):=by
 obtain ⟨sa,sn,sc⟩:=s
 have hn:sn=1:=h.n
 subst hn
 cases sa with
 | none=>have:=(h.sq.nil rfl).1; simp only at this; omega
 | some q =>
  obtain ⟨cs,h1,h2,p,h3,h4,rfl⟩:=h.sq.el q rfl 0 (by show 0 < 1; omega)
  obtain ⟨hq,_,_⟩:=h.sq.spot q rfl (by show 0 < 1; omega)
  obtain ⟨qb,qo,qs⟩:=q
  simp only at hq
  subst hq
  refine ⟨_,p,rfl,h3,h4,fun j u hj=>?_⟩
  have hadd:(⟨qb,qo,none⟩:Addr).add j=⟨qb,qo+j,none⟩:=by unfold Addr.add; split <;> simp_all
  have hj2:j < 2:=(List.getElem?_eq_some_iff.1 hj).1
  have h5:=h2 j hj2
  simp only at h5
  rw [hadd,show qo+j=qo+0*2+j by omega]
  exact h5.trans hj
/-- A list of one number: where it lies. -/
theorem Lr.one {f:Nat→Int} {s:Sl} {X:Nat→Prop} {W:World} (h:Lr 1 f s X W):∃ (q:Addr) (p:NL),s.v=.slice (some q) 1 s.c∧p.z=f 0∧p.ir X W∧(∀ j u,[Value.bool p.b,.slice p.a p.n p.c][j]?=some u→W.cell? (q.add j)=some u):=by
 obtain ⟨sa,sn,sc⟩:=s
 have hn:sn=1:=h.n
 subst hn
 cases sa with
 | none=>have:=(h.sq.nil rfl).1; simp only at this; omega
 | some q =>
  obtain ⟨cs,h1,h2,p,h3,h4,rfl⟩:=h.sq.el q rfl 0 (by show 0 < 1; omega)
  obtain ⟨hq,_,_⟩:=h.sq.spot q rfl (by show 0 < 1; omega)
  obtain ⟨qb,qo,qs⟩:=q
  simp only at hq
  subst hq
  refine ⟨_,p,rfl,h3,h4,fun j u hj=>?_⟩
  have hadd:(⟨qb,qo,none⟩:Addr).add j=⟨qb,qo+j,none⟩:=by unfold Addr.add; split <;> simp_all
  have hj2:j < 2:=(List.getElem?_eq_some_iff.1 hj).1
  have h5:=h2 j hj2
  simp only at h5
  rw [hadd,show qo+j=qo+0*2+j by omega]
  exact h5.trans hj
section
variable {P:Program} {Q:Exit→Act→World→Prop} {a:Act} {w W:World} {X0 X:Nat→Prop} {o:Oper} {l:List (Nat × Array Value × TypeId)} {fs:List Fa} {next:Act→World→Prop}
/-- A list of one number is built. -/
theorem wp_bsnr {t e:TypeId} {by_:Nat} {z:Value} (hI:EInf P t e 2 z by_) (x:Operand) (p:NL) (ho:o.op=.buildSlice t 1 #[(0,x)]) (hx:a.eval x=p.v) (h:Zs w W X0 X l fs) (hp:p.ir X W) (K:∀ (s:Sl) (W':World),Below W.heap.size W W'→Zs w W' X0 X l (Lr 1 (fun _=>p.z) s :: fs)→next (a.put o.dst s.v) W'):o.wp P a W next Q:=by
 refine wp_bs2 hI x ho hx ?_
 have hb:Below W.heap.size W (W.alloc (.cells #[.bool p.b,.slice p.a p.n p.c] e)):=below_new _ _
 have hz:=h.later hb
 refine K ⟨some ⟨W.heap.size,0,none⟩,1,1⟩ _ hb (hz.more (Lr.stb _ _ _) ⟨rfl,Nat.le_refl _,by show 1≤maxLen; unfold maxLen; decide,nofun,fun q hq _=>?_,fun q hq i hi=>?_⟩)
 ·
  cases hq
  refine ⟨rfl,by simp,fun hX=>?_⟩
  have:=h.nx _ hX
  simp only at this
  omega
 ·
  cases hq
  change i < 1 at hi
  obtain rfl:i=0:=by omega
  refine ⟨[.bool p.b,.slice p.a p.n p.c],rfl,fun j hj=>?_,p,rfl,p.stbr _ _ _ _ (Ext.below X hb) hp,rfl⟩
  have hh:(W.alloc (.cells #[.bool p.b,.slice p.a p.n p.c] e)).heap[W.heap.size]?=some (.cells #[.bool p.b,.slice p.a p.n p.c] e (0,0)):=heap_new W _
  simp only [World.cell?,hh]
  obtain rfl | rfl:j=0∨j=1:=by omega
  ·
   rfl
  ·
   rfl
theorem wp_pick {bv:Bool} {va vb:Value} (c x y:Operand) (ho:o.op=.pick c x y) (hc:a.eval c=.bool bv) (hx:a.eval x=va) (hy:a.eval y=vb) (k:next (a.put o.dst (if bv=true then va else vb)) W):o.wp P a W next Q:=by
 refine wp_run ?_ k
 unfold execOp
 rw [ho]
 simp only [hc,hx,hy]
 cases bv <;> rfl
end
section
variable {Q:Exit→Act→World→Prop} {a:Act} {W:World} {o:Oper} {next:Act→World→Prop} {A B:Int}
theorem wp_eqlE (x y:Operand) (ho:o.op=.binOp .eql 43 x y 43) (hx:a.eval x=.int .i64 A) (hy:a.eval y=.int .i64 B) {r:Bool} (hr:decide (A=B)=r) (k:next (a.put o.dst (.bool r)) W):o.wp Tryz.prog a W next Q:=by
 subst hr
 refine wp_run ?_ k
 unfold execOp
 rw [ho]
 simp only [hx,hy]
 simp [go_sem]
 rfl
end
instance vq_uxr (n:Nat) (P:Nat→Nat→Int) (q:Nat→Int) (C:Int):Vq1 (vuxr n P q C):=⟨(vuxr_se n P q C).st⟩
instance vq_numr (z:Int):Vq1 (vnumr z):=⟨(vnum_ser z).st⟩
instance vq_lsr (n:Nat) (x:Nat→Int):Vq1 (vlsr n x):=⟨(vls_ser n x).st⟩
instance vq_mtr (m:Nat) (c:Nat→Nat) (B:Nat→Nat→Int):Vq1 (vmtr m c B):=⟨(vmt_ser m c B).st⟩
instance vq_atr (n:Nat) (x:Nat→Int) (i:Nat):Vq1 (vatr n x i):=⟨(vat_ser n x i).st⟩
set_option maxRecDepth 100000 in
set_option maxHeartbeats 12800000 in
theorem tText {X0:Nat→Prop} {w:World} (hX:NX X0 w) (xs:Sl) {n e:Nat} {x:Nat→Int} (hx:Ls n x xs X0 w) (bx:∀ k,k < n→Sz e (x k)) (hn:n≤1000) (he:e≤9000000):Calls Tryz.prog 18 #[xs.v] w (PVal (.string ⟨(txL n x).toArray⟩) w):=by
 have hZ0:=zs_start hX
 have hZ1:=hZ0.more (f:=Ls n x xs) (Ls.stb _ _ _) hx
 clear hZ0
 go_enter Tryz.func18,Tryz.ntmps18
 go_wp2
 go_loopw [3,4] (fun sv iv wr=>∃ i:Nat,i≤n∧iv=.int .i64 ((i:Nat):Int)∧sv=.string ⟨(txL i x).toArray⟩∧∃ X:Nat→Prop,Zs w wr X0 X [] [Ls n x xs]) (fun _ iv _=>n - (intOf iv).toNat)
 case atStart=>exact ⟨0,by omega,rfl,rfl,_,hZ1⟩
 case round =>
  obtain ⟨i,hi,rfl,rfl,X,hZ⟩:=hrel
  by_cases hlt:i < n
  ·
   have hl1:(txL i x).length≤i*(10*e+3):=txL_len (fun k hk=>bx k (by omega))
   have hl2:(decT (x i)).length≤10*e+2:=decT_len (bx i hlt)
   have hl3:i*(10*e+3)≤1000*90000003:=Nat.mul_le_mul (by omega) (by omega)
   have hl4:(txL i x++decT (x i)).length≤1000*90000003+90000003:=by rw [List.length_append]; omega
   go_wp2_with (refine zso rfl (fun K hK=>wp_lenq (.tmp 6) 27 30 xs rfl (by kernel_rfl) rfl (hZ.get 0 (f:=Ls n x xs) rfl).n (hK _ _ ?_)))
   simp only [Stop,Act.put,zzC,zzD,zzE]
   go_wp2_with (refine zso rfl (fun K hK=>wp_lssi (.tmp 5) (.tmp 7) rfl rfl rfl (r:=true) (decide_eq_true (by omega)) (hK _ _ ?_)))
   simp only [Stop,Act.put,zzC,zzD,zzE]
   go_wp2_with (refine zso rfl (fun K hK=>wp_ixs 27 (.tmp 12) (.tmp 13) xs i 2 30 rfl rfl rfl (by kernel_rfl) sz30 (fun h=>((hZ.get 0 (f:=Ls n x xs) rfl).sq.nil h).1) ((hZ.get 0 (f:=Ls n x xs) rfl).n ▸ (by omega)) (hK _ _ ?_)))
   simp only [Stop,Act.put,zzC,zzD,zzE]
   go_wp2_with (refine zso rfl (fun K hK=>wp_ldn 30 (.tmp 14) xs i n x rfl rfl (hZ.get 0 (f:=Ls n x xs) rfl) (by omega) ag30 sz30 (fun q1 ez_q1 hi_q1=>hK _ _ ?_)))
   simp only [Stop,Act.put,zzC,zzD,zzE]
   have hZ2:=hZ.more (f:=q1.is) q1.stb hi_q1
   clear hZ hi_q1
   go_wp2_with fail
   refine ((zStr (hZ2.get 0 (f:=q1.is) rfl) ez_q1 ((fun k hk=>bx k hk) i (by omega)) (by omega)).mono (fun _ _ h=>ptxt_dec h)).mono ?_
   rintro zz W1 ⟨rfl,hB⟩
   have hZ3:=hZ2.later hB
   clear hB hZ2
   have hZ4:=hZ3.only [Ls n x xs] (by simp)
   clear hZ3
   go_wp2
   go_roundw
   case rel=>exact ⟨i+1,by omega,by go_num,by rw [txL,← ByteArray.mk_append_mk,← ByteArray.mk_append_mk],_,hZ4⟩
   case measure=>simp [intOf]; omega
  ·
   obtain rfl:i=n:=by omega
   go_wp2_with (refine zso rfl (fun K hK=>wp_lenq (.tmp 6) 27 30 xs rfl (by kernel_rfl) rfl (hZ.get 0 (f:=Ls i x xs) rfl).n (hK _ _ ?_)))
   simp only [Stop,Act.put,zzC,zzD,zzE]
   go_wp2_with (refine zso rfl (fun K hK=>wp_lssi (.tmp 5) (.tmp 7) rfl rfl rfl (r:=false) (decide_eq_false (Int.lt_irrefl _)) (hK _ _ ?_)))
   simp only [Stop,Act.put,zzC,zzD,zzE]
   go_wp2
   go_ret
   exact ⟨rfl,hZ.below⟩
/-- A function's text. -/
noncomputable def whU (n:Nat) (P:Nat→Nat→Int) (q:Nat→Int) (C:Int):List UInt8:=((whL n (fun _=>n) P++txL n q)++[59])++decT C
set_option maxRecDepth 100000 in
set_option maxHeartbeats 12800000 in
theorem tWhole {X0:Nat→Prop} {w:World} (hX:NX X0 w) (p s:Sl) (c:NL) {n e:Nat} {P:Nat→Nat→Int} {q:Nat→Int} {C:Int} (hp:Mt n (fun _=>n) P p X0 w) (hq:Ls n q s X0 w) (hc:c.is X0 w) (ez_c:c.z=C) (bP:∀ i j,i < n→j < n→Sz e (P i j)) (bq:∀ i,i < n→Sz e (q i)) (bC:Sz e C) (hn:n≤100) (he:e≤900000):Calls Tryz.prog 19 #[.agg #[p.v,s.v,.bool c.b,.slice c.a c.n c.c]] w (PVal (.string ⟨(whU n P q C).toArray⟩) w):=by
 have hZ0:=zs_start hX
 have hZ1:=hZ0.more (f:=c.is) c.stb hc
 clear hZ0
 have hZ2:=hZ1.more (f:=Ls n q s) (Ls.stb _ _ _) hq
 clear hZ1
 have hZ3:=hZ2.more (f:=Mt n (fun _=>n) P p) (Mt.stb _ _ _ _) hp
 clear hZ2
 go_enter Tryz.func19,Tryz.ntmps19
 go_wp2_with (refine zsb 32 (.tmp 0) #[p.v,s.v,.bool c.b,.slice c.a c.n c.c] rfl rfl rfl hZ3 (fun bk1 X4 W1 hZ4=>?_))
 clear hZ3
 simp only [Stop,Act.put,zzC,zzD,zzE]
 have hZ5:=hZ4.release hX
 clear hZ4
 have hZ6:=hZ5.only [Cf bk1 #[p.v,s.v,.bool c.b,.slice c.a c.n c.c] 32,c.is,Ls n q s,Mt n (fun _=>n) P p] (by simp)
 clear hZ5
 have hl2:(txL n q).length≤n*(10*e+3):=txL_len (fun k hk=>bq k hk)
 have hl3:(decT C).length≤10*e+2:=decT_len bC
 have hl6:n*(10*e+3)≤100*9000003:=Nat.mul_le_mul (by omega) (by omega)
 go_wp2
 go_loopw [3,4] (fun sv iv wr=>∃ i:Nat,i≤n∧iv=.int .i64 ((i:Nat):Int)∧sv=.string ⟨(whL i (fun _=>n) P).toArray⟩∧∃ X:Nat→Prop,Zs w wr X0 X [] [Cf bk1 #[p.v,s.v,.bool c.b,.slice c.a c.n c.c] 32,c.is,Ls n q s,Mt n (fun _=>n) P p]) (fun _ iv _=>n - (intOf iv).toNat)
 case atStart=>exact ⟨0,by omega,rfl,rfl,_,hZ6⟩
 case round =>
  clear hZ6
  obtain ⟨i,hi,rfl,rfl,X,hZ⟩:=hrel
  have hl1:(whL i (fun _=>n) P).length≤i*(100*(10*e+3)+1):=whL_len (fun k hk=>by omega) (fun x y hx hy=>bP x y (by omega) hy)
  have hl7:i*(100*(10*e+3)+1)≤100*(100*9000003+1):=Nat.mul_le_mul (by omega) (by omega)
  by_cases hlt:i < n
  ·
   have hl4:(txL n (P i)).length≤n*(10*e+3):=txL_len (fun k hk=>bP i k hlt hk)
   have hl5:(whL i (fun _=>n) P++txL n (P i)).length≤100*(100*9000003+1)+100*9000003:=by rw [List.length_append]; omega
   go_wp2_with (refine zso rfl (fun K hK=>wp_fda (v:=.pointer (some ⟨bk1,0,none⟩)) 32 (.tmp 1) 0 rfl rfl (fun _=>by kernel_rfl) (hK _ _ ?_)))
   simp only [Stop,Act.put,zzC,zzD,zzE]
   go_wp2_with (refine zso rfl (fun K hK=>wp_load1 (v:=p.v) 26 (.tmp 6) rfl bk1 0 #[p.v,s.v,.bool c.b,.slice c.a c.n c.c] 32 (hZ.get 0 (f:=Cf bk1 #[p.v,s.v,.bool c.b,.slice c.a c.n c.c] 32) rfl).1 rfl ag26 (by kernel_rfl) (hK _ _ ?_)))
   simp only [Stop,Act.put,zzC,zzD,zzE]
   go_wp2_with (refine zso rfl (fun K hK=>wp_lenq (.tmp 7) 26 27 p rfl (by kernel_rfl) rfl (hZ.get 3 (f:=Mt n (fun _=>n) P p) rfl).n (hK _ _ ?_)))
   simp only [Stop,Act.put,zzC,zzD,zzE]
   go_wp2_with (refine zso rfl (fun K hK=>wp_lssi (.tmp 5) (.tmp 8) rfl rfl rfl (r:=true) (decide_eq_true (by omega)) (hK _ _ ?_)))
   simp only [Stop,Act.put,zzC,zzD,zzE]
   go_wp2_with (refine zso rfl (fun K hK=>wp_fda (v:=.pointer (some ⟨bk1,0,none⟩)) 32 (.tmp 1) 0 rfl rfl (fun _=>by kernel_rfl) (hK _ _ ?_)))
   simp only [Stop,Act.put,zzC,zzD,zzE]
   go_wp2_with (refine zso rfl (fun K hK=>wp_load1 (v:=p.v) 26 (.tmp 13) rfl bk1 0 #[p.v,s.v,.bool c.b,.slice c.a c.n c.c] 32 (hZ.get 0 (f:=Cf bk1 #[p.v,s.v,.bool c.b,.slice c.a c.n c.c] 32) rfl).1 rfl ag26 (by kernel_rfl) (hK _ _ ?_)))
   simp only [Stop,Act.put,zzC,zzD,zzE]
   go_wp2_with (refine zso rfl (fun K hK=>wp_ixs 26 (.tmp 14) (.tmp 15) p i 1 27 rfl rfl rfl (by kernel_rfl) sz27 (fun h=>((hZ.get 3 (f:=Mt n (fun _=>n) P p) rfl).sq.nil h).1) ((hZ.get 3 (f:=Mt n (fun _=>n) P p) rfl).n ▸ (by omega)) (hK _ _ ?_)))
   simp only [Stop,Act.put,zzC,zzD,zzE]
   go_wp2_with (refine zso rfl (fun K hK=>wp_ldm 27 (.tmp 16) p i n (fun _=>n) P rfl rfl (hZ.get 3 (f:=Mt n (fun _=>n) P p) rfl) (by omega) ag27 (fun s1 hi_s1=>hK _ _ ?_)))
   simp only [Stop,Act.put,zzC,zzD,zzE]
   have hZ7:=hZ.more (f:=Ls n (P i) s1) (Ls.stb _ _ _) hi_s1
   clear hZ hi_s1
   go_wp2_with fail
   refine (tText hZ7.nx s1 (hZ7.get 0 (f:=Ls n (P i) s1) rfl) (fun k hk=>bP i k (by omega) hk) (by omega) (by omega)).mono ?_
   rintro zz W2 ⟨rfl,hB⟩
   have hZ8:=hZ7.later hB
   clear hB hZ7
   have hZ9:=hZ8.only [Cf bk1 #[p.v,s.v,.bool c.b,.slice c.a c.n c.c] 32,c.is,Ls n q s,Mt n (fun _=>n) P p] (by simp)
   clear hZ8
   go_wp2_with (refine zso rfl (fun K hK=>wp_addi (.tmp 10) (.const (.int .i64 1)) rfl rfl rfl (C:=((i+1:Nat):Int)) (by omega) (by omega) (by omega) (hK _ _ ?_)))
   simp only [Stop,Act.put,zzC,zzD,zzE]
   go_wp2
   go_roundw
   case rel=>exact ⟨i+1,by omega,by go_num,by rw [whL,← ByteArray.mk_append_mk,← ByteArray.mk_append_mk],_,hZ9⟩
   case measure=>simp [intOf]; omega
  ·
   obtain rfl:n=i:=by omega
   go_wp2_with (refine zso rfl (fun K hK=>wp_fda (v:=.pointer (some ⟨bk1,0,none⟩)) 32 (.tmp 1) 0 rfl rfl (fun _=>by kernel_rfl) (hK _ _ ?_)))
   simp only [Stop,Act.put,zzC,zzD,zzE]
   go_wp2_with (refine zso rfl (fun K hK=>wp_load1 (v:=p.v) 26 (.tmp 6) rfl bk1 0 #[p.v,s.v,.bool c.b,.slice c.a c.n c.c] 32 (hZ.get 0 (f:=Cf bk1 #[p.v,s.v,.bool c.b,.slice c.a c.n c.c] 32) rfl).1 rfl ag26 (by kernel_rfl) (hK _ _ ?_)))
   simp only [Stop,Act.put,zzC,zzD,zzE]
   go_wp2_with (refine zso rfl (fun K hK=>wp_lenq (.tmp 7) 26 27 p rfl (by kernel_rfl) rfl (hZ.get 3 (f:=Mt n (fun _=>n) P p) rfl).n (hK _ _ ?_)))
   simp only [Stop,Act.put,zzC,zzD,zzE]
   go_wp2_with (refine zso rfl (fun K hK=>wp_lssi (.tmp 5) (.tmp 8) rfl rfl rfl (r:=false) (decide_eq_false (Int.lt_irrefl _)) (hK _ _ ?_)))
   simp only [Stop,Act.put,zzC,zzD,zzE]
   go_wp2
   obtain ⟨XR6,hZ10⟩:∃ Xr,Zs w wr X0 Xr [] [Cf bk1 #[p.v,s.v,.bool c.b,.slice c.a c.n c.c] 32,c.is,Ls n q s,Mt n (fun _=>n) P p]:=⟨_,hZ⟩
   clear hZ
   refine zrp 10 [some 21,some 22,some 23,some 24,some 25,some 26,some 27,some 28,some 29,some 30] [veq (.string ⟨(whL n (fun _=>n) P).toArray⟩),veq (.pointer (some ⟨bk1,1,none⟩)),veq (s.v),veq (.string ⟨(txL n q).toArray⟩),veq (.string ⟨((whL n (fun _=>n) P++txL n q)).toArray⟩),veq (.string ⟨(((whL n (fun _=>n) P++txL n q)++([59]:List UInt8))).toArray⟩),veq (.pointer (some ⟨bk1,2,none⟩)),veq (c.v),veq (.string ⟨(decT C).toArray⟩),veq (.string ⟨((((whL n (fun _=>n) P++txL n q)++([59]:List UInt8))++decT C)).toArray⟩)] (by kernel_rfl) (by kernel_rfl) (by rfl) (by decide) (by rfl) hZ10 ?_ ?_
   ·
    intro iq hlq hiq LL uu ww aa hLi hLc hJ hd hall hev hin hold
    clear hZ10
    obtain rfl | rfl | rfl | rfl | rfl | rfl | rfl | rfl | rfl | rfl:iq=0∨iq=1∨iq=2∨iq=3∨iq=4∨iq=5∨iq=6∨iq=7∨iq=8∨iq=9:=by omega
    ·
     exact oz rfl (fun _ hK=>wp_move (.tmp 3) rfl (zet ((hev 3 (by decide)).trans rfl)) (hK _ _ hJ rfl vsm))
    ·
     exact oz rfl (fun _ hK=>wp_fda (v:=.pointer (some ⟨bk1,1,none⟩)) 32 (.tmp 1) 1 rfl (zet ((hev 1 (by decide)).trans rfl)) (fun _=>by kernel_rfl) (hK _ _ hJ rfl vsm))
    ·
     exact oz rfl (fun _ hK=>wp_load1 (v:=s.v) 27 (.tmp 22) rfl bk1 1 #[p.v,s.v,.bool c.b,.slice c.a c.n c.c] 32 (hJ.get 0 (f:=Cf bk1 #[p.v,s.v,.bool c.b,.slice c.a c.n c.c] 32) rfl).1 (zj (hin 1 22 rfl) (show uu 1=.pointer (some ⟨bk1,1,none⟩) from (hd 1 (by kernel_rfl)))) ag27 (by kernel_rfl) (hK _ _ hJ rfl vsm))
    ·
     refine oz rfl (fun _ hK=>zcz (.func 18) #[.tmp 23] #[27] 18 #[] #[s.v] _ rfl rfl (map1 (zj (hin 2 23 rfl) (show uu 2=s.v from (hd 2 (by kernel_rfl))))) rfl (fun _ _=>rfl) (tText hJ.nx s (hJ.get 2 (f:=Ls n q s) rfl) bq (by omega) (by omega)) ?_)
     rintro zz ww2 ⟨rfl,hB⟩
     exact ⟨_,rfl,hK _ _ (hJ.later hB) rfl (vlat hB)⟩
    ·
     exact oz rfl (fun _ hK=>wp_sadd (.tmp 21) (.tmp 24) 9 9 rfl rfl (zj (hin 0 21 rfl) (show uu 0=.string ⟨(whL n (fun _=>n) P).toArray⟩ from (hd 0 (by kernel_rfl)))) (zj (hin 3 24 rfl) (show uu 3=.string ⟨(txL n q).toArray⟩ from (hd 3 (by kernel_rfl)))) (by first | omega | (simp only [List.length_append,List.length_cons,List.length_nil]; omega)) (hK _ _ hJ rfl vsm))
    ·
     exact oz rfl (fun _ hK=>wp_sadd (.tmp 25) (.const (.string ⟨([59]).toArray⟩)) 9 9 rfl rfl (zj (hin 4 25 rfl) (show uu 4=.string ⟨((whL n (fun _=>n) P++txL n q)).toArray⟩ from (hd 4 (by kernel_rfl)))) rfl (by first | omega | (simp only [List.length_append,List.length_cons,List.length_nil]; omega)) (hK _ _ hJ rfl vsm))
    ·
     exact oz rfl (fun _ hK=>wp_fda (v:=.pointer (some ⟨bk1,2,none⟩)) 32 (.tmp 1) 2 rfl (zet ((hev 1 (by decide)).trans rfl)) (fun _=>by kernel_rfl) (hK _ _ hJ rfl vsm))
    ·
     exact oz rfl (fun _ hK=>wp_load 30 (.tmp 27) rfl bk1 2 2 #[p.v,s.v,.bool c.b,.slice c.a c.n c.c] #[.bool c.b,.slice c.a c.n c.c] 32 (hJ.get 0 (f:=Cf bk1 #[p.v,s.v,.bool c.b,.slice c.a c.n c.c] 32) rfl).1 (zj (hin 6 27 rfl) (show uu 6=.pointer (some ⟨bk1,2,none⟩) from (hd 6 (by kernel_rfl)))) ag30 sz30 (zzF (by kernel_rfl)) (by kernel_rfl) (hK _ _ hJ rfl vsm))
    ·
     refine oz rfl (fun _ hK=>zcz (.func 14) #[.tmp 28] #[30] 14 #[] #[c.v] _ rfl rfl (map1 (zj (hin 7 28 rfl) (show uu 7=c.v from (hd 7 (by kernel_rfl))))) rfl (fun _ _=>rfl) ((zStr (hJ.get 1 (f:=c.is) rfl) ez_c bC (by omega)).mono (fun _ _ h=>ptxt_dec h)) ?_)
     rintro zz ww2 ⟨rfl,hB⟩
     exact ⟨_,rfl,hK _ _ (hJ.later hB) rfl (vlat hB)⟩
    ·
     exact oz rfl (fun _ hK=>wp_sadd (.tmp 26) (.tmp 29) 9 9 rfl rfl (zj (hin 5 26 rfl) (show uu 5=.string ⟨(((whL n (fun _=>n) P++txL n q)++([59]:List UInt8))).toArray⟩ from (hd 5 (by kernel_rfl)))) (zj (hin 8 29 rfl) (show uu 8=.string ⟨(decT C).toArray⟩ from (hd 8 (by kernel_rfl)))) (by first | omega | (simp only [List.length_append,List.length_cons,List.length_nil]; omega)) (hK _ _ hJ rfl vsm))
   clear hZ10
   intro uu W3 hZ11 hd
   have e_0:uu 0=.string ⟨(whL n (fun _=>n) P).toArray⟩:=hd 0 (by decide)
   have e_1:uu 1=.pointer (some ⟨bk1,1,none⟩):=hd 1 (by decide)
   have e_2:uu 2=s.v:=hd 2 (by decide)
   have e_3:uu 3=.string ⟨(txL n q).toArray⟩:=hd 3 (by decide)
   have e_4:uu 4=.string ⟨((whL n (fun _=>n) P++txL n q)).toArray⟩:=hd 4 (by decide)
   have e_5:uu 5=.string ⟨(((whL n (fun _=>n) P++txL n q)++([59]:List UInt8))).toArray⟩:=hd 5 (by decide)
   have e_6:uu 6=.pointer (some ⟨bk1,2,none⟩):=hd 6 (by decide)
   have e_7:uu 7=c.v:=hd 7 (by decide)
   have e_8:uu 8=.string ⟨(decT C).toArray⟩:=hd 8 (by decide)
   have e_9:uu 9=.string ⟨((((whL n (fun _=>n) P++txL n q)++([59]:List UInt8))++decT C)).toArray⟩:=hd 9 (by decide)
   clear hd
   simp only [layS,Act.put,zzC,zzD,zzE,Nat.zero_add,Nat.reduceAdd,List.drop_succ_cons,List.drop_zero,List.drop_nil,e_0,e_1,e_2,e_3,e_4,e_5,e_6,e_7,e_8,e_9]
   clear e_0 e_1 e_2 e_3 e_4 e_5 e_6 e_7 e_8 e_9
   go_wp2
   go_ret
   exact ⟨rfl,hZ11.below⟩
theorem dt_1 (f:Nat→Nat→Int):M.dt 1 f=f 0 0:=by
 simp [M.dt,M.sm,M.sg]
abbrev eP:Nat→Nat→Int:=m2 (l2 2 1) (l2 1 3)
abbrev eq_:Nat→Int:=l2 1 2
def l1 (a:Int) (i:Nat):Int:=if i=0 then a else 0
theorem u_txt (z:Int) (l:List UInt8) (h:Txt z l):decT z=l:=(decT_eq h).symm
theorem e_val:decT (Vq 2 eP eq_ 4 (xl 2 (l2 1 1)))=[53]:=by
 rw [show Vq 2 eP eq_ 4 (xl 2 (l2 1 1))=5 by decide]; exact u_txt _ _ txt_5
theorem e_slope (x:Nat→Int):txL 2 (fun i=>M.mulv 2 eP (xl 0 x) i - eq_ i)=[45,49,32,45,50,32]:=by
 have hx:∀ i,xl 0 x i=0:=fun i=>by unfold xl; rw [if_neg (Nat.not_lt_zero i)]
 have hm:∀ i,M.mulv 2 eP (xl 0 x) i=0:=fun i=>by unfold M.mulv; exact M.sm_zero fun j _=>by rw [hx,Int.mul_zero]
 simp only [txL,hm]
 rw [show (0:Int) - eq_ 0=-1 by decide,show (0:Int) - eq_ 1=-2 by decide,u_txt (-1) [45,49] ⟨by decide +kernel,by decide +kernel⟩,u_txt (-2) [45,50] ⟨by decide +kernel,by decide +kernel⟩]
 rfl
theorem e_c0:crx 2 eP eq_ 0=1:=by unfold crx; rw [M.dt_two]; decide
theorem e_c1:crx 2 eP eq_ 1=3:=by unfold crx; rw [M.dt_two]; decide
theorem e_num:txL 2 (crx 2 eP eq_)=[49,32,51,32]:=by
 simp only [txL]
 rw [e_c0,e_c1,u_txt 1 [49] ⟨by decide +kernel,by decide +kernel⟩,u_txt 3 [51] ⟨by decide +kernel,by decide +kernel⟩]
 rfl
theorem e_den:decT (M.dt 2 eP)=[53]:=a_txt
theorem e_top:decT (topq 2 eP eq_ 4)=[49,51]:=by
 have:topq 2 eP eq_ 4=13:=by
  unfold topq
  rw [a_det]
  simp only [M.sm]
  rw [e_c0,e_c1]
  decide
 rw [this]; exact u_txt _ _ ⟨by decide +kernel,by decide +kernel⟩
theorem e_with:whU 1 eP (wq 1 1 eP eq_ (xl 1 (l1 1))) (wc 1 1 eP eq_ 4 (xl 1 (l1 1)))=[50,32,59,48,32,59,51]:=by
 unfold whU
 simp only [whL,txL]
 rw [show eP 0 0=2 by decide,show wq 1 1 eP eq_ (xl 1 (l1 1)) 0=0 by decide,show wc 1 1 eP eq_ 4 (xl 1 (l1 1))=3 by decide,u_txt 2 [50] ⟨by decide +kernel,by decide +kernel⟩,u_txt 0 [48] ⟨by decide +kernel,by decide +kernel⟩,u_txt 3 [51] ⟨by decide +kernel,by decide +kernel⟩]
 rfl
theorem e_cr (b:Nat→Int):crx 1 eP b 0=b 0:=by unfold crx; rw [dt_1]; rfl
theorem e_scale:decT (M.dt 1 eP)=[50]:=by
 rw [dt_1,show eP 0 0=2 by decide]; exact u_txt _ _ ⟨by decide +kernel,by decide +kernel⟩
theorem e_wo:whU 1 (lp 1 eP) (lq 1 eP eq_) (lc 1 eP eq_ 4)=[53,32,59,51,32,59,55]:=by
 have h1:lp 1 eP 0 0=5:=by
  unfold lp; rw [dt_1]; simp only [M.sm]; rw [e_cr]; decide
 have h2:lq 1 eP eq_ 0=3:=by
  unfold lq; rw [dt_1]; simp only [M.sm]; rw [e_cr]; decide
 have h3:lc 1 eP eq_ 4=7:=by
  unfold lc; rw [dt_1]; simp only [M.sm]; rw [e_cr]; decide
 unfold whU
 simp only [whL,txL]
 rw [h1,h2,h3,u_txt 5 [53] txt_5,u_txt 3 [51] ⟨by decide +kernel,by decide +kernel⟩,u_txt 7 [55] ⟨by decide +kernel,by decide +kernel⟩]
 rfl
theorem e_def1:Sym 1 eP∧∀ i,i < 1→0 < M.dt (i+1) eP:=by
 refine ⟨fun i j hi hj=>?_,fun i hi=>?_⟩
 ·
  obtain rfl:i=0:=by omega
  obtain rfl:j=0:=by omega
  rfl
 ·
  obtain rfl:i=0:=by omega
  rw [dt_1]; decide
theorem e_nosym:¬ Sym 2 (m2 (l2 1 2) (l2 3 1)):=fun h=>absurd (h 0 1 (by omega) (by omega)) (by decide)
section
variable {P:Program} {Q:Exit→Act→World→Prop} {a:Act} {w W:World} {X0 X:Nat→Prop} {o:Oper} {l:BX} {fs:List Fa} {next:Act→World→Prop}
/-- A list of one int64 is built. -/
theorem wp_bi1 {t e:TypeId} {by_:Nat} {z:Value} (hI:EInf P t e 1 z by_) (x:Operand) {v:Int} (ho:o.op=.buildSlice t 1 #[(0,x)]) (hx:a.eval x=.int .i64 v) (h:Zs w W X0 X l fs) (K:∀ (s:Sl) (W':World),Zs w W' X0 X l (Li 1 (l1 v) s :: fs)→next (a.put o.dst s.v) W'):o.wp P a W next Q:=by
 refine wp_bsv hI x (.int .i64 v) ho hx rfl h fun s W' hz=>?_
 refine K s W' ((hz.more (Li.stb _ _ _) ?_).only _ (by
  intro g hg
  rcases List.mem_cons.1 hg with rfl | hg
  ·
   exact List.mem_cons_self ..
  ·
   exact List.mem_cons_of_mem _ (List.mem_cons_of_mem _ hg)))
 have hv:=hz.get 0 (f:=Vs 1 (fun _=>.int .i64 v) s) rfl
 refine ⟨hv.n,hv.sq.congr fun i cs hi hc=>?_⟩
 have hc':cs=[.int .i64 v]:=hc
 have:=hv.n
 obtain rfl:i=0:=by omega
 exact hc'
end
theorem li_nil (x:Nat→Int) (X:Nat→Prop) (W:World):Li 0 x slz X W:=⟨rfl,Nat.le_refl _,Nat.zero_le _,fun _=>⟨rfl,rfl⟩,nofun,nofun⟩
theorem eP_in (i j:Nat):-9223372036854775808≤eP i j∧eP i j≤9223372036854775807:=m2_in (by decide) (by decide) (by decide) (by decide) i j
theorem eq_in (i:Nat):-9223372036854775808≤eq_ i∧eq_ i≤9223372036854775807:=l2_in (by decide) (by decide) i
theorem eP_sz (i j:Nat):Sz 2 (eP i j):=sz_int (eP_in i j).1 (eP_in i j).2
theorem eq_sz (i:Nat):Sz 2 (eq_ i):=sz_int (eq_in i).1 (eq_in i).2
theorem l1_in {k:Nat} (i:Nat) (_:i < k):-9223372036854775808≤l1 1 i∧l1 1 i≤9223372036854775807:=by unfold l1; split <;> omega
theorem e_4:Sz 2 4:=sz_int (by decide) (by decide)
theorem e_slope_sz (x:Nat→Int) (i:Nat) (_:i < 2):Sz 9 (M.mulv 2 eP (xl 0 x) i - eq_ i):=Sz.minus (e:=8) ((sm_sz (fun (t:Nat) _=>Sz.mul (eP_sz i t) (xl_in (x:=x) (fun i hi=>absurd hi (Nat.not_lt_zero i)) t))).mono (by omega)) ((eq_sz i).mono (by omega))
theorem e_top_sz:Sz 60 (topq 2 eP eq_ 4):=(lc_sz (k:=2) (fun i j _ _=>eP_sz i j) (fun i _=>eq_sz i) e_4).mono (by unfold lpb; decide)
theorem e_wq_sz (i:Nat) (hi:i < 1):Sz 2 (wq 1 1 eP eq_ (xl 1 (l1 1)) i):=by
 obtain rfl:i=0:=by omega
 exact sz_int (by decide) (by decide)
theorem e_wc_sz:Sz 2 (wc 1 1 eP eq_ 4 (xl 1 (l1 1))):=sz_int (by decide) (by decide)
theorem e_lp_sz (i j:Nat) (hi:i < 1) (hj:j < 1):Sz 30 (lp 1 eP i j):=(lp_sz (k:=1) (r:=1) (n:=2) (by omega) (fun i j _ _=>eP_sz i j) hi hj).mono (by unfold lpb; decide)
theorem e_lq_sz (i:Nat) (hi:i < 1):Sz 30 (lq 1 eP eq_ i):=(lq_sz (k:=1) (r:=1) (fun i j _ _=>eP_sz i j) (fun i _=>eq_sz i) hi).mono (by unfold lpb; decide)
theorem e_lc_sz:Sz 30 (lc 1 eP eq_ 4):=(lc_sz (k:=1) (fun i j _ _=>eP_sz i j) (fun i _=>eq_sz i) e_4).mono (by unfold lpb; decide)
theorem e_sym:Sym 2 eP:=a_def.1
end Go.Proofs.YtjclllindbfmhabGreatDoor
