/- Parts of the proof. -/
/- Determinants of whole numbers: by the first column and by the first row, the rules of the chapter, equations, and what taking columns out does. No statement of the seat is proved here. -/
set_option linter.unusedSimpArgs false
set_option linter.unusedVariables false
namespace Go.Proofs.YtjclllindbfmhabGreatDoor.M
/-- A sum over the places below n. -/
def sm:Nat→(Nat→Int)→Int
 | 0,_=>0
 | n+1,f=>sm n f+f n
/-- The a-th place, without place i. -/
def sk (i a:Nat):Nat:=if a < i then a else a+1
/-- 1 or -1. -/
def sg (i:Nat):Int:=if i % 2=0 then 1 else -1
/-- The determinant, by its first column. -/
def dt:Nat→(Nat→Nat→Int)→Int
 | 0,_=>1
 | n+1,f=>sm (n+1) fun i=>sg i*f i 0*dt n (fun a b=>f (sk i a) (b+1))
theorem sg_succ (i:Nat):sg (i+1)=- sg i:=by unfold sg; split <;> split <;> omega
theorem sg_sq (i:Nat):sg i*sg i=1:=by unfold sg; split <;> rfl
theorem sg_ne (i:Nat):sg i ≠ 0:=by unfold sg; split <;> decide
theorem sm_congr {n:Nat} {f g:Nat→Int} (h:∀ i,i < n→f i=g i):sm n f=sm n g:=by
 induction n with
 | zero=>rfl
 | succ n ih=>simp only [sm]; rw [ih fun i hi=>h i (by omega),h n (by omega)]
theorem sm_zero {n:Nat} {f:Nat→Int} (h:∀ i,i < n→f i=0):sm n f=0:=by
 induction n with
 | zero=>rfl
 | succ n ih=>simp only [sm]; rw [ih fun i hi=>h i (by omega),h n (by omega)]; rfl
theorem sm_add (n:Nat) (f g:Nat→Int):sm n (fun i=>f i+g i)=sm n f+sm n g:=by
 induction n with
 | zero=>rfl
 | succ n ih=>simp only [sm,ih]; omega
theorem sm_mul (n:Nat) (c:Int) (f:Nat→Int):sm n (fun i=>c*f i)=c*sm n f:=by
 induction n with
 | zero=>simp [sm]
 | succ n ih=>simp only [sm,ih,Int.mul_add]
theorem sm_neg (n:Nat) (f:Nat→Int):sm n (fun i=>- f i)=- sm n f:=by
 induction n with
 | zero=>simp [sm]
 | succ n ih=>simp only [sm,ih,Int.neg_add]
theorem sm_swap (n m:Nat) (f:Nat→Nat→Int):sm n (fun i=>sm m (fun j=>f i j))=sm m (fun j=>sm n (fun i=>f i j)):=by
 induction n with
 | zero=>exact (sm_zero fun _ _=>rfl).symm
 | succ n ih=>simp only [sm]; rw [ih,← sm_add]
theorem sm_head (n:Nat) (f:Nat→Int):sm (n+1) f=f 0+sm n (fun i=>f (i+1)):=by
 induction n with
 | zero=>simp [sm]
 | succ n ih=>rw [sm,ih]; simp only [sm]; omega
/-- One place alone. -/
theorem sm_one {n k:Nat} {f:Nat→Int} (hk:k < n) (h:∀ i,i < n→i ≠ k→f i=0):sm n f=f k:=by
 induction n with
 | zero=>omega
 | succ n ih =>
  simp only [sm]
  by_cases e:k=n
  ·
   subst e; rw [sm_zero fun i hi=>h i (by omega) (by omega)]; omega
  ·
   rw [ih (by omega) fun i hi hne=>h i (by omega) hne,h n (by omega) (fun x=>e x.symm)]; omega
/-- Two places alone. -/
theorem sm_two {n k l:Nat} {f:Nat→Int} (hk:k < l) (hl:l < n) (h:∀ i,i < n→i ≠ k→i ≠ l→f i=0):sm n f=f k+f l:=by
 induction n with
 | zero=>omega
 | succ n ih =>
  simp only [sm]
  by_cases e:l=n
  ·
   subst e; rw [sm_one hk fun i hi hne=>h i (by omega) hne (by omega)]
  ·
   rw [ih (by omega) fun i hi h1 h2=>h i (by omega) h1 h2,h n (by omega) (by omega) (fun x=>e x.symm)]; omega
theorem sk_lt {i a n:Nat} (h:a < n):sk i a < n+1:=by unfold sk; split <;> omega
theorem sk_ne (i a:Nat):sk i a ≠ i:=by unfold sk; split <;> omega
theorem dt_congr:∀ {n:Nat} {f g:Nat→Nat→Int},(∀ i j,i < n→j < n→f i j=g i j)→dt n f=dt n g
 | 0,_,_,_=>rfl
 | n+1,f,g,h=>by
  simp only [dt]
  refine sm_congr fun i hi=>?_
  rw [h i 0 hi (by omega),dt_congr (n:=n) (g:=fun a b=>g (sk i a) (b+1)) fun a b ha hb=>h _ _ (sk_lt ha) (by omega)]
/-- Row k is another one. -/
def rw' (f:Nat→Nat→Int) (k:Nat) (u:Nat→Int):Nat→Nat→Int:=fun i j=>if i=k then u j else f i j
theorem rw_self (f:Nat→Nat→Int) (k:Nat) (u:Nat→Int) (j:Nat):rw' f k u k j=u j:=by simp [rw']
theorem rw_ne {f:Nat→Nat→Int} {k i:Nat} {u:Nat→Int} (h:i ≠ k) (j:Nat):rw' f k u i j=f i j:=by simp [rw',h]
/-- Where row k stands without row i. -/
def un (i k:Nat):Nat:=if k < i then k else k - 1
theorem sk_un {i k a:Nat} (h:i ≠ k):(sk i a=k)=(a=un i k):=by
 unfold sk un
 refine propext ?_
 split <;> split <;> omega
theorem dt_lin:∀ {n k:Nat} (f:Nat→Nat→Int) (u v:Nat→Int) (a b:Int),k < n →
  dt n (rw' f k (fun j=>a*u j+b*v j))=a*dt n (rw' f k u)+b*dt n (rw' f k v)
 | n+1,k,f,u,v,a,b,hk=>by
  simp only [dt]
  rw [← sm_mul,← sm_mul,← sm_add]
  refine sm_congr fun i hi=>?_
  by_cases e:i=k
  ·
   subst e
   have h:∀ x:Nat→Int,dt n (fun a b=>rw' f i x (sk i a) (b+1))=dt n (fun a b=>f (sk i a) (b+1)):=fun x=>dt_congr fun p q _ _=>rw_ne (sk_ne _ _) _
   rw [h,h,h,rw_self,rw_self,rw_self]
   grind
  ·
   have h:∀ x:Nat→Int,(fun a b=>rw' f k x (sk i a) (b+1))=rw' (fun a b=>f (sk i a) (b+1)) (un i k) (fun j=>x (j+1)):=by
    intro x
    funext p q
    simp only [rw',sk_un e]
   rw [h,h,h,rw_ne e,rw_ne e,rw_ne e]
   have:=dt_lin (n:=n) (k:=un i k) (fun a b=>f (sk i a) (b+1)) (fun j=>u (j+1)) (fun j=>v (j+1)) a b (by unfold un; split <;> omega)
   rw [this]
   grind
theorem dt_adj:∀ {n k:Nat} {f:Nat→Nat→Int},k+1 < n→(∀ j,j < n→f k j=f (k+1) j)→dt n f=0
 | n+1,k,f,hk,h=>by
  simp only [dt]
  rw [sm_two (k:=k) (l:=k+1) (by omega) hk]
  ·
   have e:dt n (fun a b=>f (sk k a) (b+1))=dt n (fun a b=>f (sk (k+1) a) (b+1)):=by
    refine dt_congr fun a b _ hb=>?_
    unfold sk
    by_cases h1:a < k
    ·
     rw [if_pos h1,if_pos (by omega)]
    ·
     by_cases h2:a=k
     ·
      subst h2; rw [if_neg h1,if_pos (by omega)]; exact (h _ (by omega)).symm
     ·
      rw [if_neg h1,if_neg (by omega)]
   rw [e,h 0 (by omega),sg_succ]
   grind
  ·
   intro i hi h1 h2
   rw [dt_adj (n:=n) (k:=un i k)]
   ·
    simp
   ·
    unfold un; split <;> omega
   ·
    intro j hj
    have e1:sk i (un i k)=k:=by rw [sk_un h1]
    have e2:sk i (un i k+1)=k+1:=by
     unfold sk un
     by_cases q1:k < i
     ·
      rw [if_pos q1,if_pos (by omega)]
     ·
      rw [if_neg q1,if_neg (by omega)]; omega
    simp only [e1,e2]
    exact h _ (by omega)
/-- What is linear in each of n rows, and 0 where two of them that stand side by side are alike. -/
structure Alt (n:Nat) (F:(Nat→Nat→Int)→Int):Prop where
 congr:∀ f g,(∀ i j,i < n→j < n→f i j=g i j)→F f=F g
 lin:∀ (k:Nat) (f:Nat→Nat→Int) (u v:Nat→Int) (a b:Int),k < n→F (rw' f k (fun j=>a*u j+b*v j))=a*F (rw' f k u)+b*F (rw' f k v)
 adj:∀ (k:Nat) (f:Nat→Nat→Int),k+1 < n→(∀ j,j < n→f k j=f (k+1) j)→F f=0
theorem dt_alt (n:Nat):Alt n (dt n):=⟨fun _ _ h=>dt_congr h,fun _ f u v a b h=>dt_lin f u v a b h,fun _ _ h e=>dt_adj h e⟩
/-- Rows k and k + 1 change places. -/
def tr (k a:Nat):Nat:=if a=k then k+1 else if a=k+1 then k else a
/-- Row p goes ahead of all. -/
def mv (p a:Nat):Nat:=if a=0 then p else if a≤p then a - 1 else a
section
variable {n:Nat} {F:(Nat→Nat→Int)→Int}
theorem Alt.swap (h:Alt n F) {k:Nat} (f:Nat→Nat→Int) (hk:k+1 < n):F (fun a b=>f (tr k a) b)=- F f:=by
 have hz:∀ u:Nat→Int,F (rw' (rw' f k u) (k+1) u)=0:=fun u=>h.adj k _ hk fun j _=>by rw [rw_ne (by omega),rw_self,rw_self]
 have hl:∀ u v:Nat→Int,F (rw' (rw' f k (fun j=>1*u j+1*v j)) (k+1) (fun j=>1*u j+1*v j))=F (rw' (rw' f k u) (k+1) u)+F (rw' (rw' f k u) (k+1) v)+(F (rw' (rw' f k v) (k+1) u)+F (rw' (rw' f k v) (k+1) v)):=by
  intro u v
  rw [h.lin (k+1) _ u v 1 1 hk]
  have c:∀ x y:Nat→Int,rw' (rw' f k x) (k+1) y=rw' (rw' f (k+1) y) k x:=by
   intro x y
   funext i j
   simp only [rw']
   by_cases e1:i=k <;> by_cases e2:i=k+1 <;> simp [e1,e2] <;> omega
  rw [c,c,h.lin k _ u v 1 1 (by omega),h.lin k _ u v 1 1 (by omega),c u u,c u v,c v u,c v v]
  omega
 have:=hl (f k) (f (k+1))
 rw [hz,hz,hz] at this
 have e1:F (rw' (rw' f k (f k)) (k+1) (f (k+1)))=F f:=h.congr _ _ fun i j _ _=>by
  simp only [rw']; by_cases e1:i=k <;> by_cases e2:i=k+1 <;> simp [e1,e2] <;> omega
 have e2:F (rw' (rw' f k (f (k+1))) (k+1) (f k))=F (fun a b=>f (tr k a) b):=h.congr _ _ fun i j _ _=>by
  simp only [rw',tr]
  by_cases e1:i=k
  ·
   subst e1; simp
  ·
   by_cases e2:i=k+1
   ·
    subst e2; simp
   ·
    simp [e1,e2]
 rw [e1,e2] at this
 omega
theorem Alt.move (h:Alt n F):∀ (p:Nat) (f:Nat→Nat→Int),p < n→F (fun a b=>f (mv p a) b)=sg p*F f
 | 0,f,_=>by
  rw [show sg 0=1 from rfl,Int.one_mul]
  exact h.congr _ _ fun i j _ _=>by unfold mv; split <;> simp_all
 | p+1,f,hp=>by
  rw [sg_succ,show (-sg p)*F f=sg p*(- F f) by grind,← h.swap f hp,← Alt.move h p (fun a b=>f (tr p a) b) (by omega)]
  refine h.congr _ _ fun i j _ _=>?_
  have:mv (p+1) i=tr p (mv p i):=by
   unfold mv tr
   by_cases e:i=0
   ·
    simp [e]
   ·
    by_cases e1:i≤p
    ·
     simp only [e,if_false,e1,if_true,show i≤p+1 by omega]
     rw [if_neg (by omega),if_neg (by omega)]
    ·
     by_cases e2:i=p+1
     ·
      subst e2; simp
     ·
      simp only [e,if_false,e1,show ¬ i≤p+1 by omega]
      rw [if_neg (by omega),if_neg (by omega)]
  rw [this]
theorem Alt.same (h:Alt n F) {i k:Nat} {f:Nat→Nat→Int} (hik:i < k) (hk:k < n) (e:∀ j,j < n→f i j=f k j):F f=0:=by
 have h1:=h.move k f hk
 have h2:=h.move (i+1) (fun a b=>f (mv k a) b) (by omega)
 rw [h1] at h2
 have h3:F (fun a b=>f (mv k (mv (i+1) a)) b)=0:=h.adj 0 _ (by omega) fun j hj=>by
  have e1:mv k (mv (i+1) 0)=i:=by unfold mv; simp; omega
  have e2:mv k (mv (i+1) (0+1))=k:=by unfold mv; simp
  rw [e1,e2]
  exact e j hj
 rw [h3] at h2
 have:=sg_ne k
 have:=sg_ne (i+1)
 rcases Int.mul_eq_zero.1 h2.symm with h4 | h4
 ·
  omega
 ·
  rcases Int.mul_eq_zero.1 h4 with h5 | h5
  ·
   omega
  ·
   exact h5
/-- So many times another row is added to a row. -/
theorem Alt.addrow (h:Alt n F) {i k:Nat} (f:Nat→Nat→Int) (c x:Int) (hik:i ≠ k) (hi:i < n) (hk:k < n):F (rw' f i (fun j=>c*f i j+x*f k j))=c*F f:=by
 rw [h.lin i f (f i) (f k) c x hi]
 have e1:F (rw' f i (f i))=F f:=h.congr _ _ fun a b _ _=>by simp only [rw']; split <;> simp_all
 have e2:F (rw' f i (f k))=0:=by
  rcases Nat.lt_or_gt_of_ne hik with hl | hl
  ·
   exact h.same hl hk fun j _=>by rw [rw_self,rw_ne (by omega)]
  ·
   exact h.same hl hi fun j _=>by rw [rw_self,rw_ne (by omega)]
 rw [e1,e2]; omega
/-- Rows 1 to s: so many times themselves, and so many times row 0. -/
theorem Alt.clear (h:Alt n F) (f:Nat→Nat→Int) (c:Int) (x:Nat→Int):∀ s,s < n→F (fun i j=>if 0 < i∧i≤s then c*f i j+x i*f 0 j else f i j)=c ^ s*F f
 | 0,_=>by
  rw [Int.pow_zero,Int.one_mul]
  exact h.congr _ _ fun i j _ _=>by rw [if_neg (by omega)]
 | s+1,hs=>by
  rw [Int.pow_succ,Int.mul_comm (c ^ s),Int.mul_assoc,← Alt.clear h f c x s (by omega)]
  rw [← h.addrow (i:=s+1) (k:=0) _ c (x (s+1)) (by omega) hs (by omega)]
  refine h.congr _ _ fun i j _ _=>?_
  simp only [rw']
  by_cases e:i=s+1
  ·
   subst e
   rw [if_pos (by omega),if_pos rfl,if_neg (by omega),if_neg (by omega)]
  ·
   rw [if_neg e]
   by_cases e1:0 < i∧i≤s
   ·
    rw [if_pos e1,if_pos (by omega)]
   ·
    rw [if_neg e1,if_neg (by omega)]
end
/-- The determinant by its first row. -/
theorem dt_row:∀ (n:Nat) (f:Nat→Nat→Int),dt (n+1) f=sm (n+1) fun j=>sg j*f 0 j*dt n (fun a b=>f (a+1) (sk j b))
 | 0,f=>by simp [dt,sm]
 | n+1,f=>by
  rw [dt,sm_head,sm_head (n+1)]
  congr 1
  have e1:∀ i,i < n+1→sg (i+1)*f (i+1) 0*dt (n+1) (fun a b=>f (sk (i+1) a) (b+1))=sm (n+1) fun j=>- (sg i*sg j)*f (i+1) 0*f 0 (j+1)*dt n (fun a b=>f (sk i a+1) (sk j b+1)):=by
   intro i hi
   rw [dt_row n,← sm_mul]
   refine sm_congr fun j hj=>?_
   have:(fun a b=>f (sk (i+1) (a+1)) (sk j b+1))=fun a b=>f (sk i a+1) (sk j b+1):=by
    funext a b
    have:sk (i+1) (a+1)=sk i a+1:=by unfold sk; split <;> split <;> omega
    rw [this]
   simp only [this,sg_succ,show sk (i+1) 0=0 from rfl]
   grind
  have e2:∀ j,j < n+1→sg (j+1)*f 0 (j+1)*dt (n+1) (fun a b=>f (a+1) (sk (j+1) b))=sm (n+1) fun i=>- (sg i*sg j)*f (i+1) 0*f 0 (j+1)*dt n (fun a b=>f (sk i a+1) (sk j b+1)):=by
   intro j hj
   rw [dt,← sm_mul]
   refine sm_congr fun i hi=>?_
   have:(fun a b=>f (sk i a+1) (sk (j+1) (b+1)))=fun a b=>f (sk i a+1) (sk j b+1):=by
    funext a b
    have:sk (j+1) (b+1)=sk j b+1:=by unfold sk; split <;> split <;> omega
    rw [this]
   simp only [this,sg_succ,show sk (j+1) 0=0 from rfl]
   grind
  rw [sm_congr e1,sm_congr e2,sm_swap]
theorem dt_tr:∀ (n:Nat) (f:Nat→Nat→Int),dt n (fun a b=>f b a)=dt n f
 | 0,_=>rfl
 | n+1,f=>by
  rw [dt,dt_row]
  refine sm_congr fun i hi=>?_
  rw [← dt_tr n (fun a b=>f (a+1) (sk i b))]
/-- Chio: with row 0 taken out of the others. -/
theorem chio (n:Nat) (f:Nat→Nat→Int):f 0 0*dt n (fun a b=>f 0 0*f (a+1) (b+1) - f (a+1) 0*f 0 (b+1))=f 0 0 ^ n*dt (n+1) f:=by
 rw [← (dt_alt (n+1)).clear f (f 0 0) (fun i=>- f i 0) n (by omega),dt,sm_one (k:=0) (by omega)]
 ·
  simp only [show sg 0=1 from rfl,Int.one_mul,show ¬ (0 < 0∧0≤n) by omega,if_false]
  congr 1
  refine dt_congr fun a b ha _=>?_
  have:sk 0 a=a+1:=rfl
  rw [this,if_pos (by omega)]
  grind
 ·
  intro i hi hne
  rw [if_pos (by omega)]
  have:f 0 0*f i 0+-f i 0*f 0 0=0:=by grind
  rw [this]; simp
/-- Column j is another one. -/
def cl' (f:Nat→Nat→Int) (j:Nat) (b:Nat→Int):Nat→Nat→Int:=fun i c=>if c=j then b i else f i c
theorem cramer {n i:Nat} (a:Nat→Nat→Int) (b:Nat→Int) (hi:i < n):sm n (fun j=>a i j*dt n (cl' a j b))=dt n a*b i:=by
 have hG:=(dt_alt (n+1)).same (i:=0) (k:=i+1) (f:=fun r c=>match r,c with
  | 0,0=>b i
  | 0,c+1=>a i c
  | r+1,0=>b r
  | r+1,c+1=>a r c) (by omega) (by omega) (fun j _=>by cases j <;> rfl)
 rw [dt_row,sm_head] at hG
 simp only [show sg 0=1 from rfl,Int.one_mul] at hG
 have e0:dt n (fun a_1 b_1=>match a_1+1,sk 0 b_1 with
  | 0,0=>b i
  | 0,c+1=>a i c
  | r+1,0=>b r
  | r+1,c+1=>a r c)=dt n a:=dt_congr fun p q _ _=>rfl
 have e1:∀ j,j < n→dt n (fun r c=>match sk (j+1) c with
  | 0=>b r
  | c+1=>a r c)=sg j*dt n (cl' a j b):=by
  intro j hj
  rw [← dt_tr n (cl' a j b),← (dt_alt n).move j _ hj,← dt_tr]
  refine dt_congr fun c r _ _=>?_
  simp only [cl',mv]
  cases c with
  | zero=>simp [sk]
  | succ c =>
   by_cases h1:c+1≤j
   ·
    simp only [sk,show c+1 < j+1 by omega,if_true,h1]
    simp
    intro h2; omega
   ·
    simp only [sk,show ¬ c+1 < j+1 by omega,if_false,h1]
    simp
    intro h2; omega
 have e2:∀ j,j < n→(sg (j+1)*a i j*dt n (fun r c=>match r+1,sk (j+1) c with
  | 0,0=>b i
  | 0,c+1=>a i c
  | r+1,0=>b r
  | r+1,c+1=>a r c))=- (a i j*dt n (cl' a j b)):=by
  intro j hj
  rw [sg_succ]
  have:=e1 j hj
  have h2:dt n (fun r c=>match r+1,sk (j+1) c with
  | 0,0=>b i
  | 0,c+1=>a i c
  | r+1,0=>b r
  | r+1,c+1=>a r c)=sg j*dt n (cl' a j b):=this ▸ dt_congr fun p q _ _=>by cases sk (j+1) q <;> rfl
  rw [h2]
  have:=sg_sq j
  grind
 rw [e0,sm_congr e2,sm_neg] at hG
 grind
/-- The product with a list. -/
def mulv (n:Nat) (A:Nat→Nat→Int) (x:Nat→Int) (i:Nat):Int:=sm n (fun k=>A i k*x k)
theorem dt_scale (n:Nat) (c:Int) (f:Nat→Nat→Int):dt n (fun i j=>c*f i j)=c ^ n*dt n f:=by
 induction n generalizing f with
 | zero=>simp [dt]
 | succ n ih =>
  simp only [dt]
  rw [← sm_mul]
  refine sm_congr fun i _=>?_
  have:=ih (fun a b=>f (sk i a) (b+1))
  rw [this,Int.pow_succ]
  grind
/-- The rows without row p, which takes the first column out of them. -/
def cnd (B:Nat→Nat→Int) (p:Nat) (d:Int) (i j:Nat):Int:=Int.fdiv (B p 0*B (sk p i) (j+1) - B (sk p i) 0*B p (j+1)) d
/-- Each determinant of s + 1 rows and columns goes by d, s times. -/
def Dv (m c:Nat) (B:Nat→Nat→Int) (d:Int):Prop:=d ≠ 0∧∀ (s:Nat) (r k:Nat→Nat),(∀ a,a < s+1→r a < m)→(∀ a,a < s+1→k a < c)→d ^ s ∣ dt (s+1) (fun a b=>B (r a) (k b))
theorem dv_one (m c:Nat) (B:Nat→Nat→Int):Dv m c B 1:=⟨by decide,fun s _ _ _ _=>by rw [Int.one_pow]; exact Int.one_dvd _⟩
theorem dt_two (f:Nat→Nat→Int):dt 2 f=f 0 0*f 1 1 - f 1 0*f 0 1:=by
 simp only [dt,sm,sg,sk]
 simp
 grind
/-- Row p, and then those rows behind it. -/
def ahd (p:Nat) (r:Nat→Nat):Nat→Nat
 | 0=>p
 | a+1=>sk p (r a)
def kol (k:Nat→Nat):Nat→Nat
 | 0=>0
 | b+1=>k b+1
theorem ahd_mv (p a:Nat):ahd p (fun x=>x) a=mv p a:=by
 cases a with
 | zero=>rfl
 | succ a=>show sk p a=_; unfold mv sk; simp only [show a+1 ≠ 0 by omega,if_false]; split <;> split <;> omega
theorem ahd_id (a:Nat):ahd 0 (fun x=>x) a=a:=by cases a <;> rfl
theorem kol_id (b:Nat):kol (fun x=>x) b=b:=by cases b <;> rfl
section
variable {m c p:Nat} {B:Nat→Nat→Int} {d:Int}
theorem Dv.exact (h:Dv (m+1) (c+1) B d) (hp:p < m+1) {i j:Nat} (hi:i < m) (hj:j < c):d*cnd B p d i j=B p 0*B (sk p i) (j+1) - B (sk p i) 0*B p (j+1):=by
 have:=h.2 1 (fun a=>if a=0 then p else sk p i) (fun b=>if b=0 then 0 else j+1) (fun a _=>by split; exact hp; exact sk_lt hi) (fun a _=>by split <;> omega)
 rw [dt_two,Int.pow_one] at this
 simp only [if_true,show ¬ (1:Nat)=0 by omega,if_false] at this
 exact Int.mul_fdiv_cancel' this
theorem Dv.minor (h:Dv (m+1) (c+1) B d) (hp:p < m+1) {s:Nat} {r k:Nat→Nat} (hr:∀ a,a < s→r a < m) (hk:∀ a,a < s→k a < c) :
  B p 0*(d ^ s*dt s (fun a b=>cnd B p d (r a) (k b)))=B p 0 ^ s*dt (s+1) (fun a b=>B (ahd p r a) (kol k b)):=by
 have hc:=chio s (fun a b=>B (ahd p r a) (kol k b))
 refine Eq.trans ?_ hc
 rw [← dt_scale]
 refine congrArg (B p 0*·) ?_
 exact dt_congr fun a b ha hb=>h.exact hp (hr a ha) (hk b hb)
theorem Dv.next (h:Dv (m+1) (c+1) B d) (hp:p < m+1) (hb:B p 0 ≠ 0):Dv m c (cnd B p d) (B p 0):=by
 refine ⟨hb,fun s r k hr hk=>?_⟩
 obtain ⟨q,hq⟩:=h.2 (s+1) (ahd p r) (kol k)
  (fun a ha=>by cases a with | zero=>exact hp | succ a=>exact sk_lt (hr a (by omega)))
  (fun a ha=>by cases a with | zero=>show 0 < c+1; omega | succ a=>have:=hk a (by omega); show k a+1 < c+1; omega)
 have h1:=h.minor hp hr hk
 rw [hq] at h1
 refine ⟨q,?_⟩
 have hd:d ^ (s+1) ≠ 0:=Int.pow_ne_zero h.1
 refine Int.eq_of_mul_eq_mul_left (Int.mul_ne_zero hb hd) ?_
 rw [Int.mul_assoc,h1,Int.pow_succ (B p 0)]
 grind
/-- What the determinant of what is left is. -/
theorem Dv.det (h:Dv (m+1) (m+1+c) B d) (hp:p < m+1):B p 0*(d ^ m*dt m (cnd B p d))=B p 0 ^ m*(sg p*dt (m+1) B):=by
 rw [← (dt_alt (m+1)).move p B hp]
 have e:m+1+c=m+c+1:=by omega
 rw [e] at h
 have:=h.minor hp (s:=m) (r:=fun a=>a) (k:=fun b=>b) (fun a ha=>ha) (fun b hb=>by omega)
 rw [this]
 congr 1
 refine dt_congr fun a b ha hb=>?_
 rw [ahd_mv,kol_id]
/-- The same of the first rows and columns. -/
theorem Dv.lead (h:Dv (m+1) (m+1) B d) {s:Nat} (hs:s≤m):B 0 0*(d ^ s*dt s (cnd B 0 d))=B 0 0 ^ s*dt (s+1) B:=by
 have:=h.minor (p:=0) (by omega) (s:=s) (r:=fun a=>a) (k:=fun b=>b) (fun a ha=>by omega) (fun b hb=>by omega)
 rw [this]
 congr 1
 refine dt_congr fun a b ha hb=>?_
 rw [ahd_id,kol_id]
end
end Go.Proofs.YtjclllindbfmhabGreatDoor.M
