/- Parts of the proof. -/
import Derived.Test.YtjclllindbfmhabGreatDoorProg
import Derived.Test.YtjclllindbfmhabGreatDoorHs2
import Derived.KernelRfl
set_option linter.unusedSimpArgs false
set_option linter.unusedVariables false
namespace Go.Proofs.YtjclllindbfmhabGreatDoor
/- The walks of trimmed, copied, made and their kin. -/
open Go.RowKit
def PTrim (a:Option Addr) (c n N:Nat) (w:World) (e:Ending) (w':World):Prop:=∃ m:Nat,e=.returned (.slice a m c)∧m≤n∧Fit m N∧w=w'
set_option maxHeartbeats 400000 in
theorem trimmed_any (a:Option Addr) (n c N:Nat) (w:World) (hl:Lie .u32 w a n c (lmb N)) (hN:N < BB ^ n) :
  Calls Tryz.prog 69 #[.slice a n c] w (PTrim a c n N w):=by
 have hcm:=hl.capm
 have hnc:=hl.cap
 unfold maxLen at hcm
 go_enter Tryz.func69,Tryz.ntmps69
 go_wp2
 go_loop [3] (fun i=>∃ k:Nat,k≤n∧i=.int .i64 k∧N < BB ^ k) (fun i=>(intOf i).toNat)
 case atStart=>exact ⟨n,Nat.le_refl _,rfl,hN⟩
 case round =>
  obtain ⟨k,hk,rfl,hNk⟩:=hrel
  by_cases hp:0 < k
  ·
   obtain ⟨b,o,rfl,hb⟩:=hl.some_of_pos (by omega)
   have hcell:=hl.at (k - 1) (by omega)
   by_cases hz:lmb N (k - 1)=0
   ·
    have hz':((lmb N (k - 1):Int) == 0)=true:=by rw [hz]; rfl
    have HZ:=Lib.hid hz
    have HN:=Lib.hid hNk
    clear hz hNk hl hN
    go_wp2
    go_round
    case rel=>exact ⟨k - 1,by omega,by go_num,fit_step (by omega) HN.out HZ.out⟩
    case measure=>simp [intOf]; omega
   ·
    have hz':((lmb N (k - 1):Int) == 0)=false:=by simpa using hz
    have HZ:=Lib.hid hz
    have HN:=Lib.hid hNk
    clear hz hNk hl hN
    go_wp2
    go_ret
    exact ⟨k,rfl,hk,⟨HN.out,.inr (fit_end HZ.out)⟩,rfl⟩
  ·
   obtain rfl:k=0:=by omega
   have HN:=Lib.hid hNk
   clear hNk hN
   rcases a with _ | ⟨b,o,s⟩
   ·
    obtain ⟨rfl,rfl⟩:=hl.nil rfl
    go_wp2
    go_ret
    exact ⟨0,rfl,hk,⟨HN.out,.inl rfl⟩,rfl⟩
   ·
    obtain ⟨h1,h2⟩:=hl.spot _ rfl
    simp only at h1 h2
    subst h1
    go_wp2
    go_ret
    exact ⟨0,rfl,hk,⟨HN.out,.inl rfl⟩,rfl⟩
theorem Tryz.u28:Tryz.prog.underlying 28=some (.slice 98):=by kernel_rfl
theorem Tryz.info98:(Tryz.prog.info? 98).map (fun i=>(i.zero,i.size,i.bytes))=some (some (.int .u32 0),1,4):=by kernel_rfl
theorem Tryz.size98:(Tryz.prog.info? 98).map (·.size)=some 1:=by kernel_rfl
/-- A new block of n numbers is handed back whole. -/
def PNew (k:IntKind) (t:TypeId) (n:Nat) (f:Nat→Nat) (w:World) (e:Ending) (w':World):Prop :=
 ∃ g:Nat,e=.returned (.slice (some ⟨g,0,none⟩) n n)∧w.heap.size≤g∧Own k t w' g n f∧Below w.heap.size w w'
set_option maxHeartbeats 400000 in
theorem copied_any (a:Option Addr) (n c:Nat) (f:Nat→Nat) (w:World) (hl:Lie .u32 w a n c f) (hn:n≤1000000000) :
  Calls Tryz.prog 70 #[.slice a n c] w (PNew .u32 98 n f w):=by
 have hn4:4*n≤281474976710656:=by omega
 have hn6:n≤9223372036854775807:=by omega
 go_enter Tryz.func70,Tryz.ntmps70
 go_wp2_with (first | (at_make; refine wpList_mk _ rfl (.tmp 5) (.tmp 5) 28 rfl 98 .u32 4 Tryz.u28 Tryz.info98 (n:Int) (n:Int) n rfl rfl rfl rfl hn4 hn6 ?_; intro g w1 hg hown hb; have hl1:=hl.below hb) | (with_reducible refine wpList_cp rfl (.tmp 7) (.tmp 8) 28 rfl 98 Tryz.u28 Tryz.size98 g n n .u32 _ f a n c rfl rfl hown hl1 (Nat.le_refl _) ?_; intro w2 hown2 ho2))
 go_ret
 exact ⟨g,rfl,hg,hown2.congr (fun i hi=>by simp [hi]),hb.trans (ho2.below hg)⟩
set_option maxHeartbeats 400000 in
theorem made_any (bl:Bool) (a:Option Addr) (n c N:Nat) (w:World) (hl:Lie .u32 w a n c (lmb N)) (hN:N < BB ^ n) :
  Calls Tryz.prog 36 #[.bool bl,.slice a n c] w (PMade a (sg bl N) w):=by
 have hcm:=hl.capm
 have hnc:=hl.cap
 unfold maxLen at hcm
 go_enter Tryz.func36,Tryz.ntmps36
 go_wp2_with fail
 refine (trimmed_any a n c N _ ?_ hN).mono ?_
 ·
  exact hl.below ((Below.refl _ _).alloc (Nat.le_refl _) _)
 rintro e w1 ⟨m,rfl,hm,hfit,rfl⟩
 by_cases h0:m=0
 ·
  subst h0
  go_wp2
  obtain rfl:=(fit_pos hfit).1 rfl
  refine bodyPost_ret (v:=.agg #[.bool false,.slice none 0 0]) (by simp [results,Tryz.results36,go_sem]) rfl ⟨false,none,0,0,rfl,?_,.inl rfl,?_⟩
  ·
   unfold sg; cases bl <;> exact num_zero _
  ·
   exact (Below.refl _ _).alloc (Nat.le_refl _) _
 ·
  have h0':((m:Int) == 0)=false:=by simpa using h0
  have H0:=Lib.hid h0
  clear h0
  go_wp2
  refine bodyPost_ret (v:=.agg #[.bool bl,.slice a m c]) (by simp [results,Tryz.results36,go_sem]) rfl ⟨bl,a,m,c,rfl,⟨?_,?_,?_⟩,.inr rfl,?_⟩
  ·
   rw [sg_abs]; exact (hl.cut hm).below ((Below.refl _ _).alloc (Nat.le_refl _) _)
  ·
   rw [sg_abs]; exact hfit
  ·
   rw [sg_neg]; refine Nat.pos_of_ne_zero fun h=>H0.out ((fit_pos hfit).2 h)
  ·
   exact (Below.refl _ _).alloc (Nat.le_refl _) _
end Go.Proofs.YtjclllindbfmhabGreatDoor

namespace Go.Proofs.YtjclllindbfmhabGreatDoor
/- The walk of product. -/
open Go.RowKit
/-- Parts below q out of S, the others out of T. -/
def mixF (S T q:Nat) (p:Nat):Nat:=if p < q then lmb S p else lmb T p
/-- What is reached within a row: the rows ahead, and j parts of this one. -/
def rowS (A B i j:Nat):Nat:=(A % BB ^ i)*B+BB ^ i*(lmb A i*(B % BB ^ j))
/-- What is carried within a row. -/
def rowC (A B i j:Nat):Nat:=rowS A B i j / BB ^ (i+j) - (A % BB ^ i)*B / BB ^ (i+j)
theorem rowS_zero (A B i:Nat):rowS A B i 0=(A % BB ^ i)*B:=by simp [rowS,Nat.mod_one]
theorem rowC_zero (A B i:Nat):rowC A B i 0=0:=by simp [rowC,rowS_zero]
theorem rowS_next (A B i j:Nat):rowS A B i (j+1)=rowS A B i j+BB ^ (i+j)*(lmb A i*lmb B j):=by
 unfold rowS
 rw [mod_succ,Nat.pow_add]
 generalize lmb A i=x
 generalize lmb B j=y
 rw [Nat.mul_add,Nat.mul_add,← Nat.add_assoc]
 congr 1
 simp only [Nat.mul_assoc,Nat.mul_left_comm,Nat.mul_comm]
theorem rowS_le (A B i j:Nat):(A % BB ^ i)*B≤rowS A B i j:=Nat.le_add_right _ _
theorem rowC_eq (A B i j:Nat):rowS A B i j / BB ^ (i+j)=rowC A B i j+(A % BB ^ i)*B / BB ^ (i+j):=by
 unfold rowC
 have:=Nat.div_le_div_right (c:=BB ^ (i+j)) (rowS_le A B i j)
 omega
theorem rowC_lt (A B i j:Nat):rowC A B i j < 4294967296:=by
 have hlt:rowS A B i j < (A % BB ^ i)*B+BB ^ (i+j)*4294967295+1:=by
  have h1:lmb A i*(B % BB ^ j)≤4294967295*BB ^ j:=Nat.mul_le_mul (by have:=lmb_lt A i; omega) (Nat.le_of_lt (Nat.mod_lt _ (BBp j)))
  have h2:BB ^ i*(lmb A i*(B % BB ^ j))≤BB ^ i*(4294967295*BB ^ j):=Nat.mul_le_mul_left _ h1
  have h3:BB ^ i*(4294967295*BB ^ j)=BB ^ (i+j)*4294967295:=by rw [Nat.pow_add,Nat.mul_comm 4294967295,Nat.mul_assoc]
  unfold rowS
  omega
 have hle:rowS A B i j / BB ^ (i+j)≤(A % BB ^ i)*B / BB ^ (i+j)+4294967295:=by
  rw [← Nat.add_mul_div_left _ _ (BBp (i+j))]
  exact Nat.div_le_div_right (by omega)
 unfold rowC
 omega
theorem rowC_step (A B i j:Nat) :
  (rowC A B i j+(lmb A i*lmb B j+lmb ((A % BB ^ i)*B) (i+j))) % 4294967296=lmb (rowS A B i (j+1)) (i+j) ∧
  (rowC A B i j+(lmb A i*lmb B j+lmb ((A % BB ^ i)*B) (i+j))) / 4294967296=rowC A B i (j+1):=by
 have e1:rowS A B i (j+1) / BB ^ (i+j)=rowC A B i j+(A % BB ^ i)*B / BB ^ (i+j)+lmb A i*lmb B j:=by
  rw [rowS_next,Nat.add_mul_div_left _ _ (BBp _),rowC_eq]
 have e2:=rowC_eq A B i (j+1)
 rw [show i+(j+1)=(i+j)+1 from by omega,Nat.pow_succ,← Nat.div_div_eq_div_mul,← Nat.div_div_eq_div_mul,e1] at e2
 constructor
 ·
  show _=rowS A B i (j+1) / BB ^ (i+j) % BB
  rw [e1]
  show (_+(_+(A % BB ^ i)*B / BB ^ (i+j) % BB)) % BB=_
  simp only [BB] at *
  omega
 ·
  show (_+(_+(A % BB ^ i)*B / BB ^ (i+j) % BB)) / BB=_
  simp only [BB] at *
  omega
theorem lmb_add_hi (S x q p:Nat) (h:p < q):lmb (S+BB ^ q*x) p=lmb S p:=by
 unfold lmb
 obtain ⟨d,rfl⟩:∃ d,q=p+1+d:=⟨q - (p+1),by omega⟩
 rw [Nat.pow_add,Nat.pow_succ,Nat.mul_assoc,Nat.mul_assoc,Nat.add_mul_div_left _ _ (BBp p),Nat.add_mul_mod_self_left]
theorem mix_next (A B i j n:Nat):∀ p,p < n→p ≠ i+j→mixF (rowS A B i j) ((A % BB ^ i)*B) (i+j) p=mixF (rowS A B i (j+1)) ((A % BB ^ i)*B) (i+(j+1)) p:=by
 intro p _ hne
 unfold mixF
 by_cases h1:p < i+j
 ·
  rw [if_pos h1,if_pos (by omega),rowS_next,lmb_add_hi _ _ _ _ h1]
 ·
  rw [if_neg h1,if_neg (by omega)]
theorem rowS_end (A B i m:Nat) (hB:B < BB ^ m):rowS A B i m=(A % BB ^ (i+1))*B:=by
 unfold rowS
 rw [Nat.mod_eq_of_lt hB,mod_succ,Nat.add_mul,Nat.mul_assoc]
theorem row_lt (A B i m:Nat) (hB:B < BB ^ m):(A % BB ^ i)*B < BB ^ (i+m):=by
 rw [Nat.pow_add]
 exact Nat.mul_lt_mul'' (Nat.mod_lt _ (BBp i)) hB
theorem rowC_end (A B i m:Nat) (hB:B < BB ^ m):rowC A B i m=lmb ((A % BB ^ (i+1))*B) (i+m):=by
 unfold rowC
 rw [rowS_end A B i m hB,Nat.div_eq_of_lt (row_lt A B i m hB),Nat.sub_zero]
 have h:(A % BB ^ (i+1))*B < BB ^ (i+m+1):=by
  have:=row_lt A B (i+1) m hB
  rwa [show i+1+m=i+m+1 from by omega] at this
 rw [lmb_top h]
theorem mix_end (A B i m n:Nat) (hB:B < BB ^ m):∀ p,p < n→p ≠ i+m→mixF (rowS A B i m) ((A % BB ^ i)*B) (i+m) p=lmb ((A % BB ^ (i+1))*B) p:=by
 intro p _ hne
 unfold mixF
 by_cases h1:p < i+m
 ·
  rw [if_pos h1,rowS_end A B i m hB]
 ·
  rw [if_neg h1,lmb_zero (row_lt A B i m hB) (by omega)]
  have:=row_lt A B (i+1) m hB
  rw [lmb_zero this (by omega)]
theorem mul_u32 {x y:Nat} (hx:x < 4294967296) (hy:y < 4294967296):(0:Int)≤(x:Int)*(y:Int)∧(x:Int)*(y:Int)≤18446744065119617025:=by
 have:=Nat.mul_le_mul (show x≤4294967295 by omega) (show y≤4294967295 by omega)
 rw [← Int.natCast_mul]
 omega
set_option maxHeartbeats 1600000 in
theorem product_any (a b:Option Addr) (n c m d A B:Nat) (w:World) (ha:Lie .u32 w a n c (lmb A)) (hb:Lie .u32 w b m d (lmb B)) (fa:Fit n A) (fb:Fit m B) (hn:n≤1000000000) (hm:m≤1000000000) :
  Calls Tryz.prog 39 #[.slice a n c,.slice b m d] w (PPart (A*B) w):=by
 have hcm:=ha.capm
 have hnc:=ha.cap
 have hdm:=hb.capm
 have hmd:=hb.cap
 unfold maxLen at hcm hdm
 have hn4:4*(n+m)≤281474976710656:=by omega
 have hn6:n+m≤9223372036854775807:=by omega
 have HA:=Lib.hid fa
 have HB:=Lib.hid fb
 clear fa fb
 go_enter Tryz.func39,Tryz.ntmps39
 go_wp2_with (first | (at_make; refine wpList_mk _ rfl (.tmp 15) (.tmp 15) 28 rfl 98 .u32 4 Tryz.u28 Tryz.info98 _ _ (n+m) rfl rfl (by omega) (by omega) hn4 hn6 ?_; intro g w1 hg hown hb1))
 go_loopw [19] (fun i wr=>∃ k:Nat,k≤n∧i=.int .i64 k∧Own .u32 98 wr g (n+m) (lmb ((A % BB ^ k)*B))∧Below w.heap.size w wr) (fun i _=>n - (intOf i).toNat)
 case atStart=>exact ⟨0,Nat.zero_le _,rfl,hown.congr (fun j hj=>by simp [Nat.mod_one,lmb]),hb1⟩
 case round =>
  obtain ⟨k,hk,rfl,hown,hbl⟩:=hrel
  by_cases hlt:k < n
  ·
   obtain ⟨b1,o1,rfl,hb1'⟩:=ha.some_of_pos (by omega)
   have c1:=(ha.below hbl).at k hlt
   obtain ⟨wo,rfl⟩:∃ wo:World,wo=wr:=⟨_,rfl⟩
   go_wp2
   go_loopw [8,26] (fun cv jv wr=>∃ j:Nat,j≤m∧jv=.int .i64 j∧cv=.int .u64 (rowC A B k j)∧Own .u32 98 wr g (n+m) (mixF (rowS A B k j) ((A % BB ^ k)*B) (k+j))∧Below w.heap.size w wr) (fun _ jv _=>m - (intOf jv).toNat)
   case atStart=>exact ⟨0,Nat.zero_le _,rfl,by rw [rowC_zero]; rfl,hown.congr (fun p hp=>by unfold mixF; rw [rowS_zero]; split <;> rfl),hbl⟩
   case round =>
    obtain ⟨j,hj,rfl,rfl,hown2,hbl2⟩:=hrel
    have hcl:=rowC_lt A B k j
    have hst:=Lib.hid (rowC_step A B k j)
    have hla:=lmb_lt A k
    have hlb:=lmb_lt B j
    have hlt2:=lmb_lt ((A % BB ^ k)*B) (k+j)
    by_cases hjm:j < m
    ·
     obtain ⟨b2,o2,rfl,hb2⟩:=hb.some_of_pos (by omega)
     have c3:=(hb.below hbl2).at j hjm
     have c4:wr.cell? ⟨g,k+j,none⟩=some (.int .u32 (lmb ((A % BB ^ k)*B) (k+j))):=by rw [hown2.cell (k+j) (by omega)]; simp [mixF]
     have c5:=hown2.free (k+j)
     obtain ⟨hpm0,hpm⟩:=mul_u32 hla hlb
     have HX:Hid (((rowC A B k j:Int)+((lmb A k:Int)*(lmb B j:Int)+(lmb ((A % BB ^ k)*B) (k+j):Int))) % 4294967296=((lmb (rowS A B k (j+1)) (k+j):Nat):Int)∧((rowC A B k j:Int)+((lmb A k:Int)*(lmb B j:Int)+(lmb ((A % BB ^ k)*B) (k+j):Int))) / 4294967296=((rowC A B k (j+1):Nat):Int)):=by
      have:=hst.out; show _∧_; rw [← Int.natCast_mul]; omega
     have hbs:=hbl2.setCell (p:=⟨g,k+j,none⟩) hg
     clear ha hb hst
     go_wp2
     go_roundw
     case rel=>exact ⟨j+1,by omega,by go_num,by rw [HX.out.2],hown2.put (by omega) (by rw [HX.out.1]; rw [mixF,if_pos (by omega)]) (mix_next A B k j (n+m)),hbs _⟩
     case measure=>simp [intOf]; omega
    ·
     obtain rfl:j=m:=by omega
     have c4:wr.cell? ⟨g,k+j,none⟩=some (.int .u32 (lmb ((A % BB ^ k)*B) (k+j))):=by rw [hown2.cell (k+j) (by omega)]; simp [mixF]
     have c5:=hown2.free (k+j)
     have hE:=Lib.hid (rowC_end A B k j HB.out.1)
     have hbs:=hbl2.setCell (p:=⟨g,k+j,none⟩) hg
     clear ha hb hst
     go_wp2
     go_roundw
     case rel=>exact ⟨k+1,by omega,by go_num,hown2.put (by omega) (by rw [hE.out]) (mix_end A B k j (n+j) HB.out.1),hbs _⟩
     case measure=>simp [intOf]; omega
  ·
   obtain rfl:k=n:=by omega
   have hO:Own .u32 98 wr g (k+m) (lmb (A*B)):=by rw [Nat.mod_eq_of_lt HA.out.1] at hown; exact hown
   have hAB:A*B < BB ^ (k+m):=by rw [Nat.pow_add]; exact Nat.mul_lt_mul'' HA.out.1 HB.out.1
   have HAB:=Lib.hid hAB
   clear ha hb hAB
   go_wp2_with fail
   refine (trimmed_any _ _ _ (A*B) _ (hO.lie (Nat.le_refl _) (by unfold maxLen; omega)) HAB.out).mono ?_
   rintro e w3 ⟨mm,rfl,hmm,hfit,rfl⟩
   go_wp2
   go_ret
   exact ppart_own hO hg hbl hmm hn6 hfit
end Go.Proofs.YtjclllindbfmhabGreatDoor

namespace Go.Proofs.YtjclllindbfmhabGreatDoor
/- The walks of takeTimes and addBack. -/
open Go.RowKit
/-- A window of n + 1 parts from u on: the first k out of W, the others out of R; elsewhere f. -/
def winK (u n k W R:Nat) (f:Nat→Nat) (p:Nat):Nat:=if u≤p∧p≤u+n then (if p - u < k then lmb W (p - u) else lmb R (p - u)) else f p
theorem winK_next {u n k W W' R T:Nat} {f:Nat→Nat} (h:∀ j,j < k→lmb W j=lmb W' j):∀ p,p < T→p ≠ u+k→winK u n k W R f p=winK u n (k+1) W' R f p:=by
 intro p _ hne
 unfold winK
 by_cases h1:u≤p∧p≤u+n
 ·
  rw [if_pos h1,if_pos h1]
  by_cases h2:p - u < k
  ·
   rw [if_pos h2,if_pos (by omega),h _ h2]
  ·
   rw [if_neg h2,if_neg (by omega)]
 ·
  rw [if_neg h1,if_neg h1]
theorem winK_at {u n k W R:Nat} {f:Nat→Nat} (hk:k≤n):winK u n k W R f (u+k)=lmb R k:=by
 unfold winK
 rw [if_pos (by omega),if_neg (by omega),show u+k - u=k from by omega]
theorem winK_put {u n k W R:Nat} {f:Nat→Nat} (hk:k≤n):winK u n (k+1) W R f (u+k)=lmb W k:=by
 unfold winK
 rw [if_pos (by omega),if_pos (by omega),show u+k - u=k from by omega]
theorem winK_zero {u n W R T:Nat} {f:Nat→Nat} (h:∀ j,j≤n→f (u+j)=lmb R j):∀ p,p < T→f p=winK u n 0 W R f p:=by
 intro p _
 unfold winK
 by_cases h1:u≤p∧p≤u+n
 ·
  rw [if_pos h1,if_neg (by omega),← h (p - u) (by omega),show u+(p - u)=p from by omega]
 ·
  rw [if_neg h1]
theorem lmb_low (W x k:Nat) (hW:W < BB ^ k) (hx:x < 4294967296):lmb (W+BB ^ k*x) k=x∧W+BB ^ k*x < BB ^ (k+1):=by
 constructor
 ·
  unfold lmb
  rw [Nat.add_mul_div_left _ _ (BBp k),Nat.div_eq_of_lt hW,Nat.zero_add]
  exact Nat.mod_eq_of_lt hx
 ·
  rw [Nat.pow_succ]
  have:=Nat.mul_le_mul_left (BB ^ k) (show x+1≤BB from hx)
  rw [Nat.mul_add] at this
  omega
/-- What stands after k parts were taken. -/
def Took (R D t k W cr:Nat):Prop:=cr*BB ^ k+R % BB ^ k=W+t*(D % BB ^ k)∧W < BB ^ k
theorem took_zero (R D t:Nat):Took R D t 0 0 0:=⟨by simp [Nat.mod_one],by simp⟩
theorem took_le {R D t k W cr:Nat} (h:Took R D t k W cr):cr≤t:=by
 obtain ⟨h1,h2⟩:=h
 have hd:=Nat.mod_lt D (BBp k)
 have h3:t*(D % BB ^ k)≤t*BB ^ k:=Nat.mul_le_mul_left _ (Nat.le_of_lt hd)
 refine Nat.le_of_lt_succ (Nat.lt_of_mul_lt_mul_right (a:=BB ^ k) ?_)
 rw [Nat.succ_mul]
 generalize R % BB ^ k=r at *
 omega
theorem took_step {R D t k W cr:Nat} (h:Took R D t k W cr) {x cr':Nat} (hx:x < 4294967296) (he:cr'*4294967296+lmb R k=x+(cr+t*lmb D k)) :
  Took R D t (k+1) (W+BB ^ k*x) cr':=by
 refine ⟨?_,(lmb_low W x k h.2 hx).2⟩
 rw [mod_succ,mod_succ,Nat.pow_succ]
 have h1:=h.1
 have e1:cr'*(BB ^ k*BB)+BB ^ k*lmb R k=BB ^ k*x+BB ^ k*cr+BB ^ k*(t*lmb D k):=by
  have:BB ^ k*(cr'*4294967296+lmb R k)=BB ^ k*(x+(cr+t*lmb D k)):=by rw [he]
  rw [Nat.mul_add,Nat.mul_add,Nat.mul_add,← Nat.add_assoc] at this
  rw [← this,← Nat.mul_assoc,Nat.mul_comm cr' (BB ^ k),Nat.mul_assoc]; rfl
 have e2:t*(D % BB ^ k+BB ^ k*lmb D k)=t*(D % BB ^ k)+BB ^ k*(t*lmb D k):=by rw [Nat.mul_add,Nat.mul_left_comm]
 have e3:cr*BB ^ k=BB ^ k*cr:=Nat.mul_comm _ _
 rw [e2]
 omega
/-- What was taken off: U, and whether that wrapped round. -/
def Off (R X n U:Nat) (bl:Bool):Prop:=(bl=true→U+X=R+BB ^ (n+1)∧R < X)∧(bl=false→U+X=R)∧U < BB ^ (n+1)
theorem took_end {R D t n W cr:Nat} (h:Took R D t n W cr) (hR:R < BB ^ (n+1)) (hD:D < BB ^ n) {x:Nat} (hx:x < 4294967296)
  (hc:(cr≤lmb R n→x+cr=lmb R n)∧(lmb R n < cr→x+cr=lmb R n+4294967296)):Off R (t*D) n (W+BB ^ n*x) (decide (lmb R n < cr)):=by
 have h1:=h.1
 rw [Nat.mod_eq_of_lt hD] at h1
 have hr:R % BB ^ n+BB ^ n*lmb R n=R:=by rw [lmb_top hR]; exact Nat.mod_add_div _ _
 refine ⟨fun hb=>?_,fun hb=>?_,(lmb_low W x n h.2 hx).2⟩
 ·
  have hlt:=of_decide_eq_true hb
  have he:=hc.2 hlt
  have e1:BB ^ n*x+BB ^ n*cr=BB ^ n*lmb R n+BB ^ (n+1):=by
   rw [← Nat.mul_add,he,Nat.mul_add,Nat.pow_succ]; rfl
  rw [Nat.mul_comm cr] at h1
  have hlow:=(lmb_low W x n h.2 hx).2
  omega
 ·
  have hge:=of_decide_eq_false hb
  have he:=hc.1 (by omega)
  have e1:BB ^ n*x+BB ^ n*cr=BB ^ n*lmb R n:=by rw [← Nat.mul_add,he]
  rw [Nat.mul_comm cr] at h1
  omega
theorem take_num1 {r cr p:Nat} (hr:r < 4294967296) (hc:(r:Int) < ((cr:Int)+(p:Int)) % 4294967296) :
  ∃ x cr':Nat,x < 4294967296∧cr'*4294967296+r=x+(cr+p)∧((r:Int) - ((cr:Int)+(p:Int))) % 4294967296=(x:Int)∧((cr:Int)+(p:Int)) / 4294967296+1=(cr':Int) :=
 ⟨r+4294967296 - (cr+p) % 4294967296,(cr+p) / 4294967296+1,by omega,by omega,by omega,by omega⟩
theorem take_num2 {r cr p:Nat} (hr:r < 4294967296) (hc:¬ (r:Int) < ((cr:Int)+(p:Int)) % 4294967296) :
  ∃ x cr':Nat,x < 4294967296∧cr'*4294967296+r=x+(cr+p)∧(r:Int) - ((cr:Int)+(p:Int)) % 4294967296=(x:Int)∧((cr:Int)+(p:Int)) / 4294967296=(cr':Int) :=
 ⟨r - (cr+p) % 4294967296,(cr+p) / 4294967296,by omega,by omega,by omega,by omega⟩
/-- Block g holds a window that U fills; a bool is told. -/
def PTake (t:TypeId) (g T u n R X:Nat) (f:Nat→Nat) (w:World) (e:Ending) (w':World):Prop :=
 ∃ (U:Nat) (bl:Bool),e=.returned (.bool bl)∧Off R X n U bl∧Own .u32 t w' g T (winK u n (n+1) U R f)∧Only g w w'
set_option maxHeartbeats 1600000 in
theorem takeTimes_any (g T u n cp R D t:Nat) (da:Option Addr) (dc:Nat) (f:Nat→Nat) (w:World) (hown:Own .u32 98 w g T f) (hT:u+n < T) (hTb:T≤1000000000)
  (hf:∀ j,j≤n→f (u+j)=lmb R j) (hR:R < BB ^ (n+1)) (hd:Lie .u32 w da n dc (lmb D)) (hne:∀ p,da=some p→p.block ≠ g) (hD:D < BB ^ n) (ht:t < 4294967296) :
  Calls Tryz.prog 113 #[.slice (some ⟨g,u,none⟩) ((n+1:Nat)) cp,.slice da n dc,.int .u64 t] w (PTake 98 g T u n R (t*D) f w):=by
 have HF:=Lib.hid hf
 have HR:=Lib.hid hR
 have HD:=Lib.hid hD
 have HNE:=Lib.hid hne
 clear hf hR hD hne
 go_enter Tryz.func113,Tryz.ntmps113
 go_wp2
 go_loopw [7,15] (fun cv iv wr=>∃ k cr W:Nat,k≤n∧iv=.int .i64 k∧cv=.int .u64 cr∧Took R D t k W cr∧Own .u32 98 wr g T (winK u n k W R f)∧Only g w wr) (fun _ iv _=>n - (intOf iv).toNat)
 case atStart=>exact ⟨0,0,0,Nat.zero_le _,rfl,rfl,took_zero _ _ _,hown.congr (winK_zero HF.out),Only.refl _ _⟩
 case round =>
  obtain ⟨k,cr,W,hk,rfl,rfl,htk,hown1,ho1⟩:=hrel
  have hcr:=took_le htk
  have c1:wr.cell? ⟨g,u+k,none⟩=some (.int .u32 (lmb R k)):=by rw [hown1.cell (u+k) (by omega),winK_at hk]
  have c2:=hown1.free (u+k)
  have hlr:=lmb_lt R k
  have hld:=lmb_lt D k
  by_cases hlt:k < n
  ·
   obtain ⟨b1,o1,rfl,hb1⟩:=hd.some_of_pos (by omega)
   have c3:=(hd.only ho1 HNE.out).at k hlt
   obtain ⟨hpm0,hpm⟩:=mul_u32 ht hld
   have hmod:((t:Int)*(lmb D k:Int))=((t*lmb D k:Nat):Int):=(Int.natCast_mul _ _).symm
   rw [show ((t:Int)*(lmb D k:Int))=((t*lmb D k:Nat):Int) from (Int.natCast_mul _ _).symm] at hpm0 hpm
   by_cases hc:(lmb R k:Int) < ((cr:Int)+((t*lmb D k:Nat):Int)) % 4294967296
   ·
    obtain ⟨x,cr',hx,he,hv,hcv⟩:=take_num1 hlr hc
    have HX:=Lib.hid (And.intro hv hcv)
    have HE:=Lib.hid he
    rw [Int.natCast_mul] at HX hc hpm0 hpm
    clear hd hmod hv hcv he
    go_wp2
    go_roundw
    case rel=>exact ⟨k+1,cr',W+BB ^ k*x,by omega,by go_num,by rw [HX.out.2],took_step htk hx HE.out,hown1.put (by omega) (by rw [HX.out.1,winK_put (by omega),(lmb_low W x k htk.2 hx).1]) (winK_next (fun j hj=>(lmb_add_hi W x k j hj).symm)),ho1.trans (Only.setCell _ _ _ _)⟩
    case measure=>simp [intOf]; omega
   ·
    obtain ⟨x,cr',hx,he,hv,hcv⟩:=take_num2 hlr hc
    have HX:=Lib.hid (And.intro hv hcv)
    have HE:=Lib.hid he
    rw [Int.natCast_mul] at HX hc hpm0 hpm
    clear hd hmod hv hcv he
    go_wp2
    go_roundw
    case rel=>exact ⟨k+1,cr',W+BB ^ k*x,by omega,by go_num,by rw [HX.out.2],took_step htk hx HE.out,hown1.put (by omega) (by rw [HX.out.1,winK_put (by omega),(lmb_low W x k htk.2 hx).1]) (winK_next (fun j hj=>(lmb_add_hi W x k j hj).symm)),ho1.trans (Only.setCell _ _ _ _)⟩
    case measure=>simp [intOf]; omega
  ·
   obtain rfl:k=n:=by omega
   by_cases hc:lmb R k < cr
   ·
    have HO:=Lib.hid (took_end htk HR.out HD.out (x:=lmb R k+4294967296 - cr) (by omega) ⟨fun _=>by omega,fun _=>by omega⟩)
    have HX:Hid (((lmb R k:Int) - (cr:Int)) % 4294967296=((lmb R k+4294967296 - cr:Nat):Int)):=by show _=_; omega
    have hc':decide (lmb R k < cr)=true:=decide_eq_true hc
    clear hd
    go_wp2
    go_ret
    exact ⟨_,true,rfl,by rw [hc'] at HO; exact HO.out,hown1.put (by omega) (by rw [HX.out,winK_put (by omega),(lmb_low W _ k htk.2 (by omega)).1]) (winK_next (fun j hj=>(lmb_add_hi W _ k j hj).symm)),ho1.trans (Only.setCell _ _ _ _)⟩
   ·
    have HO:=Lib.hid (took_end htk HR.out HD.out (x:=lmb R k - cr) (by omega) ⟨fun _=>by omega,fun _=>by omega⟩)
    have HX:Hid ((lmb R k:Int) - (cr:Int)=((lmb R k - cr:Nat):Int)):=by show _=_; omega
    have hc':decide (lmb R k < cr)=false:=decide_eq_false hc
    clear hd
    go_wp2
    go_ret
    exact ⟨_,false,rfl,by rw [hc'] at HO; exact HO.out,hown1.put (by omega) (by rw [HX.out,winK_put (by omega),(lmb_low W _ k htk.2 (by omega)).1]) (winK_next (fun j hj=>(lmb_add_hi W _ k j hj).symm)),ho1.trans (Only.setCell _ _ _ _)⟩
end Go.Proofs.YtjclllindbfmhabGreatDoor

namespace Go.Proofs.YtjclllindbfmhabGreatDoor
/- The walk of addBack. -/
open Go.RowKit
def PAddb (t:TypeId) (g T u n S R:Nat) (f:Nat→Nat) (w:World) (e:Ending) (w':World):Prop :=
 e=.returned (.tuple #[])∧Own .u32 t w' g T (winK u n (n+1) S R f)∧Only g w w'
set_option maxHeartbeats 1600000 in
theorem addBack_any (g T u n cp U D:Nat) (da:Option Addr) (dc:Nat) (f:Nat→Nat) (w:World) (hown:Own .u32 98 w g T f) (hT:u+n < T) (hTb:T≤1000000000)
  (hf:∀ j,j≤n→f (u+j)=lmb U j) (hd:Lie .u32 w da n dc (lmb D)) (hne:∀ p,da=some p→p.block ≠ g) (hD:D < BB ^ n) :
  Calls Tryz.prog 114 #[.slice (some ⟨g,u,none⟩) ((n+1:Nat)) cp,.slice da n dc] w (PAddb 98 g T u n (U+D) U f w):=by
 have HF:=Lib.hid hf
 have HD:=Lib.hid hD
 have HNE:=Lib.hid hne
 clear hf hD hne
 go_enter Tryz.func114,Tryz.ntmps114
 go_wp2
 go_loopw [4,9] (fun cv iv wr=>∃ k:Nat,k≤n∧iv=.int .i64 k∧cv=.int .u64 (cy U D k)∧Own .u32 98 wr g T (winK u n k (U+D) U f)∧Only g w wr) (fun _ iv _=>n - (intOf iv).toNat)
 case atStart=>exact ⟨0,Nat.zero_le _,rfl,by rw [cy_zero]; rfl,hown.congr (winK_zero HF.out),Only.refl _ _⟩
 case round =>
  obtain ⟨k,hk,rfl,rfl,hown1,ho1⟩:=hrel
  have hcb:=cy_le U D k
  have hst:=cy_step U D k
  have c1:wr.cell? ⟨g,u+k,none⟩=some (.int .u32 (lmb U k)):=by rw [hown1.cell (u+k) (by omega),winK_at hk]
  have c2:=hown1.free (u+k)
  have hlr:=lmb_lt U k
  have hld:=lmb_lt D k
  by_cases hlt:k < n
  ·
   obtain ⟨b1,o1,rfl,hb1⟩:=hd.some_of_pos (by omega)
   have c3:=(hd.only ho1 HNE.out).at k hlt
   have HX:Hid (((cy U D k:Int)+((lmb U k:Int)+(lmb D k:Int))) % 4294967296=((lmb (U+D) k:Nat):Int)∧((cy U D k:Int)+((lmb U k:Int)+(lmb D k:Int))) / 4294967296=((cy U D (k+1):Nat):Int)):=by
    show _∧_; omega
   clear hd hst
   go_wp2
   go_roundw
   case rel=>exact ⟨k+1,by omega,by go_num,by rw [HX.out.2],hown1.put (by omega) (by rw [HX.out.1,winK_put (by omega)]) (winK_next (fun j hj=>rfl)),ho1.trans (Only.setCell _ _ _ _)⟩
   case measure=>simp [intOf]; omega
  ·
   obtain rfl:k=n:=by omega
   have h0:=lmb_zero HD.out (Nat.le_refl k)
   have HX:Hid (((lmb U k:Int)+(cy U D k:Int)) % 4294967296=((lmb (U+D) k:Nat):Int)):=by
    show _=_; rw [h0] at hst; omega
   clear hd hst h0
   go_wp2
   go_end0
   exact ⟨rfl,hown1.put (by omega) (by rw [HX.out,winK_put (by omega)]) (winK_next (fun j hj=>rfl)),ho1.trans (Only.setCell _ _ _ _)⟩
end Go.Proofs.YtjclllindbfmhabGreatDoor

namespace Go.Proofs.YtjclllindbfmhabGreatDoor
/- The walks of compare, sum, difference, product. -/
open Go.RowKit
set_option maxHeartbeats 800000 in
theorem compare_any (a b:Option Addr) (n c m d A B:Nat) (w:World) (ha:Lie .u32 w a n c (lmb A)) (hb:Lie .u32 w b m d (lmb B)) (fa:Fit n A) (fb:Fit m B) :
  Calls Tryz.prog 32 #[.slice a n c,.slice b m d] w (PVal (.int .i64 (cmpN A B)) w):=by
 have hcm:=ha.capm
 have hnc:=ha.cap
 have hdm:=hb.capm
 have hmd:=hb.cap
 unfold maxLen at hcm hdm
 rcases Nat.lt_trichotomy n m with hlt | heq | hgt
 ·
  have hR:=Lib.hid (cmp_len_lt fa fb hlt)
  clear fa fb ha hb
  go_enter Tryz.func32,Tryz.ntmps32
  go_wp2
  go_ret
  exact ⟨ret_int hR.out.symm,Below.refl _ _⟩
 ·
  subst heq
  go_enter Tryz.func32,Tryz.ntmps32
  have HA:=Lib.hid fa
  have HB:=Lib.hid fb
  clear fa fb
  go_wp2
  go_loopw [5] (fun i wr=>∃ k:Nat,k≤n∧i=.int .i64 ((k:Int) - 1)∧A / BB ^ k=B / BB ^ k∧Below w.heap.size w wr) (fun i _=>(intOf i+1).toNat)
  case atStart=>exact ⟨n,Nat.le_refl _,rfl,by rw [Nat.div_eq_of_lt HA.out.1,Nat.div_eq_of_lt HB.out.1],Below.refl _ _⟩
  case round =>
   obtain ⟨k,hk,rfl,hup,hbl⟩:=hrel
   have HU:=Lib.hid hup
   clear hup
   by_cases hp:0 < k
   ·
    obtain ⟨j,rfl⟩:∃ j,k=j+1:=⟨k - 1,by omega⟩
    obtain ⟨b1,o1,rfl,hb1⟩:=ha.some_of_pos (by omega)
    obtain ⟨b2,o2,rfl,hb2⟩:=hb.some_of_pos (by omega)
    have c1:=(ha.below hbl).at j (by omega)
    have c2:=(hb.below hbl).at j (by omega)
    rcases Nat.lt_trichotomy (lmb A j) (lmb B j) with hlt | heq | hgt
    ·
     have hR:=Lib.hid ((cmp_up HU.out).1 hlt)
     clear ha hb
     go_wp2
     go_quiet (fail)
     go_wp2
     go_ret
     exact ⟨ret_int hR.out.symm,below_drewN hbl _⟩
    ·
     have hR:=Lib.hid ((cmp_up HU.out).2.2 heq)
     have h1:¬ lmb A j < lmb B j:=by omega
     have h2:¬ lmb B j < lmb A j:=by omega
     have HE:=Lib.hid heq
     clear ha hb heq
     go_wp2
     go_quiet (fail)
     go_wp2
     go_quiet (fail)
     go_wp2
     go_roundw
     case rel=>exact ⟨j,by omega,by go_num,hR.out,below_drewN hbl _⟩
     case measure=>simp [intOf]
    ·
     have hR:=Lib.hid ((cmp_up HU.out).2.1 hgt)
     have h1:¬ lmb A j < lmb B j:=by omega
     clear ha hb
     go_wp2
     go_quiet (fail)
     go_wp2
     go_quiet (fail)
     go_wp2
     go_ret
     exact ⟨ret_int hR.out.symm,below_drewN (below_drewN hbl _) _⟩
   ·
    obtain rfl:k=0:=by omega
    have hR:=Lib.hid (cmp_all HU.out)
    clear ha hb
    go_wp2
    go_ret
    exact ⟨ret_int hR.out.symm,hbl⟩
 ·
  have hR:=Lib.hid (cmp_len_gt fa fb hgt)
  clear fa fb ha hb
  go_enter Tryz.func32,Tryz.ntmps32
  go_wp2
  go_ret
  exact ⟨ret_int hR.out.symm,Below.refl _ _⟩
def sumF (A B n i:Nat) (j:Nat):Nat:=if j < i then lmb (A+B) j else if j < n then lmb A j else 0
set_option maxHeartbeats 800000 in
theorem sum_core (sw:Bool) (a b:Option Addr) (n c m d A B:Nat) (w:World) (ha:Lie .u32 w a n c (lmb A)) (hb:Lie .u32 w b m d (lmb B)) (fa:Fit n A) (fb:Fit m B) (hmn:m≤n) (hsw:sw=true→m < n) (hn:n≤1000000000) :
  Calls Tryz.prog 37 (if sw then #[.slice b m d,.slice a n c] else #[.slice a n c,.slice b m d]) w (PPart (A+B) w):=by
 have hcm:=ha.capm
 have hnc:=ha.cap
 have hdm:=hb.capm
 have hmd:=hb.cap
 unfold maxLen at hcm hdm
 have hn4:4*(n+1)≤281474976710656:=by omega
 have hn6:n+1≤9223372036854775807:=by omega
 have HA:=Lib.hid fa
 have HB:=Lib.hid fb
 clear fa fb
 cases sw
 all_goals
  simp only [if_true,if_false,Bool.false_eq_true]
  try (have hsw':=hsw rfl)
  clear hsw
  go_enter Tryz.func37,Tryz.ntmps37
  go_wp2_with (first | (at_make; refine wpList_mk _ rfl (.tmp 17) (.tmp 17) 28 rfl 98 .u32 4 Tryz.u28 Tryz.info98 _ _ (n+1) rfl rfl (by omega) (by omega) hn4 hn6 ?_; intro g w1 hg hown hb1; have hl1:=ha.below hb1) | (with_reducible refine wpList_cp rfl (.tmp 19) (.tmp 20) 28 rfl 98 Tryz.u28 Tryz.size98 g (n+1) (n+1) .u32 _ (lmb A) a n c rfl rfl hown hl1 (by omega) ?_; intro w2 hown2 ho2))
  have hbw:=hb1.trans (ho2.below hg)
  have hB2:=hb.below hbw
  have hb0:=hb
  clear hl1 hown ha hb
  go_loopw [6,24] (fun cv i wr=>∃ k:Nat,k≤n∧i=.int .i64 k∧cv=.int .u64 (cy A B k)∧Own .u32 98 wr g (n+1) (sumF A B n k)∧Below w.heap.size w wr) (fun _ i _=>n - (intOf i).toNat)
  case atStart=>exact ⟨0,Nat.zero_le _,rfl,by rw [cy_zero]; rfl,hown2.congr (fun j hj=>by simp [sumF]),hbw⟩
  case round =>
   obtain ⟨k,hk,rfl,rfl,hown,hbl⟩:=hrel
   have hcb:=cy_le A B k
   have hst:=Lib.hid (cy_step A B k)
   have hla:=lmb_lt A k
   have hlb:=lmb_lt B k
   by_cases hlt:k < n
   ·
    have c1:wr.cell? ⟨g,k,none⟩=some (.int .u32 (lmb A k)):=by rw [hown.cell k (by omega)]; simp [sumF,hlt]
    have c2:=hown.free k
    have hbs:=hbl.setCell (p:=⟨g,k,none⟩) hg
    by_cases hm:k < m
    ·
     obtain ⟨b2,o2,rfl,hb2⟩:=hB2.some_of_pos (by omega)
     have c3:=(hb0.below hbl).at k hm
     have HX:Hid (((cy A B k:Int)+(lmb A k:Int)+(lmb B k:Int)) % 4294967296=((lmb (A+B) k:Nat):Int)∧((cy A B k:Int)+(lmb A k:Int)+(lmb B k:Int)) / 4294967296=((cy A B (k+1):Nat):Int)):=by
      have:=hst.out; show _∧_; omega
     clear hst hB2
     go_wp2
     go_roundw
     case rel=>exact ⟨k+1,by omega,by go_num,by rw [HX.out.2],hown.put (by omega) (by rw [HX.out.1]; simp [sumF]) (fun j hj hne=>by unfold sumF; by_cases h1:j < k <;> by_cases h2:j < k+1 <;> simp [h1,h2] <;> omega),hbs _⟩
     case measure=>simp [intOf]; omega
    ·
     have HX:Hid (((cy A B k:Int)+(lmb A k:Int)) % 4294967296=((lmb (A+B) k:Nat):Int)∧((cy A B k:Int)+(lmb A k:Int)) / 4294967296=((cy A B (k+1):Nat):Int)):=by
      have:=hst.out; have h0:=lmb_zero HB.out.1 (i:=k) (by omega); rw [h0] at this; show _∧_; omega
     clear hst hB2
     go_wp2
     go_roundw
     case rel=>exact ⟨k+1,by omega,by go_num,by rw [HX.out.2],hown.put (by omega) (by rw [HX.out.1]; simp [sumF]) (fun j hj hne=>by unfold sumF; by_cases h1:j < k <;> by_cases h2:j < k+1 <;> simp [h1,h2] <;> omega),hbs _⟩
     case measure=>simp [intOf]; omega
   ·
    obtain rfl:k=n:=by omega
    have c1:wr.cell? ⟨g,k,none⟩=some (.int .u32 (0:Nat)):=by rw [hown.cell k (by omega)]; simp [sumF]
    have c2:=hown.free k
    have hE:=Lib.hid (cy_end HA.out.1 (fit_mono HB.out.1 hmn))
    clear hst
    go_wp2_with fail
    have hO:Own .u32 98 (wr.setCell ⟨g,k,none⟩ (.int .u32 (cy A B k))) g (k+1) (lmb (A+B)):=hown.put (by omega) (by rw [hE.out.1]) (fun j hj hne=>by rw [sumF,if_pos (by omega)])
    refine (trimmed_any _ _ _ (A+B) _ (hO.lie (Nat.le_refl _) (by unfold maxLen; omega)) hE.out.2).mono ?_
    rintro e w3 ⟨mm,rfl,hmm,hfit,rfl⟩
    have hbs:=hbl.setCell (p:=⟨g,k,none⟩) hg (.int .u32 (cy A B k))
    go_wp2
    go_ret
    exact ppart_own hO hg hbs hmm hn6 hfit
theorem sum_any (a b:Option Addr) (n c m d A B:Nat) (w:World) (ha:Lie .u32 w a n c (lmb A)) (hb:Lie .u32 w b m d (lmb B)) (fa:Fit n A) (fb:Fit m B) (hn:n≤1000000000) (hm:m≤1000000000) :
  Calls Tryz.prog 37 #[.slice a n c,.slice b m d] w (PPart (A+B) w):=by
 by_cases h:n < m
 ·
  have:=sum_core true b a m d n c B A w hb ha fb fa (by omega) (fun _=>h) hm
  rw [Nat.add_comm]
  simpa using this
 ·
  simpa using sum_core false a b n c m d A B w ha hb fa fb (by omega) (fun h=>by cases h) hn
end Go.Proofs.YtjclllindbfmhabGreatDoor

namespace Go.Proofs.YtjclllindbfmhabGreatDoor
/- The walk of difference. -/
open Go.RowKit
def difF (A B i:Nat) (j:Nat):Nat:=if j < i then lmb (A - B) j else lmb A j
theorem difF_next {A B n:Nat} (k:Nat):∀ j,j < n→j ≠ k→difF A B k j=difF A B (k+1) j:=by
 intro j _ hne
 unfold difF
 by_cases h1:j < k <;> by_cases h2:j < k+1 <;> simp [h1,h2] <;> omega
set_option maxHeartbeats 800000 in
theorem difference_any (a b:Option Addr) (n c m d A B:Nat) (w:World) (ha:Lie .u32 w a n c (lmb A)) (hb:Lie .u32 w b m d (lmb B)) (fa:Fit n A) (fb:Fit m B) (hBA:B≤A) (hn:n≤1000000000) :
  Calls Tryz.prog 38 #[.slice a n c,.slice b m d] w (PPart (A - B) w):=by
 have hcm:=ha.capm
 have hnc:=ha.cap
 have hdm:=hb.capm
 have hmd:=hb.cap
 unfold maxLen at hcm hdm
 have hn6:n≤9223372036854775807:=by omega
 have HA:=Lib.hid fa
 have HB:=Lib.hid fb
 clear fa fb
 go_enter Tryz.func38,Tryz.ntmps38
 go_wp2_with fail
 refine (copied_any a n c (lmb A) _ ha hn).mono ?_
 rintro e w1 ⟨g,rfl,hg,hown1,hb1⟩
 go_wp2
 go_loopw [6,13] (fun bv i wr=>∃ k:Nat,k≤n∧i=.int .i64 k∧bv=.int .u32 (bw A B k)∧Own .u32 98 wr g n (difF A B k)∧Below w.heap.size w wr) (fun _ i _=>n - (intOf i).toNat)
 case atStart=>exact ⟨0,Nat.zero_le _,rfl,by rw [bw_zero]; rfl,hown1.congr (fun j hj=>by simp [difF]),hb1⟩
 case round =>
  obtain ⟨k,hk,rfl,rfl,hown,hbl⟩:=hrel
  have hcb:=bw_le A B k
  have hst:=Lib.hid (bw_part hBA k)
  have hsn:=Lib.hid (bw_next A B k)
  have hla:=lmb_lt A k
  have hlb:=lmb_lt B k
  by_cases hlt:k < n
  ·
   have c1:wr.cell? ⟨g,k,none⟩=some (.int .u32 (lmb A k)):=by rw [hown.cell k (by omega)]; simp [difF]
   have c2:=hown.free k
   have hbs:=hbl.setCell (p:=⟨g,k,none⟩) hg
   by_cases hm:k < m
   ·
    obtain ⟨b2,o2,rfl,hb2⟩:=hb.some_of_pos (by omega)
    have c3:=(hb.below hbl).at k hm
    by_cases ht:lmb A k < bw A B k+lmb B k
    ·
     have HX:Hid (((lmb A k:Int) - ((bw A B k:Int)+(lmb B k:Int))) % 4294967296=((lmb (A - B) k:Nat):Int)∧bw A B (k+1)=1):=by
      have h1:=hst.out; have h2:=hsn.out; rw [if_pos ht] at h2; show _∧_; omega
     clear hst hsn hb
     go_wp2
     go_roundw
     case rel=>exact ⟨k+1,by omega,by go_num,by rw [HX.out.2]; rfl,hown.put (by omega) (by rw [HX.out.1]; simp [difF]) (difF_next k),hbs _⟩
     case measure=>simp [intOf]; omega
    ·
     have HX:Hid ((lmb A k:Int) - ((bw A B k:Int)+(lmb B k:Int))=((lmb (A - B) k:Nat):Int)∧bw A B (k+1)=0):=by
      have h1:=hst.out; have h2:=hsn.out; rw [if_neg ht] at h2; show _∧_; omega
     clear hst hsn hb
     go_wp2
     go_roundw
     case rel=>exact ⟨k+1,by omega,by go_num,by rw [HX.out.2]; rfl,hown.put (by omega) (by rw [HX.out.1]; simp [difF]) (difF_next k),hbs _⟩
     case measure=>simp [intOf]; omega
   ·
    have h0:=lmb_zero HB.out.1 (i:=k) (by omega)
    by_cases ht:lmb A k < bw A B k
    ·
     have HX:Hid (((lmb A k:Int) - (bw A B k:Int)) % 4294967296=((lmb (A - B) k:Nat):Int)∧bw A B (k+1)=1):=by
      have h1:=hst.out; have h2:=hsn.out; rw [if_pos (by omega)] at h2; show _∧_; omega
     clear hst hsn hb h0
     go_wp2
     go_roundw
     case rel=>exact ⟨k+1,by omega,by go_num,by rw [HX.out.2]; rfl,hown.put (by omega) (by rw [HX.out.1]; simp [difF]) (difF_next k),hbs _⟩
     case measure=>simp [intOf]; omega
    ·
     have HX:Hid ((lmb A k:Int) - (bw A B k:Int)=((lmb (A - B) k:Nat):Int)∧bw A B (k+1)=0):=by
      have h1:=hst.out; have h2:=hsn.out; rw [if_neg (by omega)] at h2; show _∧_; omega
     clear hst hsn hb h0
     go_wp2
     go_roundw
     case rel=>exact ⟨k+1,by omega,by go_num,by rw [HX.out.2]; rfl,hown.put (by omega) (by rw [HX.out.1]; simp [difF]) (difF_next k),hbs _⟩
     case measure=>simp [intOf]; omega
  ·
   obtain rfl:k=n:=by omega
   have hO:Own .u32 98 wr g k (lmb (A - B)):=hown.congr (fun j hj=>by rw [difF,if_pos hj])
   clear hst hsn hb
   go_wp2_with fail
   refine (trimmed_any _ _ _ (A - B) _ (hO.lie (Nat.le_refl _) (by unfold maxLen; omega)) (Nat.lt_of_le_of_lt (Nat.sub_le _ _) HA.out.1)).mono ?_
   rintro e w3 ⟨mm,rfl,hmm,hfit,rfl⟩
   go_wp2
   go_ret
   exact ppart_own hO hg hbl hmm hn6 hfit
end Go.Proofs.YtjclllindbfmhabGreatDoor
