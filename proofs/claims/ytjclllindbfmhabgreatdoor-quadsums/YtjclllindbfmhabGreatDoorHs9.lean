/- Parts of the proof. -/
import Derived.Test.YtjclllindbfmhabGreatDoorHs5
import Derived.Test.YtjclllindbfmhabGreatDoorHs4
import Derived.Test.YtjclllindbfmhabGreatDoorShelf
import Derived.Lib.ItoaNum
set_option linter.unusedSimpArgs false
set_option linter.unusedVariables false
namespace Go.Proofs.YtjclllindbfmhabGreatDoor
/- The walk of quotient. -/
open Go.RowKit
/-- Parts of a quotient and of what is left are handed back, in new memory. -/
def PQuo (A B:Nat) (w:World) (e:Ending) (w':World):Prop :=
 ∃ (a1:Option Addr) (n1 c1:Nat) (a2:Option Addr) (n2 c2:Nat),e=.returned (.tuple #[.slice a1 n1 c1,.slice a2 n2 c2]) ∧
  (Lie .u32 w' a1 n1 c1 (lmb (A / B))∧Fit n1 (A / B)∧∀ p,a1=some p→w.heap.size≤p.block) ∧
  (Lie .u32 w' a2 n2 c2 (lmb (A % B))∧Fit n2 (A % B)∧∀ p,a2=some p→w.heap.size≤p.block)∧Below w.heap.size w w'
theorem bitLen_in {x:Nat} (h0:1≤x) (h:x < 4294967296):1≤Lib.bitLen x∧Lib.bitLen x≤32∧2 ^ (Lib.bitLen x - 1)≤x∧x < 2 ^ Lib.bitLen x:=by
 obtain ⟨h1,h2,h3⟩:=Lib.bitLenAux_bounds 64 x (by omega) (by omega)
 exact ⟨h1,Lib.bitLen_le x 32 (by omega) h,h2,h3⟩
theorem top_lead {B n s:Nat} (hB:Fit n B) (hn:1≤n) (hs:s=32 - Lib.bitLen (lmb B (n - 1))):s < 32∧Fit n (B*2 ^ s)∧1≤lmb B (n - 1):=by
 obtain ⟨m,rfl⟩:∃ m,n=m+1:=⟨n - 1,by omega⟩
 simp only [Nat.add_sub_cancel] at *
 have hB1:=hB.1
 have hB2:BB ^ m≤B:=by rcases hB.2 with h | h <;> simp at h ⊢; exact h
 have htop:1≤lmb B m:=by rw [lmb_top hB1]; exact Nat.div_pos hB2 (BBp _)
 obtain ⟨h1,h2,h3,h4⟩:=bitLen_in htop (lmb_lt B m)
 have hs32:s < 32:=by omega
 refine ⟨hs32,⟨?_,.inr ?_⟩,htop⟩
 ·
  have e:B < BB ^ m*(lmb B m+1):=by
   rw [lmb_top hB1,Nat.mul_add,Nat.mul_one]
   have:=Nat.div_add_mod B (BB ^ m)
   have h5:=Nat.mod_lt B (BBp m)
   omega
  have e2:(lmb B m+1)*2 ^ s≤4294967296:=by
   have:(lmb B m+1)*2 ^ s≤2 ^ Lib.bitLen (lmb B m)*2 ^ s:=Nat.mul_le_mul_right _ h4
   rw [← Nat.pow_add,show Lib.bitLen (lmb B m)+s=32 from by omega] at this
   exact this
  calc B*2 ^ s < BB ^ m*(lmb B m+1)*2 ^ s:=(Nat.mul_lt_mul_right (Nat.pow_pos (by decide))).2 e
   _=BB ^ m*((lmb B m+1)*2 ^ s):=Nat.mul_assoc _ _ _
   _≤BB ^ m*4294967296:=Nat.mul_le_mul_left _ e2
   _=BB ^ (m+1):=by rw [Nat.pow_succ]; rfl
 ·
  exact Nat.le_trans hB2 (Nat.le_mul_of_pos_right _ (Nat.pow_pos (by decide)))
theorem own_lit1 (k:IntKind) (e:TypeId) (w:World) (x:Nat) (f:Nat→Nat) (h:f 0=x):Own k e (w.alloc (.cells #[.int k (x:Nat)] e)) w.heap.size 1 f:=by
 unfold Own
 rw [heap_alloc_new]
 simp [List.range_succ,h]
theorem own_lit2 (k:IntKind) (e:TypeId) (w:World) (x y:Nat) (f:Nat→Nat) (h:f 0=x) (h':f 1=y):Own k e (w.alloc (.cells #[.int k (x:Nat),.int k (y:Nat)] e)) w.heap.size 2 f:=by
 unfold Own
 rw [heap_alloc_new]
 simp [List.range_succ,h,h']
set_option maxHeartbeats 1600000 in
theorem quotient_lt (a b:Option Addr) (n c m d A B:Nat) (w:World) (ha:Lie .u32 w a n c (lmb A)) (hb:Lie .u32 w b m d (lmb B)) (fa:Fit n A) (fb:Fit m B) (hn:n≤1000000000) (hlt:A < B) :
  Calls Tryz.prog 104 #[.slice a n c,.slice b m d] w (PQuo A B w):=by
 go_enter Tryz.func104,Tryz.ntmps104
 go_wp2_with fail
 refine (compare_any a b n c m d A B _ ha hb fa fb).mono ?_
 rintro e w1 ⟨rfl,hb1⟩
 have ha1:=ha.below hb1
 rw [show cmpN A B=-1 from by simp [cmpN,hlt]]
 clear ha hb
 go_wp2_with fail
 refine (copied_any a n c (lmb A) _ ha1 hn).mono ?_
 rintro e w2 ⟨g,rfl,hg,hown2,hb2⟩
 have HQ:Hid (A / B=0∧A % B=A):=⟨Nat.div_eq_of_lt hlt,Nat.mod_eq_of_lt hlt⟩
 go_wp2
 go_ret2
 refine ⟨none,0,0,some ⟨g,0,none⟩,n,n,rfl,?_,?_,hb1.trans (hb2.mono hb1.size)⟩
 ·
  rw [HQ.out.1]; exact ⟨lie_nil _ _ _,fit_zero,fun p hp=>by cases hp⟩
 ·
  rw [HQ.out.2]; exact ⟨hown2.lie (Nat.le_refl _) (by unfold maxLen; omega),fa,fun p hp=>by cases hp; have:=hb1.size; show _≤g; omega⟩
set_option maxHeartbeats 1600000 in
theorem quotient_one (a b:Option Addr) (n c d A B:Nat) (w:World) (ha:Lie .u32 w a n c (lmb A)) (hb:Lie .u32 w b 1 d (lmb B)) (fa:Fit n A) (fb:Fit 1 B) (hn:n≤1000000000) (hlt:B≤A) :
  Calls Tryz.prog 104 #[.slice a n c,.slice b (1:Nat) d] w (PQuo A B w):=by
 have hBl:B < 4294967296:=by have:=fb.1; rw [Nat.pow_one] at this; exact this
 have hBp:0 < B:=by
  refine Nat.pos_of_ne_zero fun h=>?_
  have:=(fit_pos fb).2 h
  omega
 have hB0:lmb B 0=B:=by unfold lmb; simp; exact Nat.mod_eq_of_lt hBl
 obtain ⟨b1,o1,rfl,hb1'⟩:=hb.some_of_pos (by omega)
 have hcmp:0≤cmpN A B:=by unfold cmpN; rw [if_neg (by omega)]; split <;> omega
 go_enter Tryz.func104,Tryz.ntmps104
 go_wp2_with fail
 refine (compare_any a _ n c 1 d A B _ ha hb fa fb).mono ?_
 rintro e w1 ⟨rfl,hb1⟩
 have ha1:=ha.below hb1
 have hbb1:=hb.below hb1
 generalize cmpN A B=cc at *
 clear ha hb
 go_wp2_with fail
 refine (copied_any a n c (lmb A) _ ha1 hn).mono ?_
 rintro e w2 ⟨g,rfl,hg,hown2,hb2⟩
 have hbb2:=hbb1.below hb2
 have c0:=hbb2.at 0 (by omega)
 rw [hB0,Nat.add_zero] at c0
 clear hbb1 hbb2 ha1
 go_wp2_with fail
 refine (divideBy_any g n n A B (lmb A) _ hown2 (Nat.le_refl _) (fun i hi=>rfl) fa.1 hBp hBl hn).mono ?_
 rintro e w3 ⟨rfl,hown3,ho3⟩
 have hown4:Own .u32 98 w3 g n (lmb (A / B)):=hown3.congr (fun i hi=>by rw [hiF,if_pos (by omega)])
 clear hown3
 obtain ⟨r,hr⟩:∃ r,r=A % B:=⟨_,rfl⟩
 have hrB:r < 4294967296:=by rw [hr]; exact Nat.lt_trans (Nat.mod_lt _ hBp) hBl
 rw [← hr]
 have HR:=Lib.hid hr
 clear hr
 go_wp2_with fail
 refine (trimmed_any _ _ _ (A / B) _ (hown4.lie (Nat.le_refl _) (by unfold maxLen; omega)) (Nat.lt_of_le_of_lt (Nat.div_le_self _ _) fa.1)).mono ?_
 rintro e w4 ⟨m1,rfl,hm1,hfit1,rfl⟩
 have hown5:=own_lit1 .u32 98 w3 r (lmb r) (by unfold lmb; simp; exact Nat.mod_eq_of_lt hrB)
 go_wp2_with fail
 refine (trimmed_any _ _ _ r _ (hown5.lie (Nat.le_refl _) (by unfold maxLen; omega)) (by rw [Nat.pow_one]; exact hrB)).mono ?_
 rintro e w5 ⟨m2,rfl,hm2,hfit2,rfl⟩
 go_wp2
 go_ret2
 have hb3:Below w.heap.size w w3:=(hb1.trans (hb2.mono hb1.size)).trans (ho3.below (by have:=hb1.size; omega))
 have hb4:Below w3.heap.size w3 (w3.alloc (.cells #[.int .u32 (r:Nat)] 98)):=(Below.refl _ _).alloc (Nat.le_refl _) _
 refine ⟨some ⟨g,0,none⟩,m1,n,some ⟨w3.heap.size,0,none⟩,m2,1,rfl,⟨(hown4.lie hm1 (by unfold maxLen; omega)).below hb4,hfit1,fun p hp=>?_⟩,?_,hb3.trans (hb4.mono hb3.size)⟩
 ·
  cases hp; have:=hb1.size; show _≤g; omega
 ·
  rw [← HR.out]
  exact ⟨hown5.lie hm2 (by unfold maxLen; omega),hfit2,fun p hp=>by cases hp; exact hb3.size⟩
end Go.Proofs.YtjclllindbfmhabGreatDoor

namespace Go.Proofs.YtjclllindbfmhabGreatDoor
/- The walk of quotient, the case of a divisor of several parts. -/
open Go.RowKit
theorem lmb_shift (V j i:Nat):lmb (V / BB ^ j) i=lmb V (j+i):=by
 unfold lmb
 rw [Nat.div_div_eq_div_mul,← Nat.pow_add]
theorem quo_part (A D j:Nat):A % (D*BB ^ (j+1)) / BB ^ j / D=lmb (A / D) j:=by
 rw [Nat.div_div_eq_div_mul,Nat.mul_comm (BB ^ j) D,Nat.pow_succ,← Nat.mul_assoc,Nat.mod_mul_right_div_self]
 unfold lmb
 rw [Nat.div_div_eq_div_mul]
theorem quo_rest (A D j:Nat):A % (D*BB ^ j)=A % (D*BB ^ (j+1)) % BB ^ j+BB ^ j*(A % (D*BB ^ (j+1)) / BB ^ j % D):=by
 rw [← Nat.mod_mul,Nat.mul_comm (BB ^ j) D,Nat.pow_succ,← Nat.mul_assoc,Nat.mod_mul_right_mod]
theorem quo_win {A D n j T:Nat} (hD:D < BB ^ n):∀ p,p < T →
  winK j n (n+1) (A % (D*BB ^ (j+1)) / BB ^ j % D) (A % (D*BB ^ (j+1)) / BB ^ j) (lmb (A % (D*BB ^ (j+1)))) p=lmb (A % (D*BB ^ j)) p:=by
 intro p _
 have hDp:0 < D*BB ^ (j+1)∨D=0:=by
  rcases Nat.eq_zero_or_pos D with h | h
  ·
   exact .inr h
  ·
   exact .inl (Nat.mul_pos h (BBp _))
 have hr:=quo_rest A D j
 by_cases h1:j≤p∧p≤j+n
 ·
  unfold winK
  rw [if_pos h1,if_pos (by omega),hr]
  obtain ⟨i,rfl⟩:∃ i,p=j+i:=⟨p - j,by omega⟩
  rw [← lmb_shift,show j+i - j=i from by omega,Nat.add_mul_div_left _ _ (BBp j),Nat.div_eq_of_lt (Nat.mod_lt _ (BBp j)),Nat.zero_add]
 ·
  unfold winK
  rw [if_neg h1]
  by_cases h2:p < j
  ·
   rw [hr,lmb_add_hi _ _ _ _ h2]
   conv=>lhs; rw [← Nat.mod_add_div (A % (D*BB ^ (j+1))) (BB ^ j)]
   rw [lmb_add_hi _ _ _ _ h2]
  ·
   rcases hDp with hDp | hDp
   ·
    have e1:A % (D*BB ^ (j+1)) < BB ^ (n+(j+1)):=Nat.lt_of_lt_of_le (Nat.mod_lt _ hDp) (by rw [Nat.pow_add BB n]; exact Nat.mul_le_mul_right _ (Nat.le_of_lt hD))
    have hD0:0 < D:=Nat.pos_of_mul_pos_right hDp
    have e2:A % (D*BB ^ j) < BB ^ (n+j):=Nat.lt_of_lt_of_le (Nat.mod_lt _ (Nat.mul_pos hD0 (BBp _))) (by rw [Nat.pow_add]; exact Nat.mul_le_mul_right _ (Nat.le_of_lt hD))
    rw [lmb_zero e1 (by omega),lmb_zero e2 (by omega)]
   ·
    subst hDp; simp
/-- The parts of a quotient that are told: those from k on. -/
def quoF (Q k:Nat) (p:Nat):Nat:=if k≤p then lmb Q p else 0
theorem quoF_next (Q j n:Nat):∀ p,p < n→p ≠ j→quoF Q (j+1) p=quoF Q j p:=by
 intro p _ hne
 unfold quoF
 by_cases h:j+1≤p
 ·
  rw [if_pos h,if_pos (by omega)]
 ·
  rw [if_neg h,if_neg (by omega)]
theorem Own.grown {k:IntKind} {e:TypeId} {w w':World} {g n:Nat} {f:Nat→Nat} {r:Option Nat} (h:Own k e w g n f) (hg:w.grownBy w' r) (hr:some g ≠ r):Own k e w' g n f:=by
 unfold Own at h ⊢
 rw [hg.block g (Array.getElem?_eq_some_iff.1 h).1 hr]; exact h
theorem below_grown {B g:Nat} {w0 w w':World} (h:Below B w0 w) (hg:w.grownBy w' (some g)) (hB:B≤w.heap.size) (hr:B≤g):Below B w0 w' :=
 h.grown hg hB (fun k hk=>by cases hk; exact hr)
set_option maxRecDepth 100000 in
set_option maxHeartbeats 1600000 in
theorem quotient_many (a b:Option Addr) (na c n d A B:Nat) (w:World) (ha:Lie .u32 w a na c (lmb A)) (hb:Lie .u32 w b n d (lmb B)) (fa:Fit na A) (fb:Fit n B) (hna:na≤100000000) (hn2:2≤n) (hlt:B≤A) :
  Calls Tryz.prog 104 #[.slice a na c,.slice b n d] w (PQuo A B w):=by
 have hnn:n≤na:=fit_le fb (Nat.lt_of_le_of_lt hlt fa.1)
 obtain ⟨q,rfl⟩:∃ q,na=n+q:=⟨na - n,by omega⟩
 obtain ⟨b1,o1,rfl,hb1'⟩:=hb.some_of_pos (by omega)
 have hcmp:0≤cmpN A B:=by unfold cmpN; rw [if_neg (by omega)]; split <;> omega
 have hcm:=ha.capm
 have hnc:=ha.cap
 have hdm:=hb.capm
 have hmd:=hb.cap
 unfold maxLen at hcm hdm
 have htl:=lmb_lt B (n - 1)
 obtain ⟨s,hs⟩:∃ s,s=32 - Lib.bitLen (lmb B (n - 1)):=⟨_,rfl⟩
 obtain ⟨hs32,hfD,htop⟩:=top_lead fb (by omega) hs
 have hsI:(32:Int) - (Lib.bitLen ((lmb B (n - 1):Int)).toNat:Int)=(s:Int):=by
  rw [Int.toNat_natCast]; have:=(bitLen_in htop htl).2.1; omega
 have HSI:=Lib.hid hsI
 clear hs hsI
 go_enter Tryz.func104,Tryz.ntmps104
 go_wp2_with fail
 refine (compare_any a _ (n+q) c n d A B _ ha hb fa fb).mono ?_
 rintro e w1 ⟨rfl,hb1⟩
 have ha1:=ha.below hb1
 have hbb1:=hb.below hb1
 generalize cmpN A B=cc at *
 have c1:=hbb1.at (n - 1) (by omega)
 clear ha hb
 go_wp2_with fail
 refine (Tryz.bits_LeadingZeros32 _ _ (by omega) (by omega)).mono ?_
 rintro e w1' ⟨rfl,hww⟩
 subst hww
 rw [HSI.out]
 go_wp2_with fail
 refine (raised_any _ n d B s _ hbb1 fb.1 hs32 (by omega)).mono ?_
 rintro e w2 ⟨gD,rfl,hgD,hownD,hb2⟩
 have ha2:=ha1.below hb2
 go_wp2_with fail
 refine (trimmed_any _ _ _ (B*2 ^ s) _ (hownD.lie (Nat.le_refl _) (by unfold maxLen; omega)) (fit_mono hfD.1 (by omega))).mono ?_
 rintro e w2' ⟨nd,rfl,hnd,hfit,rfl⟩
 obtain rfl:=(fit_uniq hfD hfit)
 go_wp2_with fail
 refine (raised_any _ (n+q) c A s _ ha2 fa.1 hs32 (by omega)).mono ?_
 rintro e w3 ⟨gR,rfl,hgR,hownR,hb3⟩
 have hlD:=hownD.lt
 have hownD3:=hownD.below hb3
 clear hownD ha1 ha2 hbb1
 have hm4:4*(q+1)≤281474976710656:=by omega
 have hm6:q+1≤9223372036854775807:=by omega
 go_wp2_with (first | (at_make; refine wpList_mk _ rfl (.tmp 51) (.tmp 51) 28 rfl 98 .u32 4 Tryz.u28 Tryz.info98 _ _ (q+1) rfl rfl (by omega) (by omega) hm4 hm6 ?_; intro gQ w4 hgQ hownQ hb4))
 have HAD:Hid (A*2 ^ s < B*2 ^ s*BB ^ (q+1)):=by
  show _ < _
  have h1:A < B*BB ^ (q+1):=by
   refine Nat.lt_of_lt_of_le fa.1 ?_
   have h2:BB ^ (n - 1)≤B:=by rcases fb.2 with h | h <;> omega
   rw [show n+q=(n - 1)+(q+1) from by omega,Nat.pow_add]
   exact Nat.mul_le_mul_right _ h2
  rw [Nat.mul_right_comm]
  exact (Nat.mul_lt_mul_right (Nat.pow_pos (by decide))).2 h1
 have hDpos:0 < B*2 ^ s:=Nat.pos_of_ne_zero fun h=>by have:=(fit_pos hfD).2 h; omega
 have HFD:=Lib.hid hfD
 have HQ:Hid (A*2 ^ s / (B*2 ^ s)=A / B∧A*2 ^ s % (B*2 ^ s) / 2 ^ s=A % B):=by
  refine ⟨Nat.mul_div_mul_right _ _ (Nat.pow_pos (by decide)),?_⟩
  rw [Nat.mul_mod_mul_right,Nat.mul_div_cancel _ (Nat.pow_pos (by decide))]
 clear hfD hfit fa fb
 generalize A*2 ^ s=A' at *
 generalize B*2 ^ s=D at *
 have hlR:=hownR.lt
 have hb04:Below w.heap.size w w4:=(((hb1.trans (hb2.mono hb1.size)).trans (hb3.mono (by have:=hb1.size; have:=hb2.size; omega))).trans (hb4.mono (by have:=hb1.size; have:=hb2.size; have:=hb3.size; omega)))
 have hw2:w.heap.size≤gD:=by have:=hb1.size; omega
 go_loopw [55] (fun iv wr=>∃ i:Nat,i≤q+1∧iv=.int .i64 i∧Own .u32 98 wr gR (n+q+1) (lmb (A' % (D*BB ^ (q+1 - i))))∧Own .u32 98 wr gQ (q+1) (quoF (A' / D) (q+1 - i))∧Own .u32 98 wr gD (n+1) (lmb D)∧Below w.heap.size w wr) (fun iv _=>q+1 - (intOf iv).toNat)
 case atStart =>
  refine ⟨0,Nat.zero_le _,rfl,?_,hownQ.congr (fun j hj=>by rw [quoF,if_neg (by omega)]),hownD3.below hb4,hb04⟩
  rw [Nat.sub_zero,Nat.mod_eq_of_lt HAD.out]
  exact hownR.below hb4
 case round =>
  obtain ⟨i,hi,rfl,oR,oQ,oD,hbl⟩:=hrel
  by_cases hiq:i < q+1
  ·
   rw [show q+1 - i=(q - i)+1 from by omega] at oR oQ
   have hVlt:A' % (D*BB ^ (q - i+1)) / BB ^ (q - i) < D*BB:=by
    refine Nat.div_lt_of_lt_mul (Nat.lt_of_lt_of_le (Nat.mod_lt _ (Nat.mul_pos hDpos (BBp _))) ?_)
    rw [Nat.pow_succ,← Nat.mul_assoc,Nat.mul_comm D,Nat.mul_assoc]
    exact Nat.le_refl _
   have HV:=Lib.hid hVlt
   clear hVlt
   go_wp2_with fail
   rw [show q - i+n+1 - (q - i)=n+1 from by omega]
   refine (nextPart_any gR (n+q+1) (q - i) n _ (A' % (D*BB ^ (q - i+1)) / BB ^ (q - i)) D gD 0 (n+1) _ _ oR (by omega) (by omega) (by omega) (by unfold maxLen; omega)
    (fun j hj=>(lmb_shift _ _ _).symm) (oD.lie (by omega) (by unfold maxLen; omega)) (by omega) hn2 HV.out HFD.out).mono ?_
   rintro e w5 ⟨rfl,oR5,hg5⟩
   rw [quo_part]
   have oQ5:=oQ.grown hg5 (by intro h; cases h; omega)
   have oD5:=oD.grown hg5 (by intro h; cases h; omega)
   have hb5:=below_grown hbl hg5 hbl.size (by omega)
   have oR5':=oR5.congr (quo_win HFD.out.1)
   have hl:=lmb_lt (A' / D) (q - i)
   have cq:=oQ5.cell (q - i) (by omega)
   have cf:=oQ5.free (q - i)
   clear oR oQ oD oR5
   go_wp2
   go_roundw
   case rel =>
    refine ⟨i+1,by omega,by go_num,?_,?_,?_,hb5.setCell (p:=⟨gQ,q - i,none⟩) (by show _≤gQ; omega) _⟩
    ·
     rw [show q+1 - (i+1)=q - i from by omega]
     exact oR5'.only (Only.setCell _ _ _ _) (by omega)
    ·
     rw [show q+1 - (i+1)=q - i from by omega]
     exact oQ5.put (by omega) (by rw [quoF,if_pos (Nat.le_refl _)]) (quoF_next _ _ _)
    ·
     exact oD5.only (Only.setCell _ _ _ _) (by omega)
   case measure=>simp [intOf]; omega
  ·
   obtain rfl:i=q+1:=by omega
   rw [Nat.sub_self] at oR oQ
   rw [Nat.pow_zero,Nat.mul_one] at oR
   have oQ':Own .u32 98 wr gQ (q+1) (lmb (A' / D)):=oQ.congr (fun p hp=>by rw [quoF,if_pos (Nat.zero_le _)])
   have hRl:A' % D < BB ^ (n+q+1):=Nat.lt_of_lt_of_le (Nat.mod_lt _ hDpos) (Nat.le_of_lt (fit_mono HFD.out.1 (by omega)))
   have hQl:A' / D < BB ^ (q+1):=Nat.div_lt_of_lt_mul HAD.out
   have HRl:=Lib.hid hRl
   have HQl:=Lib.hid hQl
   clear oQ hRl hQl
   go_wp2_with fail
   refine (trimmed_any _ _ _ (A' / D) _ (oQ'.lie (Nat.le_refl _) (by unfold maxLen; omega)) HQl.out).mono ?_
   rintro e w6 ⟨m1,rfl,hm1,hfit1,rfl⟩
   go_wp2_with fail
   refine (trimmed_any _ _ _ (A' % D) _ (oR.lie (Nat.le_refl _) (by unfold maxLen; omega)) HRl.out).mono ?_
   rintro e w6 ⟨m2,rfl,hm2,hfit2,rfl⟩
   go_wp2_with fail
   refine (lowered_any _ m2 _ (A' % D) s _ (oR.lie hm2 (by unfold maxLen; omega)) hfit2.1 hs32 (by omega)).mono ?_
   rintro e w7 ⟨a3,m3,c3,rfl,hl3,hf3,hfr3,hb7⟩
   go_wp2
   go_ret2
   rw [HQ.out.2] at hl3 hf3
   rw [HQ.out.1] at hfit1 oQ'
   exact ⟨some ⟨gQ,0,none⟩,m1,_,a3,m3,c3,rfl,⟨(oQ'.lie hm1 (by unfold maxLen; omega)).below hb7,hfit1,(fun p hp=>by cases hp; show _≤gQ; omega)⟩,⟨hl3,hf3,(fun p hp=>Nat.le_trans hbl.size (hfr3 p hp))⟩,hbl.trans (hb7.mono hbl.size)⟩
theorem quotient_any (a b:Option Addr) (n c m d A B:Nat) (w:World) (ha:Lie .u32 w a n c (lmb A)) (hb:Lie .u32 w b m d (lmb B)) (fa:Fit n A) (fb:Fit m B) (hn:n≤100000000) (hB:0 < B) :
  Calls Tryz.prog 104 #[.slice a n c,.slice b m d] w (PQuo A B w):=by
 by_cases hlt:A < B
 ·
  exact quotient_lt a b n c m d A B w ha hb fa fb (by omega) hlt
 ·
  have hm0:m ≠ 0:=fun h=>by have:=(fit_pos fb).1 h; omega
  by_cases hm:m=1
  ·
   subst hm; exact quotient_one a b n c d A B w ha hb fa fb (by omega) (by omega)
  ·
   exact quotient_many a b n c m d A B w ha hb fa fb hn (by omega) (by omega)
end Go.Proofs.YtjclllindbfmhabGreatDoor
