/- Parts of the proof. -/
import Derived.Test.YtncbajehmdnibaaDoorHp11
import Derived.IntWalk
set_option linter.unusedSimpArgs false
set_option linter.unusedVariables false
/- The document's numbers: the walks of Sub, Mul. -/
namespace Go.Proofs.YtncbajehmdnibaaDoor
open Go.RowKit
theorem fit10_uniq {n m N:Nat} (h:Fit10 n N) (k:Fit10 m N):n=m:=by
 have key:∀ a b:Nat,Fit10 a N→Fit10 b N→¬ a < b:=by
  intro a b ha hb hlt
  rcases hb.2 with h0 | h0
  ·
   omega
  ·
   have h1:10 ^ a≤10 ^ (b - 1):=Nat.pow_le_pow_right (by decide) (by omega)
   have:=ha.1
   omega
 have h1:=key n m h k
 have h2:=key m n k h
 omega
set_option maxHeartbeats 1600000 in
theorem rSub_any (bl:Bool) (a:Option Addr) (n c:Nat) (x:Int) (bl':Bool) (a':Option Addr) (n' c':Nat) (y:Int) (w:World) (h:RNum w bl a n c x) (h':RNum w bl' a' n' c' y) (hn:n≤10000000) (hn':n'≤10000000) :
  Calls Tryd.prog 26 #[.agg #[.bool bl,.slice a n c],.agg #[.bool bl',.slice a' n' c']] w (PRNumF (x - y) w):=by
 have H:=Lib.hid h
 have H':=Lib.hid h'
 clear h h'
 go_enter Tryd.func26,Tryd.ntmps26
 go_wp2
 have hX1:=boxed_mk w 51 bl a n c bl' a' n' c'
 generalize ((w.alloc (.cells #[.bool bl,.slice a n c] 51)).alloc (.cells #[.bool bl',.slice a' n' c'] 51)).alloc (.cells #[.bool false,.slice none 0 0] 51)=w1 at *
 go_region_held3 (fun w'=>w'.cell? ⟨w.heap.size,0,none⟩=some (.bool bl)∧w'.cell? ⟨w.heap.size,1,none⟩=some (.slice a n c)∧w'.cell? ⟨w.heap.size+1,0,none⟩=some (.bool bl')∧w'.cell? ⟨w.heap.size+1,1,none⟩=some (.slice a' n' c'))
  (first | exact hX1.drew.hs | exact hX1.hs | exact hX2.hs | exact hX3.hs | exact hX3.hs2 _ _)
  (first
   | (go_at_call 41; refine (rMinus_any bl' a' n' c' y _ (H'.out.below hX1.drew.below)).mono ?_; rintro e w2 ⟨bl2,a2,n2,c2,rfl,hN2,hb2⟩; have hX2:=hX1.later (below_undrew hb2); have hn2:n2≤10000000:=Nat.le_trans (Nat.le_of_eq (fit10_uniq hN2.fit (by rw [Int.natAbs_neg]; exact H'.out.fit))) hn')
   | (go_at_call 25; refine (rAdd_any bl a n c x bl2 a2 n2 c2 (-y) _ (H.out.below hX2.below) hN2 hn hn2).mono ?_; rintro e w3 ⟨bl3,a3,n3,c3,rfl,hnum,hfr3,hb3⟩; have hX3:=hX2.later hb3; have rB0:=hX3.r0; have rB1:=hX3.r1; have fB0:=hX3.f0; have fB1:=hX3.f1))
 go_wp2
 rw [← Int.sub_eq_add_neg] at hnum
 refine bodyPost_ret (v:=.agg #[.bool bl3,.slice a3 n3 c3]) (by simp [results,Tryd.results26,go_sem,rB0,rB1]) rfl ?_
 exact rnumf_store hnum hX3.below (by omega) (fun p hp=>by have h1:=hfr3 p hp; have h2:=hX2.sz; omega)
/-- Parts below q out of S, the others out of T. -/
def tmixF (S T q:Nat) (p:Nat):Nat:=if p < q then dig S p else dig T p
/-- What is reached within a row: the rows ahead, and j parts of this one. -/
def trowS (A B i j:Nat):Nat:=(A % 10 ^ i)*B+10 ^ i*(dig A i*(B % 10 ^ j))
/-- What is carried within a row. -/
def trowC (A B i j:Nat):Nat:=trowS A B i j / 10 ^ (i+j) - (A % 10 ^ i)*B / 10 ^ (i+j)
theorem trowS_zero (A B i:Nat):trowS A B i 0=(A % 10 ^ i)*B:=by simp [trowS,Nat.mod_one]
theorem trowC_zero (A B i:Nat):trowC A B i 0=0:=by simp [trowC,trowS_zero]
theorem trowS_next (A B i j:Nat):trowS A B i (j+1)=trowS A B i j+10 ^ (i+j)*(dig A i*dig B j):=by
 unfold trowS
 rw [tmod_succ,Nat.pow_add]
 generalize dig A i=x
 generalize dig B j=y
 rw [Nat.mul_add,Nat.mul_add,← Nat.add_assoc]
 congr 1
 simp only [Nat.mul_assoc,Nat.mul_left_comm,Nat.mul_comm]
theorem trowS_le (A B i j:Nat):(A % 10 ^ i)*B≤trowS A B i j:=Nat.le_add_right _ _
theorem trowC_eq (A B i j:Nat):trowS A B i j / 10 ^ (i+j)=trowC A B i j+(A % 10 ^ i)*B / 10 ^ (i+j):=by
 unfold trowC
 have:=Nat.div_le_div_right (c:=10 ^ (i+j)) (trowS_le A B i j)
 omega
theorem trowC_lt (A B i j:Nat):trowC A B i j < 10:=by
 have hlt:trowS A B i j < (A % 10 ^ i)*B+10 ^ (i+j)*9+1:=by
  have h1:dig A i*(B % 10 ^ j)≤9*10 ^ j:=Nat.mul_le_mul (by have:=dig_lt A i; omega) (Nat.le_of_lt (Nat.mod_lt _ (p10 j)))
  have h2:10 ^ i*(dig A i*(B % 10 ^ j))≤10 ^ i*(9*10 ^ j):=Nat.mul_le_mul_left _ h1
  have h3:10 ^ i*(9*10 ^ j)=10 ^ (i+j)*9:=by rw [Nat.pow_add,Nat.mul_comm 9,Nat.mul_assoc]
  unfold trowS
  omega
 have hle:trowS A B i j / 10 ^ (i+j)≤(A % 10 ^ i)*B / 10 ^ (i+j)+9:=by
  rw [← Nat.add_mul_div_left _ _ (p10 (i+j))]
  exact Nat.div_le_div_right (by omega)
 unfold trowC
 omega
theorem trowC_step (A B i j:Nat) :
  (trowC A B i j+(dig A i*dig B j+dig ((A % 10 ^ i)*B) (i+j))) % 10=dig (trowS A B i (j+1)) (i+j) ∧
  (trowC A B i j+(dig A i*dig B j+dig ((A % 10 ^ i)*B) (i+j))) / 10=trowC A B i (j+1):=by
 have e1:trowS A B i (j+1) / 10 ^ (i+j)=trowC A B i j+(A % 10 ^ i)*B / 10 ^ (i+j)+dig A i*dig B j:=by
  rw [trowS_next,Nat.add_mul_div_left _ _ (p10 _),trowC_eq]
 have e2:=trowC_eq A B i (j+1)
 rw [show i+(j+1)=(i+j)+1 from by omega,Nat.pow_succ,← Nat.div_div_eq_div_mul,← Nat.div_div_eq_div_mul,e1] at e2
 constructor
 ·
  show _=trowS A B i (j+1) / 10 ^ (i+j) % 10
  rw [e1]
  show (_+(_+(A % 10 ^ i)*B / 10 ^ (i+j) % 10)) % 10=_
  omega
 ·
  show (_+(_+(A % 10 ^ i)*B / 10 ^ (i+j) % 10)) / 10=_
  omega
theorem tdig_add_hi (S x q p:Nat) (h:p < q):dig (S+10 ^ q*x) p=dig S p:=by
 unfold dig
 obtain ⟨d,rfl⟩:∃ d,q=p+1+d:=⟨q - (p+1),by omega⟩
 rw [Nat.pow_add,Nat.pow_succ,Nat.mul_assoc,Nat.mul_assoc,Nat.add_mul_div_left _ _ (p10 p),Nat.add_mul_mod_self_left]
theorem tmix_next (A B i j n:Nat):∀ p,p < n→p ≠ i+j→tmixF (trowS A B i j) ((A % 10 ^ i)*B) (i+j) p=tmixF (trowS A B i (j+1)) ((A % 10 ^ i)*B) (i+(j+1)) p:=by
 intro p _ hne
 unfold tmixF
 by_cases h1:p < i+j
 ·
  rw [if_pos h1,if_pos (by omega),trowS_next,tdig_add_hi _ _ _ _ h1]
 ·
  rw [if_neg h1,if_neg (by omega)]
theorem trowS_end (A B i m:Nat) (hB:B < 10 ^ m):trowS A B i m=(A % 10 ^ (i+1))*B:=by
 unfold trowS
 rw [Nat.mod_eq_of_lt hB,tmod_succ,Nat.add_mul,Nat.mul_assoc]
theorem trow_lt (A B i m:Nat) (hB:B < 10 ^ m):(A % 10 ^ i)*B < 10 ^ (i+m):=by
 rw [Nat.pow_add]
 exact Nat.mul_lt_mul'' (Nat.mod_lt _ (p10 i)) hB
theorem trowC_end (A B i m:Nat) (hB:B < 10 ^ m):trowC A B i m=dig ((A % 10 ^ (i+1))*B) (i+m):=by
 unfold trowC
 rw [trowS_end A B i m hB,Nat.div_eq_of_lt (trow_lt A B i m hB),Nat.sub_zero]
 have h:(A % 10 ^ (i+1))*B < 10 ^ (i+m+1):=by
  have:=trow_lt A B (i+1) m hB
  rwa [show i+1+m=i+m+1 from by omega] at this
 rw [dig_top h]
theorem tmix_end (A B i m n:Nat) (hB:B < 10 ^ m):∀ p,p < n→p ≠ i+m→tmixF (trowS A B i m) ((A % 10 ^ i)*B) (i+m) p=dig ((A % 10 ^ (i+1))*B) p:=by
 intro p _ hne
 unfold tmixF
 by_cases h1:p < i+m
 ·
  rw [if_pos h1,trowS_end A B i m hB]
 ·
  rw [if_neg h1,tlmb_zero (trow_lt A B i m hB) (by omega)]
  have:=trow_lt A B (i+1) m hB
  rw [tlmb_zero this (by omega)]
theorem mul_10 {x y:Nat} (hx:x < 10) (hy:y < 10):(0:Int)≤(x:Int)*(y:Int)∧(x:Int)*(y:Int)≤81:=by
 have:=Nat.mul_le_mul (show x≤9 by omega) (show y≤9 by omega)
 rw [← Int.natCast_mul]
 omega
set_option maxHeartbeats 3200000 in
theorem rMul_any (bl:Bool) (a:Option Addr) (n c:Nat) (x:Int) (bl':Bool) (a':Option Addr) (m d:Nat) (y:Int) (w:World) (h:RNum w bl a n c x) (h':RNum w bl' a' m d y) (hn:n≤1000000000) (hm:m≤1000000000) :
  Calls Tryd.prog 23 #[.agg #[.bool bl,.slice a n c],.agg #[.bool bl',.slice a' m d]] w (PRNumF (x*y) w):=by
 have HA:=Lib.hid h.fit.1
 have HB:=Lib.hid h'.fit.1
 have HSG:=Lib.hid (sg_mul h.sgn h'.sgn)
 have hl:=h.lie
 have hl':=h'.lie
 clear h h'
 generalize hAe:x.natAbs=A at *
 generalize hBe:y.natAbs=B at *
 clear hAe hBe
 have hn4:8*(n+m+1)≤281474976710656:=by omega
 have hn6:n+m+1≤9223372036854775807:=by omega
 have hX1:=boxed_mk w 51 bl a n c bl' a' m d
 go_enter Tryd.func23,Tryd.ntmps23
 go_wp2_with (first | (at_make; refine wpList_mk _ rfl (.tmp 17) (.tmp 17) 49 rfl 3 .i64 8 Tryd.ru49 Tryd.rinfo3 _ _ (n+m+1) rfl rfl (by omega) (by omega) hn4 hn6 ?_; intro g w2 hg hown hb2))
 generalize ((w.alloc (.cells #[.bool bl,.slice a n c] 51)).alloc (.cells #[.bool bl',.slice a' m d] 51)).alloc (.cells #[.bool false,.slice none 0 0] 51)=w1 at hX1 hg hb2
 have hlA:=hl.below hX1.below
 have hlB:=hl'.below hX1.below
 clear hl hl'
 go_loopw [6] (fun i wr=>∃ k:Nat,k≤n∧i=.int .i64 k∧Own .i64 3 wr g (n+m+1) (dig ((A % 10 ^ k)*B))∧Below w1.heap.size w1 wr) (fun i _=>n - (intOf i).toNat)
 case atStart=>exact ⟨0,Nat.zero_le _,rfl,hown.congr (fun j hj=>by simp [Nat.mod_one,dig]),hb2⟩
 case round =>
  obtain ⟨k,hk,rfl,hown,hbl⟩:=hrel
  have hXr:=hX1.later hbl
  have x1:=hXr.k1
  by_cases hlt:k < n
  ·
   obtain ⟨b1,o1,rfl,hb1'⟩:=hlA.some_of_pos (by omega)
   obtain ⟨wo,rfl⟩:∃ wo:World,wo=wr:=⟨_,rfl⟩
   go_wp2
   clear x1 hXr
   go_loopw [7,8] (fun cv jv wr=>∃ j:Nat,jv=.int .i64 j∧Below w1.heap.size w1 wr∧((j≤m∧cv=.int .i64 (trowC A B k j)∧Own .i64 3 wr g (n+m+1) (tmixF (trowS A B k j) ((A % 10 ^ k)*B) (k+j)))∨(j=m+1∧cv=.int .i64 0∧Own .i64 3 wr g (n+m+1) (dig ((A % 10 ^ (k+1))*B))))) (fun _ jv _=>m+1 - (intOf jv).toNat)
   case atStart=>exact ⟨0,rfl,hbl,.inl ⟨Nat.zero_le _,by rw [trowC_zero]; rfl,hown.congr (fun p hp=>by unfold tmixF; rw [trowS_zero]; split <;> rfl)⟩⟩
   case round =>
    clear hown hbl
    obtain ⟨j,rfl,hbl2,hcase⟩:=hrel
    have hXr:=hX1.later hbl2
    have x1:=hXr.k1
    have y1:=hXr.l1
    rcases hcase with ⟨hj,rfl,hown2⟩ | ⟨rfl,rfl,hown2⟩
    ·
     have hcl:=trowC_lt A B k j
     have hst:=Lib.hid (trowC_step A B k j)
     have hla:=dig_lt A k
     have hlb:=dig_lt B j
     have hlt2:=dig_lt ((A % 10 ^ k)*B) (k+j)
     by_cases hjm:j < m
     ·
      obtain ⟨b2,o2,rfl,hb2'⟩:=hlB.some_of_pos (by omega)
      have c1:=(hlA.below hbl2).at k hlt
      have c3:=(hlB.below hbl2).at j hjm
      have c4:wr.cell? ⟨g,k+j,none⟩=some (.int .i64 (dig ((A % 10 ^ k)*B) (k+j))):=by rw [hown2.cell (k+j) (by omega)]; simp [tmixF]
      have c5:=hown2.free (k+j)
      obtain ⟨X,hX⟩:∃ X:Int,X=((dig A k:Nat):Int):=⟨_,rfl⟩
      obtain ⟨Y,hY⟩:∃ Y:Int,Y=((dig B j:Nat):Int):=⟨_,rfl⟩
      obtain ⟨O,hO⟩:∃ O:Int,O=((dig ((A % 10 ^ k)*B) (k+j):Nat):Int):=⟨_,rfl⟩
      obtain ⟨C,hC⟩:∃ C:Int,C=((trowC A B k j:Nat):Int):=⟨_,rfl⟩
      obtain ⟨hpm0,hpm⟩:=mul_10 hla hlb
      rw [← hX,← hY] at hpm0 hpm
      have HX:Hid ((O+C+X*Y) % 10=((dig (trowS A B k (j+1)) (k+j):Nat):Int)∧(O+C+X*Y) / 10=((trowC A B k (j+1):Nat):Int)):=by
       have:=hst.out; show _∧_; rw [hX,hY,hO,hC,← Int.natCast_mul]; omega
      have hX0:0≤X:=by omega
      have hX1':X≤9:=by omega
      have hY0:0≤Y:=by omega
      have hY1':Y≤9:=by omega
      have hO0:0≤O:=by omega
      have hO1:O≤9:=by omega
      have hC0:0≤C:=by omega
      have hC1:C≤9:=by omega
      rw [← hX] at c1
      rw [← hY] at c3
      rw [← hO] at c4
      rw [← hC]
      have hw1:IntKind.i64.wrap (X*Y)=X*Y:=IntWalk.i64_in _ (by omega)
      have hw2:IntKind.i64.wrap (O+C+X*Y)=O+C+X*Y:=IntWalk.i64_in _ (by omega)
      have d1:decide ((j:Int) < (m:Int))=true:=decide_eq_true (by omega)
      have hbs:=fun v=>hbl2.setCell (p:=⟨g,k+j,none⟩) hg v
      clear hst hla hlb hlt2 hcl hX hY hO hC
      go_wp2
      go_quiet (fail)
      have hownq:Own .i64 3 (wr.drewN nq) g (n+m+1) (tmixF (trowS A B k j) ((A % 10 ^ k)*B) (k+j)):=hown2
      have c4q:(wr.drewN nq).cell? ⟨g,k+j,none⟩=some (.int .i64 O):=c4
      have c5q:(wr.drewN nq).frozen? ⟨g,k+j,none⟩=false:=c5
      have hbs':=fun v=>(below_drewN hbl2 nq).setCell (p:=⟨g,k+j,none⟩) hg v
      clear c1 c3 c4 c5 x1 y1 hXr hown2 hbs hbl2
      generalize wr.drewN nq=wq at *
      go_wp2
      go_roundw
      case rel=>exact ⟨j+1,by go_num,hbs' _,.inl ⟨by omega,by rw [HX.out.2],hownq.put (by omega) (by rw [HX.out.1]; rw [tmixF,if_pos (by omega)]) (tmix_next A B k j (n+m+1))⟩⟩
      case measure=>simp [intOf]; omega
     ·
      obtain rfl:j=m:=by omega
      have hE:=Lib.hid (trowC_end A B k j HB.out)
      have d1:decide ((j:Int) < (j:Int))=false:=decide_eq_false (by omega)
      have HZ:Hid (dig ((A % 10 ^ k)*B) (k+j)=0):=dig_zero (trow_lt A B k j HB.out) (Nat.le_refl _)
      by_cases hc0:trowC A B k j=0
      ·
       rw [hc0]
       have HO:Hid (Own .i64 3 wr g (n+j+1) (dig ((A % 10 ^ (k+1))*B))):=by
        refine hown2.congr (fun p hp=>?_)
        by_cases hpe:p=k+j
        ·
         subst hpe
         rw [← hE.out,hc0]
         unfold tmixF; rw [if_neg (by omega)]; exact HZ.out
        ·
         exact tmix_end A B k j (n+j+1) HB.out p hp hpe
       clear hst hla hlb hlt2 hcl hown2 hc0
       go_wp2
       go_roundw
       case rel=>exact ⟨k+1,by omega,by go_num,HO.out,hbl2⟩
       case measure=>simp [intOf]; omega
      ·
       have c4:wr.cell? ⟨g,k+j,none⟩=some (.int .i64 0):=by rw [hown2.cell (k+j) (by omega)]; simp only [tmixF]; rw [if_neg (by omega),HZ.out]; rfl
       have c5:=hown2.free (k+j)
       obtain ⟨C,hC⟩:∃ C:Int,C=((trowC A B k j:Nat):Int):=⟨_,rfl⟩
       have hC0:0 < C:=by omega
       have hC1:C≤9:=by omega
       have d2:decide (0 < C)=true:=decide_eq_true hC0
       have HM:Hid (C % 10=((dig ((A % 10 ^ (k+1))*B) (k+j):Nat):Int)∧C / 10=0):=by
        show _∧_
        rw [← hE.out]; omega
       rw [← hC]
       have hbs:=fun v=>hbl2.setCell (p:=⟨g,k+j,none⟩) hg v
       clear hst hla hlb hlt2 hcl hc0 hC hXr
       go_wp2
       go_roundw
       case rel=>exact ⟨j+1,by go_num,hbs _,.inr ⟨rfl,by rw [HM.out.2],hown2.put (by omega) (by rw [HM.out.1]) (tmix_end A B k j (n+j+1) HB.out)⟩⟩
       case measure=>simp [intOf]
    ·
     have d1:decide (((m+1:Nat):Int) < (m:Int))=false:=decide_eq_false (by omega)
     have d1':decide ((m:Int)+1 < (m:Int))=false:=decide_eq_false (by omega)
     go_wp2
     go_roundw
     case rel=>exact ⟨k+1,by omega,by go_num,hown2,hbl2⟩
     case measure=>simp [intOf]; omega
  ·
   obtain rfl:k=n:=by omega
   have hO:Own .i64 3 wr g (k+m+1) (dig (A*B)):=by rw [Nat.mod_eq_of_lt HA.out] at hown; exact hown
   have hAB:A*B < 10 ^ (k+m+1):=Nat.lt_of_lt_of_le (by rw [Nat.pow_add]; exact Nat.mul_lt_mul'' HA.out HB.out) (Nat.pow_le_pow_right (by decide) (Nat.le_succ (k+m)))
   have HAB:=Lib.hid hAB
   have k0:=hXr.k0
   have l0:=hXr.l0
   clear hlA hlB hAB hown
   go_wp2_with fail
   refine (rmade_any (!(bl == bl')) _ _ _ (A*B) _ (hO.lie (Nat.le_refl _) (by unfold maxLen; omega)) HAB.out).mono ?_
   rintro e w3 ⟨bl3,n3,c3,rfl,hnum,hb3⟩
   have hX3:=hXr.later hb3
   have rB0:=hX3.r0
   have rB1:=hX3.r1
   have fB0:=hX3.f0
   have fB1:=hX3.f1
   go_wp2
   rw [HSG.out] at hnum
   refine bodyPost_ret (v:=.agg #[.bool bl3,.slice (some ⟨g,0,none⟩) n3 c3]) (by simp [results,Tryd.results23,go_sem,rB0,rB1]) rfl ?_
   exact rnumf_store hnum hX3.below (by omega) (fun p hp=>by cases hp; have:=hX1.sz; show _ < g; omega)
end Go.Proofs.YtncbajehmdnibaaDoor

/- The document's numbers: the walk of Of. -/
namespace Go.Proofs.YtncbajehmdnibaaDoor
open Go.RowKit
theorem div10 (N k:Nat):N / 10 ^ k / 10=N / 10 ^ (k+1):=by rw [Nat.div_div_eq_div_mul,Nat.pow_succ]
theorem of_k {N k:Nat} (hN:N≤9223372036854775808) (h:N / 10 ^ k ≠ 0):k < 20:=by
 refine Nat.lt_of_not_le fun hc=>h ?_
 exact Nat.div_eq_of_lt (Nat.lt_of_lt_of_le (show N < 10 ^ 20 by omega) (Nat.pow_le_pow_right (by decide) hc))
theorem neg_tm (R:Int) (h:0≤R):(-R).tmod 10=-(R % 10):=by rw [Int.neg_tmod,Int.tmod_eq_emod_of_nonneg h]
theorem neg_td (R:Int) (h:0≤R):(-R).tdiv 10=-(R / 10):=by rw [Int.neg_tdiv,Int.tdiv_eq_ediv_of_nonneg h]
set_option maxHeartbeats 3200000 in
theorem rOf_pos (N:Nat) (w:World) (hN:N≤9223372036854775807) :
  Calls Tryd.prog 22 #[.int .i64 (((N:Nat):Int))] w (PRNumF (((N:Nat):Int)) w):=by
 obtain ⟨i0,hi0,hz0,hzz1,hzz2⟩:=info_parts Tryd.rinfo3
 have HI:=Lib.hid (And.intro hi0 (And.intro hz0 (And.intro hzz1 hzz2)))
 have HN:Hid (N≤9223372036854775808):=show N≤9223372036854775808 by omega
 obtain ⟨R0,hR0⟩:∃ R0:Int,R0=((N:Nat):Int):=⟨_,rfl⟩
 have hR1:0≤R0:=by omega
 have hR2:R0≤9223372036854775807:=by omega
 rw [← hR0]
 have HR0:=Lib.hid hR0
 have dneg:decide (R0 < 0)=false:=decide_eq_false (by omega)
 have hR:=res_one w 51
 clear hi0 hz0 hzz1 hzz2 hN hR0
 go_enter Tryd.func22,Tryd.ntmps22
 go_wp2
 generalize w.alloc (.cells #[.bool false,.slice none 0 0] 51)=w1 at *
 go_loopw [0,3] (fun nv dv wr=>∃ k:Nat,k≤20∧nv=.int .i64 (((N / 10 ^ k:Nat):Int))∧wr.ownsRow w1.heap.size 3 1 dv k (vals .i64 (dig N) k)∧Below w1.heap.size w1 wr) (fun nv _ _=>(intOf nv).natAbs)
 case atStart=>exact ⟨0,by omega,by rw [Nat.pow_zero,Nat.div_one,← HR0.out],World.ownsRow_nil _ _ _ _,Below.refl _ _⟩
 case round =>
  obtain ⟨k,hk,rfl,how,hbl⟩:=hrel
  have hdv:N / 10 ^ k≤N:=Nat.div_le_self _ _
  have hM:=HN.out
  obtain ⟨M,hMe⟩:∃ M:Nat,M=N / 10 ^ k:=⟨_,rfl⟩
  rw [← hMe] at hdv ⊢
  obtain ⟨R,hRe⟩:∃ R:Int,R=((M:Nat):Int):=⟨_,rfl⟩
  have hRa:0≤R:=by omega
  have hRb:R≤9223372036854775807:=by have:=HR0.out; omega
  rw [← hRe]
  by_cases hz:M=0
  ·
   have HFIN:Hid (N < 10 ^ k):=by
    rcases Nat.div_eq_zero_iff.1 (hMe.symm.trans hz) with h | h
    ·
     have:=p10 k; omega
    ·
     exact h
   obtain ⟨a4,c4,rfl,hlie,hfr⟩:=owned_fresh how
   obtain rfl:R=0:=by omega
   have hRr:=hR.later hbl
   clear how hdv hM hRe hz hMe
   go_wp2_with fail
   refine (rmade_any false a4 k c4 N _ hlie HFIN.out).mono ?_
   rintro e w3 ⟨bl3,n3,c3,rfl,hnum,hb3⟩
   have hR3:=hRr.later hb3
   have rB0:=hR3.r0
   have rB1:=hR3.r1
   have fB0:=hR3.f0
   have fB1:=hR3.f1
   go_wp2
   refine bodyPost_ret (v:=.agg #[.bool bl3,.slice a4 n3 c3]) (by simp [results,Tryd.results22,go_sem,rB0,rB1]) rfl ?_
   have e1:sg false N=R0:=by rw [HR0.out]; rfl
   rw [e1] at hnum
   exact rnumf_store hnum hR3.below (Nat.le_refl _) (fun p hp=>by have h1:=hfr p hp; have h2:=hR.sz; omega)
  ·
   have hk2:=of_k HN.out (fun e=>hz (hMe.trans e))
   have hdl:=dig_lt N k
   have HD0:Hid (R % 10=((dig N k:Nat):Int)):=by show _=_; unfold dig; rw [← hMe]; omega
   have HQ:Hid (R / 10=((N / 10 ^ (k+1):Nat):Int)):=by show _=_; rw [← div10,← hMe]; omega
   have hRp:0 < R:=by omega
   have dz:(R == 0)=false:=by simp; omega
   have dz2:(R != 0)=true:=by simp; omega
   clear hdv hM hz hdl hMe hRe
   have HD:=HD0
   have hm1:¬ R % 10 < 0:=by omega
   have hm2:0≤R % 10:=by omega
   have HMS:Hid ((R / 10).natAbs < R.natAbs):=show (R / 10).natAbs < R.natAbs by omega
   go_wp2_with (first
    | (at_builtin; refine wpList_append_own _ rfl _ _ 49 rfl w1.heap.size 3 i0 (.int .i64 0) 1 8 Tryd.ru49 HI.out.1 HI.out.2.1 HI.out.2.2.1 HI.out.2.2.2 rfl (by decide) _ _ _ rfl (how.alloc _) ⟨wr.heap.size,0,none⟩ 1 1 [.int .i64 (R % 10)] rfl rfl ?ac1 ?ac2 ?ac3 ?ac4 ?ac5 ?_)
    | fail)
   (try case ac1=>exact cell_one_new _ _ _)
   case ac2=>first | rfl | (intro u hu; simp at hu; subst hu; rfl)
   case ac3=>unfold maxLen; omega
   case ac4=>omega
   case ac5=>(have:=hbl.size; first | omega | (simp; done) | (simp; omega))
   intro v' w3 hown' hgrow _
   have hb3:Below w1.heap.size w1 w3:=(hbl.alloc hbl.size _).grown hgrow (by have:=hbl.size; simp; omega) (fun q hq=>(how.lt q hq).1)
   rw [HD.out] at hown'
   have hown2:w3.ownsRow w1.heap.size 3 1 v' (k+1) (vals .i64 (dig N) (k+1)):=by rw [← vals_succ]; exact hown'
   clear hgrow how
   go_wp2
   go_roundw
   case rel=>exact ⟨k+1,by omega,by rw [HQ.out],hown2,hb3⟩
   case measure=>simp only [intOf]; exact HMS.out
set_option maxHeartbeats 3200000 in
theorem rOf_neg (N:Nat) (w:World) (hN:N≤9223372036854775808) (h0:0 < N) :
  Calls Tryd.prog 22 #[.int .i64 (-((N:Nat):Int))] w (PRNumF (-((N:Nat):Int)) w):=by
 obtain ⟨i0,hi0,hz0,hzz1,hzz2⟩:=info_parts Tryd.rinfo3
 have HI:=Lib.hid (And.intro hi0 (And.intro hz0 (And.intro hzz1 hzz2)))
 have HN:Hid (N≤9223372036854775808):=show N≤9223372036854775808 by omega
 obtain ⟨R0,hR0⟩:∃ R0:Int,R0=((N:Nat):Int):=⟨_,rfl⟩
 have hR1:0 < R0:=by omega
 have hR2:R0≤9223372036854775808:=by omega
 rw [← hR0]
 have HR0:=Lib.hid hR0
 have dneg:decide (-R0 < 0)=true:=decide_eq_true (by omega)
 have hR:=res_one w 51
 clear hi0 hz0 hzz1 hzz2 hN hR0 h0
 go_enter Tryd.func22,Tryd.ntmps22
 go_wp2
 generalize w.alloc (.cells #[.bool false,.slice none 0 0] 51)=w1 at *
 go_loopw [0,3] (fun nv dv wr=>∃ k:Nat,k≤20∧nv=.int .i64 (-((N / 10 ^ k:Nat):Int))∧wr.ownsRow w1.heap.size 3 1 dv k (vals .i64 (dig N) k)∧Below w1.heap.size w1 wr) (fun nv _ _=>(intOf nv).natAbs)
 case atStart=>exact ⟨0,by omega,by rw [Nat.pow_zero,Nat.div_one,← HR0.out],World.ownsRow_nil _ _ _ _,Below.refl _ _⟩
 case round =>
  obtain ⟨k,hk,rfl,how,hbl⟩:=hrel
  have hdv:N / 10 ^ k≤N:=Nat.div_le_self _ _
  have hM:=HN.out
  obtain ⟨M,hMe⟩:∃ M:Nat,M=N / 10 ^ k:=⟨_,rfl⟩
  rw [← hMe] at hdv ⊢
  obtain ⟨R,hRe⟩:∃ R:Int,R=((M:Nat):Int):=⟨_,rfl⟩
  have hRa:0≤R:=by omega
  have hRb:R≤9223372036854775808:=by have:=HR0.out; omega
  rw [← hRe]
  by_cases hz:M=0
  ·
   have HFIN:Hid (N < 10 ^ k):=by
    rcases Nat.div_eq_zero_iff.1 (hMe.symm.trans hz) with h | h
    ·
     have:=p10 k; omega
    ·
     exact h
   obtain ⟨a4,c4,rfl,hlie,hfr⟩:=owned_fresh how
   obtain rfl:R=0:=by omega
   have hRr:=hR.later hbl
   clear how hdv hM hRe hz hMe
   go_wp2_with fail
   refine (rmade_any true a4 k c4 N _ hlie HFIN.out).mono ?_
   rintro e w3 ⟨bl3,n3,c3,rfl,hnum,hb3⟩
   have hR3:=hRr.later hb3
   have rB0:=hR3.r0
   have rB1:=hR3.r1
   have fB0:=hR3.f0
   have fB1:=hR3.f1
   go_wp2
   refine bodyPost_ret (v:=.agg #[.bool bl3,.slice a4 n3 c3]) (by simp [results,Tryd.results22,go_sem,rB0,rB1]) rfl ?_
   have e1:sg true N=-R0:=by rw [HR0.out]; rfl
   rw [e1] at hnum
   exact rnumf_store hnum hR3.below (Nat.le_refl _) (fun p hp=>by have h1:=hfr p hp; have h2:=hR.sz; omega)
  ·
   have hk2:=of_k HN.out (fun e=>hz (hMe.trans e))
   have hdl:=dig_lt N k
   have HD0:Hid (R % 10=((dig N k:Nat):Int)):=by show _=_; unfold dig; rw [← hMe]; omega
   have HQ:Hid (R / 10=((N / 10 ^ (k+1):Nat):Int)):=by show _=_; rw [← div10,← hMe]; omega
   have hRp:0 < R:=by omega
   have dz:(-R == 0)=false:=by simp; omega
   have dz2:(-R != 0)=true:=by simp; omega
   clear hdv hM hz hdl hMe hRe
   have e1:=neg_tm R hRa
   have e2:=neg_td R hRa
   have HMS:Hid ((-(R / 10)).natAbs < (-R).natAbs):=show (-(R / 10)).natAbs < (-R).natAbs by omega
   by_cases hc:R % 10=0
   ·
    have HD:Hid ((0:Int)=((dig N k:Nat):Int)):=by show _=_; rw [← HD0.out]; exact hc.symm
    rw [hc] at e1
    clear hc HD0
    go_wp2_with (first
     | (at_builtin; refine wpList_append_own _ rfl _ _ 49 rfl w1.heap.size 3 i0 (.int .i64 0) 1 8 Tryd.ru49 HI.out.1 HI.out.2.1 HI.out.2.2.1 HI.out.2.2.2 rfl (by decide) _ _ _ rfl (how.alloc _) ⟨wr.heap.size,0,none⟩ 1 1 [.int .i64 (0)] rfl rfl ?bc1 ?bc2 ?bc3 ?bc4 ?bc5 ?_)
     | fail)
    (try case bc1=>exact cell_one_new _ _ _)
    case bc2=>first | rfl | (intro u hu; simp at hu; subst hu; rfl)
    case bc3=>unfold maxLen; omega
    case bc4=>omega
    case bc5=>(have:=hbl.size; first | omega | (simp; done) | (simp; omega))
    intro v' w3 hown' hgrow _
    have hb3:Below w1.heap.size w1 w3:=(hbl.alloc hbl.size _).grown hgrow (by have:=hbl.size; simp; omega) (fun q hq=>(how.lt q hq).1)
    rw [HD.out] at hown'
    have hown2:w3.ownsRow w1.heap.size 3 1 v' (k+1) (vals .i64 (dig N) (k+1)):=by rw [← vals_succ]; exact hown'
    clear hgrow how
    go_wp2
    go_roundw
    case rel=>exact ⟨k+1,by omega,by rw [← HQ.out],hown2,hb3⟩
    case measure=>simp only [intOf]; exact HMS.out
   ·
    have HD:=HD0
    have hm1:0 < R % 10:=by omega
    have hm2:R % 10≤9:=by omega
    clear hc HD0
    go_wp2_with (first
     | (at_builtin; refine wpList_append_own _ rfl _ _ 49 rfl w1.heap.size 3 i0 (.int .i64 0) 1 8 Tryd.ru49 HI.out.1 HI.out.2.1 HI.out.2.2.1 HI.out.2.2.2 rfl (by decide) _ _ _ rfl (how.alloc _) ⟨wr.heap.size,0,none⟩ 1 1 [.int .i64 (R % 10)] rfl rfl ?cc1 ?cc2 ?cc3 ?cc4 ?cc5 ?_)
     | fail)
    (try case cc1=>exact cell_one_new _ _ _)
    case cc2=>first | rfl | (intro u hu; simp at hu; subst hu; rfl)
    case cc3=>unfold maxLen; omega
    case cc4=>omega
    case cc5=>(have:=hbl.size; first | omega | (simp; done) | (simp; omega))
    intro v' w3 hown' hgrow _
    have hb3:Below w1.heap.size w1 w3:=(hbl.alloc hbl.size _).grown hgrow (by have:=hbl.size; simp; omega) (fun q hq=>(how.lt q hq).1)
    rw [HD.out] at hown'
    have hown2:w3.ownsRow w1.heap.size 3 1 v' (k+1) (vals .i64 (dig N) (k+1)):=by rw [← vals_succ]; exact hown'
    clear hgrow how
    go_wp2
    go_roundw
    case rel=>exact ⟨k+1,by omega,by rw [← HQ.out],hown2,hb3⟩
    case measure=>simp only [intOf]; exact HMS.out
theorem rOf_any (z:Int) (w:World) (h1:-9223372036854775808≤z) (h2:z≤9223372036854775807):Calls Tryd.prog 22 #[.int .i64 z] w (PRNumF z w):=by
 by_cases hz:z < 0
 ·
  have:=rOf_neg z.natAbs w (by omega) (by omega)
  rwa [show -((z.natAbs:Nat):Int)=z from by omega] at this
 ·
  have:=rOf_pos z.natAbs w (by omega)
  rwa [show ((z.natAbs:Nat):Int)=z from by omega] at this
end Go.Proofs.YtncbajehmdnibaaDoor

/- The document's numbers: the walk of String. -/
namespace Go.Proofs.YtncbajehmdnibaaDoor
open Go.RowKit
theorem plain_pad {N n:Nat} (hf:Fit10 n N) (hN:0 < N):Plain N (padL N n):=by
 obtain ⟨j,rfl⟩:∃ j,n=j+1:=by
  rcases Nat.eq_zero_or_pos n with h | h
  ·
   subst h; have:=hf.1; simp at this; omega
  ·
   exact ⟨n - 1,by omega⟩
 have hge:10 ^ j≤N:=by
  rcases hf.2 with h | h
  ·
   omega
  ·
   simpa using h
 have hd:dig N j ≠ 0:=by
  rw [dig_top hf.1]
  have:=Nat.div_pos hge (p10 j)
  omega
 have e:=padL_succ N j
 have hb:=byte_dig N j
 have hne:(48+dig N j).toUInt8 ≠ 48:=fun h=>by rw [h] at hb; have:(48:UInt8).toNat=48:=rfl; omega
 have:=plain_drop (N:=N) (K:=j+1) hN hf.1
 rwa [e,List.dropWhile_cons,if_neg (by simpa using hne),← e] at this
theorem fit10_z {n:Nat} {z:Int} (h:Fit10 n z.natAbs) (hz:z ≠ 0):0 < n:=by
 rcases Nat.eq_zero_or_pos n with h0 | h0
 ·
  have:=(fit10_pos h).1 h0; omega
 ·
  exact h0
theorem Tryd.su63:Tryd.prog.underlying 63=some (.slice 5):=by kernel_rfl
theorem Tryd.sinfo5:(Tryd.prog.info? 5).map (fun i=>(i.zero,i.size,i.bytes))=some (some (.int .u8 0),1,1):=by kernel_rfl
set_option maxHeartbeats 800000 in
theorem rString_zero (bl:Bool) (a:Option Addr) (n c:Nat) (w:World) (h:RNum w bl a n c 0) :
  Calls Tryd.prog 24 #[.agg #[.bool bl,.slice a n c]] w (PTxt 0 w):=by
 obtain rfl:n=0:=(h.zero_iff).2 rfl
 clear h
 go_enter Tryd.func24,Tryd.ntmps24
 go_wp2
 go_ret
 exact ⟨[48],rfl,⟨by decide,by decide⟩,(Below.refl w.heap.size w).alloc (Nat.le_refl _) _⟩
def rspos (N n:Nat):Nat→Nat:=fun p=>48+dig N (n - 1 - p)
theorem rspos_next (N n k:Nat) (hk:k < n):rspos N n (k)=48+dig N (n - 1 - k):=by
 unfold rspos; rfl
theorem rspos_get (N n j:Nat) (hj:j < n):rspos N n j=((padL N n)[j]'(by rw [padL_len]; exact hj)).toNat:=by
 unfold rspos padL
 simp only [List.getElem_map,List.getElem_range]
 exact (byte_dig N (n - 1 - j)).symm
set_option maxHeartbeats 3200000 in
theorem rString_pos (a:Option Addr) (n c:Nat) (z:Int) (w:World) (h:RNum w false a n c z) (hn:n≤100000000) (hz:z ≠ 0) :
  Calls Tryd.prog 24 #[.agg #[.bool false,.slice a n c]] w (PTxt z w):=by
 obtain ⟨i0,hi0,hz0,hzz1,hzz2⟩:=info_parts Tryd.sinfo5
 have HI:=Lib.hid (And.intro hi0 (And.intro hz0 (And.intro hzz1 hzz2)))
 have hn0:=fit10_z h.fit hz
 have HTX:Hid (Txt z (padL z.natAbs n)):=by
  have hp:=plain_pad h.fit (by omega)
  have hs:=h.sgn
  have:=txt_pos hp
  rwa [show ((z.natAbs:Nat):Int)=z from by simp at hs; omega] at this
 have hl:=h.lie
 clear h hi0 hz0 hzz1 hzz2 hz
 generalize z.natAbs=N at *
 have hb0:Below w.heap.size w (w.alloc (.cells #[.bool false,.slice a n c] 51)):=(Below.refl _ _).alloc (Nat.le_refl _) _
 have k1:(w.alloc (.cells #[.bool false,.slice a n c] 51)).cell? ⟨w.heap.size,1,none⟩=some (.slice a n c):=by simp [go_sem]
 have hlt1:w.heap.size < (w.alloc (.cells #[.bool false,.slice a n c] 51)).heap.size:=by simp
 replace hl:=hl.below hb0
 obtain ⟨b1,o1,rfl,hb1⟩:=hl.some_of_pos hn0
 have d0:((n:Int) == 0)=false:=by simp; omega
 go_enter Tryd.func24,Tryd.ntmps24
 go_wp2
 generalize w.alloc (.cells #[.bool false,.slice (some ⟨b1,o1,none⟩) n c] 51)=w1 at *
 go_loopw [3,4] (fun dv iv wr=>∃ k:Nat,k≤n∧iv=.int .i64 ((n:Int) - 1 - (k:Int))∧wr.ownsRow w1.heap.size 5 1 dv k (vals .u8 (rspos N n) k)∧Below w1.heap.size w1 wr) (fun _ iv _=>(intOf iv+1).toNat)
 case atStart=>exact ⟨0,Nat.zero_le _,by go_num,World.ownsRow_nil _ _ _ _,Below.refl _ _⟩
 case round =>
  obtain ⟨k,hk,rfl,how,hbl⟩:=hrel
  have x1:=(hbl.cell (p:=⟨w.heap.size,1,none⟩) hlt1).trans k1
  by_cases hlt:k < n
  ·
   have c1:=(hl.below hbl).at (n - 1 - k) (by omega)
   have hdl:=dig_lt N (n - 1 - k)
   obtain ⟨X,hX⟩:∃ X:Int,X=((dig N (n - 1 - k):Nat):Int):=⟨_,rfl⟩
   rw [← hX] at c1
   have hX0:0≤X:=by omega
   have hX1:X≤9:=by omega
   have HV:Hid ((48:Int)+X=((rspos N n (k):Nat):Int)):=by show _=_; rw [rspos_next N n k hlt]; omega
   have hsz:=hbl.size
   clear hX hdl
   have hi1:¬ (n:Int) - 1 - (k:Int) < 0:=by omega
   go_wp2_with (first
    | (at_builtin; refine wpList_append_own _ rfl _ _ 63 rfl w1.heap.size 5 i0 (.int .u8 0) 1 1 Tryd.su63 HI.out.1 HI.out.2.1 HI.out.2.2.1 HI.out.2.2.2 rfl (by decide) _ _ _ rfl (how.alloc _) ⟨wr.heap.size,0,none⟩ 1 1 [.int .u8 ((48:Int)+X)] rfl rfl ?yc1 ?yc2 ?yc3 ?yc4 ?yc5 ?_)
    | fail)
   (try case yc1=>exact cell_one_new _ _ _)
   case yc2=>first | rfl | (intro u hu; simp at hu; subst hu; rfl)
   case yc3=>unfold maxLen; omega
   case yc4=>omega
   case yc5=>first | omega | (simp; done) | (simp; omega)
   intro v' w3 hown' hgrow _
   have hb3:Below w1.heap.size w1 w3:=(hbl.alloc hbl.size _).grown hgrow (by have:=hbl.size; simp; omega) (fun q hq=>(how.lt q hq).1)
   rw [HV.out] at hown'
   have hown2:w3.ownsRow w1.heap.size 5 1 v' (k+1) (vals .u8 (rspos N n) (k+1)):=by rw [← vals_succ]; exact hown'
   clear hgrow how
   go_wp2
   go_roundw
   case rel=>exact ⟨k+1,by omega,by go_num,hown2,hb3⟩
   case measure=>simp [intOf]; omega
  ·
   obtain rfl:k=n:=by omega
   obtain ⟨a4,c4,rfl,hlie⟩:=lie_owned how
   obtain ⟨b4,o4,rfl,hb4⟩:=hlie.some_of_pos (by omega)
   have hcv:∃ str:ByteArray,str=⟨(padL N k).toArray⟩∧(convert 63 9 (.slice (some ⟨b4,o4,none⟩) (k) c4)).run Tryd.prog wr=.ok (.string str) wr:=by
    refine ⟨_,rfl,?_⟩
    have:=run_convert_bytes_back (P:=Tryd.prog) wr 63 9 5 ⟨b4,o4,none⟩ c4 (padL N k) Tryd.su63 (by kernel_rfl) (by kernel_rfl) (fun j hj=>by
     have hj':j < k:=by simpa [padL_len] using hj
     rw [show (⟨b4,o4,none⟩:Addr).add j=⟨b4,o4+j,none⟩ from by unfold Addr.add; split <;> simp_all,hlie.at j hj']
     congr 3
     exact rspos_get N k j hj')
    rw [show (padL N k).length=k from by simp [padL_len]] at this
    exact this
   obtain ⟨str,hstr,hrun⟩:=hcv
   have HS:=Lib.hid hstr
   have hfin:=hb0.trans (hbl.mono hb0.size)
   rw [show (k:Int) - 1 - (k:Int)=-1 from by omega]
   clear hstr how hlie hl
   go_wp2
   go_ret
   exact ⟨_,by rw [← HS.out]; rfl,HTX.out,hfin⟩
def rsneg (N n:Nat):Nat→Nat:=fun p=>if p=0 then 45 else 48+dig N (n - p)
theorem rsneg_next (N n k:Nat) (hk:k < n):rsneg N n (k+1)=48+dig N (n - 1 - k):=by
 unfold rsneg; rw [if_neg (by omega)]; congr 2; omega
theorem rsneg_get (N n j:Nat) (hj:j < n+1):rsneg N n j=((45 :: padL N n)[j]'(by rw [List.length_cons,padL_len]; exact hj)).toNat:=by
 cases j with
 | zero=>rfl
 | succ j =>
  rw [List.getElem_cons_succ]
  unfold rsneg padL
  simp only [List.getElem_map,List.getElem_range]
  rw [if_neg (by omega),byte_dig]
  congr 2
  omega
set_option maxHeartbeats 3200000 in
theorem rString_neg (a:Option Addr) (n c:Nat) (z:Int) (w:World) (h:RNum w true a n c z) (hn:n≤100000000) (hz:z ≠ 0) :
  Calls Tryd.prog 24 #[.agg #[.bool true,.slice a n c]] w (PTxt z w):=by
 obtain ⟨i0,hi0,hz0,hzz1,hzz2⟩:=info_parts Tryd.sinfo5
 have HI:=Lib.hid (And.intro hi0 (And.intro hz0 (And.intro hzz1 hzz2)))
 have hn0:=fit10_z h.fit hz
 have HTX:Hid (Txt z (45 :: padL z.natAbs n)):=by
  have hp:=plain_pad h.fit (by omega)
  have hs:=h.sgn
  have:=txt_neg hp
  rwa [show -((z.natAbs:Nat):Int)=z from by simp at hs; omega] at this
 have hl:=h.lie
 clear h hi0 hz0 hzz1 hzz2 hz
 generalize z.natAbs=N at *
 have hb0:Below w.heap.size w (w.alloc (.cells #[.bool true,.slice a n c] 51)):=(Below.refl _ _).alloc (Nat.le_refl _) _
 have k1:(w.alloc (.cells #[.bool true,.slice a n c] 51)).cell? ⟨w.heap.size,1,none⟩=some (.slice a n c):=by simp [go_sem]
 have hlt1:w.heap.size < (w.alloc (.cells #[.bool true,.slice a n c] 51)).heap.size:=by simp
 replace hl:=hl.below hb0
 obtain ⟨b1,o1,rfl,hb1⟩:=hl.some_of_pos hn0
 have d0:((n:Int) == 0)=false:=by simp; omega
 go_enter Tryd.func24,Tryd.ntmps24
 go_upto_region 5 with (fail)
 generalize w.alloc (.cells #[.bool true,.slice (some ⟨b1,o1,none⟩) n c] 51)=w1 at *
 have how0:w1.ownsRow w1.heap.size 5 1 (.slice none 0 0) 0 []:=World.ownsRow_nil _ _ _ _
 go_wp2_with (first
  | (at_builtin; refine wpList_append_own _ rfl _ _ 63 rfl w1.heap.size 5 i0 (.int .u8 0) 1 1 Tryd.su63 HI.out.1 HI.out.2.1 HI.out.2.2.1 HI.out.2.2.2 rfl (by decide) _ _ _ rfl (how0.alloc _) ⟨w1.heap.size,0,none⟩ 1 1 [.int .u8 (45)] rfl rfl ?xc1 ?xc2 ?xc3 ?xc4 ?xc5 ?_)
  | fail)
 (try case xc1=>exact cell_one_new _ _ _)
 case xc2=>first | rfl | (intro u hu; simp at hu; subst hu; rfl)
 case xc3=>unfold maxLen; omega
 case xc4=>omega
 case xc5=>first | omega | (simp; done) | (simp; omega)
 intro v0 W2 hown0 hgrow0 _
 have hb2:Below w1.heap.size w1 W2:=((Below.refl _ _).alloc (Nat.le_refl _) _).grown hgrow0 (by simp) (fun q hq=>(how0.lt q hq).1)
 clear hgrow0 how0
 have hown1:W2.ownsRow w1.heap.size 5 1 v0 1 (vals .u8 (rsneg N n) 1):=hown0
 clear hown0
 have k2:=(hb2.cell (p:=⟨w.heap.size,1,none⟩) hlt1).trans k1
 go_wp2
 clear k2
 go_loopw [3,4] (fun dv iv wr=>∃ k:Nat,k≤n∧iv=.int .i64 ((n:Int) - 1 - (k:Int))∧wr.ownsRow w1.heap.size 5 1 dv (k+1) (vals .u8 (rsneg N n) (k+1))∧Below w1.heap.size w1 wr) (fun _ iv _=>(intOf iv+1).toNat)
 case atStart=>exact ⟨0,Nat.zero_le _,by go_num,hown1,hb2⟩
 case round =>
  obtain ⟨k,hk,rfl,how,hbl⟩:=hrel
  have x1:=(hbl.cell (p:=⟨w.heap.size,1,none⟩) hlt1).trans k1
  by_cases hlt:k < n
  ·
   have c1:=(hl.below hbl).at (n - 1 - k) (by omega)
   have hdl:=dig_lt N (n - 1 - k)
   obtain ⟨X,hX⟩:∃ X:Int,X=((dig N (n - 1 - k):Nat):Int):=⟨_,rfl⟩
   rw [← hX] at c1
   have hX0:0≤X:=by omega
   have hX1:X≤9:=by omega
   have HV:Hid ((48:Int)+X=((rsneg N n (k+1):Nat):Int)):=by show _=_; rw [rsneg_next N n k hlt]; omega
   have hsz:=hbl.size
   clear hX hdl
   have hi1:¬ (n:Int) - 1 - (k:Int) < 0:=by omega
   go_wp2_with (first
    | (at_builtin; refine wpList_append_own _ rfl _ _ 63 rfl w1.heap.size 5 i0 (.int .u8 0) 1 1 Tryd.su63 HI.out.1 HI.out.2.1 HI.out.2.2.1 HI.out.2.2.2 rfl (by decide) _ _ _ rfl (how.alloc _) ⟨wr.heap.size,0,none⟩ 1 1 [.int .u8 ((48:Int)+X)] rfl rfl ?yc1 ?yc2 ?yc3 ?yc4 ?yc5 ?_)
    | fail)
   (try case yc1=>exact cell_one_new _ _ _)
   case yc2=>first | rfl | (intro u hu; simp at hu; subst hu; rfl)
   case yc3=>unfold maxLen; omega
   case yc4=>omega
   case yc5=>first | omega | (simp; done) | (simp; omega)
   intro v' w3 hown' hgrow _
   have hb3:Below w1.heap.size w1 w3:=(hbl.alloc hbl.size _).grown hgrow (by have:=hbl.size; simp; omega) (fun q hq=>(how.lt q hq).1)
   rw [HV.out] at hown'
   have hown2:w3.ownsRow w1.heap.size 5 1 v' (k+1+1) (vals .u8 (rsneg N n) (k+1+1)):=by rw [← vals_succ]; exact hown'
   clear hgrow how
   go_wp2
   go_roundw
   case rel=>exact ⟨k+1,by omega,by go_num,hown2,hb3⟩
   case measure=>simp [intOf]; omega
  ·
   obtain rfl:k=n:=by omega
   obtain ⟨a4,c4,rfl,hlie⟩:=lie_owned how
   obtain ⟨b4,o4,rfl,hb4⟩:=hlie.some_of_pos (by omega)
   have hcv:∃ str:ByteArray,str=⟨(45 :: padL N k).toArray⟩∧(convert 63 9 (.slice (some ⟨b4,o4,none⟩) (k+1) c4)).run Tryd.prog wr=.ok (.string str) wr:=by
    refine ⟨_,rfl,?_⟩
    have:=run_convert_bytes_back (P:=Tryd.prog) wr 63 9 5 ⟨b4,o4,none⟩ c4 (45 :: padL N k) Tryd.su63 (by kernel_rfl) (by kernel_rfl) (fun j hj=>by
     have hj':j < k+1:=by simpa [padL_len] using hj
     rw [show (⟨b4,o4,none⟩:Addr).add j=⟨b4,o4+j,none⟩ from by unfold Addr.add; split <;> simp_all,hlie.at j hj']
     congr 3
     exact rsneg_get N k j hj')
    rw [show (45 :: padL N k).length=k+1 from by simp [padL_len]] at this
    exact this
   obtain ⟨str,hstr,hrun⟩:=hcv
   have HS:=Lib.hid hstr
   have hfin:=hb0.trans (hbl.mono hb0.size)
   rw [show (k:Int) - 1 - (k:Int)=-1 from by omega]
   clear hstr how hlie hl
   go_wp2
   go_ret
   exact ⟨_,by rw [← HS.out]; rfl,HTX.out,hfin⟩
theorem rString_all (bl:Bool) (a:Option Addr) (n c:Nat) (z:Int) (w:World) (h:RNum w bl a n c z) (hn:n≤100000000) :
  Calls Tryd.prog 24 #[.agg #[.bool bl,.slice a n c]] w (PTxt z w):=by
 by_cases hz:z=0
 ·
  subst hz; exact rString_zero bl a n c w h
 ·
  cases bl
  ·
   exact rString_pos a n c z w h hn hz
  ·
   exact rString_neg a n c z w h hn hz
end Go.Proofs.YtncbajehmdnibaaDoor
