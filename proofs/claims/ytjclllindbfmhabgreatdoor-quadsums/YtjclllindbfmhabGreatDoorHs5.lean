/- Parts of the proof. -/
import Derived.Test.YtjclllindbfmhabGreatDoorHs4
import Derived.Laws.BitsAllLaws
set_option linter.unusedSimpArgs false
set_option linter.unusedVariables false
namespace Go.Proofs.YtjclllindbfmhabGreatDoor
/- The walk of divideBy. -/
open Go.RowKit
/-- Parts from q on (below m) out of S, the others out of f. -/
def hiF (S q m:Nat) (f:Nat→Nat) (p:Nat):Nat:=if q≤p∧p < m then lmb S p else f p
/-- A number of kind u32 is handed back; block g holds n numbers F. -/
def PDiv (t:TypeId) (g n R:Nat) (F:Nat→Nat) (w:World) (e:Ending) (w':World):Prop :=
 e=.returned (.int .u32 (R:Nat))∧Own .u32 t w' g n F∧Only g w w'
theorem hiF_next (S j m n:Nat) (f:Nat→Nat):∀ i,i < n→i ≠ j→hiF S (j+1) m f i=hiF S j m f i:=by
 intro i _ hne
 unfold hiF
 by_cases h1:j+1≤i∧i < m
 ·
  rw [if_pos h1,if_pos (by omega)]
 ·
  rw [if_neg h1,if_neg (by omega)]
theorem or64 {L x:Nat} (hL:L < 4294967296) (hx:x < 4294967296):bits .or .u64 ((L:Int)*4294967296) (x:Int)=((L*4294967296+x:Nat):Int):=by
 have h:=u64_or_nat (L*4294967296) x (by omega) (by omega)
 have e:((L*4294967296:Nat):Int)=(L:Int)*4294967296:=by omega
 rw [e] at h
 rw [h]
 have h2:=Nat.two_pow_add_eq_or_of_lt (b:=x) (i:=32) (by omega) L
 rw [show (2:Nat) ^ 32=4294967296 from rfl,Nat.mul_comm] at h2
 rw [← h2]
theorem div_step {N D j:Nat} (hD:0 < D) :
  ((N / BB ^ (j+1) % D)*4294967296+lmb N j) / D=lmb (N / D) j∧((N / BB ^ (j+1) % D)*4294967296+lmb N j) % D=N / BB ^ j % D ∧
  ((N / BB ^ (j+1) % D)*4294967296+lmb N j) / D < 4294967296:=by
 have hup:=up_split N j
 have e0:lmb (N / D) j=N / BB ^ j / D % BB:=by unfold lmb; rw [Nat.div_div_eq_div_mul,Nat.mul_comm,← Nat.div_div_eq_div_mul]
 have hl:=lmb_lt N j
 generalize N / BB ^ (j+1)=M at *
 have hM:=Nat.div_add_mod M D
 have hlt:=Nat.mod_lt M hD
 generalize M % D=L at *
 generalize M / D=q at *
 have e1:N / BB ^ j=(L*4294967296+lmb N j)+D*(4294967296*q):=by
  rw [hup,← hM]; show _+4294967296*_=_
  rw [Nat.mul_add,Nat.mul_left_comm]; omega
 have hq:(L*4294967296+lmb N j) / D < 4294967296:=Nat.div_lt_of_lt_mul (by
  have:=Nat.mul_le_mul_right 4294967296 (show L+1≤D from hlt)
  omega)
 refine ⟨?_,?_,hq⟩
 ·
  rw [e0,e1,Nat.add_mul_div_left _ _ hD,← Nat.mul_comm q]
  show _=(_+q*BB) % BB
  rw [Nat.add_mul_mod_self_right]
  exact (Nat.mod_eq_of_lt hq).symm
 ·
  rw [e1,Nat.add_mul_mod_self_left]
set_option maxHeartbeats 1600000 in
theorem divideBy_any (g n m N D:Nat) (f:Nat→Nat) (w:World) (hown:Own .u32 98 w g n f) (hm:m≤n) (hf:∀ i,i < m→f i=lmb N i) (hN:N < BB ^ m) (hD0:0 < D) (hD:D < 4294967296) (hn:n≤1000000000) :
  Calls Tryz.prog 78 #[.slice (some ⟨g,0,none⟩) m n,.int .u32 D] w (PDiv 98 g n (N % D) (hiF (N / D) 0 m f) w):=by
 have HF:=Lib.hid hf
 have HN:=Lib.hid hN
 clear hf hN
 go_enter Tryz.func78,Tryz.ntmps78
 go_wp2
 go_loopw [5,6] (fun lv iv wr=>∃ k:Nat,k≤m∧iv=.int .i64 ((k:Int) - 1)∧lv=.int .u64 ((N / BB ^ k % D:Nat):Int)∧Own .u32 98 wr g n (hiF (N / D) k m f)∧Only g w wr) (fun _ iv _=>(intOf iv+1).toNat)
 case atStart=>exact ⟨m,Nat.le_refl _,rfl,by rw [Nat.div_eq_of_lt HN.out]; simp,hown.congr (fun j hj=>by unfold hiF; rw [if_neg (by omega)]),Only.refl _ _⟩
 case round =>
  obtain ⟨k,hk,rfl,rfl,hown1,ho1⟩:=hrel
  by_cases hp:0 < k
  ·
   obtain ⟨j,rfl⟩:∃ j,k=j+1:=⟨k - 1,by omega⟩
   have c1:wr.cell? ⟨g,j,none⟩=some (.int .u32 (lmb N j)):=by rw [hown1.cell j (by omega),hiF,if_neg (by omega),HF.out j (by omega)]
   have c2:=hown1.free j
   have hla:=lmb_lt N j
   obtain ⟨L,hL⟩:∃ L,L=N / BB ^ (j+1) % D:=⟨_,rfl⟩
   rw [← hL]
   have HL:=Lib.hid hL
   have hLD:L < D:=by rw [hL]; exact Nat.mod_lt _ hD0
   have hor:=or64 (show L < 4294967296 by omega) hla
   obtain ⟨s1,s2,s3⟩:=div_step (N:=N) (j:=j) hD0
   rw [← hL] at s1 s2 s3
   have hXu:L*4294967296+lmb N j < 18446744073709551616:=by omega
   generalize L*4294967296+lmb N j=X at *
   have hX0:(0:Int)≤(X:Int) / (D:Int):=by rw [← Int.natCast_ediv]; omega
   have hX1:(X:Int) / (D:Int)≤4294967295:=by rw [← Int.natCast_ediv]; omega
   have hX2:(0:Int)≤(X:Int) % (D:Int):=by rw [← Int.natCast_emod]; omega
   have hX3:(X:Int) % (D:Int)≤4294967295:=by rw [← Int.natCast_emod]; have:=Nat.mod_lt X hD0; omega
   have HX:Hid ((X:Int) / (D:Int)=((lmb (N / D) j:Nat):Int)∧(X:Int) % (D:Int)=((N / BB ^ j % D:Nat):Int)):=by
    show _∧_; rw [← s1,← s2,Int.natCast_ediv,Int.natCast_emod]; exact ⟨rfl,rfl⟩
   clear hL s1 s2 s3
   go_wp2
   go_roundw
   case rel=>exact ⟨j,by omega,by go_num,by rw [HX.out.2],hown1.put (by omega) (by rw [HX.out.1,hiF,if_pos (by omega)]) (hiF_next _ j m n f),ho1.trans (Only.setCell _ _ _ _)⟩
   case measure=>simp [intOf]
  ·
   obtain rfl:k=0:=by omega
   have hRD:N % D < D:=Nat.mod_lt _ hD0
   simp only [Nat.pow_zero,Nat.div_one]
   go_wp2
   go_ret
   exact ⟨rfl,hown1,ho1⟩
end Go.Proofs.YtjclllindbfmhabGreatDoor

namespace Go.Proofs.YtjclllindbfmhabGreatDoor
/- The walk of guessed. -/
open Go.RowKit
/-- A guess of R / D that is right or 1 too great. -/
def PGuess (R D:Nat) (w:World) (e:Ending) (w':World):Prop:=∃ G:Nat,e=.returned (.int .u64 G)∧R / D≤G∧G≤R / D+1∧G < 4294967296∧Below w.heap.size w w'
/-- What is known of the upper parts: D has tp, nx at its head, R has H, r2. -/
structure Heads (R D tp nx H r2:Nat):Prop where
 top:1≤tp
 qlt:R / D < 4294967296
 k1:R / D*(tp*4294967296+nx)≤H*4294967296+r2
 k2:H*4294967296+r2 < (R / D+1)*(tp*4294967296+nx+1)
 nxl:nx < 4294967296
 r2l:r2 < 4294967296
theorem heads_k1 {R D P d2 h3 x y:Nat} (dD:P*d2+x=D) (dR:P*h3+y=R) (lR:y < P) (hP:0 < P):R / D*d2≤h3:=by
 have e3:R / D*D≤R:=Nat.div_mul_le_self _ _
 generalize R / D=q at *
 refine Nat.le_of_lt_succ (Nat.lt_of_mul_lt_mul_left (a:=P) ?_)
 have e1:P*(q*d2)=q*(P*d2):=Nat.mul_left_comm _ _ _
 have e2:q*(P*d2)≤q*D:=Nat.mul_le_mul_left _ (by omega)
 rw [Nat.mul_succ]
 omega
theorem heads_k2 {R D P d2 h3 x y z:Nat} (dD:P*d2+x=D) (dR:P*h3+y=R) (lD:x < P) (hz:z < D) (hq:D*(R / D)+z=R):h3 < (R / D+1)*(d2+1):=by
 generalize R / D=q at *
 refine Nat.lt_of_mul_lt_mul_left (a:=P) ?_
 have e1:P*((q+1)*(d2+1))=(q+1)*(P*(d2+1)):=Nat.mul_left_comm _ _ _
 have e2:(q+1)*D≤(q+1)*(P*(d2+1)):=Nat.mul_le_mul_left _ (by rw [Nat.mul_add]; omega)
 have e3:R < (q+1)*D:=by rw [Nat.add_mul,Nat.mul_comm q]; omega
 omega
theorem heads_of {R D n:Nat} (hn:2≤n) (hD:Fit n D) (hR:R < D*BB):Heads R D (lmb D (n - 1)) (lmb D (n - 2)) (lmb R n*4294967296+lmb R (n - 1)) (lmb R (n - 2)):=by
 obtain ⟨m,rfl⟩:∃ m,n=m+2:=⟨n - 2,by omega⟩
 have hD1:=hD.1
 have hD2:=hD.2
 simp only [show m+2 - 1=m+1 from rfl,show m+2 - 2=m from rfl] at *
 have hDp:BB ^ (m+1)≤D:=by rcases hD2 with h | h <;> omega
 have hpos:0 < D:=Nat.lt_of_lt_of_le (BBp _) hDp
 have hRlt:R < BB ^ (m+2+1):=by
  refine Nat.lt_of_lt_of_le hR ?_
  rw [Nat.pow_succ _ (m+2)]
  exact Nat.mul_le_mul_right _ (Nat.le_of_lt hD1)
 have eD:D / BB ^ m=lmb D (m+1)*4294967296+lmb D m:=by
  rw [up_split,← lmb_top hD1]; show _+4294967296*_=_; omega
 have eR:R / BB ^ m=(lmb R (m+2)*4294967296+lmb R (m+1))*4294967296+lmb R m:=by
  rw [up_split,up_split R (m+1),← lmb_top hRlt]; show _+4294967296*(_+4294967296*_)=_; omega
 have dD:=Nat.div_add_mod D (BB ^ m)
 have dR:=Nat.div_add_mod R (BB ^ m)
 have lD:=Nat.mod_lt D (BBp m)
 have lR:=Nat.mod_lt R (BBp m)
 have hq:=Nat.div_add_mod R D
 have hql:=Nat.mod_lt R hpos
 rw [eD] at dD
 rw [eR] at dR
 have hP:=BBp m
 refine ⟨?_,?_,?_,?_,lmb_lt _ _,lmb_lt _ _⟩
 ·
  rw [lmb_top hD1]
  exact Nat.div_pos hDp (BBp _)
 ·
  exact Nat.div_lt_of_lt_mul hR
 ·
  exact heads_k1 dD dR lR hP
 ·
  exact heads_k2 dD dR lD hql hq
theorem guess_start {R D tp nx H r2:Nat} (h:Heads R D tp nx H r2):R / D≤H / tp:=by
 refine (Nat.le_div_iff_mul_le h.top).2 ?_
 have h1:=h.k1
 have h2:=h.r2l
 rw [Nat.mul_add,← Nat.mul_assoc] at h1
 omega
theorem guess_down {R D tp nx H r2 G L:Nat} (h:Heads R D tp nx H r2) (hG:G*tp+L=H) (hc:L*4294967296+r2 < G*nx):R / D+1≤G:=by
 have h1:=h.k1
 have e:G*(tp*4294967296+nx)=G*tp*4294967296+G*nx:=by rw [Nat.mul_add,Nat.mul_assoc]
 have:R / D*(tp*4294967296+nx) < G*(tp*4294967296+nx):=by rw [e]; omega
 exact Nat.lt_of_mul_lt_mul_right this
theorem guess_end {R D tp nx H r2 G L:Nat} (h:Heads R D tp nx H r2) (hG:G*tp+L=H) (hGl:G < 4294967296) (hc:4294967296≤L∨G*nx≤L*4294967296+r2):G≤R / D+1:=by
 have hc':G*nx≤L*4294967296+r2:=by
  rcases hc with hc | hc
  ·
   have:=Nat.mul_le_mul (show G≤4294967295 by omega) (show nx≤4294967295 by have:=h.nxl; omega)
   omega
  ·
   exact hc
 have h1:=h.k2
 have h2:=h.qlt
 have h3:=h.top
 have e:G*(tp*4294967296+nx)=G*tp*4294967296+G*nx:=by rw [Nat.mul_add,Nat.mul_assoc]
 refine Nat.le_of_not_lt fun hlt=>?_
 have h4:=Nat.mul_le_mul_right (tp*4294967296+nx) (show R / D+1+1≤G by omega)
 rw [Nat.add_mul (R / D+1) 1] at h4
 rw [Nat.mul_add (R / D+1) (tp*4294967296+nx) 1] at h1
 omega
set_option maxRecDepth 100000 in
set_option maxHeartbeats 1600000 in
theorem guessed_any (g u n cp R D b1 o1 dc:Nat) (w:World) (hr:Lie .u32 w (some ⟨g,u,none⟩) (n+1) cp (lmb R)) (hd:Lie .u32 w (some ⟨b1,o1,none⟩) n dc (lmb D)) (hn:2≤n) (hnb:n≤1000000000)
  (hR:R < D*BB) (hD:Fit n D) :
  Calls Tryz.prog 112 #[.slice (some ⟨g,u,none⟩) ((n+1:Nat)) cp,.slice (some ⟨b1,o1,none⟩) n dc] w (PGuess R D w):=by
 have HH:=heads_of hn hD hR
 clear hR hD
 have c1:=hd.at (n - 1) (by omega)
 have c2:=hd.at (n - 2) (by omega)
 have c3:=hr.at n (by omega)
 have c4:=hr.at (n - 1) (by omega)
 have c5:=hr.at (n - 2) (by omega)
 have l1:=lmb_lt D (n - 1)
 have l2:=lmb_lt D (n - 2)
 have l3:=lmb_lt R n
 have l4:=lmb_lt R (n - 1)
 have l5:=lmb_lt R (n - 2)
 have hor:=or64 l3 l4
 have hH:lmb R n*4294967296+lmb R (n - 1)≤18446744073709551615:=by omega
 generalize lmb R n*4294967296+lmb R (n - 1)=H at *
 generalize lmb D (n - 1)=tp at *
 generalize lmb D (n - 2)=nx at *
 generalize lmb R (n - 2)=r2 at *
 have htp:=HH.top
 have hgs:=guess_start HH
 have hql:=HH.qlt
 clear hr hd
 obtain ⟨Q,hQ⟩:∃ Q,Q=H / tp:=⟨_,rfl⟩
 have hq:(H:Int) / (tp:Int)=(Q:Int):=by rw [hQ,Int.natCast_ediv]
 have hQt:Q*tp≤H:=by rw [hQ]; exact Nat.div_mul_le_self _ _
 have hQH:Q≤H:=Nat.le_trans (by rw [hQ]; exact Nat.div_le_self _ _) (Nat.le_refl _)
 rw [← hQ] at hgs
 have HQt:=Lib.hid hQt
 have hQt0:(0:Int)≤(Q:Int)*(tp:Int):=Int.mul_nonneg (by omega) (by omega)
 have hQt1:(Q:Int)*(tp:Int)≤(H:Int):=by rw [← Int.natCast_mul]; omega
 clear hQ hQt
 rcases Nat.lt_or_ge 4294967295 Q with hcq | hcq
 ·
  have hb:=Nat.mul_le_mul_right tp (show 4294967296≤Q from hcq)
  have h2:=HQt.out
  have hb2:(4294967295:Int)*(tp:Int)≤H:=by omega
  have hb3:4294967295*tp≤H:=by omega
  clear hb h2
  go_enter Tryz.func112,Tryz.ntmps112
  go_wp2
  go_quiet (fail)
  go_wp2
  go_quiet (fail)
  go_wp2
  go_loop [9,10] (fun gv lv=>∃ G L:Nat,gv=.int .u64 G∧lv=.int .u64 L∧G*tp+L=H∧R / D≤G∧G≤4294967295) (fun gv _=>(intOf gv).toNat)
  case atStart=>exact ⟨4294967295,H - 4294967295*tp,rfl,congrArg (Value.int .u64) (by omega),by omega,by omega,by omega⟩
  case round =>
   obtain ⟨G,L,rfl,rfl,hGL,hqG,hGu⟩:=hrel
   have hLH:L≤H:=by omega
   have hGn:(0:Int)≤(G:Int)*(nx:Int)∧(G:Int)*(nx:Int)≤18446744065119617025:=mul_u32 (by omega) l2
   obtain ⟨hGn0,hGn1⟩:=hGn
   have HGL:=Lib.hid hGL
   clear hGL
   by_cases hL:L < 4294967296
   ·
    have hor2:=or64 hL l5
    obtain ⟨X,hXe⟩:∃ X,X=L*4294967296+r2:=⟨_,rfl⟩
    rw [← hXe] at hor2
    have hX:X≤18446744073709551615:=by omega
    by_cases hc:L*4294967296+r2 < G*nx
    ·
     have hdn:=guess_down HH HGL.out hc
     have hG1:1≤G:=Nat.le_trans (Nat.le_add_left 1 _) hdn
     have hcI:(X:Int) < (G:Int)*(nx:Int):=by rw [← Int.natCast_mul]; omega
     have HN:Hid ((G - 1)*tp+(L+tp)=H):=by
      show _=_
      have h1:=HGL.out
      obtain ⟨G',rfl⟩:∃ G',G=G'+1:=⟨G - 1,by omega⟩
      rw [Nat.add_mul] at h1
      simp only [Nat.add_sub_cancel]
      omega
     have hLd:decide ((L:Int) < 4294967296)=true:=by simp; omega
     clear hc hXe
     go_wp2
     go_round
     case rel=>exact ⟨G - 1,L+tp,by go_num,by go_num,HN.out,by omega,by omega⟩
     case measure=>simp [intOf]; omega
    ·
     have hend:=guess_end HH HGL.out (by omega) (.inr (by omega))
     have hcI:¬ (X:Int) < (G:Int)*(nx:Int):=by rw [← Int.natCast_mul]; omega
     have hLd:decide ((L:Int) < 4294967296)=true:=by simp; omega
     clear hc hXe
     go_wp2
     go_ret
     exact ⟨G,rfl,hqG,hend,by omega,below_drewN (Below.refl _ _) _⟩
   ·
    have hend:=guess_end HH HGL.out (by omega) (.inl (by omega))
    have hLd:decide ((L:Int) < 4294967296)=false:=by simp; omega
    go_wp2
    go_ret
    exact ⟨G,rfl,hqG,hend,by omega,below_drewN (Below.refl _ _) _⟩
 ·
  have h2:=HQt.out
  have HL:Hid ((H:Int) - (Q:Int)*(tp:Int)=((H - Q*tp:Nat):Int)):=by show _=_; rw [← Int.natCast_mul]; omega
  clear h2
  go_enter Tryz.func112,Tryz.ntmps112
  go_wp2
  go_quiet (fail)
  go_wp2
  go_quiet (fail)
  go_wp2
  go_loop [9,10] (fun gv lv=>∃ G L:Nat,gv=.int .u64 G∧lv=.int .u64 L∧G*tp+L=H∧R / D≤G∧G≤4294967295) (fun gv _=>(intOf gv).toNat)
  case atStart=>exact ⟨Q,H - Q*tp,rfl,congrArg (Value.int .u64) HL.out,by have:=HQt.out; omega,by omega,by omega⟩
  case round =>
   obtain ⟨G,L,rfl,rfl,hGL,hqG,hGu⟩:=hrel
   have hLH:L≤H:=by omega
   have hGn:(0:Int)≤(G:Int)*(nx:Int)∧(G:Int)*(nx:Int)≤18446744065119617025:=mul_u32 (by omega) l2
   obtain ⟨hGn0,hGn1⟩:=hGn
   have HGL:=Lib.hid hGL
   clear hGL
   by_cases hL:L < 4294967296
   ·
    have hor2:=or64 hL l5
    obtain ⟨X,hXe⟩:∃ X,X=L*4294967296+r2:=⟨_,rfl⟩
    rw [← hXe] at hor2
    have hX:X≤18446744073709551615:=by omega
    by_cases hc:L*4294967296+r2 < G*nx
    ·
     have hdn:=guess_down HH HGL.out hc
     have hG1:1≤G:=Nat.le_trans (Nat.le_add_left 1 _) hdn
     have hcI:(X:Int) < (G:Int)*(nx:Int):=by rw [← Int.natCast_mul]; omega
     have HN:Hid ((G - 1)*tp+(L+tp)=H):=by
      show _=_
      have h1:=HGL.out
      obtain ⟨G',rfl⟩:∃ G',G=G'+1:=⟨G - 1,by omega⟩
      rw [Nat.add_mul] at h1
      simp only [Nat.add_sub_cancel]
      omega
     have hLd:decide ((L:Int) < 4294967296)=true:=by simp; omega
     clear hc hXe
     go_wp2
     go_round
     case rel=>exact ⟨G - 1,L+tp,by go_num,by go_num,HN.out,by omega,by omega⟩
     case measure=>simp [intOf]; omega
    ·
     have hend:=guess_end HH HGL.out (by omega) (.inr (by omega))
     have hcI:¬ (X:Int) < (G:Int)*(nx:Int):=by rw [← Int.natCast_mul]; omega
     have hLd:decide ((L:Int) < 4294967296)=true:=by simp; omega
     clear hc hXe
     go_wp2
     go_ret
     exact ⟨G,rfl,hqG,hend,by omega,below_drewN (Below.refl _ _) _⟩
   ·
    have hend:=guess_end HH HGL.out (by omega) (.inl (by omega))
    have hLd:decide ((L:Int) < 4294967296)=false:=by simp; omega
    go_wp2
    go_ret
    exact ⟨G,rfl,hqG,hend,by omega,below_drewN (Below.refl _ _) _⟩
end Go.Proofs.YtjclllindbfmhabGreatDoor

namespace Go.Proofs.YtjclllindbfmhabGreatDoor
/- The walk of nextPart. -/
open Go.RowKit
theorem grown_below {w w':World} (g:Nat) (h:Below w.heap.size w w'):w.grownBy w' (some g):=⟨h.os,h.tape,h.output,h.size,fun k hk _=>h.block k hk⟩
theorem grown_only {w w':World} {g:Nat} (h:Only g w w'):w.grownBy w' (some g):=⟨h.os,h.tape,h.output,by rw [h.size]; exact Nat.le_refl _,fun k _ hk=>h.block k (fun e=>hk (by rw [e]))⟩
theorem grown_trans {a b c:World} {r:Option Nat} (h:a.grownBy b r) (k:b.grownBy c r):a.grownBy c r :=
 ⟨k.os.trans h.os,k.tape.trans h.tape,k.output.trans h.output,Nat.le_trans h.size k.size,fun i hi hr=>(k.block i (Nat.lt_of_lt_of_le hi h.size) hr).trans (h.block i hi hr)⟩
/-- A part of a quotient is told; the window holds what is left. -/
def PNext (t:TypeId) (g T u n R D:Nat) (f:Nat→Nat) (w:World) (e:Ending) (w':World):Prop :=
 e=.returned (.int .u32 ((R / D:Nat):Int))∧Own .u32 t w' g T (winK u n (n+1) (R % D) R f)∧w.grownBy w' (some g)
theorem winK_all {u n U R j:Nat} {f:Nat→Nat} (hj:j≤n):winK u n (n+1) U R f (u+j)=lmb U j:=by
 unfold winK
 rw [if_pos (by omega),if_pos (by omega),show u+j - u=j from by omega]
theorem winK_win {u n U V S R T:Nat} {f:Nat→Nat} (h:∀ j,j≤n→lmb V j=lmb S j):∀ p,p < T→winK u n (n+1) V U (winK u n (n+1) U R f) p=winK u n (n+1) S R f p:=by
 intro p _
 unfold winK
 by_cases h1:u≤p∧p≤u+n
 ·
  rw [if_pos h1,if_pos h1,if_pos (by omega),if_pos (by omega),h _ (by omega)]
 ·
  rw [if_neg h1,if_neg h1,if_neg h1]
theorem off_no {R D n U G:Nat} (h:Off R (G*D) n U false) (hD:0 < D) (hG:R / D≤G):G=R / D∧U=R % D:=by
 have h1:=h.2.1 rfl
 have h2:G≤R / D:=(Nat.le_div_iff_mul_le hD).2 (by omega)
 have h3:G=R / D:=by omega
 subst h3
 have:=Nat.div_add_mod R D
 rw [Nat.mul_comm] at this
 exact ⟨rfl,by omega⟩
theorem off_yes {R D n U G:Nat} (h:Off R (G*D) n U true) (hD:0 < D) (hG:G≤R / D+1):G=R / D+1∧∀ j,j≤n→lmb (U+D) j=lmb (R % D) j:=by
 obtain ⟨h1,h2⟩:=h.1 rfl
 have h3:R / D < G:=(Nat.div_lt_iff_lt_mul hD).2 h2
 have h4:G=R / D+1:=by omega
 refine ⟨h4,fun j hj=>?_⟩
 have:=Nat.div_add_mod R D
 rw [h4,Nat.add_mul,Nat.mul_comm] at h1
 rw [show U+D=R % D+BB ^ (n+1)*1 from by omega]
 exact lmb_add_hi _ _ _ _ (by omega)
set_option maxHeartbeats 800000 in
theorem nextPart_any (g T u n cp R D b1 o1 dc:Nat) (f:Nat→Nat) (w:World) (hown:Own .u32 98 w g T f) (hT:u+n < T) (hTb:T≤1000000000) (hcp:n+1≤cp) (hcm:cp≤maxLen)
  (hf:∀ j,j≤n→f (u+j)=lmb R j) (hd:Lie .u32 w (some ⟨b1,o1,none⟩) n dc (lmb D)) (hne:b1 ≠ g) (hn:2≤n) (hR:R < D*BB) (hD:Fit n D) :
  Calls Tryz.prog 108 #[.slice (some ⟨g,u,none⟩) ((n+1:Nat)) cp,.slice (some ⟨b1,o1,none⟩) n dc] w (PNext 98 g T u n R D f w):=by
 have HF:=Lib.hid hf
 have HD:=Lib.hid hD
 have HR:=Lib.hid hR
 have hDp:0 < D:=by
  refine Nat.pos_of_ne_zero fun h=>?_
  have:=(fit_pos hD).2 h
  omega
 have HRl:Hid (R < BB ^ (n+1)):=Nat.lt_of_lt_of_le hR (by rw [Nat.pow_succ]; exact Nat.mul_le_mul_right _ (Nat.le_of_lt hD.1))
 have hr:Lie .u32 w (some ⟨g,u,none⟩) (n+1) cp (lmb R) :=
  ⟨hcp,hcm,(fun e=>by cases e),(fun p hp=>by cases hp; exact ⟨rfl,hown.lt⟩),(fun p hp i hi=>by cases hp; rw [hown.cell (u+i) (by omega),hf i (by omega)])⟩
 have HNE:Hid (∀ p:Addr,some (⟨b1,o1,none⟩:Addr)=some p→p.block ≠ g):=fun p hp=>by cases hp; exact hne
 clear hf hD hR hne
 go_enter Tryz.func108,Tryz.ntmps108
 go_wp2_with fail
 refine (guessed_any g u n cp R D b1 o1 dc _ hr hd hn (by omega) HR.out HD.out).mono ?_
 rintro e w1 ⟨G,rfl,hG1,hG2,hG3,hb1⟩
 have hown1:=hown.below hb1
 have hd1:=hd.below hb1
 clear hr hown hd
 go_wp2_with fail
 refine (takeTimes_any g T u n cp R D G (some ⟨b1,o1,none⟩) dc f _ hown1 hT hTb HF.out HRl.out hd1 HNE.out HD.out.1 hG3).mono ?_
 rintro e w2 ⟨U,bl,rfl,hoff,hown2,ho2⟩
 cases bl
 ·
  obtain ⟨e1,e2⟩:=off_no hoff hDp hG1
  have H1:=Lib.hid e1
  have H2:=Lib.hid e2
  clear e1 e2 hG1 hG2
  go_wp2
  go_ret
  exact ⟨by rw [← H1.out]; rfl,by rw [← H2.out]; exact hown2,grown_trans (grown_below g hb1) (grown_only ho2)⟩
 ·
  obtain ⟨e1,e2⟩:=off_yes hoff hDp hG2
  have H1:=Lib.hid e1
  have H2:=Lib.hid e2
  have hGp:1≤G:=by rw [e1]; exact Nat.le_add_left _ _
  have hd2:=hd1.only ho2 HNE.out
  have HE:Hid ((G:Int) - 1=((R / D:Nat):Int)):=by show _=_; rw [e1]; omega
  clear e1 e2 hG1 hG2 hd1
  go_wp2_with fail
  refine (addBack_any g T u n cp U D (some ⟨b1,o1,none⟩) dc _ _ hown2 hT hTb (fun j hj=>winK_all hj) hd2 HNE.out HD.out.1).mono ?_
  rintro e w3 ⟨rfl,hown3,ho3⟩
  go_wp2
  go_ret
  exact ⟨ret_int HE.out,hown3.congr (winK_win H2.out),grown_trans (grown_trans (grown_below g hb1) (grown_only ho2)) (grown_only ho3)⟩
end Go.Proofs.YtjclllindbfmhabGreatDoor

namespace Go.Proofs.YtjclllindbfmhabGreatDoor
/- The walks of raised and lowered. -/
open Go.RowKit
/-- What is carried when a number is raised by s binary digits. -/
def rc (N s k:Nat):Nat:=N % BB ^ k*2 ^ s / BB ^ k
theorem rc_zero (N s:Nat):rc N s 0=0:=by simp [rc,Nat.mod_one]
theorem rc_lt (N s k:Nat):rc N s k < 2 ^ s:=by
 unfold rc
 refine Nat.div_lt_of_lt_mul ?_
 exact (Nat.mul_lt_mul_right (Nat.pow_pos (by decide))).2 (Nat.mod_lt _ (BBp k))
theorem pow_split {s:Nat} (hs:s < 32):2 ^ s*2 ^ (32 - s)=4294967296:=by
 rw [← Nat.pow_add,show s+(32 - s)=32 from by omega]
theorem raise_parts {s:Nat} (hs:s < 32) (a c:Nat) (hc:c < 2 ^ s) :
  a*2 ^ s % 4294967296=2 ^ s*(a % 2 ^ (32 - s))∧(a*2 ^ s+c) / 4294967296=a / 2 ^ (32 - s)∧(a*2 ^ s+c) % 4294967296=2 ^ s*(a % 2 ^ (32 - s))+c∧2 ^ s*(a % 2 ^ (32 - s))+c < 4294967296:=by
 have hp:=pow_split hs
 have hU:0 < 2 ^ (32 - s):=Nat.pow_pos (by decide)
 have hd:=Nat.div_add_mod a (2 ^ (32 - s))
 have hl:=Nat.mod_lt a hU
 generalize (2:Nat) ^ s=T at *
 generalize (2:Nat) ^ (32 - s)=U at *
 generalize a % U=l at *
 generalize a / U=h at *
 have e1:a*T=4294967296*h+T*l:=by
  rw [← hd,← hp,Nat.add_mul,Nat.mul_comm (U*h),Nat.mul_assoc,Nat.mul_comm l]
 have e2:T*(l+1)≤T*U:=Nat.mul_le_mul_left _ hl
 rw [Nat.mul_add,hp] at e2
 omega
theorem rc_step {s:Nat} (hs:s < 32) (N k:Nat):rc N s (k+1)=lmb N k / 2 ^ (32 - s)∧lmb (N*2 ^ s) k=2 ^ s*(lmb N k % 2 ^ (32 - s))+rc N s k:=by
 obtain ⟨-,h2,h3,-⟩:=raise_parts hs (lmb N k) (rc N s k) (rc_lt N s k)
 constructor
 ·
  rw [← h2]
  unfold rc
  rw [mod_succ,Nat.pow_succ,← Nat.div_div_eq_div_mul,Nat.add_mul,Nat.mul_assoc,Nat.add_mul_div_left _ _ (BBp k),Nat.add_comm]; rfl
 ·
  rw [← h3]
  have e:N*2 ^ s / BB ^ k=N / BB ^ k*2 ^ s+rc N s k:=by
   have hd:=Nat.div_add_mod N (BB ^ k)
   conv=>lhs; rw [← hd]
   rw [Nat.add_mul,Nat.mul_assoc,Nat.add_comm,Nat.add_mul_div_left _ _ (BBp k),Nat.add_comm]; rfl
  have e2:lmb (N*2 ^ s) k=(N / BB ^ k*2 ^ s+rc N s k) % 4294967296:=by rw [← e]; rfl
  rw [e2]
  have hu:=up_split N k
  rw [hu,Nat.add_mul]
  show (_+4294967296*_*_+_) % _=_
  rw [Nat.mul_assoc]
  omega
theorem raise_or {s:Nat} (hs:s < 32) (N k:Nat):bits .or .u32 ((lmb N k:Int)*2 ^ s % 4294967296) (rc N s k:Int)=((lmb (N*2 ^ s) k:Nat):Int):=by
 obtain ⟨h1,-,-,h4⟩:=raise_parts hs (lmb N k) (rc N s k) (rc_lt N s k)
 have e:(lmb N k:Int)*2 ^ s % 4294967296=((2 ^ s*(lmb N k % 2 ^ (32 - s)):Nat):Int):=by
  rw [← h1,Int.natCast_emod,Int.natCast_mul,Int.natCast_pow]; rfl
 rw [e,u32_or_nat _ _ (by omega) (by omega),(rc_step hs N k).2,← Nat.two_pow_add_eq_or_of_lt (rc_lt N s k)]
theorem raise_shr {s:Nat} (hs:s < 32) (N k:Nat):(lmb N k:Int) / 2 ^ (32 - s)=((rc N s (k+1):Nat):Int):=by
 rw [(rc_step hs N k).1,Int.natCast_ediv,Int.natCast_pow]; rfl
theorem rc_end {N s n:Nat} (hs:s < 32) (h:N < BB ^ n):rc N s n=lmb (N*2 ^ s) n∧N*2 ^ s < BB ^ (n+1):=by
 have h1:(2:Nat) ^ s < BB:=Nat.pow_lt_pow_right (by decide) hs
 have h2:N*2 ^ s < BB ^ (n+1):=by
  rw [Nat.pow_succ]; exact Nat.mul_lt_mul'' h h1
 refine ⟨?_,h2⟩
 rw [lmb_top h2]
 unfold rc
 rw [Nat.mod_eq_of_lt h]
set_option maxHeartbeats 1600000 in
theorem raised_any (a:Option Addr) (n c N s:Nat) (w:World) (ha:Lie .u32 w a n c (lmb N)) (hN:N < BB ^ n) (hs:s < 32) (hn:n≤1000000000) :
  Calls Tryz.prog 107 #[.slice a n c,.int .i64 s] w (PNew .u32 98 (n+1) (lmb (N*2 ^ s)) w):=by
 have hcm:=ha.capm
 have hnc:=ha.cap
 unfold maxLen at hcm
 have hn4:4*(n+1)≤281474976710656:=by omega
 have hn6:n+1≤9223372036854775807:=by omega
 have HN:=Lib.hid hN
 clear hN
 go_enter Tryz.func107,Tryz.ntmps107
 go_wp2_with (first | (at_make; refine wpList_mk _ rfl (.tmp 11) (.tmp 11) 28 rfl 98 .u32 4 Tryz.u28 Tryz.info98 _ _ (n+1) rfl rfl (by omega) (by omega) hn4 hn6 ?_; intro g w1 hg hown hb1))
 go_loopw [6,15] (fun cv iv wr=>∃ k:Nat,k≤n∧iv=.int .i64 k∧cv=.int .u32 (rc N s k)∧Own .u32 98 wr g (n+1) (fun j=>if j < k then lmb (N*2 ^ s) j else 0)∧Below w.heap.size w wr) (fun _ iv _=>n - (intOf iv).toNat)
 case atStart=>exact ⟨0,Nat.zero_le _,rfl,by rw [rc_zero]; rfl,hown.congr (fun j hj=>by simp),hb1⟩
 case round =>
  obtain ⟨k,hk,rfl,rfl,hown1,hbl⟩:=hrel
  by_cases hlt:k < n
  ·
   obtain ⟨b1,o1,rfl,hb1'⟩:=ha.some_of_pos (by omega)
   have c1:=(ha.below hbl).at k hlt
   have c2:wr.cell? ⟨g,k,none⟩=some (.int .u32 (0:Nat)):=by rw [hown1.cell k (by omega)]; simp
   have c3:=hown1.free k
   have hla:=lmb_lt N k
   have HX:=Lib.hid (raise_or hs N k)
   have HY:=Lib.hid (raise_shr hs N k)
   have hbs:=hbl.setCell (p:=⟨g,k,none⟩) hg
   clear ha
   go_wp2
   go_roundw
   case rel=>exact ⟨k+1,by omega,by go_num,by rw [HY.out],hown1.put (by omega) (by rw [HX.out,if_pos (by omega)]) (fun j _ hne=>by by_cases h1:j < k <;> by_cases h2:j < k+1 <;> simp [h1,h2] <;> omega),hbs _⟩
   case measure=>simp [intOf]; omega
  ·
   obtain rfl:k=n:=by omega
   have c2:wr.cell? ⟨g,k,none⟩=some (.int .u32 (0:Nat)):=by rw [hown1.cell k (by omega)]; simp
   have c3:=hown1.free k
   have HE:=Lib.hid (rc_end hs HN.out)
   have hbs:=hbl.setCell (p:=⟨g,k,none⟩) hg
   clear ha
   go_wp2
   go_ret
   exact ⟨g,rfl,hg,hown1.put (by omega) (by rw [HE.out.1]) (fun j hj hne=>by rw [if_pos (by omega)]),hbs _⟩
def lowF (N s i:Nat) (j:Nat):Nat:=if j < i then lmb (N / 2 ^ s) j else lmb N j
theorem low_mul {s:Nat} (hs:s < 32) (b:Nat):b*2 ^ (32 - s) % 4294967296=2 ^ (32 - s)*(b % 2 ^ s):=by
 have hp:=pow_split hs
 have hd:=Nat.div_add_mod b (2 ^ s)
 have hl:=Nat.mod_lt b (Nat.pow_pos (n:=s) (show 0 < 2 by decide))
 generalize (2:Nat) ^ s=T at *
 generalize (2:Nat) ^ (32 - s)=U at *
 generalize b % T=l at *
 generalize b / T=h at *
 have e1:b*U=4294967296*h+U*l:=by
  rw [← hd,← hp,Nat.add_mul,Nat.mul_comm (T*h),Nat.mul_comm l,← Nat.mul_assoc,Nat.mul_comm U T]
 have e2:U*(l+1)≤U*T:=Nat.mul_le_mul_left _ hl
 rw [Nat.mul_add,Nat.mul_comm U T,hp] at e2
 have:0 < U:=Nat.pos_of_ne_zero fun h=>by subst h; simp at hp
 omega
theorem low_part {s:Nat} (hs:s < 32) (N k:Nat):lmb (N / 2 ^ s) k=2 ^ (32 - s)*(lmb N (k+1) % 2 ^ s)+lmb N k / 2 ^ s:=by
 have hp:=pow_split hs
 have h1:=low_mul hs (lmb N (k+1))
 have hlo:lmb N k / 2 ^ s < 2 ^ (32 - s):=Nat.div_lt_of_lt_mul (by rw [hp]; exact lmb_lt N k)
 have e0:lmb (N / 2 ^ s) k=N / BB ^ k / 2 ^ s % 4294967296:=by
  unfold lmb; rw [Nat.div_div_eq_div_mul,Nat.mul_comm,← Nat.div_div_eq_div_mul]; rfl
 have hU:2 ^ (32 - s)*(lmb N (k+1) % 2 ^ s)+2 ^ (32 - s)≤4294967296:=by
  have hl:=Nat.mod_lt (lmb N (k+1)) (Nat.pow_pos (n:=s) (show 0 < 2 by decide))
  have e2:2 ^ (32 - s)*(lmb N (k+1) % 2 ^ s+1)≤2 ^ (32 - s)*2 ^ s:=Nat.mul_le_mul_left _ hl
  rw [Nat.mul_comm (2 ^ (32 - s)) (2 ^ s),hp,Nat.mul_add] at e2
  omega
 rw [e0,up_split N k,up_split N (k+1)]
 show (_+4294967296*(_+4294967296*_)) / _ % _=_
 generalize N / BB ^ (k+1+1)=Q
 rw [← hp,Nat.mul_assoc,Nat.add_mul_div_left _ _ (Nat.pow_pos (by decide)),hp]
 have e3:2 ^ (32 - s)*(lmb N (k+1)+4294967296*Q)=lmb N (k+1)*2 ^ (32 - s)+4294967296*(2 ^ (32 - s)*Q):=by
  rw [Nat.mul_add,Nat.mul_comm _ (lmb N (k+1)),Nat.mul_left_comm]
 rw [e3]
 clear e3 e0 hp hs
 generalize lmb N (k+1)*2 ^ (32 - s)=X at *
 generalize 2 ^ (32 - s)*Q=Y at *
 generalize 2 ^ (32 - s)*(lmb N (k+1) % 2 ^ s)=R at *
 generalize lmb N k / 2 ^ s=l at *
 generalize (2:Nat) ^ (32 - s)=U at *
 omega
theorem low_or {s:Nat} (hs:s < 32) (N k:Nat):bits .or .u32 ((lmb N k:Int) / 2 ^ s) ((lmb N (k+1):Int)*2 ^ (32 - s) % 4294967296)=((lmb (N / 2 ^ s) k:Nat):Int):=by
 have hp:=pow_split hs
 have hlo:lmb N k / 2 ^ s < 2 ^ (32 - s):=Nat.div_lt_of_lt_mul (by rw [hp]; exact lmb_lt N k)
 have e1:(lmb N k:Int) / 2 ^ s=((lmb N k / 2 ^ s:Nat):Int):=by rw [Int.natCast_ediv,Int.natCast_pow]; rfl
 have e2:(lmb N (k+1):Int)*2 ^ (32 - s) % 4294967296=((2 ^ (32 - s)*(lmb N (k+1) % 2 ^ s):Nat):Int):=by
  rw [← low_mul hs,Int.natCast_emod,Int.natCast_mul,Int.natCast_pow]; rfl
 have hlt:=lmb_lt (N / 2 ^ s) k
 rw [low_part hs] at hlt
 rw [e1,e2,u32_or_nat _ _ (by omega) (by omega),low_part hs,Nat.or_comm,← Nat.two_pow_add_eq_or_of_lt hlo]
theorem low_last {s:Nat} (hs:s < 32) (N k:Nat) (h:lmb N (k+1)=0):(lmb N k:Int) / 2 ^ s=((lmb (N / 2 ^ s) k:Nat):Int):=by
 rw [low_part hs,h,Nat.zero_mod,Nat.mul_zero,Nat.zero_add,Int.natCast_ediv,Int.natCast_pow]; rfl
theorem low_fst (N k s:Nat):(lmb N k:Int) / 2 ^ s=((lmb N k / 2 ^ s:Nat):Int):=by rw [Int.natCast_ediv,Int.natCast_pow]; rfl
theorem lowF_next {N s n:Nat} (k:Nat):∀ j,j < n→j ≠ k→lowF N s k j=lowF N s (k+1) j:=by
 intro j _ hne
 unfold lowF
 by_cases h1:j < k <;> by_cases h2:j < k+1 <;> simp [h1,h2] <;> omega
theorem Own.put2 {k:IntKind} {e:TypeId} {w:World} {g n:Nat} {f:Nat→Nat} (h:Own k e w g n f) {i X:Nat} {x y:Int} {F:Nat→Nat} (hi:i < n) (hx:x=(X:Nat)) (hy:y=(F i:Nat)) (hf:∀ j,j < n→j ≠ i→f j=F j) :
  Own k e ((w.setCell ⟨g,i,none⟩ (.int k x)).setCell ⟨g,i,none⟩ (.int k y)) g n F:=by
 subst hx
 exact (h.set X hi).put hi hy (fun j hj hne=>by simp [hne,hf j hj hne])
set_option maxHeartbeats 1600000 in
theorem lowered_any (a:Option Addr) (n c N s:Nat) (w:World) (ha:Lie .u32 w a n c (lmb N)) (hN:N < BB ^ n) (hs:s < 32) (hn:n≤1000000000) :
  Calls Tryz.prog 109 #[.slice a n c,.int .i64 s] w (PPart (N / 2 ^ s) w):=by
 have hcm:=ha.capm
 have hnc:=ha.cap
 unfold maxLen at hcm
 have hn6:n≤9223372036854775807:=by omega
 have HN:=Lib.hid hN
 clear hN
 go_enter Tryz.func109,Tryz.ntmps109
 go_wp2_with fail
 refine (copied_any a n c (lmb N) _ ha hn).mono ?_
 rintro e w1 ⟨g,rfl,hg,hown1,hb1⟩
 go_wp2
 go_loopw [11] (fun iv wr=>∃ k:Nat,k≤n∧iv=.int .i64 k∧Own .u32 98 wr g n (lowF N s k)∧Below w.heap.size w wr) (fun iv _=>n - (intOf iv).toNat)
 case atStart=>exact ⟨0,Nat.zero_le _,rfl,hown1.congr (fun j hj=>by simp [lowF]),hb1⟩
 case round =>
  obtain ⟨k,hk,rfl,hown,hbl⟩:=hrel
  by_cases hlt:k < n
  ·
   obtain ⟨b1,o1,rfl,hb1'⟩:=ha.some_of_pos (by omega)
   have c1:wr.cell? ⟨g,k,none⟩=some (.int .u32 (lmb N k)):=by rw [hown.cell k (by omega)]; simp [lowF]
   have c2:=hown.free k
   have hla:=lmb_lt N k
   have hbg:b1 < g:=by omega
   by_cases hk1:k+1 < n
   ·
    have c3:=(ha.below hbl).at (k+1) hk1
    have hla1:=lmb_lt N (k+1)
    have HX:=Lib.hid (low_or hs N k)
    have hbs:=fun u v=>(hbl.setCell (p:=⟨g,k,none⟩) hg u).setCell (p:=⟨g,k,none⟩) hg v
    have HB:=Lib.hid hbs
    clear ha hbs
    go_wp2
    go_region
    all_goals go_wp2
    all_goals go_roundw
    case rel=>exact ⟨k+1,by omega,by go_num,(hown.put2 (by omega) (low_fst N k s) (by rw [HX.out,lowF,if_pos (by omega)]) (lowF_next k)).drew,(HB.out _ _).drew⟩
    case measure=>simp [intOf]; omega
   ·
    have HX:=Lib.hid (low_last hs N k (lmb_zero HN.out (by omega)))
    have hbs:=hbl.setCell (p:=⟨g,k,none⟩) hg
    clear ha
    go_wp2
    go_roundw
    case rel=>exact ⟨k+1,by omega,by go_num,hown.put (by omega) (by rw [HX.out,lowF,if_pos (by omega)]) (lowF_next k),hbs _⟩
    case measure=>simp [intOf]; omega
  ·
   obtain rfl:k=n:=by omega
   have hO:Own .u32 98 wr g k (lmb (N / 2 ^ s)):=hown.congr (fun j hj=>by rw [lowF,if_pos hj])
   clear ha
   go_wp2_with fail
   refine (trimmed_any _ _ _ (N / 2 ^ s) _ (hO.lie (Nat.le_refl _) (by unfold maxLen; omega)) (Nat.lt_of_le_of_lt (Nat.div_le_self _ _) HN.out)).mono ?_
   rintro e w3 ⟨mm,rfl,hmm,hfit,rfl⟩
   go_wp2
   go_ret
   exact ppart_own hO hg hbl hmm hn6 hfit
end Go.Proofs.YtjclllindbfmhabGreatDoor
