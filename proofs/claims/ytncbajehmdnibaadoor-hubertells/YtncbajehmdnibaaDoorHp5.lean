/- Parts of the proof. -/
import Derived.Test.YtncbajehmdnibaaDoorHp4
import Derived.Laws.BitsAllLaws
set_option linter.unusedSimpArgs false
set_option linter.unusedVariables false
/- The walk of divideBy. -/
namespace Go.Proofs.YtncbajehmdnibaaDoor
open Go.RowKit
/-- Parts from q on (below m) out of S, the others out of f. -/
def hiF (S q m:Nat) (f:Nat→Nat) (p:Nat):Nat:=if q≤p∧p < m then lmb S p else f p
/-- A number of kind u32 is handed back; block g holds n numbers F. -/
def PDiv (t:TypeId) (g n R:Nat) (F:Nat→Nat) (w:World) (e:Ending) (w':World):Prop :=
 e=.returned (.int .u32 (R:Nat))∧Own .u32 t w' g n F∧Only g w w'
theorem hiF_next (S j m n:Nat) (f:Nat→Nat):∀ i,i < n→i ≠ j→hiF S (j+1) m f i=hiF S j m f i:=by
 intro i _ hne
 unfold hiF
 by_cases h1:j+1≤i∧i < m
 ·
  rw [if_pos h1,if_pos (by omega)]
 ·
  rw [if_neg h1,if_neg (by omega)]
theorem or64 {L x:Nat} (hL:L < 4294967296) (hx:x < 4294967296):bits .or .u64 ((L:Int)*4294967296) (x:Int)=((L*4294967296+x:Nat):Int):=by
 have h:=u64_or_nat (L*4294967296) x (by omega) (by omega)
 have e:((L*4294967296:Nat):Int)=(L:Int)*4294967296:=by omega
 rw [e] at h
 rw [h]
 have h2:=Nat.two_pow_add_eq_or_of_lt (b:=x) (i:=32) (by omega) L
 rw [show (2:Nat) ^ 32=4294967296 from rfl,Nat.mul_comm] at h2
 rw [← h2]
theorem div_step {N D j:Nat} (hD:0 < D) :
  ((N / BB ^ (j+1) % D)*4294967296+lmb N j) / D=lmb (N / D) j∧((N / BB ^ (j+1) % D)*4294967296+lmb N j) % D=N / BB ^ j % D ∧
  ((N / BB ^ (j+1) % D)*4294967296+lmb N j) / D < 4294967296:=by
 have hup:=up_split N j
 have e0:lmb (N / D) j=N / BB ^ j / D % BB:=by unfold lmb; rw [Nat.div_div_eq_div_mul,Nat.mul_comm,← Nat.div_div_eq_div_mul]
 have hl:=lmb_lt N j
 generalize N / BB ^ (j+1)=M at *
 have hM:=Nat.div_add_mod M D
 have hlt:=Nat.mod_lt M hD
 generalize M % D=L at *
 generalize M / D=q at *
 have e1:N / BB ^ j=(L*4294967296+lmb N j)+D*(4294967296*q):=by
  rw [hup,← hM]; show _+4294967296*_=_
  rw [Nat.mul_add,Nat.mul_left_comm]; omega
 have hq:(L*4294967296+lmb N j) / D < 4294967296:=Nat.div_lt_of_lt_mul (by
  have:=Nat.mul_le_mul_right 4294967296 (show L+1≤D from hlt)
  omega)
 refine ⟨?_,?_,hq⟩
 ·
  rw [e0,e1,Nat.add_mul_div_left _ _ hD,← Nat.mul_comm q]
  show _=(_+q*BB) % BB
  rw [Nat.add_mul_mod_self_right]
  exact (Nat.mod_eq_of_lt hq).symm
 ·
  rw [e1,Nat.add_mul_mod_self_left]
set_option maxHeartbeats 1600000 in
theorem divideBy_any (g n m N D:Nat) (f:Nat→Nat) (w:World) (hown:Own .u32 38 w g n f) (hm:m≤n) (hf:∀ i,i < m→f i=lmb N i) (hN:N < BB ^ m) (hD0:0 < D) (hD:D < 4294967296) (hn:n≤1000000000) :
  Calls Tryd.prog 36 #[.slice (some ⟨g,0,none⟩) m n,.int .u32 D] w (PDiv 38 g n (N % D) (hiF (N / D) 0 m f) w):=by
 have HF:=Lib.hid hf
 have HN:=Lib.hid hN
 clear hf hN
 go_enter Tryd.func36,Tryd.ntmps36
 go_wp2
 go_loopw [5,6] (fun lv iv wr=>∃ k:Nat,k≤m∧iv=.int .i64 ((k:Int) - 1)∧lv=.int .u64 ((N / BB ^ k % D:Nat):Int)∧Own .u32 38 wr g n (hiF (N / D) k m f)∧Only g w wr) (fun _ iv _=>(intOf iv+1).toNat)
 case atStart=>exact ⟨m,Nat.le_refl _,rfl,by rw [Nat.div_eq_of_lt HN.out]; simp,hown.congr (fun j hj=>by unfold hiF; rw [if_neg (by omega)]),Only.refl _ _⟩
 case round =>
  obtain ⟨k,hk,rfl,rfl,hown1,ho1⟩:=hrel
  by_cases hp:0 < k
  ·
   obtain ⟨j,rfl⟩:∃ j,k=j+1:=⟨k - 1,by omega⟩
   have c1:wr.cell? ⟨g,j,none⟩=some (.int .u32 (lmb N j)):=by rw [hown1.cell j (by omega),hiF,if_neg (by omega),HF.out j (by omega)]
   have c2:=hown1.free j
   have hla:=lmb_lt N j
   obtain ⟨L,hL⟩:∃ L,L=N / BB ^ (j+1) % D:=⟨_,rfl⟩
   rw [← hL]
   have HL:=Lib.hid hL
   have hLD:L < D:=by rw [hL]; exact Nat.mod_lt _ hD0
   have hor:=or64 (show L < 4294967296 by omega) hla
   obtain ⟨s1,s2,s3⟩:=div_step (N:=N) (j:=j) hD0
   rw [← hL] at s1 s2 s3
   have hXu:L*4294967296+lmb N j < 18446744073709551616:=by omega
   generalize L*4294967296+lmb N j=X at *
   have hX0:(0:Int)≤(X:Int) / (D:Int):=by rw [← Int.natCast_ediv]; omega
   have hX1:(X:Int) / (D:Int)≤4294967295:=by rw [← Int.natCast_ediv]; omega
   have hX2:(0:Int)≤(X:Int) % (D:Int):=by rw [← Int.natCast_emod]; omega
   have hX3:(X:Int) % (D:Int)≤4294967295:=by rw [← Int.natCast_emod]; have:=Nat.mod_lt X hD0; omega
   have HX:Hid ((X:Int) / (D:Int)=((lmb (N / D) j:Nat):Int)∧(X:Int) % (D:Int)=((N / BB ^ j % D:Nat):Int)):=by
    show _∧_; rw [← s1,← s2,Int.natCast_ediv,Int.natCast_emod]; exact ⟨rfl,rfl⟩
   clear hL s1 s2 s3
   go_wp2
   go_roundw
   case rel=>exact ⟨j,by omega,by go_num,by rw [HX.out.2],hown1.put (by omega) (by rw [HX.out.1,hiF,if_pos (by omega)]) (hiF_next _ j m n f),ho1.trans (Only.setCell _ _ _ _)⟩
   case measure=>simp [intOf]
  ·
   obtain rfl:k=0:=by omega
   have hRD:N % D < D:=Nat.mod_lt _ hD0
   simp only [Nat.pow_zero,Nat.div_one]
   go_wp2
   go_ret
   exact ⟨rfl,hown1,ho1⟩
end Go.Proofs.YtncbajehmdnibaaDoor

/- The walk of guessed. -/
namespace Go.Proofs.YtncbajehmdnibaaDoor
open Go.RowKit
/-- What is known of the upper parts: D has tp, nx at its head, R has H, r2. -/
structure Heads (R D tp nx H r2:Nat):Prop where
 top:1≤tp
 qlt:R / D < 4294967296
 k1:R / D*(tp*4294967296+nx)≤H*4294967296+r2
 k2:H*4294967296+r2 < (R / D+1)*(tp*4294967296+nx+1)
 nxl:nx < 4294967296
 r2l:r2 < 4294967296
end Go.Proofs.YtncbajehmdnibaaDoor

/- The walk of nextPart. -/
namespace Go.Proofs.YtncbajehmdnibaaDoor
open Go.RowKit
theorem grown_only {w w':World} {g:Nat} (h:Only g w w'):w.grownBy w' (some g):=⟨h.os,h.tape,h.output,by rw [h.size]; exact Nat.le_refl _,fun k _ hk=>h.block k (fun e=>hk (by rw [e]))⟩
end Go.Proofs.YtncbajehmdnibaaDoor

/- The walks of raised and lowered. -/
namespace Go.Proofs.YtncbajehmdnibaaDoor
open Go.RowKit
/-- What is carried when a number is raised by s binary digits. -/
def rc (N s k:Nat):Nat:=N % BB ^ k*2 ^ s / BB ^ k
end Go.Proofs.YtncbajehmdnibaaDoor
