/- Parts of the proof. -/
import Derived.Test.YtjclllindbfmhabGreatDoorHs0
import Derived.Test.YtjclllindbfmhabGreatDoorHs25
import Derived.Test.YtjclllindbfmhabGreatDoorHs21
import Derived.Test.YtjclllindbfmhabGreatDoorHs12
set_option linter.unusedSimpArgs false
set_option linter.unusedVariables false
namespace Go.Proofs.YtjclllindbfmhabGreatDoor
/- Package lin: the walks of beside, Of and their closures. No statement of the seat is proved here. -/
open Go Go.RowKit
/-- A's rows with b's numbers at their ends. -/
def bsd (m:Nat) (A:Nat→Nat→Int) (b:Nat→Int) (i j:Nat):Int:=if j < m then A i j else b i
set_option maxRecDepth 100000 in
set_option maxHeartbeats 12800000 in
theorem lBes11 {X0:Nat→Prop} {w:World} (hX:NX X0 w) {m:Nat} {a bs:Sl} {A:Nat→Nat→Int} {b:Nat→Int} (bA bI bB i j:Nat) (hi:i < m) (cA:Cf bA #[a.v] 26 X0 w) (cI:Cf bI #[.int .i64 ((i:Nat):Int)] 3 X0 w) (cB:Cf bB #[bs.v] 27 X0 w) (ha:Mt m (fun _=>m) A a X0 w) (hb_:Ls m b bs X0 w):Calls Tryz.prog 93 #[.int .i64 ((j:Nat):Int),.pointer (some ⟨bA,0,none⟩),.pointer (some ⟨bI,0,none⟩),.pointer (some ⟨bB,0,none⟩)] w (PNX X0 (bsd m A b i j) w):=by
 have hZ0:=zs_start hX
 have hZ1:=hZ0.more (f:=Cf bB #[bs.v] 27) (Cf.stb _ _ _) cB
 clear hZ0
 have hZ2:=hZ1.more (f:=Cf bI #[.int .i64 (((i:Nat):Int))] 3) (Cf.stb _ _ _) cI
 clear hZ1
 have hZ3:=hZ2.more (f:=Cf bA #[a.v] 26) (Cf.stb _ _ _) cA
 clear hZ2
 have hZ4:=hZ3.more (f:=Mt m (fun _=>m) A a) (Mt.stb _ _ _ _) ha
 clear hZ3
 have hZ5:=hZ4.more (f:=Ls m b bs) (Ls.stb _ _ _) hb_
 clear hZ4
 go_enter Tryz.func93,Tryz.ntmps93
 go_wp2_with (refine zsa 30 #[.bool false,.slice none 0 0] (.agg #[.bool false,.slice none 0 0]) rfl rfl zv30 rfl hZ5 (fun bk1 X6 W1 hZ6=>?_))
 clear hZ5
 simp only [Stop,Act.put,zzC,zzD,zzE]
 by_cases hlt:j < m
 ·
  go_wp2_with (refine zso rfl (fun K hK=>wp_load1 (v:=a.v) 26 (.tmp 1) rfl bA 0 #[a.v] 26 (hZ6.get 2 (f:=Cf bA #[a.v] 26) rfl).1 rfl ag26 (by kernel_rfl) (hK _ _ ?_)))
  simp only [Stop,Act.put,zzC,zzD,zzE]
  go_wp2_with (refine zso rfl (fun K hK=>wp_lenq (.tmp 7) 26 27 a rfl (by kernel_rfl) rfl (hZ6.get 1 (f:=Mt m (fun _=>m) A a) rfl).n (hK _ _ ?_)))
  simp only [Stop,Act.put,zzC,zzD,zzE]
  go_wp2_with (refine zso rfl (fun K hK=>wp_lssi (.tmp 6) (.tmp 8) rfl rfl rfl (r:=true) (decide_eq_true (by omega)) (hK _ _ ?_)))
  simp only [Stop,Act.put,zzC,zzD,zzE]
  go_wp2_with (refine zso rfl (fun K hK=>wp_load1 (v:=a.v) 26 (.tmp 1) rfl bA 0 #[a.v] 26 (hZ6.get 2 (f:=Cf bA #[a.v] 26) rfl).1 rfl ag26 (by kernel_rfl) (hK _ _ ?_)))
  simp only [Stop,Act.put,zzC,zzD,zzE]
  go_wp2_with (refine zso rfl (fun K hK=>wp_load1 (v:=.int .i64 (((i:Nat):Int))) 3 (.tmp 2) rfl bI 0 #[.int .i64 (((i:Nat):Int))] 3 (hZ6.get 3 (f:=Cf bI #[.int .i64 (((i:Nat):Int))] 3) rfl).1 rfl ag3 (by kernel_rfl) (hK _ _ ?_)))
  simp only [Stop,Act.put,zzC,zzD,zzE]
  go_wp2_with (refine zso rfl (fun K hK=>wp_ixs 26 (.tmp 10) (.tmp 11) a i 1 27 rfl rfl rfl (by kernel_rfl) sz27 (fun h=>((hZ6.get 1 (f:=Mt m (fun _=>m) A a) rfl).sq.nil h).1) ((hZ6.get 1 (f:=Mt m (fun _=>m) A a) rfl).n ▸ (by omega)) (hK _ _ ?_)))
  simp only [Stop,Act.put,zzC,zzD,zzE]
  go_wp2_with (refine zso rfl (fun K hK=>wp_ldm 27 (.tmp 12) a i m (fun _=>m) A rfl rfl (hZ6.get 1 (f:=Mt m (fun _=>m) A a) rfl) (by omega) ag27 (fun s1 hi_s1=>hK _ _ ?_)))
  simp only [Stop,Act.put,zzC,zzD,zzE]
  have hZ7:=hZ6.more (f:=Ls m (A i) s1) (Ls.stb _ _ _) hi_s1
  clear hZ6 hi_s1
  go_wp2_with (refine zso rfl (fun K hK=>wp_ixs 27 (.tmp 13) (.tmp 14) s1 j 2 30 rfl rfl rfl (by kernel_rfl) sz30 (fun h=>((hZ7.get 0 (f:=Ls m (A i) s1) rfl).sq.nil h).1) ((hZ7.get 0 (f:=Ls m (A i) s1) rfl).n ▸ (by omega)) (hK _ _ ?_)))
  simp only [Stop,Act.put,zzC,zzD,zzE]
  go_wp2_with (refine zso rfl (fun K hK=>wp_ldn 30 (.tmp 15) s1 j m (A i) rfl rfl (hZ7.get 0 (f:=Ls m (A i) s1) rfl) (by omega) ag30 sz30 (fun q2 ez_q2 hi_q2=>hK _ _ ?_)))
  simp only [Stop,Act.put,zzC,zzD,zzE]
  have hZ8:=hZ7.more (f:=q2.is) q2.stb hi_q2
  clear hZ7 hi_q2
  go_wp2_with (refine zss 30 (.tmp 5) (.tmp 16) 0 bk1 0 #[.bool false,.slice none 0 0] 30 2 [.bool q2.b,.slice q2.a q2.n q2.c] #[.bool q2.b,.slice q2.a q2.n q2.c] [(bk1,#[.bool q2.b,.slice q2.a q2.n q2.c],30)] rfl rfl rfl rfl sz30 hZ8 rfl rfl (zzF (by kernel_rfl)) (by kernel_rfl) (by kernel_rfl) (by kernel_rfl) (fun W2 hZ9=>?_))
  clear hZ8
  simp only [Stop,Act.put,zzC,zzD,zzE]
  go_wp2
  exact bodyPost_ret (v:=q2.v) (results_cell 0 Tryz.results93 hZ9.es rfl ag30 sz30 (zzF (by kernel_rfl)) rfl (by kernel_rfl)) rfl ⟨q2,rfl,(by rw [ez_q2]; unfold bsd; rw [if_pos hlt]),hZ9.out 0 (f:=q2.is) rfl,hZ9.below⟩
 ·
  go_wp2_with (refine zso rfl (fun K hK=>wp_load1 (v:=a.v) 26 (.tmp 1) rfl bA 0 #[a.v] 26 (hZ6.get 2 (f:=Cf bA #[a.v] 26) rfl).1 rfl ag26 (by kernel_rfl) (hK _ _ ?_)))
  simp only [Stop,Act.put,zzC,zzD,zzE]
  go_wp2_with (refine zso rfl (fun K hK=>wp_lenq (.tmp 7) 26 27 a rfl (by kernel_rfl) rfl (hZ6.get 1 (f:=Mt m (fun _=>m) A a) rfl).n (hK _ _ ?_)))
  simp only [Stop,Act.put,zzC,zzD,zzE]
  go_wp2_with (refine zso rfl (fun K hK=>wp_lssi (.tmp 6) (.tmp 8) rfl rfl rfl (r:=false) (decide_eq_false (by omega)) (hK _ _ ?_)))
  simp only [Stop,Act.put,zzC,zzD,zzE]
  go_wp2_with (refine zso rfl (fun K hK=>wp_load1 (v:=bs.v) 27 (.tmp 3) rfl bB 0 #[bs.v] 27 (hZ6.get 4 (f:=Cf bB #[bs.v] 27) rfl).1 rfl ag27 (by kernel_rfl) (hK _ _ ?_)))
  simp only [Stop,Act.put,zzC,zzD,zzE]
  go_wp2_with (refine zso rfl (fun K hK=>wp_load1 (v:=.int .i64 (((i:Nat):Int))) 3 (.tmp 2) rfl bI 0 #[.int .i64 (((i:Nat):Int))] 3 (hZ6.get 3 (f:=Cf bI #[.int .i64 (((i:Nat):Int))] 3) rfl).1 rfl ag3 (by kernel_rfl) (hK _ _ ?_)))
  simp only [Stop,Act.put,zzC,zzD,zzE]
  go_wp2_with (refine zso rfl (fun K hK=>wp_ixs 27 (.tmp 17) (.tmp 18) bs i 2 30 rfl rfl rfl (by kernel_rfl) sz30 (fun h=>((hZ6.get 0 (f:=Ls m b bs) rfl).sq.nil h).1) ((hZ6.get 0 (f:=Ls m b bs) rfl).n ▸ (by omega)) (hK _ _ ?_)))
  simp only [Stop,Act.put,zzC,zzD,zzE]
  go_wp2_with (refine zso rfl (fun K hK=>wp_ldn 30 (.tmp 19) bs i m b rfl rfl (hZ6.get 0 (f:=Ls m b bs) rfl) (by omega) ag30 sz30 (fun q3 ez_q3 hi_q3=>hK _ _ ?_)))
  simp only [Stop,Act.put,zzC,zzD,zzE]
  have hZ10:=hZ6.more (f:=q3.is) q3.stb hi_q3
  clear hZ6 hi_q3
  go_wp2_with (refine zss 30 (.tmp 5) (.tmp 20) 0 bk1 0 #[.bool false,.slice none 0 0] 30 2 [.bool q3.b,.slice q3.a q3.n q3.c] #[.bool q3.b,.slice q3.a q3.n q3.c] [(bk1,#[.bool q3.b,.slice q3.a q3.n q3.c],30)] rfl rfl rfl rfl sz30 hZ10 rfl rfl (zzF (by kernel_rfl)) (by kernel_rfl) (by kernel_rfl) (by kernel_rfl) (fun W3 hZ11=>?_))
  clear hZ10
  simp only [Stop,Act.put,zzC,zzD,zzE]
  go_wp2
  exact bodyPost_ret (v:=q3.v) (results_cell 0 Tryz.results93 hZ11.es rfl ag30 sz30 (zzF (by kernel_rfl)) rfl (by kernel_rfl)) rfl ⟨q3,rfl,(by rw [ez_q3]; unfold bsd; rw [if_neg hlt]),hZ11.out 0 (f:=q3.is) rfl,hZ11.below⟩
set_option maxRecDepth 100000 in
set_option maxHeartbeats 12800000 in
theorem lBes1 {X0:Nat→Prop} {w:World} (hX:NX X0 w) {m:Nat} {a bs:Sl} {A:Nat→Nat→Int} {b:Nat→Int} (bA bB i:Nat) (hi:i < m) (hm:m≤900) (cA:Cf bA #[a.v] 26 X0 w) (cB:Cf bB #[bs.v] 27 X0 w) (ha:Mt m (fun _=>m) A a X0 w) (hb_:Ls m b bs X0 w):Calls Tryz.prog 92 #[.int .i64 ((i:Nat):Int),.pointer (some ⟨bA,0,none⟩),.pointer (some ⟨bB,0,none⟩)] w (PLX X0 (m+1) (bsd m A b i) w):=by
 have hZ0:=zs_start hX
 have hZ1:=hZ0.more (f:=Cf bB #[bs.v] 27) (Cf.stb _ _ _) cB
 clear hZ0
 have hZ2:=hZ1.more (f:=Cf bA #[a.v] 26) (Cf.stb _ _ _) cA
 clear hZ1
 have hZ3:=hZ2.more (f:=Mt m (fun _=>m) A a) (Mt.stb _ _ _ _) ha
 clear hZ2
 have hZ4:=hZ3.more (f:=Ls m b bs) (Ls.stb _ _ _) hb_
 clear hZ3
 go_enter Tryz.func92,Tryz.ntmps92
 go_wp2_with (refine zsb 3 (.tmp 0) #[.int .i64 (((i:Nat):Int))] rfl rfl rfl hZ4 (fun bk1 X5 W1 hZ5=>?_))
 clear hZ4
 simp only [Stop,Act.put,zzC,zzD,zzE]
 have hZ6:=hZ5.release hX
 clear hZ5
 go_wp2_with (refine zso rfl (fun K hK=>wp_load1 (v:=a.v) 26 (.tmp 1) rfl bA 0 #[a.v] 26 (hZ6.get 3 (f:=Cf bA #[a.v] 26) rfl).1 rfl ag26 (by kernel_rfl) (hK _ _ ?_)))
 simp only [Stop,Act.put,zzC,zzD,zzE]
 go_wp2_with (refine zso rfl (fun K hK=>wp_lenq (.tmp 5) 26 27 a rfl (by kernel_rfl) rfl (hZ6.get 2 (f:=Mt m (fun _=>m) A a) rfl).n (hK _ _ ?_)))
 simp only [Stop,Act.put,zzC,zzD,zzE]
 go_wp2_with (refine zso rfl (fun K hK=>wp_addi (.tmp 6) (.const (.int .i64 1)) rfl rfl rfl (C:=((m+1:Nat):Int)) (by omega) (by omega) (by omega) (hK _ _ ?_)))
 simp only [Stop,Act.put,zzC,zzD,zzE]
 go_wp2_with (refine zso rfl (fun K hK=>wp_mkf 93 #[.tmp 1,.tmp 3,.tmp 2] #[.pointer (some ⟨bA,0,none⟩),.pointer (some ⟨bk1,0,none⟩),.pointer (some ⟨bB,0,none⟩)] rfl (map3 rfl rfl rfl) (hK _ _ ?_)))
 simp only [Stop,Act.put,zzC,zzD,zzE]
 go_wp2_with fail
 refine (lMadeN hZ6.nx (m+1) 93 #[.pointer (some ⟨bA,0,none⟩),.pointer (some ⟨bk1,0,none⟩),.pointer (some ⟨bB,0,none⟩)] (bsd m A b i) (by omega) ⟨fun _ _=>rfl,fun j hj X' W' hx he hb=>(show Calls _ _ #[.int .i64 ((j:Nat):Int),.pointer (some ⟨bA,0,none⟩),.pointer (some ⟨bk1,0,none⟩),.pointer (some ⟨bB,0,none⟩)] _ _ from lBes11 hx bA bk1 bB i j hi (Cf.stb _ _ _ _ _ _ _ he (hZ6.get 3 (f:=Cf bA #[a.v] 26) rfl)) (Cf.stb _ _ _ _ _ _ _ he (hZ6.get 0 (f:=Cf bk1 #[.int .i64 (((i:Nat):Int))] 3) rfl)) (Cf.stb _ _ _ _ _ _ _ he (hZ6.get 4 (f:=Cf bB #[bs.v] 27) rfl)) (Mt.stb _ _ _ _ _ _ _ _ he (hZ6.get 2 (f:=Mt m (fun _=>m) A a) rfl)) (Ls.stb _ _ _ _ _ _ _ he (hZ6.get 1 (f:=Ls m b bs) rfl)))⟩).mono ?_
 rintro zz W2 ⟨s1,rfl,hi_s1,hB⟩
 have hZ7:=hZ6.later hB
 clear hB hZ6
 have hZ8:=hZ7.more (f:=Ls (m+1) (bsd m A b i) s1) (Ls.stb _ _ _) hi_s1
 clear hZ7 hi_s1
 go_wp2
 go_ret
 exact ⟨s1,rfl,hZ8.out 0 (f:=Ls (m+1) (bsd m A b i) s1) rfl,hZ8.below⟩
set_option maxRecDepth 100000 in
set_option maxHeartbeats 12800000 in
theorem lBeside {X0:Nat→Prop} {w:World} (hX:NX X0 w) (a bs:Sl) {m:Nat} {A:Nat→Nat→Int} {b:Nat→Int} (hm:m≤900) (ha:Mt m (fun _=>m) A a X0 w) (hb_:Ls m b bs X0 w):Calls Tryz.prog 81 #[a.v,bs.v] w (PMX X0 m (fun _=>m+1) (bsd m A b) w):=by
 have hZ0:=zs_start hX
 have hZ1:=hZ0.more (f:=Mt m (fun _=>m) A a) (Mt.stb _ _ _ _) ha
 clear hZ0
 have hZ2:=hZ1.more (f:=Ls m b bs) (Ls.stb _ _ _) hb_
 clear hZ1
 go_enter Tryz.func81,Tryz.ntmps81
 go_wp2_with (refine zsb 26 (.tmp 0) #[a.v] rfl rfl rfl hZ2 (fun bk1 X3 W1 hZ3=>?_))
 clear hZ2
 simp only [Stop,Act.put,zzC,zzD,zzE]
 go_wp2_with (refine zsb 27 (.tmp 1) #[bs.v] rfl rfl rfl hZ3 (fun bk2 X4 W2 hZ4=>?_))
 clear hZ3
 simp only [Stop,Act.put,zzC,zzD,zzE]
 have hZ5:=hZ4.release hX
 clear hZ4
 have hZ6:=hZ5.release hX
 clear hZ5
 go_wp2_with (refine zso rfl (fun K hK=>wp_load1 (v:=a.v) 26 (.tmp 2) rfl bk1 0 #[a.v] 26 (hZ6.get 0 (f:=Cf bk1 #[a.v] 26) rfl).1 rfl ag26 (by kernel_rfl) (hK _ _ ?_)))
 simp only [Stop,Act.put,zzC,zzD,zzE]
 go_wp2_with (refine zso rfl (fun K hK=>wp_lenq (.tmp 5) 26 27 a rfl (by kernel_rfl) rfl (hZ6.get 3 (f:=Mt m (fun _=>m) A a) rfl).n (hK _ _ ?_)))
 simp only [Stop,Act.put,zzC,zzD,zzE]
 go_wp2_with (refine zso rfl (fun K hK=>wp_mkf 92 #[.tmp 2,.tmp 3] #[.pointer (some ⟨bk1,0,none⟩),.pointer (some ⟨bk2,0,none⟩)] rfl (map2 rfl rfl) (hK _ _ ?_)))
 simp only [Stop,Act.put,zzC,zzD,zzE]
 go_wp2_with fail
 refine (lMadeL hZ6.nx m 92 #[.pointer (some ⟨bk1,0,none⟩),.pointer (some ⟨bk2,0,none⟩)] (fun _=>m+1) (bsd m A b) (by omega) ⟨fun _ _=>rfl,fun i hi X' W' hx he hb=>(show Calls _ _ #[.int .i64 ((i:Nat):Int),.pointer (some ⟨bk1,0,none⟩),.pointer (some ⟨bk2,0,none⟩)] _ _ from lBes1 hx bk1 bk2 i hi (by omega) (Cf.stb _ _ _ _ _ _ _ he (hZ6.get 0 (f:=Cf bk1 #[a.v] 26) rfl)) (Cf.stb _ _ _ _ _ _ _ he (hZ6.get 1 (f:=Cf bk2 #[bs.v] 27) rfl)) (Mt.stb _ _ _ _ _ _ _ _ he (hZ6.get 3 (f:=Mt m (fun _=>m) A a) rfl)) (Ls.stb _ _ _ _ _ _ _ he (hZ6.get 2 (f:=Ls m b bs) rfl)))⟩).mono ?_
 rintro zz W3 ⟨s1,rfl,hi_s1,hB⟩
 have hZ7:=hZ6.later hB
 clear hB hZ6
 have hZ8:=hZ7.more (f:=Mt m (fun _=>m+1) (bsd m A b) s1) (Mt.stb _ _ _ _) hi_s1
 clear hZ7 hi_s1
 go_wp2
 go_ret
 exact ⟨s1,rfl,hZ8.out 0 (f:=Mt m (fun _=>m+1) (bsd m A b) s1) rfl,hZ8.below⟩
set_option maxRecDepth 100000 in
set_option maxHeartbeats 12800000 in
theorem lOf1 {X0:Nat→Prop} {w:World} (hX:NX X0 w) {m:Nat} {rs:Sl} {cc:Nat→Nat} {R:Nat→Nat→Int} (bR i j:Nat) (hi:i < m) (hj:j < m) (hc:∀ i,i < m→cc i=m) (cR:Cf bR #[rs.v] 22 X0 w) (hrs:Mi m cc R rs X0 w) (hR:∀ i j,i < m→j < m→-9223372036854775808≤R i j∧R i j≤9223372036854775807):Calls Tryz.prog 72 #[.int .i64 ((i:Nat):Int),.int .i64 ((j:Nat):Int),.pointer (some ⟨bR,0,none⟩)] w (PNX X0 (R i j) w):=by
 have hZ0:=zs_start hX
 have hZ1:=hZ0.more (f:=Cf bR #[rs.v] 22) (Cf.stb _ _ _) cR
 clear hZ0
 have hZ2:=hZ1.more (f:=Mi m cc R rs) (Mi.stb _ _ _ _) hrs
 clear hZ1
 go_enter Tryz.func72,Tryz.ntmps72
 go_wp2_with (refine zsa 30 #[.bool false,.slice none 0 0] (.agg #[.bool false,.slice none 0 0]) rfl rfl zv30 rfl hZ2 (fun bk1 X3 W1 hZ3=>?_))
 clear hZ2
 simp only [Stop,Act.put,zzC,zzD,zzE]
 go_wp2_with (refine zso rfl (fun K hK=>wp_load1 (v:=rs.v) 22 (.tmp 2) rfl bR 0 #[rs.v] 22 (hZ3.get 1 (f:=Cf bR #[rs.v] 22) rfl).1 rfl ag22 (by kernel_rfl) (hK _ _ ?_)))
 simp only [Stop,Act.put,zzC,zzD,zzE]
 go_wp2_with (refine zso rfl (fun K hK=>wp_ixs 22 (.tmp 6) (.tmp 7) rs i 1 23 rfl rfl rfl (by kernel_rfl) sz23 (fun h=>((hZ3.get 0 (f:=Mi m cc R rs) rfl).sq.nil h).1) ((hZ3.get 0 (f:=Mi m cc R rs) rfl).n ▸ (by omega)) (hK _ _ ?_)))
 simp only [Stop,Act.put,zzC,zzD,zzE]
 go_wp2_with (refine zso rfl (fun K hK=>wp_ldim 23 (.tmp 8) rs i m cc R rfl rfl (hZ3.get 0 (f:=Mi m cc R rs) rfl) (by omega) ag23 (fun s1 hi_s1=>hK _ _ ?_)))
 simp only [Stop,Act.put,zzC,zzD,zzE]
 have hZ4:=hZ3.more (f:=Li (cc i) (R i) s1) (Li.stb _ _ _) hi_s1
 clear hZ3 hi_s1
 go_wp2_with (refine zso rfl (fun K hK=>wp_ixs 23 (.tmp 9) (.tmp 10) s1 j 1 2 rfl rfl rfl (by kernel_rfl) sz2 (fun h=>((hZ4.get 0 (f:=Li (cc i) (R i) s1) rfl).sq.nil h).1) ((hZ4.get 0 (f:=Li (cc i) (R i) s1) rfl).n ▸ (by rw [hc i hi]; exact hj)) (hK _ _ ?_)))
 simp only [Stop,Act.put,zzC,zzD,zzE]
 go_wp2_with (refine zso rfl (fun K hK=>wp_ldi 2 (.tmp 11) s1 j (cc i) (R i) rfl rfl (hZ4.get 0 (f:=Li (cc i) (R i) s1) rfl) (by rw [hc i hi]; exact hj) ag2 (hK _ _ ?_)))
 simp only [Stop,Act.put,zzC,zzD,zzE]
 go_wp2_with fail
 refine (zOf hZ4.nx (hR i j hi (by omega)).1 (hR i j hi (by omega)).2).mono ?_
 rintro zz W2 ⟨q2,rfl,ez_q2,hi_q2,hB⟩
 have hZ5:=hZ4.later hB
 clear hB hZ4
 have hZ6:=hZ5.more (f:=q2.is) q2.stb hi_q2
 clear hZ5 hi_q2
 go_wp2_with (refine zss 30 (.tmp 5) (.tmp 13) 0 bk1 0 #[.bool false,.slice none 0 0] 30 2 [.bool q2.b,.slice q2.a q2.n q2.c] #[.bool q2.b,.slice q2.a q2.n q2.c] [(bk1,#[.bool q2.b,.slice q2.a q2.n q2.c],30)] rfl rfl rfl rfl sz30 hZ6 rfl rfl (zzF (by kernel_rfl)) (by kernel_rfl) (by kernel_rfl) (by kernel_rfl) (fun W3 hZ7=>?_))
 clear hZ6
 simp only [Stop,Act.put,zzC,zzD,zzE]
 go_wp2
 exact bodyPost_ret (v:=q2.v) (results_cell 0 Tryz.results72 hZ7.es rfl ag30 sz30 (zzF (by kernel_rfl)) rfl (by kernel_rfl)) rfl ⟨q2,rfl,ez_q2,hZ7.out 0 (f:=q2.is) rfl,hZ7.below⟩
/-- What Of tells of rows. -/
def POf (X:Nat→Prop) (m:Nat) (R:Nat→Nat→Int) (w:World) (e:Ending) (w':World):Prop:=∃ s:Sl,e=.returned (.tuple #[s.v,.int .i64 0])∧Mt m (fun _=>m) R s X w'∧Below w.heap.size w w'
/-- What Of tells of any rows: a matrix; ErrArg; ErrLong. -/
def POfs (X:Nat→Prop) (m:Nat) (cc:Nat→Nat) (R:Nat→Nat→Int) (w:World) (e:Ending) (w':World):Prop:=(m≤12∧(∀ k,k < m→cc k=m)∧POf X m R w e w')∨(e=.returned (.tuple #[.slice none 0 0,.int .i64 1])∧m≤12∧¬ (∀ k,k < m→cc k=m)∧Below w.heap.size w w')∨(e=.returned (.tuple #[.slice none 0 0,.int .i64 2])∧¬ m≤12∧Below w.heap.size w w')
set_option maxRecDepth 100000 in
set_option maxHeartbeats 12800000 in
theorem lOf {X0:Nat→Prop} {w:World} (hX:NX X0 w) (rs:Sl) {m:Nat} {cc:Nat→Nat} {R:Nat→Nat→Int} (hrs:Mi m cc R rs X0 w) (hR:m≤12→(∀ k,k < m→cc k=m)→∀ i j,i < m→j < m→-9223372036854775808≤R i j∧R i j≤9223372036854775807):Calls Tryz.prog 40 #[rs.v] w (POfs X0 m cc R w):=by
 have HR:=Lib.hid hR
 clear hR
 have hZ0:=zs_start hX
 have hZ1:=hZ0.more (f:=Mi m cc R rs) (Mi.stb _ _ _ _) hrs
 clear hZ0
 go_enter Tryz.func40,Tryz.ntmps40
 go_wp2_with (refine zsb 22 (.tmp 0) #[rs.v] rfl rfl rfl hZ1 (fun bk1 X2 W1 hZ2=>?_))
 clear hZ1
 simp only [Stop,Act.put,zzC,zzD,zzE]
 have hZ3:=hZ2.release hX
 clear hZ2
 by_cases hm:m≤12
 ·
  go_wp2_with (refine zso rfl (fun K hK=>wp_load1 (v:=rs.v) 22 (.tmp 1) rfl bk1 0 #[rs.v] 22 (hZ3.get 0 (f:=Cf bk1 #[rs.v] 22) rfl).1 rfl ag22 (by kernel_rfl) (hK _ _ ?_)))
  simp only [Stop,Act.put,zzC,zzD,zzE]
  go_wp2_with (refine zso rfl (fun K hK=>wp_lenq (.tmp 6) 22 23 rs rfl (by kernel_rfl) rfl (hZ3.get 1 (f:=Mi m cc R rs) rfl).n (hK _ _ ?_)))
  simp only [Stop,Act.put,zzC,zzD,zzE]
  go_wp2_with (refine zso rfl (fun K hK=>wp_gtri (.tmp 7) (.const (.int .i64 12)) rfl rfl rfl (r:=false) (decide_eq_false (by omega)) (hK _ _ ?_)))
  simp only [Stop,Act.put,zzC,zzD,zzE]
  go_wp2_with (refine zso rfl (fun K hK=>wp_load1 (v:=rs.v) 22 (.tmp 1) rfl bk1 0 #[rs.v] 22 (hZ3.get 0 (f:=Cf bk1 #[rs.v] 22) rfl).1 rfl ag22 (by kernel_rfl) (hK _ _ ?_)))
  simp only [Stop,Act.put,zzC,zzD,zzE]
  go_wp2_with (refine zso rfl (fun K hK=>wp_lenq (.tmp 9) 22 23 rs rfl (by kernel_rfl) rfl (hZ3.get 1 (f:=Mi m cc R rs) rfl).n (hK _ _ ?_)))
  simp only [Stop,Act.put,zzC,zzD,zzE]
  go_wp2
  go_loopw [11] (fun iv wr=>∃ i:Nat,i≤m∧iv=.int .i64 ((i:Nat):Int)∧(∀ k,k < i→cc k=m)∧∃ X:Nat→Prop,Zs w wr X0 X [] [Cf bk1 #[rs.v] 22,Mi m cc R rs]) (fun iv _=>m - (intOf iv).toNat)
  case atStart=>exact ⟨0,by omega,rfl,fun k hk=>absurd hk (Nat.not_lt_zero k),_,hZ3⟩
  case round =>
   obtain ⟨i,hi,rfl,hok,X,hZ⟩:=hrel
   have HK:=Lib.hid hok
   clear hok
   by_cases hlt:i < m
   ·
    by_cases hq:cc i=m
    ·
     have HQ:=Lib.hid hq
     clear hq
     go_wp2_with (refine zso rfl (fun K hK=>wp_lssi (.tmp 11) (.tmp 10) rfl rfl rfl (r:=true) (decide_eq_true (by omega)) (hK _ _ ?_)))
     simp only [Stop,Act.put,zzC,zzD,zzE]
     go_wp2_with (refine zso rfl (fun K hK=>wp_ixs 22 (.tmp 9) (.tmp 11) rs i 1 23 rfl rfl rfl (by kernel_rfl) sz23 (fun h=>((hZ.get 1 (f:=Mi m cc R rs) rfl).sq.nil h).1) ((hZ.get 1 (f:=Mi m cc R rs) rfl).n ▸ (by omega)) (hK _ _ ?_)))
     simp only [Stop,Act.put,zzC,zzD,zzE]
     go_wp2_with (refine zso rfl (fun K hK=>wp_ldim 23 (.tmp 13) rs i m cc R rfl rfl (hZ.get 1 (f:=Mi m cc R rs) rfl) (by omega) ag23 (fun s1 hi_s1=>hK _ _ ?_)))
     simp only [Stop,Act.put,zzC,zzD,zzE]
     have hZ4:=hZ.more (f:=Li (cc i) (R i) s1) (Li.stb _ _ _) hi_s1
     clear hZ hi_s1
     go_wp2_with (refine zso rfl (fun K hK=>wp_lenq (.tmp 15) 23 2 s1 rfl (by kernel_rfl) rfl (hZ4.get 0 (f:=Li (cc i) (R i) s1) rfl).n (hK _ _ ?_)))
     simp only [Stop,Act.put,zzC,zzD,zzE]
     go_wp2_with (refine zso rfl (fun K hK=>wp_load1 (v:=rs.v) 22 (.tmp 1) rfl bk1 0 #[rs.v] 22 (hZ4.get 1 (f:=Cf bk1 #[rs.v] 22) rfl).1 rfl ag22 (by kernel_rfl) (hK _ _ ?_)))
     simp only [Stop,Act.put,zzC,zzD,zzE]
     go_wp2_with (refine zso rfl (fun K hK=>wp_lenq (.tmp 17) 22 23 rs rfl (by kernel_rfl) rfl (hZ4.get 2 (f:=Mi m cc R rs) rfl).n (hK _ _ ?_)))
     simp only [Stop,Act.put,zzC,zzD,zzE]
     go_wp2_with (refine zso rfl (fun K hK=>wp_neqi (.tmp 16) (.tmp 18) 3 3 rfl rfl rfl rfl (r:=false) (decide_eq_false (by have:=HQ.out; omega)) (hK _ _ ?_)))
     simp only [Stop,Act.put,zzC,zzD,zzE]
     go_wp2_with (refine zso rfl (fun K hK=>wp_addi (.tmp 11) (.const (.int .i64 1)) rfl rfl rfl (C:=((i+1:Nat):Int)) (by omega) (by omega) (by omega) (hK _ _ ?_)))
     simp only [Stop,Act.put,zzC,zzD,zzE]
     have hZ5:=hZ4.only [Cf bk1 #[rs.v] 22,Mi m cc R rs] (by simp)
     clear hZ4
     go_wp2
     go_roundw
     case rel=>exact ⟨i+1,by omega,by go_num,fun k hk=>by
       by_cases e:k=i
       ·
        rw [e]; exact HQ.out
       ·
        exact HK.out k (by omega),_,hZ5⟩
     case measure=>simp [intOf]; omega
    ·
     have HQ:=Lib.hid hq
     clear hq
     go_wp2_with (refine zso rfl (fun K hK=>wp_lssi (.tmp 11) (.tmp 10) rfl rfl rfl (r:=true) (decide_eq_true (by omega)) (hK _ _ ?_)))
     simp only [Stop,Act.put,zzC,zzD,zzE]
     go_wp2_with (refine zso rfl (fun K hK=>wp_ixs 22 (.tmp 9) (.tmp 11) rs i 1 23 rfl rfl rfl (by kernel_rfl) sz23 (fun h=>((hZ.get 1 (f:=Mi m cc R rs) rfl).sq.nil h).1) ((hZ.get 1 (f:=Mi m cc R rs) rfl).n ▸ (by omega)) (hK _ _ ?_)))
     simp only [Stop,Act.put,zzC,zzD,zzE]
     go_wp2_with (refine zso rfl (fun K hK=>wp_ldim 23 (.tmp 13) rs i m cc R rfl rfl (hZ.get 1 (f:=Mi m cc R rs) rfl) (by omega) ag23 (fun s2 hi_s2=>hK _ _ ?_)))
     simp only [Stop,Act.put,zzC,zzD,zzE]
     have hZ6:=hZ.more (f:=Li (cc i) (R i) s2) (Li.stb _ _ _) hi_s2
     clear hZ hi_s2
     go_wp2_with (refine zso rfl (fun K hK=>wp_lenq (.tmp 15) 23 2 s2 rfl (by kernel_rfl) rfl (hZ6.get 0 (f:=Li (cc i) (R i) s2) rfl).n (hK _ _ ?_)))
     simp only [Stop,Act.put,zzC,zzD,zzE]
     go_wp2_with (refine zso rfl (fun K hK=>wp_load1 (v:=rs.v) 22 (.tmp 1) rfl bk1 0 #[rs.v] 22 (hZ6.get 1 (f:=Cf bk1 #[rs.v] 22) rfl).1 rfl ag22 (by kernel_rfl) (hK _ _ ?_)))
     simp only [Stop,Act.put,zzC,zzD,zzE]
     go_wp2_with (refine zso rfl (fun K hK=>wp_lenq (.tmp 17) 22 23 rs rfl (by kernel_rfl) rfl (hZ6.get 2 (f:=Mi m cc R rs) rfl).n (hK _ _ ?_)))
     simp only [Stop,Act.put,zzC,zzD,zzE]
     go_wp2_with (refine zso rfl (fun K hK=>wp_neqi (.tmp 16) (.tmp 18) 3 3 rfl rfl rfl rfl (r:=true) (decide_eq_true (by have:=HQ.out; omega)) (hK _ _ ?_)))
     simp only [Stop,Act.put,zzC,zzD,zzE]
     go_wp2
     go_ret2
     exact .inr (.inl ⟨rfl,hm,fun h=>HQ.out (h i hlt),hZ6.below⟩)
   ·
    obtain rfl:i=m:=by omega
    go_wp2_with (refine zso rfl (fun K hK=>wp_lssi (.tmp 11) (.tmp 10) rfl rfl rfl (r:=false) (decide_eq_false (Int.lt_irrefl _)) (hK _ _ ?_)))
    simp only [Stop,Act.put,zzC,zzD,zzE]
    go_wp2_with (refine zso rfl (fun K hK=>wp_load1 (v:=rs.v) 22 (.tmp 1) rfl bk1 0 #[rs.v] 22 (hZ.get 0 (f:=Cf bk1 #[rs.v] 22) rfl).1 rfl ag22 (by kernel_rfl) (hK _ _ ?_)))
    simp only [Stop,Act.put,zzC,zzD,zzE]
    go_wp2_with (refine zso rfl (fun K hK=>wp_lenq (.tmp 21) 22 23 rs rfl (by kernel_rfl) rfl (hZ.get 1 (f:=Mi i cc R rs) rfl).n (hK _ _ ?_)))
    simp only [Stop,Act.put,zzC,zzD,zzE]
    go_wp2_with (refine zso rfl (fun K hK=>wp_mkf 72 #[.tmp 1] #[.pointer (some ⟨bk1,0,none⟩)] rfl (map1 rfl) (hK _ _ ?_)))
    simp only [Stop,Act.put,zzC,zzD,zzE]
    go_wp2_with fail
    refine (lSquare hZ.nx i 72 #[.pointer (some ⟨bk1,0,none⟩)] R (by omega) ⟨fun _ _=>rfl,fun x y hx_ hy_ X' W' hx he hb=>(show Calls _ _ #[.int .i64 ((x:Nat):Int),.int .i64 ((y:Nat):Int),.pointer (some ⟨bk1,0,none⟩)] _ _ from lOf1 hx bk1 x y hx_ hy_ HK.out (Cf.stb _ _ _ _ _ _ _ he (hZ.get 0 (f:=Cf bk1 #[rs.v] 22) rfl)) (Mi.stb _ _ _ _ _ _ _ _ he (hZ.get 1 (f:=Mi i cc R rs) rfl)) (fun p q hp hq=>HR.out hm HK.out p q hp hq))⟩).mono ?_
    rintro zz W2 ⟨s3,rfl,hi_s3,hB⟩
    have hZ7:=hZ.later hB
    clear hB hZ
    have hZ8:=hZ7.more (f:=Mt i (fun _=>i) R s3) (Mt.stb _ _ _ _) hi_s3
    clear hZ7 hi_s3
    go_wp2
    go_ret2
    exact .inl ⟨hm,HK.out,s3,rfl,hZ8.out 0 (f:=Mt i (fun _=>i) R s3) rfl,hZ8.below⟩
 ·
  go_wp2_with (refine zso rfl (fun K hK=>wp_load1 (v:=rs.v) 22 (.tmp 1) rfl bk1 0 #[rs.v] 22 (hZ3.get 0 (f:=Cf bk1 #[rs.v] 22) rfl).1 rfl ag22 (by kernel_rfl) (hK _ _ ?_)))
  simp only [Stop,Act.put,zzC,zzD,zzE]
  go_wp2_with (refine zso rfl (fun K hK=>wp_lenq (.tmp 6) 22 23 rs rfl (by kernel_rfl) rfl (hZ3.get 1 (f:=Mi m cc R rs) rfl).n (hK _ _ ?_)))
  simp only [Stop,Act.put,zzC,zzD,zzE]
  go_wp2_with (refine zso rfl (fun K hK=>wp_gtri (.tmp 7) (.const (.int .i64 12)) rfl rfl rfl (r:=true) (decide_eq_true (by omega)) (hK _ _ ?_)))
  simp only [Stop,Act.put,zzC,zzD,zzE]
  go_wp2
  go_ret2
  exact .inr (.inr ⟨rfl,hm,hZ3.below⟩)
theorem ei35:EInf Tryz.prog 35 38 2 (.agg #[.bool false,.slice none 0 0]) 32:=⟨by kernel_rfl,by kernel_rfl,by kernel_rfl,by decide,by decide⟩
theorem ei34:EInf Tryz.prog 34 35 1 (.slice none 0 0) 24:=⟨by kernel_rfl,by kernel_rfl,by kernel_rfl,by decide,by decide⟩
/-- The i-th number of a list, 0 behind its end. -/
def xl (k:Nat) (l:Nat→Int) (i:Nat):Int:=if i < k then l i else 0
theorem of_ok {X:Nat→Prop} {m:Nat} {cc:Nat→Nat} {R:Nat→Nat→Int} {w:World} (h1:m≤12) (h2:∀ k,k < m→cc k=m) (e:Ending) (w':World) (h:POfs X m cc R w e w'):POf X m R w e w':=by
 rcases h with h | h | h
 ·
  exact h.2.2
 ·
  exact absurd h2 h.2.2.1
 ·
  exact absurd h1 h.2.1
end Go.Proofs.YtjclllindbfmhabGreatDoor
