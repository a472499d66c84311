/- Parts of the proof. -/
import Derived.Test.YtolpfibihialkaaGreatDoorGf0
import Derived.Test.YtolpfibihialkaaGreatDoorGf26
import Derived.Test.YtolpfibihialkaaGreatDoorGf27
import Derived.Test.YtolpfibihialkaaGreatDoorGf23
import Derived.Test.YtolpfibihialkaaGreatDoorGf13
/- Package lin: the walks of beside, Of and their closures. No statement of the seat is proved here. -/
namespace Go.Proofs.YtolpfibihialkaaGreatDoor
open Go Go.RowKit
/-- A's rows with b's numbers at their ends. -/
def bsd (m : Nat) (A : Nat → Nat → Int) (b : Nat → Int) (i j : Nat) : Int := if j < m then A i j else b i
set_option maxRecDepth 100000 in
set_option maxHeartbeats 12800000 in
theorem lBes11 {X0 : Nat → Prop} {w : World} (hX : NX X0 w) {m : Nat} {a bs : Sl} {A : Nat → Nat → Int} {b : Nat → Int} (bA bI bB i j : Nat) (hi : i < m) (cA : Cf bA #[a.v] 30 X0 w) (cI : Cf bI #[.int .i64 ((i : Nat) : Int)] 3 X0 w) (cB : Cf bB #[bs.v] 35 X0 w) (ha : Mt m (fun _ => m) A a X0 w) (hb_ : Ls m b bs X0 w) : Calls Tryz.prog 122 #[.int .i64 ((j : Nat) : Int), .pointer (some ⟨bA, 0, none⟩), .pointer (some ⟨bI, 0, none⟩), .pointer (some ⟨bB, 0, none⟩)] w (PNX X0 (bsd m A b i j) w) := by
 have hZ0 := zs_start hX
 have hZ1 := hZ0.more (f := Cf bB #[bs.v] 35) (Cf.stb _ _ _) cB
 clear hZ0
 have hZ2 := hZ1.more (f := Cf bI #[.int .i64 (((i : Nat) : Int))] 3) (Cf.stb _ _ _) cI
 clear hZ1
 have hZ3 := hZ2.more (f := Cf bA #[a.v] 30) (Cf.stb _ _ _) cA
 clear hZ2
 have hZ4 := hZ3.more (f := Mt m (fun _ => m) A a) (Mt.stb _ _ _ _) ha
 clear hZ3
 have hZ5 := hZ4.more (f := Ls m b bs) (Ls.stb _ _ _) hb_
 clear hZ4
 go_enter Tryz.func122, Tryz.ntmps122
 go_wp2_with (refine stopz_alloc 46 #[.bool false, .slice none 0 0] (.agg #[.bool false, .slice none 0 0]) rfl rfl zv46 rfl hZ5 (fun bk1 X6 W1 hZ6 => ?_))
 clear hZ5
 unfold Stop
 try simp only [Act.put, zzC, zzD, zzE]
 by_cases hlt : j < m
 ·
  go_wp2_with (refine stop_op rfl (fun K hK => wp_load1 (v := a.v) 30 (.tmp 1) rfl bA 0 #[a.v] 30 (hZ6.get 2 (f := Cf bA #[a.v] 30) rfl).1 rfl ag30 (by kernel_rfl) (hK _ _ ?_)))
  unfold Stop
  try simp only [Act.put, zzC, zzD, zzE]
  go_wp2_with (refine stop_op rfl (fun K hK => wp_lenq (.tmp 7) 30 35 a rfl (by kernel_rfl) rfl (hZ6.get 1 (f := Mt m (fun _ => m) A a) rfl).n (hK _ _ ?_)))
  unfold Stop
  try simp only [Act.put, zzC, zzD, zzE]
  go_wp2_with (refine stop_op rfl (fun K hK => wp_lssi (.tmp 6) (.tmp 8) rfl rfl rfl (r := true) (decide_eq_true (by omega)) (hK _ _ ?_)))
  unfold Stop
  try simp only [Act.put, zzC, zzD, zzE]
  go_wp2_with (refine stop_op rfl (fun K hK => wp_load1 (v := a.v) 30 (.tmp 1) rfl bA 0 #[a.v] 30 (hZ6.get 2 (f := Cf bA #[a.v] 30) rfl).1 rfl ag30 (by kernel_rfl) (hK _ _ ?_)))
  unfold Stop
  try simp only [Act.put, zzC, zzD, zzE]
  go_wp2_with (refine stop_op rfl (fun K hK => wp_load1 (v := .int .i64 (((i : Nat) : Int))) 3 (.tmp 2) rfl bI 0 #[.int .i64 (((i : Nat) : Int))] 3 (hZ6.get 3 (f := Cf bI #[.int .i64 (((i : Nat) : Int))] 3) rfl).1 rfl ag3 (by kernel_rfl) (hK _ _ ?_)))
  unfold Stop
  try simp only [Act.put, zzC, zzD, zzE]
  go_wp2_with (refine stop_op rfl (fun K hK => wp_ixs 30 (.tmp 10) (.tmp 11) a i 1 35 rfl rfl rfl (by kernel_rfl) sz35 (fun h => ((hZ6.get 1 (f := Mt m (fun _ => m) A a) rfl).sq.nil h).1) ((hZ6.get 1 (f := Mt m (fun _ => m) A a) rfl).n ▸ (by omega)) (hK _ _ ?_)))
  unfold Stop
  try simp only [Act.put, zzC, zzD, zzE]
  go_wp2_with (refine stop_op rfl (fun K hK => wp_ldm 35 (.tmp 12) a i m (fun _ => m) A rfl rfl (hZ6.get 1 (f := Mt m (fun _ => m) A a) rfl) (by omega) ag35 (fun s1 hi_s1 => hK _ _ ?_)))
  unfold Stop
  try simp only [Act.put, zzC, zzD, zzE]
  have hZ7 := hZ6.more (f := Ls m (A i) s1) (Ls.stb _ _ _) hi_s1
  clear hZ6
  clear hi_s1
  go_wp2_with (refine stop_op rfl (fun K hK => wp_ixs 35 (.tmp 13) (.tmp 14) s1 j 2 46 rfl rfl rfl (by kernel_rfl) sz46 (fun h => ((hZ7.get 0 (f := Ls m (A i) s1) rfl).sq.nil h).1) ((hZ7.get 0 (f := Ls m (A i) s1) rfl).n ▸ (by omega)) (hK _ _ ?_)))
  unfold Stop
  try simp only [Act.put, zzC, zzD, zzE]
  go_wp2_with (refine stop_op rfl (fun K hK => wp_ldn 46 (.tmp 15) s1 j m (A i) rfl rfl (hZ7.get 0 (f := Ls m (A i) s1) rfl) (by omega) ag46 sz46 (fun q2 ez_q2 hi_q2 => hK _ _ ?_)))
  unfold Stop
  try simp only [Act.put, zzC, zzD, zzE]
  have hZ8 := hZ7.more (f := q2.is) q2.stb hi_q2
  clear hZ7
  clear hi_q2
  go_wp2_with (refine stopz_store 46 (.tmp 5) (.tmp 16) 0 bk1 0 #[.bool false, .slice none 0 0] 46 2 [.bool q2.b, .slice q2.a q2.n q2.c] #[.bool q2.b, .slice q2.a q2.n q2.c] [(bk1, #[.bool q2.b, .slice q2.a q2.n q2.c], 46)] rfl rfl rfl rfl sz46 hZ8 rfl rfl (zzF (by kernel_rfl)) (by kernel_rfl) (by kernel_rfl) (by kernel_rfl) (fun W2 hZ9 => ?_))
  clear hZ8
  unfold Stop
  try simp only [Act.put, zzC, zzD, zzE]
  go_wp2
  exact bodyPost_ret (v := q2.v) (results_cell 0 Tryz.results122 hZ9.es rfl ag46 sz46 (zzF (by kernel_rfl)) rfl (by kernel_rfl)) rfl ⟨q2, rfl, (by rw [ez_q2]; unfold bsd; rw [if_pos hlt]), hZ9.out 0 (f := q2.is) rfl, hZ9.below⟩
 ·
  go_wp2_with (refine stop_op rfl (fun K hK => wp_load1 (v := a.v) 30 (.tmp 1) rfl bA 0 #[a.v] 30 (hZ6.get 2 (f := Cf bA #[a.v] 30) rfl).1 rfl ag30 (by kernel_rfl) (hK _ _ ?_)))
  unfold Stop
  try simp only [Act.put, zzC, zzD, zzE]
  go_wp2_with (refine stop_op rfl (fun K hK => wp_lenq (.tmp 7) 30 35 a rfl (by kernel_rfl) rfl (hZ6.get 1 (f := Mt m (fun _ => m) A a) rfl).n (hK _ _ ?_)))
  unfold Stop
  try simp only [Act.put, zzC, zzD, zzE]
  go_wp2_with (refine stop_op rfl (fun K hK => wp_lssi (.tmp 6) (.tmp 8) rfl rfl rfl (r := false) (decide_eq_false (by omega)) (hK _ _ ?_)))
  unfold Stop
  try simp only [Act.put, zzC, zzD, zzE]
  go_wp2_with (refine stop_op rfl (fun K hK => wp_load1 (v := bs.v) 35 (.tmp 3) rfl bB 0 #[bs.v] 35 (hZ6.get 4 (f := Cf bB #[bs.v] 35) rfl).1 rfl ag35 (by kernel_rfl) (hK _ _ ?_)))
  unfold Stop
  try simp only [Act.put, zzC, zzD, zzE]
  go_wp2_with (refine stop_op rfl (fun K hK => wp_load1 (v := .int .i64 (((i : Nat) : Int))) 3 (.tmp 2) rfl bI 0 #[.int .i64 (((i : Nat) : Int))] 3 (hZ6.get 3 (f := Cf bI #[.int .i64 (((i : Nat) : Int))] 3) rfl).1 rfl ag3 (by kernel_rfl) (hK _ _ ?_)))
  unfold Stop
  try simp only [Act.put, zzC, zzD, zzE]
  go_wp2_with (refine stop_op rfl (fun K hK => wp_ixs 35 (.tmp 17) (.tmp 18) bs i 2 46 rfl rfl rfl (by kernel_rfl) sz46 (fun h => ((hZ6.get 0 (f := Ls m b bs) rfl).sq.nil h).1) ((hZ6.get 0 (f := Ls m b bs) rfl).n ▸ (by omega)) (hK _ _ ?_)))
  unfold Stop
  try simp only [Act.put, zzC, zzD, zzE]
  go_wp2_with (refine stop_op rfl (fun K hK => wp_ldn 46 (.tmp 19) bs i m b rfl rfl (hZ6.get 0 (f := Ls m b bs) rfl) (by omega) ag46 sz46 (fun q3 ez_q3 hi_q3 => hK _ _ ?_)))
  unfold Stop
  try simp only [Act.put, zzC, zzD, zzE]
  have hZ10 := hZ6.more (f := q3.is) q3.stb hi_q3
  clear hZ6
  clear hi_q3
  go_wp2_with (refine stopz_store 46 (.tmp 5) (.tmp 20) 0 bk1 0 #[.bool false, .slice none 0 0] 46 2 [.bool q3.b, .slice q3.a q3.n q3.c] #[.bool q3.b, .slice q3.a q3.n q3.c] [(bk1, #[.bool q3.b, .slice q3.a q3.n q3.c], 46)] rfl rfl rfl rfl sz46 hZ10 rfl rfl (zzF (by kernel_rfl)) (by kernel_rfl) (by kernel_rfl) (by kernel_rfl) (fun W3 hZ11 => ?_))
  clear hZ10
  unfold Stop
  try simp only [Act.put, zzC, zzD, zzE]
  go_wp2
  exact bodyPost_ret (v := q3.v) (results_cell 0 Tryz.results122 hZ11.es rfl ag46 sz46 (zzF (by kernel_rfl)) rfl (by kernel_rfl)) rfl ⟨q3, rfl, (by rw [ez_q3]; unfold bsd; rw [if_neg hlt]), hZ11.out 0 (f := q3.is) rfl, hZ11.below⟩
set_option maxRecDepth 100000 in
set_option maxHeartbeats 12800000 in
theorem lBes1 {X0 : Nat → Prop} {w : World} (hX : NX X0 w) {m : Nat} {a bs : Sl} {A : Nat → Nat → Int} {b : Nat → Int} (bA bB i : Nat) (hi : i < m) (hm : m ≤ 900) (cA : Cf bA #[a.v] 30 X0 w) (cB : Cf bB #[bs.v] 35 X0 w) (ha : Mt m (fun _ => m) A a X0 w) (hb_ : Ls m b bs X0 w) : Calls Tryz.prog 121 #[.int .i64 ((i : Nat) : Int), .pointer (some ⟨bA, 0, none⟩), .pointer (some ⟨bB, 0, none⟩)] w (PLX X0 (m + 1) (bsd m A b i) w) := by
 have hZ0 := zs_start hX
 have hZ1 := hZ0.more (f := Cf bB #[bs.v] 35) (Cf.stb _ _ _) cB
 clear hZ0
 have hZ2 := hZ1.more (f := Cf bA #[a.v] 30) (Cf.stb _ _ _) cA
 clear hZ1
 have hZ3 := hZ2.more (f := Mt m (fun _ => m) A a) (Mt.stb _ _ _ _) ha
 clear hZ2
 have hZ4 := hZ3.more (f := Ls m b bs) (Ls.stb _ _ _) hb_
 clear hZ3
 go_enter Tryz.func121, Tryz.ntmps121
 go_wp2_with (refine stopz_box 3 (.tmp 0) #[.int .i64 (((i : Nat) : Int))] rfl rfl rfl hZ4 (fun bk1 X5 W1 hZ5 => ?_))
 clear hZ4
 unfold Stop
 try simp only [Act.put, zzC, zzD, zzE]
 have hZ6 := hZ5.release hX
 clear hZ5
 go_wp2_with (refine stop_op rfl (fun K hK => wp_load1 (v := a.v) 30 (.tmp 1) rfl bA 0 #[a.v] 30 (hZ6.get 3 (f := Cf bA #[a.v] 30) rfl).1 rfl ag30 (by kernel_rfl) (hK _ _ ?_)))
 unfold Stop
 try simp only [Act.put, zzC, zzD, zzE]
 go_wp2_with (refine stop_op rfl (fun K hK => wp_lenq (.tmp 5) 30 35 a rfl (by kernel_rfl) rfl (hZ6.get 2 (f := Mt m (fun _ => m) A a) rfl).n (hK _ _ ?_)))
 unfold Stop
 try simp only [Act.put, zzC, zzD, zzE]
 go_wp2_with (refine stop_op rfl (fun K hK => wp_addi (.tmp 6) (.const (.int .i64 1)) rfl rfl rfl (C := ((m + 1 : Nat) : Int)) (by omega) (by omega) (by omega) (hK _ _ ?_)))
 unfold Stop
 try simp only [Act.put, zzC, zzD, zzE]
 go_wp2_with (refine stop_op rfl (fun K hK => wp_mkf 122 #[.tmp 1, .tmp 3, .tmp 2] #[.pointer (some ⟨bA, 0, none⟩), .pointer (some ⟨bk1, 0, none⟩), .pointer (some ⟨bB, 0, none⟩)] rfl (map3 rfl rfl rfl) (hK _ _ ?_)))
 unfold Stop
 try simp only [Act.put, zzC, zzD, zzE]
 go_wp2_with fail
 refine (lMadeN hZ6.nx (m + 1) 122 #[.pointer (some ⟨bA, 0, none⟩), .pointer (some ⟨bk1, 0, none⟩), .pointer (some ⟨bB, 0, none⟩)] (bsd m A b i) (by omega) ⟨fun _ _ => rfl, fun j hj X' W' hx he hb => (show Calls _ _ #[.int .i64 ((j : Nat) : Int), .pointer (some ⟨bA, 0, none⟩), .pointer (some ⟨bk1, 0, none⟩), .pointer (some ⟨bB, 0, none⟩)] _ _ from lBes11 hx bA bk1 bB i j hi (Cf.stb _ _ _ _ _ _ _ he (hZ6.get 3 (f := Cf bA #[a.v] 30) rfl)) (Cf.stb _ _ _ _ _ _ _ he (hZ6.get 0 (f := Cf bk1 #[.int .i64 (((i : Nat) : Int))] 3) rfl)) (Cf.stb _ _ _ _ _ _ _ he (hZ6.get 4 (f := Cf bB #[bs.v] 35) rfl)) (Mt.stb _ _ _ _ _ _ _ _ he (hZ6.get 2 (f := Mt m (fun _ => m) A a) rfl)) (Ls.stb _ _ _ _ _ _ _ he (hZ6.get 1 (f := Ls m b bs) rfl)))⟩).mono ?_
 rintro zz W2 ⟨s1, rfl, hi_s1, hB⟩
 have hZ7 := hZ6.later hB
 clear hB
 clear hZ6
 have hZ8 := hZ7.more (f := Ls (m + 1) (bsd m A b i) s1) (Ls.stb _ _ _) hi_s1
 clear hZ7
 clear hi_s1
 go_wp2
 go_ret
 exact ⟨s1, rfl, hZ8.out 0 (f := Ls (m + 1) (bsd m A b i) s1) rfl, hZ8.below⟩
set_option maxRecDepth 100000 in
set_option maxHeartbeats 12800000 in
theorem lBeside {X0 : Nat → Prop} {w : World} (hX : NX X0 w) (a bs : Sl) {m : Nat} {A : Nat → Nat → Int} {b : Nat → Int} (hm : m ≤ 900) (ha : Mt m (fun _ => m) A a X0 w) (hb_ : Ls m b bs X0 w) : Calls Tryz.prog 88 #[a.v, bs.v] w (PMX X0 m (fun _ => m + 1) (bsd m A b) w) := by
 have hZ0 := zs_start hX
 have hZ1 := hZ0.more (f := Mt m (fun _ => m) A a) (Mt.stb _ _ _ _) ha
 clear hZ0
 have hZ2 := hZ1.more (f := Ls m b bs) (Ls.stb _ _ _) hb_
 clear hZ1
 go_enter Tryz.func88, Tryz.ntmps88
 go_wp2_with (refine stopz_box 30 (.tmp 0) #[a.v] rfl rfl rfl hZ2 (fun bk1 X3 W1 hZ3 => ?_))
 clear hZ2
 unfold Stop
 try simp only [Act.put, zzC, zzD, zzE]
 go_wp2_with (refine stopz_box 35 (.tmp 1) #[bs.v] rfl rfl rfl hZ3 (fun bk2 X4 W2 hZ4 => ?_))
 clear hZ3
 unfold Stop
 try simp only [Act.put, zzC, zzD, zzE]
 have hZ5 := hZ4.release hX
 clear hZ4
 have hZ6 := hZ5.release hX
 clear hZ5
 go_wp2_with (refine stop_op rfl (fun K hK => wp_load1 (v := a.v) 30 (.tmp 2) rfl bk1 0 #[a.v] 30 (hZ6.get 0 (f := Cf bk1 #[a.v] 30) rfl).1 rfl ag30 (by kernel_rfl) (hK _ _ ?_)))
 unfold Stop
 try simp only [Act.put, zzC, zzD, zzE]
 go_wp2_with (refine stop_op rfl (fun K hK => wp_lenq (.tmp 5) 30 35 a rfl (by kernel_rfl) rfl (hZ6.get 3 (f := Mt m (fun _ => m) A a) rfl).n (hK _ _ ?_)))
 unfold Stop
 try simp only [Act.put, zzC, zzD, zzE]
 go_wp2_with (refine stop_op rfl (fun K hK => wp_mkf 121 #[.tmp 2, .tmp 3] #[.pointer (some ⟨bk1, 0, none⟩), .pointer (some ⟨bk2, 0, none⟩)] rfl (map2 rfl rfl) (hK _ _ ?_)))
 unfold Stop
 try simp only [Act.put, zzC, zzD, zzE]
 go_wp2_with fail
 refine (lMadeL hZ6.nx m 121 #[.pointer (some ⟨bk1, 0, none⟩), .pointer (some ⟨bk2, 0, none⟩)] (fun _ => m + 1) (bsd m A b) (by omega) ⟨fun _ _ => rfl, fun i hi X' W' hx he hb => (show Calls _ _ #[.int .i64 ((i : Nat) : Int), .pointer (some ⟨bk1, 0, none⟩), .pointer (some ⟨bk2, 0, none⟩)] _ _ from lBes1 hx bk1 bk2 i hi (by omega) (Cf.stb _ _ _ _ _ _ _ he (hZ6.get 0 (f := Cf bk1 #[a.v] 30) rfl)) (Cf.stb _ _ _ _ _ _ _ he (hZ6.get 1 (f := Cf bk2 #[bs.v] 35) rfl)) (Mt.stb _ _ _ _ _ _ _ _ he (hZ6.get 3 (f := Mt m (fun _ => m) A a) rfl)) (Ls.stb _ _ _ _ _ _ _ he (hZ6.get 2 (f := Ls m b bs) rfl)))⟩).mono ?_
 rintro zz W3 ⟨s1, rfl, hi_s1, hB⟩
 have hZ7 := hZ6.later hB
 clear hB
 clear hZ6
 have hZ8 := hZ7.more (f := Mt m (fun _ => m + 1) (bsd m A b) s1) (Mt.stb _ _ _ _) hi_s1
 clear hZ7
 clear hi_s1
 go_wp2
 go_ret
 exact ⟨s1, rfl, hZ8.out 0 (f := Mt m (fun _ => m + 1) (bsd m A b) s1) rfl, hZ8.below⟩
set_option maxRecDepth 100000 in
set_option maxHeartbeats 12800000 in
theorem lOf1 {X0 : Nat → Prop} {w : World} (hX : NX X0 w) {m : Nat} {rs : Sl} {cc : Nat → Nat} {R : Nat → Nat → Int} (bR i j : Nat) (hi : i < m) (hj : j < m) (hc : ∀ i, i < m → cc i = m) (cR : Cf bR #[rs.v] 27 X0 w) (hrs : Mi m cc R rs X0 w) (hR : ∀ i j, i < m → j < m → -9223372036854775808 ≤ R i j ∧ R i j ≤ 9223372036854775807) : Calls Tryz.prog 86 #[.int .i64 ((i : Nat) : Int), .int .i64 ((j : Nat) : Int), .pointer (some ⟨bR, 0, none⟩)] w (PNX X0 (R i j) w) := by
 have hZ0 := zs_start hX
 have hZ1 := hZ0.more (f := Cf bR #[rs.v] 27) (Cf.stb _ _ _) cR
 clear hZ0
 have hZ2 := hZ1.more (f := Mi m cc R rs) (Mi.stb _ _ _ _) hrs
 clear hZ1
 go_enter Tryz.func86, Tryz.ntmps86
 go_wp2_with (refine stopz_alloc 46 #[.bool false, .slice none 0 0] (.agg #[.bool false, .slice none 0 0]) rfl rfl zv46 rfl hZ2 (fun bk1 X3 W1 hZ3 => ?_))
 clear hZ2
 unfold Stop
 try simp only [Act.put, zzC, zzD, zzE]
 go_wp2_with (refine stop_op rfl (fun K hK => wp_load1 (v := rs.v) 27 (.tmp 2) rfl bR 0 #[rs.v] 27 (hZ3.get 1 (f := Cf bR #[rs.v] 27) rfl).1 rfl ag27 (by kernel_rfl) (hK _ _ ?_)))
 unfold Stop
 try simp only [Act.put, zzC, zzD, zzE]
 go_wp2_with (refine stop_op rfl (fun K hK => wp_ixs 27 (.tmp 6) (.tmp 7) rs i 1 28 rfl rfl rfl (by kernel_rfl) sz28 (fun h => ((hZ3.get 0 (f := Mi m cc R rs) rfl).sq.nil h).1) ((hZ3.get 0 (f := Mi m cc R rs) rfl).n ▸ (by omega)) (hK _ _ ?_)))
 unfold Stop
 try simp only [Act.put, zzC, zzD, zzE]
 go_wp2_with (refine stop_op rfl (fun K hK => wp_ldim 28 (.tmp 8) rs i m cc R rfl rfl (hZ3.get 0 (f := Mi m cc R rs) rfl) (by omega) ag28 (fun s1 hi_s1 => hK _ _ ?_)))
 unfold Stop
 try simp only [Act.put, zzC, zzD, zzE]
 have hZ4 := hZ3.more (f := Li (cc i) (R i) s1) (Li.stb _ _ _) hi_s1
 clear hZ3
 clear hi_s1
 go_wp2_with (refine stop_op rfl (fun K hK => wp_ixs 28 (.tmp 9) (.tmp 10) s1 j 1 2 rfl rfl rfl (by kernel_rfl) sz2 (fun h => ((hZ4.get 0 (f := Li (cc i) (R i) s1) rfl).sq.nil h).1) ((hZ4.get 0 (f := Li (cc i) (R i) s1) rfl).n ▸ (by rw [hc i hi]; exact hj)) (hK _ _ ?_)))
 unfold Stop
 try simp only [Act.put, zzC, zzD, zzE]
 go_wp2_with (refine stop_op rfl (fun K hK => wp_ldi 2 (.tmp 11) s1 j (cc i) (R i) rfl rfl (hZ4.get 0 (f := Li (cc i) (R i) s1) rfl) (by rw [hc i hi]; exact hj) ag2 (hK _ _ ?_)))
 unfold Stop
 try simp only [Act.put, zzC, zzD, zzE]
 go_wp2_with fail
 refine (zOf hZ4.nx (hR i j hi (by omega)).1 (hR i j hi (by omega)).2).mono ?_
 rintro zz W2 ⟨q2, rfl, ez_q2, hi_q2, hB⟩
 have hZ5 := hZ4.later hB
 clear hB
 clear hZ4
 have hZ6 := hZ5.more (f := q2.is) q2.stb hi_q2
 clear hZ5
 clear hi_q2
 go_wp2_with (refine stopz_store 46 (.tmp 5) (.tmp 13) 0 bk1 0 #[.bool false, .slice none 0 0] 46 2 [.bool q2.b, .slice q2.a q2.n q2.c] #[.bool q2.b, .slice q2.a q2.n q2.c] [(bk1, #[.bool q2.b, .slice q2.a q2.n q2.c], 46)] rfl rfl rfl rfl sz46 hZ6 rfl rfl (zzF (by kernel_rfl)) (by kernel_rfl) (by kernel_rfl) (by kernel_rfl) (fun W3 hZ7 => ?_))
 clear hZ6
 unfold Stop
 try simp only [Act.put, zzC, zzD, zzE]
 go_wp2
 exact bodyPost_ret (v := q2.v) (results_cell 0 Tryz.results86 hZ7.es rfl ag46 sz46 (zzF (by kernel_rfl)) rfl (by kernel_rfl)) rfl ⟨q2, rfl, ez_q2, hZ7.out 0 (f := q2.is) rfl, hZ7.below⟩
/-- What Of tells of rows. -/
def POf (X : Nat → Prop) (m : Nat) (R : Nat → Nat → Int) (w : World) (e : Ending) (w' : World) : Prop := ∃ s : Sl, e = .returned (.tuple #[s.v, .int .i64 0]) ∧ Mt m (fun _ => m) R s X w' ∧ Below w.heap.size w w'
/-- What Of tells of any rows: a matrix; ErrArg; ErrLong. -/
def POfs (X : Nat → Prop) (m : Nat) (cc : Nat → Nat) (R : Nat → Nat → Int) (w : World) (e : Ending) (w' : World) : Prop := (m ≤ 12 ∧ (∀ k, k < m → cc k = m) ∧ POf X m R w e w') ∨ (e = .returned (.tuple #[.slice none 0 0, .int .i64 1]) ∧ m ≤ 12 ∧ ¬ (∀ k, k < m → cc k = m) ∧ Below w.heap.size w w') ∨ (e = .returned (.tuple #[.slice none 0 0, .int .i64 2]) ∧ ¬ m ≤ 12 ∧ Below w.heap.size w w')
set_option maxRecDepth 100000 in
set_option maxHeartbeats 12800000 in
theorem lOf {X0 : Nat → Prop} {w : World} (hX : NX X0 w) (rs : Sl) {m : Nat} {cc : Nat → Nat} {R : Nat → Nat → Int} (hrs : Mi m cc R rs X0 w) (hR : m ≤ 12 → (∀ k, k < m → cc k = m) → ∀ i j, i < m → j < m → -9223372036854775808 ≤ R i j ∧ R i j ≤ 9223372036854775807) : Calls Tryz.prog 42 #[rs.v] w (POfs X0 m cc R w) := by
 have HR := Lib.hid hR
 clear hR
 have hZ0 := zs_start hX
 have hZ1 := hZ0.more (f := Mi m cc R rs) (Mi.stb _ _ _ _) hrs
 clear hZ0
 go_enter Tryz.func42, Tryz.ntmps42
 go_wp2_with (refine stopz_box 27 (.tmp 0) #[rs.v] rfl rfl rfl hZ1 (fun bk1 X2 W1 hZ2 => ?_))
 clear hZ1
 unfold Stop
 try simp only [Act.put, zzC, zzD, zzE]
 have hZ3 := hZ2.release hX
 clear hZ2
 by_cases hm : m ≤ 12
 ·
  go_wp2_with (refine stop_op rfl (fun K hK => wp_load1 (v := rs.v) 27 (.tmp 1) rfl bk1 0 #[rs.v] 27 (hZ3.get 0 (f := Cf bk1 #[rs.v] 27) rfl).1 rfl ag27 (by kernel_rfl) (hK _ _ ?_)))
  unfold Stop
  try simp only [Act.put, zzC, zzD, zzE]
  go_wp2_with (refine stop_op rfl (fun K hK => wp_lenq (.tmp 6) 27 28 rs rfl (by kernel_rfl) rfl (hZ3.get 1 (f := Mi m cc R rs) rfl).n (hK _ _ ?_)))
  unfold Stop
  try simp only [Act.put, zzC, zzD, zzE]
  go_wp2_with (refine stop_op rfl (fun K hK => wp_gtri (.tmp 7) (.const (.int .i64 12)) rfl rfl rfl (r := false) (decide_eq_false (by omega)) (hK _ _ ?_)))
  unfold Stop
  try simp only [Act.put, zzC, zzD, zzE]
  go_wp2_with (refine stop_op rfl (fun K hK => wp_load1 (v := rs.v) 27 (.tmp 1) rfl bk1 0 #[rs.v] 27 (hZ3.get 0 (f := Cf bk1 #[rs.v] 27) rfl).1 rfl ag27 (by kernel_rfl) (hK _ _ ?_)))
  unfold Stop
  try simp only [Act.put, zzC, zzD, zzE]
  go_wp2_with (refine stop_op rfl (fun K hK => wp_lenq (.tmp 9) 27 28 rs rfl (by kernel_rfl) rfl (hZ3.get 1 (f := Mi m cc R rs) rfl).n (hK _ _ ?_)))
  unfold Stop
  try simp only [Act.put, zzC, zzD, zzE]
  go_wp2
  go_loopw [11] (fun iv wr => ∃ i : Nat, i ≤ m ∧ iv = .int .i64 ((i : Nat) : Int) ∧ (∀ k, k < i → cc k = m) ∧ ∃ X : Nat → Prop, Zs w wr X0 X [] [Cf bk1 #[rs.v] 27, Mi m cc R rs]) (fun iv _ => m - (intOf iv).toNat)
  case atStart => exact ⟨0, by omega, rfl, fun k hk => absurd hk (Nat.not_lt_zero k), _, hZ3⟩
  case round =>
   obtain ⟨i, hi, rfl, hok, X, hZ⟩ := hrel
   have HK := Lib.hid hok
   clear hok
   by_cases hlt : i < m
   ·
    by_cases hq : cc i = m
    ·
     have HQ := Lib.hid hq
     clear hq
     go_wp2_with (refine stop_op rfl (fun K hK => wp_lssi (.tmp 11) (.tmp 10) rfl rfl rfl (r := true) (decide_eq_true (by omega)) (hK _ _ ?_)))
     unfold Stop
     try simp only [Act.put, zzC, zzD, zzE]
     go_wp2_with (refine stop_op rfl (fun K hK => wp_ixs 27 (.tmp 9) (.tmp 11) rs i 1 28 rfl rfl rfl (by kernel_rfl) sz28 (fun h => ((hZ.get 1 (f := Mi m cc R rs) rfl).sq.nil h).1) ((hZ.get 1 (f := Mi m cc R rs) rfl).n ▸ (by omega)) (hK _ _ ?_)))
     unfold Stop
     try simp only [Act.put, zzC, zzD, zzE]
     go_wp2_with (refine stop_op rfl (fun K hK => wp_ldim 28 (.tmp 13) rs i m cc R rfl rfl (hZ.get 1 (f := Mi m cc R rs) rfl) (by omega) ag28 (fun s1 hi_s1 => hK _ _ ?_)))
     unfold Stop
     try simp only [Act.put, zzC, zzD, zzE]
     have hZ4 := hZ.more (f := Li (cc i) (R i) s1) (Li.stb _ _ _) hi_s1
     clear hZ
     clear hi_s1
     go_wp2_with (refine stop_op rfl (fun K hK => wp_lenq (.tmp 15) 28 2 s1 rfl (by kernel_rfl) rfl (hZ4.get 0 (f := Li (cc i) (R i) s1) rfl).n (hK _ _ ?_)))
     unfold Stop
     try simp only [Act.put, zzC, zzD, zzE]
     go_wp2_with (refine stop_op rfl (fun K hK => wp_load1 (v := rs.v) 27 (.tmp 1) rfl bk1 0 #[rs.v] 27 (hZ4.get 1 (f := Cf bk1 #[rs.v] 27) rfl).1 rfl ag27 (by kernel_rfl) (hK _ _ ?_)))
     unfold Stop
     try simp only [Act.put, zzC, zzD, zzE]
     go_wp2_with (refine stop_op rfl (fun K hK => wp_lenq (.tmp 17) 27 28 rs rfl (by kernel_rfl) rfl (hZ4.get 2 (f := Mi m cc R rs) rfl).n (hK _ _ ?_)))
     unfold Stop
     try simp only [Act.put, zzC, zzD, zzE]
     go_wp2_with (refine stop_op rfl (fun K hK => wp_neqi (.tmp 16) (.tmp 18) 3 3 rfl rfl rfl rfl (r := false) (decide_eq_false (by have := HQ.out; omega)) (hK _ _ ?_)))
     unfold Stop
     try simp only [Act.put, zzC, zzD, zzE]
     go_wp2_with (refine stop_op rfl (fun K hK => wp_addi (.tmp 11) (.const (.int .i64 1)) rfl rfl rfl (C := ((i + 1 : Nat) : Int)) (by omega) (by omega) (by omega) (hK _ _ ?_)))
     unfold Stop
     try simp only [Act.put, zzC, zzD, zzE]
     have hZ5 := hZ4.only [Cf bk1 #[rs.v] 27, Mi m cc R rs] (by simp)
     clear hZ4
     go_wp2
     go_roundw
     case rel => exact ⟨i + 1, by omega, by go_num, fun k hk => by
       by_cases e : k = i
       ·
        rw [e]; exact HQ.out
       ·
        exact HK.out k (by omega), _, hZ5⟩
     case measure => simp [intOf]; omega
    ·
     have HQ := Lib.hid hq
     clear hq
     go_wp2_with (refine stop_op rfl (fun K hK => wp_lssi (.tmp 11) (.tmp 10) rfl rfl rfl (r := true) (decide_eq_true (by omega)) (hK _ _ ?_)))
     unfold Stop
     try simp only [Act.put, zzC, zzD, zzE]
     go_wp2_with (refine stop_op rfl (fun K hK => wp_ixs 27 (.tmp 9) (.tmp 11) rs i 1 28 rfl rfl rfl (by kernel_rfl) sz28 (fun h => ((hZ.get 1 (f := Mi m cc R rs) rfl).sq.nil h).1) ((hZ.get 1 (f := Mi m cc R rs) rfl).n ▸ (by omega)) (hK _ _ ?_)))
     unfold Stop
     try simp only [Act.put, zzC, zzD, zzE]
     go_wp2_with (refine stop_op rfl (fun K hK => wp_ldim 28 (.tmp 13) rs i m cc R rfl rfl (hZ.get 1 (f := Mi m cc R rs) rfl) (by omega) ag28 (fun s2 hi_s2 => hK _ _ ?_)))
     unfold Stop
     try simp only [Act.put, zzC, zzD, zzE]
     have hZ6 := hZ.more (f := Li (cc i) (R i) s2) (Li.stb _ _ _) hi_s2
     clear hZ
     clear hi_s2
     go_wp2_with (refine stop_op rfl (fun K hK => wp_lenq (.tmp 15) 28 2 s2 rfl (by kernel_rfl) rfl (hZ6.get 0 (f := Li (cc i) (R i) s2) rfl).n (hK _ _ ?_)))
     unfold Stop
     try simp only [Act.put, zzC, zzD, zzE]
     go_wp2_with (refine stop_op rfl (fun K hK => wp_load1 (v := rs.v) 27 (.tmp 1) rfl bk1 0 #[rs.v] 27 (hZ6.get 1 (f := Cf bk1 #[rs.v] 27) rfl).1 rfl ag27 (by kernel_rfl) (hK _ _ ?_)))
     unfold Stop
     try simp only [Act.put, zzC, zzD, zzE]
     go_wp2_with (refine stop_op rfl (fun K hK => wp_lenq (.tmp 17) 27 28 rs rfl (by kernel_rfl) rfl (hZ6.get 2 (f := Mi m cc R rs) rfl).n (hK _ _ ?_)))
     unfold Stop
     try simp only [Act.put, zzC, zzD, zzE]
     go_wp2_with (refine stop_op rfl (fun K hK => wp_neqi (.tmp 16) (.tmp 18) 3 3 rfl rfl rfl rfl (r := true) (decide_eq_true (by have := HQ.out; omega)) (hK _ _ ?_)))
     unfold Stop
     try simp only [Act.put, zzC, zzD, zzE]
     go_wp2
     go_ret2
     exact .inr (.inl ⟨rfl, hm, fun h => HQ.out (h i hlt), hZ6.below⟩)
   ·
    obtain rfl : i = m := by omega
    go_wp2_with (refine stop_op rfl (fun K hK => wp_lssi (.tmp 11) (.tmp 10) rfl rfl rfl (r := false) (decide_eq_false (Int.lt_irrefl _)) (hK _ _ ?_)))
    unfold Stop
    try simp only [Act.put, zzC, zzD, zzE]
    go_wp2_with (refine stop_op rfl (fun K hK => wp_load1 (v := rs.v) 27 (.tmp 1) rfl bk1 0 #[rs.v] 27 (hZ.get 0 (f := Cf bk1 #[rs.v] 27) rfl).1 rfl ag27 (by kernel_rfl) (hK _ _ ?_)))
    unfold Stop
    try simp only [Act.put, zzC, zzD, zzE]
    go_wp2_with (refine stop_op rfl (fun K hK => wp_lenq (.tmp 21) 27 28 rs rfl (by kernel_rfl) rfl (hZ.get 1 (f := Mi i cc R rs) rfl).n (hK _ _ ?_)))
    unfold Stop
    try simp only [Act.put, zzC, zzD, zzE]
    go_wp2_with (refine stop_op rfl (fun K hK => wp_mkf 86 #[.tmp 1] #[.pointer (some ⟨bk1, 0, none⟩)] rfl (map1 rfl) (hK _ _ ?_)))
    unfold Stop
    try simp only [Act.put, zzC, zzD, zzE]
    go_wp2_with fail
    refine (lSquare hZ.nx i 86 #[.pointer (some ⟨bk1, 0, none⟩)] R (by omega) ⟨fun _ _ => rfl, fun x y hx_ hy_ X' W' hx he hb => (show Calls _ _ #[.int .i64 ((x : Nat) : Int), .int .i64 ((y : Nat) : Int), .pointer (some ⟨bk1, 0, none⟩)] _ _ from lOf1 hx bk1 x y hx_ hy_ HK.out (Cf.stb _ _ _ _ _ _ _ he (hZ.get 0 (f := Cf bk1 #[rs.v] 27) rfl)) (Mi.stb _ _ _ _ _ _ _ _ he (hZ.get 1 (f := Mi i cc R rs) rfl)) (fun p q hp hq => HR.out hm HK.out p q hp hq))⟩).mono ?_
    rintro zz W2 ⟨s3, rfl, hi_s3, hB⟩
    have hZ7 := hZ.later hB
    clear hB
    clear hZ
    have hZ8 := hZ7.more (f := Mt i (fun _ => i) R s3) (Mt.stb _ _ _ _) hi_s3
    clear hZ7
    clear hi_s3
    go_wp2
    go_ret2
    exact .inl ⟨hm, HK.out, s3, rfl, hZ8.out 0 (f := Mt i (fun _ => i) R s3) rfl, hZ8.below⟩
 ·
  go_wp2_with (refine stop_op rfl (fun K hK => wp_load1 (v := rs.v) 27 (.tmp 1) rfl bk1 0 #[rs.v] 27 (hZ3.get 0 (f := Cf bk1 #[rs.v] 27) rfl).1 rfl ag27 (by kernel_rfl) (hK _ _ ?_)))
  unfold Stop
  try simp only [Act.put, zzC, zzD, zzE]
  go_wp2_with (refine stop_op rfl (fun K hK => wp_lenq (.tmp 6) 27 28 rs rfl (by kernel_rfl) rfl (hZ3.get 1 (f := Mi m cc R rs) rfl).n (hK _ _ ?_)))
  unfold Stop
  try simp only [Act.put, zzC, zzD, zzE]
  go_wp2_with (refine stop_op rfl (fun K hK => wp_gtri (.tmp 7) (.const (.int .i64 12)) rfl rfl rfl (r := true) (decide_eq_true (by omega)) (hK _ _ ?_)))
  unfold Stop
  try simp only [Act.put, zzC, zzD, zzE]
  go_wp2
  go_ret2
  exact .inr (.inr ⟨rfl, hm, hZ3.below⟩)
end Go.Proofs.YtolpfibihialkaaGreatDoor

/- The laws' helpers list, read; the document's Of. No statement of the seat is proved here. -/
namespace Go.Proofs.YtolpfibihialkaaGreatDoor
open Go Go.RowKit
theorem ei36 : EInf Tryz.prog 36 56 2 (.agg #[.bool false, .slice none 0 0]) 32 := ⟨by kernel_rfl, by kernel_rfl, by kernel_rfl, by decide, by decide⟩
theorem ei32 : EInf Tryz.prog 32 36 1 (.slice none 0 0) 24 := ⟨by kernel_rfl, by kernel_rfl, by kernel_rfl, by decide, by decide⟩
theorem rofR {z : Int} {w : World} (h1 : -9223372036854775808 ≤ z) (h2 : z ≤ 9223372036854775807) : Calls Tryz.prog 34 #[.int .i64 z] w (fun e w' => ∃ p : NL, e = .returned p.v ∧ Below w.heap.size w w') := (rOf_any z w h1 h2).mono fun _ _ ⟨b, a, n, c, h3, _, _, h4⟩ => ⟨⟨b, a, n, c, 0⟩, h3, h4⟩
/-- The i-th number of a list, 0 behind its end. -/
def xl (k : Nat) (l : Nat → Int) (i : Nat) : Int := if i < k then l i else 0
/-- Some slice is handed back. -/
def PSl (w : World) (e : Ending) (w' : World) : Prop := ∃ s : Sl, e = .returned s.v ∧ Below w.heap.size w w'
set_option maxRecDepth 100000 in
set_option maxHeartbeats 12800000 in
theorem gROf {X0 : Nat → Prop} {w : World} (hX : NX X0 w) (rs : Sl) {m : Nat} {c : Nat → Nat} {R : Nat → Nat → Int} (hr : Mi m c R rs X0 w) (hm : m ≤ 100) (hc : ∀ i, i < m → c i ≤ 100) (hR : ∀ i j, i < m → j < c i → -9223372036854775808 ≤ R i j ∧ R i j ≤ 9223372036854775807) : Calls Tryz.prog 46 #[rs.v] w (PSl w) := by
 have hZ0 := zs_start hX
 have hZ1 := hZ0.more (f := Mi m c R rs) (Mi.stb _ _ _ _) hr
 clear hZ0
 go_enter Tryz.func46, Tryz.ntmps46
 go_wp2
 go_loopw [3, 4] (fun ov iv wr => ∃ (i : Nat) (so : Sl) (Co : Array Value) (X : Nat → Prop), i ≤ m ∧ iv = .int .i64 ((i : Nat) : Int) ∧ ov = so.v ∧ so.n = i ∧ Wr 1 so Co ∧ Zs w wr X0 X ([] ++ owl so Co 36) [Mi m c R rs]) (fun _ iv _ => m - (intOf iv).toNat)
 case atStart => exact ⟨0, slz, #[], _, by omega, rfl, rfl, rfl, wr_slz 1, by simpa [owl, slz] using hZ1⟩
 case round =>
  obtain ⟨i, so, Co, X, hi, rfl, rfl, hn_so, hw_so, hZ⟩ := hrel
  by_cases hlt : i < m
  ·
   go_wp2_with (refine stop_op rfl (fun K hK => wp_lenq (.tmp 8) 27 28 rs rfl (by kernel_rfl) rfl (hZ.get 0 (f := Mi m c R rs) rfl).n (hK _ _ ?_)))
   unfold Stop
   try simp only [Act.put, zzC, zzD, zzE]
   go_wp2_with (refine stop_op rfl (fun K hK => wp_lssi (.tmp 7) (.tmp 9) rfl rfl rfl (r := true) (decide_eq_true (by omega)) (hK _ _ ?_)))
   unfold Stop
   try simp only [Act.put, zzC, zzD, zzE]
   go_wp2
   obtain ⟨wo, rfl⟩ : ∃ wo : World, wo = wr := ⟨_, rfl⟩
   have hci := hc i hlt
   go_wp2
   go_loopw [5, 6] (fun rv jv wr => ∃ (j : Nat) (si : Sl) (Ci : Array Value) (X : Nat → Prop), j ≤ c i ∧ jv = .int .i64 ((j : Nat) : Int) ∧ rv = si.v ∧ si.n = j ∧ Wr 2 si Ci ∧ Zs w wr X0 X ([] ++ (owl so Co 36 ++ owl si Ci 56)) [Mi m c R rs]) (fun _ iv _ => c i - (intOf iv).toNat)
   case atStart => exact ⟨0, slz, #[], _, by omega, rfl, rfl, rfl, wr_slz 2, by simpa [owl, slz] using hZ⟩
   case round =>
    clear hZ
    obtain ⟨j, si, Ci, Xi, hj, rfl, rfl, hn_si, hw_si, hZi⟩ := hrel
    by_cases hlj : j < c i
    ·
     go_wp2_with (refine stop_op rfl (fun K hK => wp_ixs 27 (.tmp 14) (.tmp 15) rs i 1 28 rfl rfl rfl (by kernel_rfl) sz28 (fun h => ((hZi.get 0 (f := Mi m c R rs) rfl).sq.nil h).1) ((hZi.get 0 (f := Mi m c R rs) rfl).n ▸ (by omega)) (hK _ _ ?_)))
     unfold Stop
     try simp only [Act.put, zzC, zzD, zzE]
     go_wp2_with (refine stop_op rfl (fun K hK => wp_ldim 28 (.tmp 16) rs i m c R rfl rfl (hZi.get 0 (f := Mi m c R rs) rfl) (by omega) ag28 (fun s1 hi_s1 => hK _ _ ?_)))
     unfold Stop
     try simp only [Act.put, zzC, zzD, zzE]
     have hZ2 := hZi.more (f := Li (c i) (R i) s1) (Li.stb _ _ _) hi_s1
     clear hZi
     clear hi_s1
     go_wp2_with (refine stop_op rfl (fun K hK => wp_lenq (.tmp 17) 28 2 s1 rfl (by kernel_rfl) rfl (hZ2.get 0 (f := Li (c i) (R i) s1) rfl).n (hK _ _ ?_)))
     unfold Stop
     try simp only [Act.put, zzC, zzD, zzE]
     go_wp2_with (refine stop_op rfl (fun K hK => wp_lssi (.tmp 13) (.tmp 18) rfl rfl rfl (r := true) (decide_eq_true (by omega)) (hK _ _ ?_)))
     unfold Stop
     try simp only [Act.put, zzC, zzD, zzE]
     go_wp2_with (refine stop_op rfl (fun K hK => wp_ixs 27 (.tmp 23) (.tmp 24) rs i 1 28 rfl rfl rfl (by kernel_rfl) sz28 (fun h => ((hZ2.get 1 (f := Mi m c R rs) rfl).sq.nil h).1) ((hZ2.get 1 (f := Mi m c R rs) rfl).n ▸ (by omega)) (hK _ _ ?_)))
     unfold Stop
     try simp only [Act.put, zzC, zzD, zzE]
     go_wp2_with (refine stop_op rfl (fun K hK => wp_ldim 28 (.tmp 25) rs i m c R rfl rfl (hZ2.get 1 (f := Mi m c R rs) rfl) (by omega) ag28 (fun s2 hi_s2 => hK _ _ ?_)))
     unfold Stop
     try simp only [Act.put, zzC, zzD, zzE]
     have hZ3 := hZ2.more (f := Li (c i) (R i) s2) (Li.stb _ _ _) hi_s2
     clear hZ2
     clear hi_s2
     go_wp2_with (refine stop_op rfl (fun K hK => wp_ixs 28 (.tmp 26) (.tmp 27) s2 j 1 2 rfl rfl rfl (by kernel_rfl) sz2 (fun h => ((hZ3.get 0 (f := Li (c i) (R i) s2) rfl).sq.nil h).1) ((hZ3.get 0 (f := Li (c i) (R i) s2) rfl).n ▸ (by omega)) (hK _ _ ?_)))
     unfold Stop
     try simp only [Act.put, zzC, zzD, zzE]
     go_wp2_with (refine stop_op rfl (fun K hK => wp_ldi 2 (.tmp 28) s2 j (c i) (R i) rfl rfl (hZ3.get 0 (f := Li (c i) (R i) s2) rfl) (by omega) ag2 (hK _ _ ?_)))
     unfold Stop
     try simp only [Act.put, zzC, zzD, zzE]
     go_wp2_with fail
     refine (rofR (hR i j hlt hlj).1 (hR i j hlt hlj).2).mono ?_
     rintro zz W1 ⟨q3, rfl, hB⟩
     have hZ4 := hZ3.later hB
     clear hB
     clear hZ3
     go_wp2_with (refine stop_op rfl (fun K hK => wp_bs2 ei36 (.tmp 30) rfl rfl (hK _ _ ?_)))
     unfold Stop
     try simp only [Act.put, zzC, zzD, zzE]
     have hZ5 := hZ4.later (below_new _ (.cells #[.bool q3.b, .slice q3.a q3.n q3.c] 56))
     clear hZ4
     have hZ6y := hZ5.perm (perm_last _ _ _)
     go_wp2_with (refine stop_op rfl (fun K hK => wp_app ei36 (.tmp 22) (.tmp 31) rfl (s := si) rfl ⟨W1.heap.size, 0, none⟩ 1 rfl hw_si (by rw [hn_si]; omega) hZ6y [.bool q3.b, .slice q3.a q3.n q3.c] rfl (cell_two _ (.bool q3.b) (.slice q3.a q3.n q3.c) _) (fun u hu => by simp only [List.mem_cons, List.not_mem_nil, or_false] at hu; rcases hu with rfl | rfl <;> rfl) (fun o4 C4 X6 W2 hn_o4 hw_o4 ho_C4 hg_C4 hZ6x => hK _ _ ?_)))
     unfold Stop
     try simp only [Act.put, zzC, zzD, zzE]
     clear hZ6y
     rw [hn_si] at hn_o4 ho_C4 hg_C4
     have hZ6 := hZ6x.perm (perm_last _ _ _).symm
     clear hZ6x
     clear hZ5
     have hZ7 := hZ6.only [Mi m c R rs] (by simp)
     clear hZ6
     go_wp2_with (refine stop_op rfl (fun K hK => wp_addi (.tmp 20) (.const (.int .i64 1)) rfl rfl rfl (C := ((j + 1 : Nat) : Int)) (by omega) (by omega) (by omega) (hK _ _ ?_)))
     unfold Stop
     try simp only [Act.put, zzC, zzD, zzE]
     go_wp2
     go_roundw
     case rel => exact ⟨j + 1, o4, C4, _, by omega, by go_num, rfl, hn_o4, hw_o4, hZ7⟩
     case measure => simp [intOf]; omega
    ·
     obtain rfl : j = c i := by omega
     go_wp2_with (refine stop_op rfl (fun K hK => wp_ixs 27 (.tmp 14) (.tmp 15) rs i 1 28 rfl rfl rfl (by kernel_rfl) sz28 (fun h => ((hZi.get 0 (f := Mi m c R rs) rfl).sq.nil h).1) ((hZi.get 0 (f := Mi m c R rs) rfl).n ▸ (by omega)) (hK _ _ ?_)))
     unfold Stop
     try simp only [Act.put, zzC, zzD, zzE]
     go_wp2_with (refine stop_op rfl (fun K hK => wp_ldim 28 (.tmp 16) rs i m c R rfl rfl (hZi.get 0 (f := Mi m c R rs) rfl) (by omega) ag28 (fun s5 hi_s5 => hK _ _ ?_)))
     unfold Stop
     try simp only [Act.put, zzC, zzD, zzE]
     have hZ8 := hZi.more (f := Li (c i) (R i) s5) (Li.stb _ _ _) hi_s5
     clear hZi
     clear hi_s5
     go_wp2_with (refine stop_op rfl (fun K hK => wp_lenq (.tmp 17) 28 2 s5 rfl (by kernel_rfl) rfl (hZ8.get 0 (f := Li (c i) (R i) s5) rfl).n (hK _ _ ?_)))
     unfold Stop
     try simp only [Act.put, zzC, zzD, zzE]
     go_wp2_with (refine stop_op rfl (fun K hK => wp_lssi (.tmp 13) (.tmp 18) rfl rfl rfl (r := false) (decide_eq_false (Int.lt_irrefl _)) (hK _ _ ?_)))
     unfold Stop
     try simp only [Act.put, zzC, zzD, zzE]
     have hZ9 := hZ8.only [Mi m c R rs] (by simp)
     clear hZ8
     have hZ10 := hZ9.drop (l' := [] ++ owl so Co 36) (List.Sublist.append_left (List.sublist_append_left _ _) [])
     clear hZ9
     go_wp2_with (refine stop_op rfl (fun K hK => wp_bs1 ei32 (.tmp 34) rfl rfl rfl (hK _ _ ?_)))
     unfold Stop
     try simp only [Act.put, zzC, zzD, zzE]
     have hZ11 := hZ10.later (below_new _ (.cells #[si.v] 36))
     clear hZ10
     have hZ12y := hZ11.perm List.perm_append_comm
     go_wp2_with (refine stop_op rfl (fun K hK => wp_app ei32 (.tmp 33) (.tmp 35) rfl (s := so) rfl ⟨wr.heap.size, 0, none⟩ 1 rfl hw_so (by rw [hn_so]; omega) hZ12y [si.v] rfl (cell_one _ si.v _) (fun u hu => by simp only [List.mem_cons, List.not_mem_nil, or_false] at hu; subst hu; rfl) (fun o6 C6 X12 W3 hn_o6 hw_o6 ho_C6 hg_C6 hZ12x => hK _ _ ?_)))
     unfold Stop
     try simp only [Act.put, zzC, zzD, zzE]
     clear hZ12y
     rw [hn_so] at hn_o6 ho_C6 hg_C6
     have hZ12 := hZ12x.perm List.perm_append_comm
     clear hZ12x
     clear hZ11
     go_wp2_with (refine stop_op rfl (fun K hK => wp_addi (.tmp 11) (.const (.int .i64 1)) rfl rfl rfl (C := ((i + 1 : Nat) : Int)) (by omega) (by omega) (by omega) (hK _ _ ?_)))
     unfold Stop
     try simp only [Act.put, zzC, zzD, zzE]
     go_wp2
     go_roundw
     case rel => exact ⟨i + 1, o6, C6, _, by omega, by go_num, rfl, hn_o6, hw_o6, hZ12⟩
     case measure => simp [intOf]; omega
  ·
   obtain rfl : i = m := by omega
   go_wp2_with (refine stop_op rfl (fun K hK => wp_lenq (.tmp 8) 27 28 rs rfl (by kernel_rfl) rfl (hZ.get 0 (f := Mi i c R rs) rfl).n (hK _ _ ?_)))
   unfold Stop
   try simp only [Act.put, zzC, zzD, zzE]
   go_wp2_with (refine stop_op rfl (fun K hK => wp_lssi (.tmp 7) (.tmp 9) rfl rfl rfl (r := false) (decide_eq_false (Int.lt_irrefl _)) (hK _ _ ?_)))
   unfold Stop
   try simp only [Act.put, zzC, zzD, zzE]
   go_wp2
   go_ret
   exact ⟨so, rfl, hZ.below⟩
/-- A list of numbers, and some slice. -/
def PLi (X : Nat → Prop) (n : Nat) (x : Nat → Int) (w : World) (e : Ending) (w' : World) : Prop := ∃ a b : Sl, e = .returned (.tuple #[a.v, b.v]) ∧ Ls n x a X w' ∧ Below w.heap.size w w'
set_option maxRecDepth 100000 in
set_option maxHeartbeats 12800000 in
theorem gList {X0 : Nat → Prop} {w : World} (hX : NX X0 w) (l : Sl) (n : Nat) {k : Nat} {x : Nat → Int} (hl : Li k x l X0 w) (hn : n ≤ 100) (hb : ∀ i, i < k → -9223372036854775808 ≤ x i ∧ x i ≤ 9223372036854775807) : Calls Tryz.prog 10 #[l.v, .int .i64 ((n : Nat) : Int)] w (PLi X0 n (xl k x) w) := by
 have hZ0 := zs_start hX
 have hZ1 := hZ0.more (f := Li k x l) (Li.stb _ _ _) hl
 clear hZ0
 go_enter Tryz.func10, Tryz.ntmps10
 go_wp2
 go_loopw [6, 7, 8] (fun av bv iv wr => ∃ (i : Nat) (sa sb : Sl) (Ca Cb : Array Value) (X : Nat → Prop), i ≤ n ∧ iv = .int .i64 ((i : Nat) : Int) ∧ av = sa.v ∧ bv = sb.v ∧ sa.n = i ∧ Wr 2 sa Ca ∧ sb.n = i ∧ Wr 2 sb Cb ∧ Zs w wr X0 X ([] ++ (owl sa Ca 46 ++ owl sb Cb 56)) [Fl 2 (EN (xl k x)) i Ca, Li k x l]) (fun _ _ iv _ => n - (intOf iv).toNat)
 case atStart => exact ⟨0, slz, slz, #[], #[], _, by omega, rfl, rfl, rfl, rfl, wr_slz 2, rfl, wr_slz 2, (hZ1.more (Fl.stb (EN.stb _) _ _) (fl_zero 2 (EN (xl k x)) #[] _ _))⟩
 case round =>
  obtain ⟨i, sa, sb, Ca, Cb, X, hi, rfl, rfl, rfl, hn_sa, hw_sa, hn_sb, hw_sb, hZ⟩ := hrel
  by_cases hlt : i < n
  ·
   by_cases hk : i < k
   ·
    go_wp2_with (refine stop_op rfl (fun K hK => wp_lssi (.tmp 10) (.tmp 11) rfl rfl rfl (r := true) (decide_eq_true (by omega)) (hK _ _ ?_)))
    unfold Stop
    try simp only [Act.put, zzC, zzD, zzE]
    go_wp2_with (refine stop_op rfl (fun K hK => wp_lenq (.tmp 16) 28 2 l rfl (by kernel_rfl) rfl (hZ.get 1 (f := Li k x l) rfl).n (hK _ _ ?_)))
    unfold Stop
    try simp only [Act.put, zzC, zzD, zzE]
    go_wp2_with (refine stop_op rfl (fun K hK => wp_lssi (.tmp 15) (.tmp 17) rfl rfl rfl (r := true) (decide_eq_true (by omega)) (hK _ _ ?_)))
    unfold Stop
    try simp only [Act.put, zzC, zzD, zzE]
    go_wp2_with (refine stop_op rfl (fun K hK => wp_ixs 28 (.tmp 19) (.tmp 20) l i 1 2 rfl rfl rfl (by kernel_rfl) sz2 (fun h => ((hZ.get 1 (f := Li k x l) rfl).sq.nil h).1) ((hZ.get 1 (f := Li k x l) rfl).n ▸ (by omega)) (hK _ _ ?_)))
    unfold Stop
    try simp only [Act.put, zzC, zzD, zzE]
    go_wp2_with (refine stop_op rfl (fun K hK => wp_ldi 2 (.tmp 21) l i k x rfl rfl (hZ.get 1 (f := Li k x l) rfl) (by omega) ag2 (hK _ _ ?_)))
    unfold Stop
    try simp only [Act.put, zzC, zzD, zzE]
    go_wp2_with fail
    refine (zOf hZ.nx (hb i hk).1 (hb i hk).2).mono ?_
    rintro zz W1 ⟨q1, rfl, ez_q1, hi_q1, hB⟩
    have hZ2 := hZ.later hB
    clear hB
    clear hZ
    have hZ3 := hZ2.more (f := q1.is) q1.stb hi_q1
    clear hZ2
    clear hi_q1
    go_wp2_with (refine stop_op rfl (fun K hK => wp_bs2 ei35 (.tmp 25) rfl rfl (hK _ _ ?_)))
    unfold Stop
    try simp only [Act.put, zzC, zzD, zzE]
    have hZ4 := hZ3.later (below_new _ (.cells #[.bool q1.b, .slice q1.a q1.n q1.c] 46))
    clear hZ3
    have hZ5y := hZ4.perm (perm_mid _ _ _)
    go_wp2_with (refine stop_op rfl (fun K hK => wp_app ei35 (.tmp 23) (.tmp 26) rfl (s := sa) rfl ⟨W1.heap.size, 0, none⟩ 1 rfl hw_sa (by rw [hn_sa]; omega) hZ5y [.bool q1.b, .slice q1.a q1.n q1.c] rfl (cell_two _ (.bool q1.b) (.slice q1.a q1.n q1.c) _) (fun u hu => by simp only [List.mem_cons, List.not_mem_nil, or_false] at hu; rcases hu with rfl | rfl <;> rfl) (fun o2 C2 X5 W2 hn_o2 hw_o2 ho_C2 hg_C2 hZ5x => hK _ _ ?_)))
    unfold Stop
    try simp only [Act.put, zzC, zzD, zzE]
    clear hZ5y
    rw [hn_sa] at hn_o2 ho_C2 hg_C2
    have hZ5 := hZ5x.perm (perm_mid _ _ _).symm
    clear hZ5x
    clear hZ4
    have hZ6s : Fl 2 (EN (xl k x)) (i + 1) C2 X5 W2 := Fl.snoc (C := Ca) (hZ5.get 1 (f := Fl 2 (EN (xl k x)) i Ca) rfl) rfl ho_C2 hg_C2 ⟨q1, ez_q1.trans (by unfold xl; rw [if_pos hk]), hZ5.get 0 (f := q1.is) rfl, rfl⟩
    have hZ6 := hZ5.more (Fl.stb (EN.stb _) _ _) hZ6s
    clear hZ5 hZ6s
    go_wp2_with fail
    refine (rofR (hb i hk).1 (hb i hk).2).mono ?_
    rintro zz W3 ⟨q3, rfl, hB⟩
    have hZ7 := hZ6.later hB
    clear hB
    clear hZ6
    go_wp2_with (refine stop_op rfl (fun K hK => wp_bs2 ei36 (.tmp 30) rfl rfl (hK _ _ ?_)))
    unfold Stop
    try simp only [Act.put, zzC, zzD, zzE]
    have hZ8 := hZ7.later (below_new _ (.cells #[.bool q3.b, .slice q3.a q3.n q3.c] 56))
    clear hZ7
    have hZ9y := hZ8.perm (perm_last _ _ _)
    go_wp2_with (refine stop_op rfl (fun K hK => wp_app ei36 (.tmp 28) (.tmp 31) rfl (s := sb) rfl ⟨W3.heap.size, 0, none⟩ 1 rfl hw_sb (by rw [hn_sb]; omega) hZ9y [.bool q3.b, .slice q3.a q3.n q3.c] rfl (cell_two _ (.bool q3.b) (.slice q3.a q3.n q3.c) _) (fun u hu => by simp only [List.mem_cons, List.not_mem_nil, or_false] at hu; rcases hu with rfl | rfl <;> rfl) (fun o4 C4 X9 W4 hn_o4 hw_o4 ho_C4 hg_C4 hZ9x => hK _ _ ?_)))
    unfold Stop
    try simp only [Act.put, zzC, zzD, zzE]
    clear hZ9y
    rw [hn_sb] at hn_o4 ho_C4 hg_C4
    have hZ9 := hZ9x.perm (perm_last _ _ _).symm
    clear hZ9x
    clear hZ8
    have hZ10 := hZ9.only [Fl 2 (EN (xl k x)) (i + 1) C2, Li k x l] (by simp)
    clear hZ9
    go_wp2_with (refine stop_op rfl (fun K hK => wp_addi (.tmp 13) (.const (.int .i64 1)) rfl rfl rfl (C := ((i + 1 : Nat) : Int)) (by omega) (by omega) (by omega) (hK _ _ ?_)))
    unfold Stop
    try simp only [Act.put, zzC, zzD, zzE]
    go_wp2
    go_roundw
    case rel => exact ⟨i + 1, o2, o4, C2, C4, _, by omega, by go_num, rfl, rfl, hn_o2, hw_o2, hn_o4, hw_o4, hZ10⟩
    case measure => simp [intOf]; omega
   ·
    go_wp2_with (refine stop_op rfl (fun K hK => wp_lssi (.tmp 10) (.tmp 11) rfl rfl rfl (r := true) (decide_eq_true (by omega)) (hK _ _ ?_)))
    unfold Stop
    try simp only [Act.put, zzC, zzD, zzE]
    go_wp2_with (refine stop_op rfl (fun K hK => wp_lenq (.tmp 16) 28 2 l rfl (by kernel_rfl) rfl (hZ.get 1 (f := Li k x l) rfl).n (hK _ _ ?_)))
    unfold Stop
    try simp only [Act.put, zzC, zzD, zzE]
    go_wp2_with (refine stop_op rfl (fun K hK => wp_lssi (.tmp 15) (.tmp 17) rfl rfl rfl (r := false) (decide_eq_false (by omega)) (hK _ _ ?_)))
    unfold Stop
    try simp only [Act.put, zzC, zzD, zzE]
    go_wp2_with fail
    refine (zOf hZ.nx (by omega) (by omega)).mono ?_
    rintro zz W5 ⟨q5, rfl, ez_q5, hi_q5, hB⟩
    have hZ11 := hZ.later hB
    clear hB
    clear hZ
    have hZ12 := hZ11.more (f := q5.is) q5.stb hi_q5
    clear hZ11
    clear hi_q5
    go_wp2_with (refine stop_op rfl (fun K hK => wp_bs2 ei35 (.tmp 25) rfl rfl (hK _ _ ?_)))
    unfold Stop
    try simp only [Act.put, zzC, zzD, zzE]
    have hZ13 := hZ12.later (below_new _ (.cells #[.bool q5.b, .slice q5.a q5.n q5.c] 46))
    clear hZ12
    have hZ14y := hZ13.perm (perm_mid _ _ _)
    go_wp2_with (refine stop_op rfl (fun K hK => wp_app ei35 (.tmp 23) (.tmp 26) rfl (s := sa) rfl ⟨W5.heap.size, 0, none⟩ 1 rfl hw_sa (by rw [hn_sa]; omega) hZ14y [.bool q5.b, .slice q5.a q5.n q5.c] rfl (cell_two _ (.bool q5.b) (.slice q5.a q5.n q5.c) _) (fun u hu => by simp only [List.mem_cons, List.not_mem_nil, or_false] at hu; rcases hu with rfl | rfl <;> rfl) (fun o6 C6 X14 W6 hn_o6 hw_o6 ho_C6 hg_C6 hZ14x => hK _ _ ?_)))
    unfold Stop
    try simp only [Act.put, zzC, zzD, zzE]
    clear hZ14y
    rw [hn_sa] at hn_o6 ho_C6 hg_C6
    have hZ14 := hZ14x.perm (perm_mid _ _ _).symm
    clear hZ14x
    clear hZ13
    have hZ15s : Fl 2 (EN (xl k x)) (i + 1) C6 X14 W6 := Fl.snoc (C := Ca) (hZ14.get 1 (f := Fl 2 (EN (xl k x)) i Ca) rfl) rfl ho_C6 hg_C6 ⟨q5, ez_q5.trans (by unfold xl; rw [if_neg hk]), hZ14.get 0 (f := q5.is) rfl, rfl⟩
    have hZ15 := hZ14.more (Fl.stb (EN.stb _) _ _) hZ15s
    clear hZ14 hZ15s
    go_wp2_with fail
    refine (rofR (by omega) (by omega)).mono ?_
    rintro zz W7 ⟨q7, rfl, hB⟩
    have hZ16 := hZ15.later hB
    clear hB
    clear hZ15
    go_wp2_with (refine stop_op rfl (fun K hK => wp_bs2 ei36 (.tmp 30) rfl rfl (hK _ _ ?_)))
    unfold Stop
    try simp only [Act.put, zzC, zzD, zzE]
    have hZ17 := hZ16.later (below_new _ (.cells #[.bool q7.b, .slice q7.a q7.n q7.c] 56))
    clear hZ16
    have hZ18y := hZ17.perm (perm_last _ _ _)
    go_wp2_with (refine stop_op rfl (fun K hK => wp_app ei36 (.tmp 28) (.tmp 31) rfl (s := sb) rfl ⟨W7.heap.size, 0, none⟩ 1 rfl hw_sb (by rw [hn_sb]; omega) hZ18y [.bool q7.b, .slice q7.a q7.n q7.c] rfl (cell_two _ (.bool q7.b) (.slice q7.a q7.n q7.c) _) (fun u hu => by simp only [List.mem_cons, List.not_mem_nil, or_false] at hu; rcases hu with rfl | rfl <;> rfl) (fun o8 C8 X18 W8 hn_o8 hw_o8 ho_C8 hg_C8 hZ18x => hK _ _ ?_)))
    unfold Stop
    try simp only [Act.put, zzC, zzD, zzE]
    clear hZ18y
    rw [hn_sb] at hn_o8 ho_C8 hg_C8
    have hZ18 := hZ18x.perm (perm_last _ _ _).symm
    clear hZ18x
    clear hZ17
    have hZ19 := hZ18.only [Fl 2 (EN (xl k x)) (i + 1) C6, Li k x l] (by simp)
    clear hZ18
    go_wp2_with (refine stop_op rfl (fun K hK => wp_addi (.tmp 13) (.const (.int .i64 1)) rfl rfl rfl (C := ((i + 1 : Nat) : Int)) (by omega) (by omega) (by omega) (hK _ _ ?_)))
    unfold Stop
    try simp only [Act.put, zzC, zzD, zzE]
    go_wp2
    go_roundw
    case rel => exact ⟨i + 1, o6, o8, C6, C8, _, by omega, by go_num, rfl, rfl, hn_o6, hw_o6, hn_o8, hw_o8, hZ19⟩
    case measure => simp [intOf]; omega
  ·
   obtain rfl : i = n := by omega
   go_wp2_with (refine stop_op rfl (fun K hK => wp_lssi (.tmp 10) (.tmp 11) rfl rfl rfl (r := false) (decide_eq_false (Int.lt_irrefl _)) (hK _ _ ?_)))
   unfold Stop
   try simp only [Act.put, zzC, zzD, zzE]
   go_wp2
   go_ret2
   exact ⟨sa, sb, rfl, ⟨hn_sa, hZ.sq hX (EN.stb _) hw_sa (T := 46) (fun p hp => List.mem_append_right _ (List.mem_append_left _ hp)) (hn_sa ▸ hZ.get 0 (f := Fl 2 (EN (xl k x)) i Ca) rfl)⟩, hZ.below⟩
theorem of_ok {X : Nat → Prop} {m : Nat} {cc : Nat → Nat} {R : Nat → Nat → Int} {w : World} (h1 : m ≤ 12) (h2 : ∀ k, k < m → cc k = m) (e : Ending) (w' : World) (h : POfs X m cc R w e w') : POf X m R w e w' := by
 rcases h with h | h | h
 ·
  exact h.2.2
 ·
  exact absurd h2 h.2.2.1
 ·
  exact absurd h1 h.2.1
/-- A matrix, some slice, yes. -/
def PRd (X : Nat → Prop) (m : Nat) (R : Nat → Nat → Int) (w : World) (e : Ending) (w' : World) : Prop := ∃ a b : Sl, e = .returned (.tuple #[a.v, b.v, .bool true]) ∧ Mt m (fun _ => m) R a X w' ∧ Below w.heap.size w w'
open Classical in
set_option maxRecDepth 100000 in
set_option maxHeartbeats 12800000 in
theorem gReadY {X0 : Nat → Prop} {w : World} (hX : NX X0 w) (rs : Sl) (u : Nat) {m : Nat} {c : Nat → Nat} {R : Nat → Nat → Int} (hr : Mi m c R rs X0 w) (hu12 : u ≤ 12) (hmu : m ≤ u) (hck : ∀ k, k < m → c k = m) (hR : ∀ i j, i < m → j < c i → -9223372036854775808 ≤ R i j ∧ R i j ≤ 9223372036854775807) : Calls Tryz.prog 9 #[rs.v, .int .i64 ((u : Nat) : Int)] w (PRd X0 m R w) := by
 have hZ0 := zs_start hX
 have hZ1 := hZ0.more (f := Mi m c R rs) (Mi.stb _ _ _ _) hr
 clear hZ0
 go_enter Tryz.func9, Tryz.ntmps9
 go_wp2_with fail
 refine ((gSquare hZ1.nx rs u (hZ1.get 0 (f := Mi m c R rs) rfl) hu12).mono (fun _ _ h => by rw [decide_eq_true ⟨hmu, hck⟩] at h; exact h)).mono ?_
 rintro zz W1 ⟨rfl, hB⟩
 have hZ2 := hZ1.later hB
 clear hB
 clear hZ1
 go_wp2_with fail
 refine ((lOf hZ2.nx rs (hZ2.get 0 (f := Mi m c R rs) rfl) (fun _ _ i j hi hj => hR i j hi (by rw [hck i hi]; exact hj))).mono (of_ok (by omega) hck)).mono ?_
 rintro zz W2 ⟨sa, rfl, hi_sa, hB⟩
 have hZ3 := hZ2.later hB
 clear hB
 clear hZ2
 have hZ4 := hZ3.more (f := Mt m (fun _ => m) R sa) (Mt.stb _ _ _ _) hi_sa
 clear hZ3
 clear hi_sa
 go_wp2_with fail
 refine (gROf hZ4.nx rs (hZ4.get 1 (f := Mi m c R rs) rfl) (by omega) (fun i hi => by rw [hck i hi]; omega) hR).mono ?_
 rintro zz W3 ⟨sb, rfl, hB⟩
 have hZ5 := hZ4.later hB
 clear hB
 clear hZ4
 go_wp2
 exact bodyPost_ret (v := .tuple #[sa.v, sb.v, .bool true]) (by simp [results, Tryz.results9, go_sem]) rfl ⟨sa, sb, rfl, hZ5.out 0 (f := Mt m (fun _ => m) R sa) rfl, hZ5.below⟩
open Classical in
set_option maxRecDepth 100000 in
set_option maxHeartbeats 12800000 in
theorem gReadN {X0 : Nat → Prop} {w : World} (hX : NX X0 w) (rs : Sl) (u : Nat) {m : Nat} {c : Nat → Nat} {R : Nat → Nat → Int} (hr : Mi m c R rs X0 w) (hu12 : u ≤ 12) (hno : ¬ (m ≤ u ∧ ∀ k, k < m → c k = m)) : Calls Tryz.prog 9 #[rs.v, .int .i64 ((u : Nat) : Int)] w (PVal (.tuple #[.slice none 0 0, .slice none 0 0, .bool false]) w) := by
 have hZ0 := zs_start hX
 have hZ1 := hZ0.more (f := Mi m c R rs) (Mi.stb _ _ _ _) hr
 clear hZ0
 go_enter Tryz.func9, Tryz.ntmps9
 go_wp2_with fail
 refine ((gSquare hZ1.nx rs u (hZ1.get 0 (f := Mi m c R rs) rfl) hu12).mono (fun _ _ h => by rw [decide_eq_false hno] at h; exact h)).mono ?_
 rintro zz W1 ⟨rfl, hB⟩
 have hZ2 := hZ1.later hB
 clear hB
 clear hZ1
 go_wp2
 exact bodyPost_ret (v := .tuple #[.slice none 0 0, .slice none 0 0, .bool false]) (by simp [results, Tryz.results9, go_sem]) rfl ⟨rfl, hZ2.below⟩
end Go.Proofs.YtolpfibihialkaaGreatDoor
