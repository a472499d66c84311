/- Parts of the proof. -/
import Derived.Test.YtolpfibihialkaaGreatDoorGf0
import Derived.Test.YtolpfibihialkaaGreatDoorGf22
/- The laws' helpers text, whole, square. No statement of the seat is proved here. -/
namespace Go.Proofs.YtolpfibihialkaaGreatDoor
open Go Go.RowKit
theorem ptxt_dec {z : Int} {w w' : World} {e : Ending} (h : PTxt z w e w') : PVal (.string ⟨(decT z).toArray⟩) w e w' := by
 obtain ⟨l, rfl, h1, h2⟩ := h
 exact ⟨by rw [← decT_eq h1], h2⟩
set_option maxRecDepth 100000 in
set_option maxHeartbeats 12800000 in
theorem gText {X0 : Nat → Prop} {w : World} (hX : NX X0 w) (xs : Sl) {n e : Nat} {x : Nat → Int} (hx : Ls n x xs X0 w) (bx : ∀ k, k < n → Sz e (x k)) (hn : n ≤ 1000) (he : e ≤ 9000000) : Calls Tryz.prog 14 #[xs.v] w (PVal (.string ⟨(txL n x).toArray⟩) w) := by
 have hZ0 := zs_start hX
 have hZ1 := hZ0.more (f := Ls n x xs) (Ls.stb _ _ _) hx
 clear hZ0
 go_enter Tryz.func14, Tryz.ntmps14
 go_wp2
 go_loopw [3, 4] (fun sv iv wr => ∃ i : Nat, i ≤ n ∧ iv = .int .i64 ((i : Nat) : Int) ∧ sv = .string ⟨(txL i x).toArray⟩ ∧ ∃ X : Nat → Prop, Zs w wr X0 X [] [Ls n x xs]) (fun _ iv _ => n - (intOf iv).toNat)
 case atStart => exact ⟨0, by omega, rfl, rfl, _, hZ1⟩
 case round =>
  obtain ⟨i, hi, rfl, rfl, X, hZ⟩ := hrel
  by_cases hlt : i < n
  ·
   have hl1 : (txL i x).length ≤ i * (10 * e + 3) := txL_len (fun k hk => bx k (by omega))
   have hl2 : (decT (x i)).length ≤ 10 * e + 2 := decT_len (bx i hlt)
   have hl3 : i * (10 * e + 3) ≤ 1000 * 90000003 := Nat.mul_le_mul (by omega) (by omega)
   have hl4 : (txL i x ++ decT (x i)).length ≤ 1000 * 90000003 + 90000003 := by rw [List.length_append]; omega
   go_wp2_with (refine stop_op rfl (fun K hK => wp_lenq (.tmp 6) 35 46 xs rfl (by kernel_rfl) rfl (hZ.get 0 (f := Ls n x xs) rfl).n (hK _ _ ?_)))
   unfold Stop
   try simp only [Act.put, zzC, zzD, zzE]
   go_wp2_with (refine stop_op rfl (fun K hK => wp_lssi (.tmp 5) (.tmp 7) rfl rfl rfl (r := true) (decide_eq_true (by omega)) (hK _ _ ?_)))
   unfold Stop
   try simp only [Act.put, zzC, zzD, zzE]
   go_wp2_with (refine stop_op rfl (fun K hK => wp_ixs 35 (.tmp 12) (.tmp 13) xs i 2 46 rfl rfl rfl (by kernel_rfl) sz46 (fun h => ((hZ.get 0 (f := Ls n x xs) rfl).sq.nil h).1) ((hZ.get 0 (f := Ls n x xs) rfl).n ▸ (by omega)) (hK _ _ ?_)))
   unfold Stop
   try simp only [Act.put, zzC, zzD, zzE]
   go_wp2_with (refine stop_op rfl (fun K hK => wp_ldn 46 (.tmp 14) xs i n x rfl rfl (hZ.get 0 (f := Ls n x xs) rfl) (by omega) ag46 sz46 (fun q1 ez_q1 hi_q1 => hK _ _ ?_)))
   unfold Stop
   try simp only [Act.put, zzC, zzD, zzE]
   have hZ2 := hZ.more (f := q1.is) q1.stb hi_q1
   clear hZ
   clear hi_q1
   go_wp2_with fail
   refine ((zStr (hZ2.get 0 (f := q1.is) rfl) ez_q1 ((fun k hk => bx k hk) i (by omega)) (by omega)).mono (fun _ _ h => ptxt_dec h)).mono ?_
   rintro zz W1 ⟨rfl, hB⟩
   have hZ3 := hZ2.later hB
   clear hB
   clear hZ2
   have hZ4 := hZ3.only [Ls n x xs] (by simp)
   clear hZ3
   go_wp2
   go_roundw
   case rel => exact ⟨i + 1, by omega, by go_num, by rw [txL, ← ByteArray.mk_append_mk, ← ByteArray.mk_append_mk], _, hZ4⟩
   case measure => simp [intOf]; omega
  ·
   obtain rfl : i = n := by omega
   go_wp2_with (refine stop_op rfl (fun K hK => wp_lenq (.tmp 6) 35 46 xs rfl (by kernel_rfl) rfl (hZ.get 0 (f := Ls i x xs) rfl).n (hK _ _ ?_)))
   unfold Stop
   try simp only [Act.put, zzC, zzD, zzE]
   go_wp2_with (refine stop_op rfl (fun K hK => wp_lssi (.tmp 5) (.tmp 7) rfl rfl rfl (r := false) (decide_eq_false (Int.lt_irrefl _)) (hK _ _ ?_)))
   unfold Stop
   try simp only [Act.put, zzC, zzD, zzE]
   go_wp2
   go_ret
   exact ⟨rfl, hZ.below⟩
set_option maxRecDepth 100000 in
set_option maxHeartbeats 12800000 in
theorem gWhole {X0 : Nat → Prop} {w : World} (hX : NX X0 w) (a : Sl) {m e : Nat} {c : Nat → Nat} {B : Nat → Nat → Int} (ha : Mt m c B a X0 w) (hc : ∀ i, i < m → c i ≤ 1000) (bB : ∀ i k, i < m → k < c i → Sz e (B i k)) (hm : m ≤ 1000) (he : e ≤ 9000000) : Calls Tryz.prog 11 #[a.v] w (PVal (.string ⟨(whL m c B).toArray⟩) w) := by
 have hZ0 := zs_start hX
 have hZ1 := hZ0.more (f := Mt m c B a) (Mt.stb _ _ _ _) ha
 clear hZ0
 go_enter Tryz.func11, Tryz.ntmps11
 go_wp2
 go_loopw [3, 4] (fun sv iv wr => ∃ i : Nat, i ≤ m ∧ iv = .int .i64 ((i : Nat) : Int) ∧ sv = .string ⟨(whL i c B).toArray⟩ ∧ ∃ X : Nat → Prop, Zs w wr X0 X [] [Mt m c B a]) (fun _ iv _ => m - (intOf iv).toNat)
 case atStart => exact ⟨0, by omega, rfl, rfl, _, hZ1⟩
 case round =>
  obtain ⟨i, hi, rfl, rfl, X, hZ⟩ := hrel
  by_cases hlt : i < m
  ·
   have hl1 : (whL i c B).length ≤ i * (1000 * (10 * e + 3) + 1) := whL_len (fun k hk => hc k (by omega)) (fun x y hx hy => bB x y (by omega) hy)
   have hl2 : (txL (c i) (B i)).length ≤ c i * (10 * e + 3) := txL_len (fun k hk => bB i k hlt hk)
   have hl5 : c i * (10 * e + 3) ≤ 1000 * 90000003 := Nat.mul_le_mul (hc i hlt) (by omega)
   have hl3 : i * (1000 * (10 * e + 3) + 1) ≤ 1000 * (1000 * 90000003 + 1) := Nat.mul_le_mul (by omega) (by omega)
   have hl4 : (whL i c B ++ txL (c i) (B i)).length ≤ 1000 * (1000 * 90000003 + 1) + 1000 * 90000003 := by rw [List.length_append]; omega
   go_wp2_with (refine stop_op rfl (fun K hK => wp_lenq (.tmp 6) 30 35 a rfl (by kernel_rfl) rfl (hZ.get 0 (f := Mt m c B a) rfl).n (hK _ _ ?_)))
   unfold Stop
   try simp only [Act.put, zzC, zzD, zzE]
   go_wp2_with (refine stop_op rfl (fun K hK => wp_lssi (.tmp 5) (.tmp 7) rfl rfl rfl (r := true) (decide_eq_true (by omega)) (hK _ _ ?_)))
   unfold Stop
   try simp only [Act.put, zzC, zzD, zzE]
   go_wp2_with (refine stop_op rfl (fun K hK => wp_ixs 30 (.tmp 12) (.tmp 13) a i 1 35 rfl rfl rfl (by kernel_rfl) sz35 (fun h => ((hZ.get 0 (f := Mt m c B a) rfl).sq.nil h).1) ((hZ.get 0 (f := Mt m c B a) rfl).n ▸ (by omega)) (hK _ _ ?_)))
   unfold Stop
   try simp only [Act.put, zzC, zzD, zzE]
   go_wp2_with (refine stop_op rfl (fun K hK => wp_ldm 35 (.tmp 14) a i m c B rfl rfl (hZ.get 0 (f := Mt m c B a) rfl) (by omega) ag35 (fun s1 hi_s1 => hK _ _ ?_)))
   unfold Stop
   try simp only [Act.put, zzC, zzD, zzE]
   have hZ2 := hZ.more (f := Ls (c i) (B i) s1) (Ls.stb _ _ _) hi_s1
   clear hZ
   clear hi_s1
   go_wp2_with fail
   refine (gText hZ2.nx s1 (hZ2.get 0 (f := Ls (c i) (B i) s1) rfl) (fun k hk => bB i k (by omega) hk) (hc i hlt) (by omega)).mono ?_
   rintro zz W1 ⟨rfl, hB⟩
   have hZ3 := hZ2.later hB
   clear hB
   clear hZ2
   have hZ4 := hZ3.only [Mt m c B a] (by simp)
   clear hZ3
   go_wp2
   go_roundw
   case rel => exact ⟨i + 1, by omega, by go_num, by rw [whL, ← ByteArray.mk_append_mk, ← ByteArray.mk_append_mk], _, hZ4⟩
   case measure => simp [intOf]; omega
  ·
   obtain rfl : i = m := by omega
   go_wp2_with (refine stop_op rfl (fun K hK => wp_lenq (.tmp 6) 30 35 a rfl (by kernel_rfl) rfl (hZ.get 0 (f := Mt i c B a) rfl).n (hK _ _ ?_)))
   unfold Stop
   try simp only [Act.put, zzC, zzD, zzE]
   go_wp2_with (refine stop_op rfl (fun K hK => wp_lssi (.tmp 5) (.tmp 7) rfl rfl rfl (r := false) (decide_eq_false (Int.lt_irrefl _)) (hK _ _ ?_)))
   unfold Stop
   try simp only [Act.put, zzC, zzD, zzE]
   go_wp2
   go_ret
   exact ⟨rfl, hZ.below⟩
open Classical in
set_option maxRecDepth 100000 in
set_option maxHeartbeats 12800000 in
theorem gSquare {X0 : Nat → Prop} {w : World} (hX : NX X0 w) (rs : Sl) (u : Nat) {m : Nat} {c : Nat → Nat} {R : Nat → Nat → Int} (hr : Mi m c R rs X0 w) (hu12 : u ≤ 12) : Calls Tryz.prog 45 #[rs.v, .int .i64 ((u : Nat) : Int)] w (PVal (.bool (decide (m ≤ u ∧ ∀ k, k < m → c k = m))) w) := by
 have hZ0 := zs_start hX
 have hZ1 := hZ0.more (f := Mi m c R rs) (Mi.stb _ _ _ _) hr
 clear hZ0
 go_enter Tryz.func45, Tryz.ntmps45
 by_cases hu : m ≤ u
 ·
  go_wp2_with (refine stop_op rfl (fun K hK => wp_lenq (.tmp 6) 27 28 rs rfl (by kernel_rfl) rfl (hZ1.get 0 (f := Mi m c R rs) rfl).n (hK _ _ ?_)))
  unfold Stop
  try simp only [Act.put, zzC, zzD, zzE]
  go_wp2_with (refine stop_op rfl (fun K hK => wp_gtri (.tmp 7) (.tmp 8) rfl rfl rfl (r := false) (decide_eq_false (by omega)) (hK _ _ ?_)))
  unfold Stop
  try simp only [Act.put, zzC, zzD, zzE]
  go_wp2
  go_loopw [5] (fun iv wr => ∃ i : Nat, i ≤ m ∧ iv = .int .i64 ((i : Nat) : Int) ∧ (∀ k, k < i → c k = m) ∧ ∃ X : Nat → Prop, Zs w wr X0 X [] [Mi m c R rs]) (fun iv _ => m - (intOf iv).toNat)
  case atStart => exact ⟨0, by omega, rfl, fun k hk => absurd hk (Nat.not_lt_zero k), _, hZ1⟩
  case round =>
   obtain ⟨i, hi, rfl, hok, X, hZ⟩ := hrel
   have HK := Lib.hid hok
   clear hok
   by_cases hlt : i < m
   ·
    by_cases hq : c i = m
    ·
     have HQ := Lib.hid hq
     clear hq
     go_wp2_with (refine stop_op rfl (fun K hK => wp_lenq (.tmp 11) 27 28 rs rfl (by kernel_rfl) rfl (hZ.get 0 (f := Mi m c R rs) rfl).n (hK _ _ ?_)))
     unfold Stop
     try simp only [Act.put, zzC, zzD, zzE]
     go_wp2_with (refine stop_op rfl (fun K hK => wp_lssi (.tmp 10) (.tmp 12) rfl rfl rfl (r := true) (decide_eq_true (by omega)) (hK _ _ ?_)))
     unfold Stop
     try simp only [Act.put, zzC, zzD, zzE]
     go_wp2_with (refine stop_op rfl (fun K hK => wp_ixs 27 (.tmp 16) (.tmp 17) rs i 1 28 rfl rfl rfl (by kernel_rfl) sz28 (fun h => ((hZ.get 0 (f := Mi m c R rs) rfl).sq.nil h).1) ((hZ.get 0 (f := Mi m c R rs) rfl).n ▸ (by omega)) (hK _ _ ?_)))
     unfold Stop
     try simp only [Act.put, zzC, zzD, zzE]
     go_wp2_with (refine stop_op rfl (fun K hK => wp_ldim 28 (.tmp 18) rs i m c R rfl rfl (hZ.get 0 (f := Mi m c R rs) rfl) (by omega) ag28 (fun s1 hi_s1 => hK _ _ ?_)))
     unfold Stop
     try simp only [Act.put, zzC, zzD, zzE]
     have hZ2 := hZ.more (f := Li (c i) (R i) s1) (Li.stb _ _ _) hi_s1
     clear hZ
     clear hi_s1
     go_wp2_with (refine stop_op rfl (fun K hK => wp_lenq (.tmp 19) 28 2 s1 rfl (by kernel_rfl) rfl (hZ2.get 0 (f := Li (c i) (R i) s1) rfl).n (hK _ _ ?_)))
     unfold Stop
     try simp only [Act.put, zzC, zzD, zzE]
     go_wp2_with (refine stop_op rfl (fun K hK => wp_lenq (.tmp 21) 27 28 rs rfl (by kernel_rfl) rfl (hZ2.get 1 (f := Mi m c R rs) rfl).n (hK _ _ ?_)))
     unfold Stop
     try simp only [Act.put, zzC, zzD, zzE]
     go_wp2_with (refine stop_op rfl (fun K hK => wp_neqi (.tmp 20) (.tmp 22) 3 3 rfl rfl rfl rfl (r := false) (decide_eq_false (by have := HQ.out; omega)) (hK _ _ ?_)))
     unfold Stop
     try simp only [Act.put, zzC, zzD, zzE]
     go_wp2_with (refine stop_op rfl (fun K hK => wp_addi (.tmp 14) (.const (.int .i64 1)) rfl rfl rfl (C := ((i + 1 : Nat) : Int)) (by omega) (by omega) (by omega) (hK _ _ ?_)))
     unfold Stop
     try simp only [Act.put, zzC, zzD, zzE]
     have hZ3 := hZ2.only [Mi m c R rs] (by simp)
     clear hZ2
     go_wp2
     go_roundw
     case rel => exact ⟨i + 1, by omega, by go_num, fun k hk => by
       by_cases e : k = i
       ·
        rw [e]; exact HQ.out
       ·
        exact HK.out k (by omega), _, hZ3⟩
     case measure => simp [intOf]; omega
    ·
     have HQ := Lib.hid hq
     clear hq
     go_wp2_with (refine stop_op rfl (fun K hK => wp_lenq (.tmp 11) 27 28 rs rfl (by kernel_rfl) rfl (hZ.get 0 (f := Mi m c R rs) rfl).n (hK _ _ ?_)))
     unfold Stop
     try simp only [Act.put, zzC, zzD, zzE]
     go_wp2_with (refine stop_op rfl (fun K hK => wp_lssi (.tmp 10) (.tmp 12) rfl rfl rfl (r := true) (decide_eq_true (by omega)) (hK _ _ ?_)))
     unfold Stop
     try simp only [Act.put, zzC, zzD, zzE]
     go_wp2_with (refine stop_op rfl (fun K hK => wp_ixs 27 (.tmp 16) (.tmp 17) rs i 1 28 rfl rfl rfl (by kernel_rfl) sz28 (fun h => ((hZ.get 0 (f := Mi m c R rs) rfl).sq.nil h).1) ((hZ.get 0 (f := Mi m c R rs) rfl).n ▸ (by omega)) (hK _ _ ?_)))
     unfold Stop
     try simp only [Act.put, zzC, zzD, zzE]
     go_wp2_with (refine stop_op rfl (fun K hK => wp_ldim 28 (.tmp 18) rs i m c R rfl rfl (hZ.get 0 (f := Mi m c R rs) rfl) (by omega) ag28 (fun s2 hi_s2 => hK _ _ ?_)))
     unfold Stop
     try simp only [Act.put, zzC, zzD, zzE]
     have hZ4 := hZ.more (f := Li (c i) (R i) s2) (Li.stb _ _ _) hi_s2
     clear hZ
     clear hi_s2
     go_wp2_with (refine stop_op rfl (fun K hK => wp_lenq (.tmp 19) 28 2 s2 rfl (by kernel_rfl) rfl (hZ4.get 0 (f := Li (c i) (R i) s2) rfl).n (hK _ _ ?_)))
     unfold Stop
     try simp only [Act.put, zzC, zzD, zzE]
     go_wp2_with (refine stop_op rfl (fun K hK => wp_lenq (.tmp 21) 27 28 rs rfl (by kernel_rfl) rfl (hZ4.get 1 (f := Mi m c R rs) rfl).n (hK _ _ ?_)))
     unfold Stop
     try simp only [Act.put, zzC, zzD, zzE]
     go_wp2_with (refine stop_op rfl (fun K hK => wp_neqi (.tmp 20) (.tmp 22) 3 3 rfl rfl rfl rfl (r := true) (decide_eq_true (by have := HQ.out; omega)) (hK _ _ ?_)))
     unfold Stop
     try simp only [Act.put, zzC, zzD, zzE]
     go_wp2
     go_ret
     refine ⟨?_, hZ4.below⟩
     rw [show decide (m ≤ u ∧ ∀ k, k < m → c k = m) = false from decide_eq_false (fun h => HQ.out (h.2 i hlt))]
     rfl
   ·
    obtain rfl : i = m := by omega
    go_wp2_with (refine stop_op rfl (fun K hK => wp_lenq (.tmp 11) 27 28 rs rfl (by kernel_rfl) rfl (hZ.get 0 (f := Mi i c R rs) rfl).n (hK _ _ ?_)))
    unfold Stop
    try simp only [Act.put, zzC, zzD, zzE]
    go_wp2_with (refine stop_op rfl (fun K hK => wp_lssi (.tmp 10) (.tmp 12) rfl rfl rfl (r := false) (decide_eq_false (Int.lt_irrefl _)) (hK _ _ ?_)))
    unfold Stop
    try simp only [Act.put, zzC, zzD, zzE]
    go_wp2
    go_ret
    refine ⟨?_, hZ.below⟩
    rw [show decide (i ≤ u ∧ ∀ k, k < i → c k = i) = true from decide_eq_true ⟨hu, HK.out⟩]
    rfl
 ·
  go_wp2_with (refine stop_op rfl (fun K hK => wp_lenq (.tmp 6) 27 28 rs rfl (by kernel_rfl) rfl (hZ1.get 0 (f := Mi m c R rs) rfl).n (hK _ _ ?_)))
  unfold Stop
  try simp only [Act.put, zzC, zzD, zzE]
  go_wp2_with (refine stop_op rfl (fun K hK => wp_gtri (.tmp 7) (.tmp 8) rfl rfl rfl (r := true) (decide_eq_true (by omega)) (hK _ _ ?_)))
  unfold Stop
  try simp only [Act.put, zzC, zzD, zzE]
  go_wp2
  go_ret
  refine ⟨?_, hZ1.below⟩
  rw [show decide (m ≤ u ∧ ∀ k, k < m → c k = m) = false from decide_eq_false (fun h => hu h.1)]
  rfl
end Go.Proofs.YtolpfibihialkaaGreatDoor

/- Package lin: the walks of square and its closures. No statement of the seat is proved here. -/
namespace Go.Proofs.YtolpfibihialkaaGreatDoor
open Go Go.RowKit
/-- A function that tells a number of each two places below n. -/
def At2 (X : Nat → Prop) (w : World) (k : FuncId) (cs : Array Value) (n : Nat) (g : Nat → Nat → Int) : Prop := (∀ (args : Array Value) (W : World), (callFunc k args).run Tryz.prog W = .ok (.enter k args) W) ∧ ∀ i j, i < n → j < n → ∀ (X' : Nat → Prop) (W : World), NX X' W → Ext X w X' W → Below w.heap.size w W → Calls Tryz.prog k (#[.int .i64 ((i : Nat) : Int), .int .i64 ((j : Nat) : Int)] ++ cs) W (PNX X' (g i j) W)
theorem At2.ext {X X1 : Nat → Prop} {w W : World} {k : FuncId} {cs : Array Value} {n : Nat} {g : Nat → Nat → Int} (h : At2 X w k cs n g) (he : Ext X w X1 W) (hb : Below w.heap.size w W) : At2 X1 W k cs n g :=
 ⟨h.1, fun i j hi hj X' W' hx he' hb' => h.2 i j hi hj X' W' hx (he.trans he') (hb.trans (hb'.mono hb.size))⟩
set_option maxRecDepth 100000 in
set_option maxHeartbeats 12800000 in
theorem lSq11 {X0 : Nat → Prop} {w : World} (hX : NX X0 w) {n : Nat} {k : FuncId} {cs : Array Value} {g : Nat → Nat → Int} (bA bI i j : Nat) (hi : i < n) (hj : j < n) (cA : Cf bA #[.func (.func k) #[] cs] 89 X0 w) (cI : Cf bI #[.int .i64 ((i : Nat) : Int)] 3 X0 w) (hf0 : At2 X0 w k cs n g) : Calls Tryz.prog 93 #[.int .i64 ((j : Nat) : Int), .pointer (some ⟨bA, 0, none⟩), .pointer (some ⟨bI, 0, none⟩)] w (PNX X0 (g i j) w) := by
 have hf : Hid (At2 X0 w k cs n g) := hf0
 clear hf0
 have hZ0 := zs_start hX
 have hZ1 := hZ0.more (f := Cf bA #[.func (.func k) #[] cs] 89) (Cf.stb _ _ _) cA
 clear hZ0
 have hZ2 := hZ1.more (f := Cf bI #[.int .i64 (((i : Nat) : Int))] 3) (Cf.stb _ _ _) cI
 clear hZ1
 go_enter Tryz.func93, Tryz.ntmps93
 go_wp2_with (refine stopz_alloc 46 #[.bool false, .slice none 0 0] (.agg #[.bool false, .slice none 0 0]) rfl rfl zv46 rfl hZ2 (fun bk1 X3 W1 hZ3 => ?_))
 clear hZ2
 unfold Stop
 try simp only [Act.put, zzC, zzD, zzE]
 go_wp2_with (refine stop_op rfl (fun K hK => wp_load1 (v := .func (.func k) #[] cs) 89 (.tmp 1) rfl bA 0 #[.func (.func k) #[] cs] 89 (hZ3.get 1 (f := Cf bA #[.func (.func k) #[] cs] 89) rfl).1 rfl ag89 (by kernel_rfl) (hK _ _ ?_)))
 unfold Stop
 try simp only [Act.put, zzC, zzD, zzE]
 go_wp2_with (refine stop_op rfl (fun K hK => wp_load1 (v := .int .i64 (((i : Nat) : Int))) 3 (.tmp 2) rfl bI 0 #[.int .i64 (((i : Nat) : Int))] 3 (hZ3.get 0 (f := Cf bI #[.int .i64 (((i : Nat) : Int))] 3) rfl).1 rfl ag3 (by kernel_rfl) (hK _ _ ?_)))
 unfold Stop
 try simp only [Act.put, zzC, zzD, zzE]
 go_wp2_with (refine stop_op rfl (fun K hK => wp_callz (.tmp 5) #[.tmp 6, .tmp 7] #[3, 3] k cs #[.int .i64 (((i : Nat) : Int)), .int .i64 (((j : Nat) : Int))] _ rfl rfl (map2 rfl rfl) rfl hf.out.1 (hf.out.2 i j (by omega) (by omega) _ _ hZ3.nx hZ3.ext hZ3.below) (fun zz W2 => ?_)))
 rintro ⟨q1, rfl, ez_q1, hi_q1, hB⟩
 refine ⟨_, rfl, hK _ _ ?_⟩
 have hZ4 := hZ3.later hB
 clear hB
 unfold Stop
 try simp only [Act.put, zzC, zzD, zzE]
 clear hZ3
 have hZ5 := hZ4.more (f := q1.is) q1.stb hi_q1
 clear hZ4
 clear hi_q1
 go_wp2_with (refine stopz_store 46 (.tmp 4) (.tmp 8) 0 bk1 0 #[.bool false, .slice none 0 0] 46 2 [.bool q1.b, .slice q1.a q1.n q1.c] #[.bool q1.b, .slice q1.a q1.n q1.c] [(bk1, #[.bool q1.b, .slice q1.a q1.n q1.c], 46)] rfl rfl rfl rfl sz46 hZ5 rfl rfl (zzF (by kernel_rfl)) (by kernel_rfl) (by kernel_rfl) (by kernel_rfl) (fun W3 hZ6 => ?_))
 clear hZ5
 unfold Stop
 try simp only [Act.put, zzC, zzD, zzE]
 go_wp2
 exact bodyPost_ret (v := q1.v) (results_cell 0 Tryz.results93 hZ6.es rfl ag46 sz46 (zzF (by kernel_rfl)) rfl (by kernel_rfl)) rfl ⟨q1, rfl, ez_q1, hZ6.out 0 (f := q1.is) rfl, hZ6.below⟩
set_option maxRecDepth 100000 in
set_option maxHeartbeats 12800000 in
theorem lSq1 {X0 : Nat → Prop} {w : World} (hX : NX X0 w) {n : Nat} {k : FuncId} {cs : Array Value} {g : Nat → Nat → Int} (bA bN i : Nat) (hn : n ≤ 1000) (hi : i < n) (cA : Cf bA #[.func (.func k) #[] cs] 89 X0 w) (cN : Cf bN #[.int .i64 ((n : Nat) : Int)] 3 X0 w) (hf0 : At2 X0 w k cs n g) : Calls Tryz.prog 92 #[.int .i64 ((i : Nat) : Int), .pointer (some ⟨bN, 0, none⟩), .pointer (some ⟨bA, 0, none⟩)] w (PLX X0 n (g i) w) := by
 have hf : Hid (At2 X0 w k cs n g) := hf0
 clear hf0
 have hZ0 := zs_start hX
 have hZ1 := hZ0.more (f := Cf bA #[.func (.func k) #[] cs] 89) (Cf.stb _ _ _) cA
 clear hZ0
 have hZ2 := hZ1.more (f := Cf bN #[.int .i64 (((n : Nat) : Int))] 3) (Cf.stb _ _ _) cN
 clear hZ1
 go_enter Tryz.func92, Tryz.ntmps92
 go_wp2_with (refine stopz_box 3 (.tmp 0) #[.int .i64 (((i : Nat) : Int))] rfl rfl rfl hZ2 (fun bk1 X3 W1 hZ3 => ?_))
 clear hZ2
 unfold Stop
 try simp only [Act.put, zzC, zzD, zzE]
 have hZ4 := hZ3.release hX
 clear hZ3
 go_wp2_with (refine stop_op rfl (fun K hK => wp_load1 (v := .int .i64 (((n : Nat) : Int))) 3 (.tmp 1) rfl bN 0 #[.int .i64 (((n : Nat) : Int))] 3 (hZ4.get 1 (f := Cf bN #[.int .i64 (((n : Nat) : Int))] 3) rfl).1 rfl ag3 (by kernel_rfl) (hK _ _ ?_)))
 unfold Stop
 try simp only [Act.put, zzC, zzD, zzE]
 go_wp2_with (refine stop_op rfl (fun K hK => wp_mkf 93 #[.tmp 2, .tmp 3] #[.pointer (some ⟨bA, 0, none⟩), .pointer (some ⟨bk1, 0, none⟩)] rfl (map2 rfl rfl) (hK _ _ ?_)))
 unfold Stop
 try simp only [Act.put, zzC, zzD, zzE]
 go_wp2_with fail
 refine (lMadeN hZ4.nx n 93 #[.pointer (some ⟨bA, 0, none⟩), .pointer (some ⟨bk1, 0, none⟩)] (g i) (by omega) ⟨fun _ _ => rfl, fun j hj X' W' hx he hb => (show Calls _ _ #[.int .i64 ((j : Nat) : Int), .pointer (some ⟨bA, 0, none⟩), .pointer (some ⟨bk1, 0, none⟩)] _ _ from lSq11 hx bA bk1 i j hi hj (Cf.stb _ _ _ _ _ _ _ he (hZ4.get 2 (f := Cf bA #[.func (.func k) #[] cs] 89) rfl)) (Cf.stb _ _ _ _ _ _ _ he (hZ4.get 0 (f := Cf bk1 #[.int .i64 (((i : Nat) : Int))] 3) rfl)) ((hf.out.ext hZ4.ext hZ4.below).ext he hb))⟩).mono ?_
 rintro zz W2 ⟨s1, rfl, hi_s1, hB⟩
 have hZ5 := hZ4.later hB
 clear hB
 clear hZ4
 have hZ6 := hZ5.more (f := Ls n (g i) s1) (Ls.stb _ _ _) hi_s1
 clear hZ5
 clear hi_s1
 go_wp2
 go_ret
 exact ⟨s1, rfl, hZ6.out 0 (f := Ls n (g i) s1) rfl, hZ6.below⟩
set_option maxRecDepth 100000 in
set_option maxHeartbeats 12800000 in
theorem lSquare {X0 : Nat → Prop} {w : World} (hX : NX X0 w) (n : Nat) (k : FuncId) (cs : Array Value) (g : Nat → Nat → Int) (hn : n ≤ 1000) (hf0 : At2 X0 w k cs n g) : Calls Tryz.prog 48 #[.int .i64 ((n : Nat) : Int), .func (.func k) #[] cs] w (PMX X0 n (fun _ => n) g w) := by
 have hf : Hid (At2 X0 w k cs n g) := hf0
 clear hf0
 have hZ0 := zs_start hX
 go_enter Tryz.func48, Tryz.ntmps48
 go_wp2_with (refine stopz_box 3 (.tmp 0) #[.int .i64 (((n : Nat) : Int))] rfl rfl rfl hZ0 (fun bk1 X1 W1 hZ1 => ?_))
 clear hZ0
 unfold Stop
 try simp only [Act.put, zzC, zzD, zzE]
 go_wp2_with (refine stopz_box 89 (.tmp 1) #[.func (.func k) #[] cs] rfl rfl rfl hZ1 (fun bk2 X2 W2 hZ2 => ?_))
 clear hZ1
 unfold Stop
 try simp only [Act.put, zzC, zzD, zzE]
 have hZ3 := hZ2.release hX
 clear hZ2
 have hZ4 := hZ3.release hX
 clear hZ3
 go_wp2_with (refine stop_op rfl (fun K hK => wp_load1 (v := .int .i64 (((n : Nat) : Int))) 3 (.tmp 2) rfl bk1 0 #[.int .i64 (((n : Nat) : Int))] 3 (hZ4.get 0 (f := Cf bk1 #[.int .i64 (((n : Nat) : Int))] 3) rfl).1 rfl ag3 (by kernel_rfl) (hK _ _ ?_)))
 unfold Stop
 try simp only [Act.put, zzC, zzD, zzE]
 go_wp2_with (refine stop_op rfl (fun K hK => wp_mkf 92 #[.tmp 2, .tmp 3] #[.pointer (some ⟨bk1, 0, none⟩), .pointer (some ⟨bk2, 0, none⟩)] rfl (map2 rfl rfl) (hK _ _ ?_)))
 unfold Stop
 try simp only [Act.put, zzC, zzD, zzE]
 go_wp2_with fail
 refine (lMadeL hZ4.nx n 92 #[.pointer (some ⟨bk1, 0, none⟩), .pointer (some ⟨bk2, 0, none⟩)] (fun _ => n) g (by omega) ⟨fun _ _ => rfl, fun i hi X' W' hx he hb => (show Calls _ _ #[.int .i64 ((i : Nat) : Int), .pointer (some ⟨bk1, 0, none⟩), .pointer (some ⟨bk2, 0, none⟩)] _ _ from lSq1 hx bk2 bk1 i (by omega) hi (Cf.stb _ _ _ _ _ _ _ he (hZ4.get 1 (f := Cf bk2 #[.func (.func k) #[] cs] 89) rfl)) (Cf.stb _ _ _ _ _ _ _ he (hZ4.get 0 (f := Cf bk1 #[.int .i64 (((n : Nat) : Int))] 3) rfl)) ((hf.out.ext hZ4.ext hZ4.below).ext he hb))⟩).mono ?_
 rintro zz W3 ⟨s1, rfl, hi_s1, hB⟩
 have hZ5 := hZ4.later hB
 clear hB
 clear hZ4
 have hZ6 := hZ5.more (f := Mt n (fun _ => n) g s1) (Mt.stb _ _ _ _) hi_s1
 clear hZ5
 clear hi_s1
 go_wp2
 go_ret
 exact ⟨s1, rfl, hZ6.out 0 (f := Mt n (fun _ => n) g s1) rfl, hZ6.below⟩
end Go.Proofs.YtolpfibihialkaaGreatDoor
