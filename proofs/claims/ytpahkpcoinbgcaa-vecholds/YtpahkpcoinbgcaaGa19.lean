/- Parts of the proof. -/
import Derived.Test.YtpahkpcoinbgcaaGa15
/- The walk of the law VecHolds. -/
namespace Go.Proofs.Ytpahkpcoinbgcaa
open Go Go.RowKit
attribute [local go_sem ↓] run_eqlSs run_eqlDs run_eqlV run_eqlW run_eqlI
theorem wrapI {n m : Int} (h : wrap64 n = m) : IntKind.i64.wrap n = m := by
 rw [IntKind.wrap_i64]
 unfold wrap64 at h
 exact h
set_option maxRecDepth 100000 in
set_option maxHeartbeats 12800000 in
theorem inside_line (n : Int)    (w : World) : Calls Try.prog 64 #[.agg #[.int .i64 0, .int .i64 0, .bool true], .int .i64 n, .int .i64 1048576] w (PVal (.bool true) w) := by
 have hJ0 := es_nil w
 go_enter Try.func64, Try.ntmps64
 go_wp2_with (refine stop_box 23 (.tmp 0) #[.int .i64 0, .int .i64 0, .bool true] rfl rfl rfl hJ0 (fun bk1 W1 hJ1 => ?_))
 clear hJ0
 unfold Stop
 try simp only [Act.put, List.setIfInBounds_toArray, List.set_cons_succ, List.set_cons_zero]
 have f0 : W1.cell? ⟨bk1, 2, none⟩ = some (.bool true) := hJ1.cell 0 rfl 2 rfl
 go_wp2
 go_ret
 exact ⟨rfl, hJ1.below⟩
set_option maxRecDepth 100000 in
set_option maxHeartbeats 12800000 in
theorem inside_yes (l h n : Int)  (l1 : -2147483647 ≤ l) (l2 : l ≤ 2147483647) (h1 : -2147483647 ≤ h) (h2 : h ≤ 2147483647) (d1 : decide (l * 1048576 ≤ n) = true) (d2 : decide (n ≤ h * 1048576) = true)  (w : World) : Calls Try.prog 64 #[.agg #[.int .i64 l, .int .i64 h, .bool false], .int .i64 n, .int .i64 1048576] w (PVal (.bool true) w) := by
 have hJ0 := es_nil w
 go_enter Try.func64, Try.ntmps64
 go_wp2_with (refine stop_box 23 (.tmp 0) #[.int .i64 l, .int .i64 h, .bool false] rfl rfl rfl hJ0 (fun bk1 W1 hJ1 => ?_))
 clear hJ0
 unfold Stop
 try simp only [Act.put, List.setIfInBounds_toArray, List.set_cons_succ, List.set_cons_zero]
 have f0 : W1.cell? ⟨bk1, 2, none⟩ = some (.bool false) := hJ1.cell 0 rfl 2 rfl
 have f1 : W1.cell? ⟨bk1, 0, none⟩ = some (.int .i64 l) := hJ1.cell 0 rfl 0 rfl
 have f2 : W1.cell? ⟨bk1, 1, none⟩ = some (.int .i64 h) := hJ1.cell 0 rfl 1 rfl
 go_wp2
 go_ret
 exact ⟨rfl, hJ1.below⟩
theorem inside_any {x : Sp} {n : Int} (hc : okB x = true ∨ x = lineS) (h : insB x n 1048576 = true) (w : World) : Calls Try.prog 64 #[.agg #[.int .i64 x.lo, .int .i64 x.hi, .bool x.all], .int .i64 n, .int .i64 1048576] w (PVal (.bool true) w) := by
 rcases hc with hk | e
 ·
  obtain ⟨l, u, b⟩ := x
  obtain ⟨k1, k2, k3, k4⟩ := ok_of hk
  change -2147483647 ≤ l at k1
  change l ≤ u at k2
  change u ≤ 2147483647 at k3
  change b = false at k4
  subst k4
  unfold insB at h
  simp only [Bool.false_or, Bool.and_eq_true] at h
  exact inside_yes l u n k1 (by omega) (by omega) k3 h.1 h.2 w
 ·
  rw [e]
  exact inside_line n w
set_option maxRecDepth 100000 in
set_option maxHeartbeats 12800000 in
theorem Holds_f0 (v u : Vc) (a0 a1 a2 b0 b1 b2 : Int) (p q : Bool) (hHaw : ∀ W : World, Calls Try.prog 40 #[] W (PVal (.bool true) W)) (hHp0 : ∀ W : World, Calls Try.prog 63 #[.agg #[.int .i64 v.x.lo, .int .i64 v.x.hi, .bool v.x.all], .int .i64 a0] W (PVal (.bool p) W)) (hHq0 : ∀ W : World, Calls Try.prog 63 #[.agg #[.int .i64 u.x.lo, .int .i64 u.x.hi, .bool u.x.all], .int .i64 b0] W (PVal (.bool q) W))  (hHF : ¬ (p = true ∧ q = true ∧ -1000000 ≤ a0 ∧ a0 ≤ 1000000 ∧ -1000000 ≤ b0 ∧ b0 ≤ 1000000)) (w : World) : Calls Try.prog 9 #[.agg #[.int .i64 v.x.lo, .int .i64 v.x.hi, .bool v.x.all, .int .i64 v.y.lo, .int .i64 v.y.hi, .bool v.y.all, .int .i64 v.z.lo, .int .i64 v.z.hi, .bool v.z.all], .agg #[.int .i64 u.x.lo, .int .i64 u.x.hi, .bool u.x.all, .int .i64 u.y.lo, .int .i64 u.y.hi, .bool u.y.all, .int .i64 u.z.lo, .int .i64 u.z.hi, .bool u.z.all], .agg #[.int .i64 a0, .int .i64 a1, .int .i64 a2], .agg #[.int .i64 b0, .int .i64 b1, .int .i64 b2]] w (PVal (.bool true) w) := by
 have Haw := Lib.hid hHaw
 have Hp0 := Lib.hid hHp0
 have Hq0 := Lib.hid hHq0
 clear hHaw hHp0 hHq0
 have HF := Lib.hid hHF
 clear hHF
 have hJ0 := es_nil w
 go_enter Try.func9, Try.ntmps9
 go_wp2_with (refine stop_box 34 (.tmp 0) #[.int .i64 v.x.lo, .int .i64 v.x.hi, .bool v.x.all, .int .i64 v.y.lo, .int .i64 v.y.hi, .bool v.y.all, .int .i64 v.z.lo, .int .i64 v.z.hi, .bool v.z.all] rfl rfl rfl hJ0 (fun bk1 W1 hJ1 => ?_))
 clear hJ0
 unfold Stop
 try simp only [Act.put, List.setIfInBounds_toArray, List.set_cons_succ, List.set_cons_zero]
 go_wp2_with (refine stop_box 34 (.tmp 1) #[.int .i64 u.x.lo, .int .i64 u.x.hi, .bool u.x.all, .int .i64 u.y.lo, .int .i64 u.y.hi, .bool u.y.all, .int .i64 u.z.lo, .int .i64 u.z.hi, .bool u.z.all] rfl rfl rfl hJ1 (fun bk2 W2 hJ2 => ?_))
 clear hJ1
 unfold Stop
 try simp only [Act.put, List.setIfInBounds_toArray, List.set_cons_succ, List.set_cons_zero]
 go_wp2_with (refine stop_box 46 (.tmp 2) #[.int .i64 a0, .int .i64 a1, .int .i64 a2] rfl rfl rfl hJ2 (fun bk3 W3 hJ3 => ?_))
 clear hJ2
 unfold Stop
 try simp only [Act.put, List.setIfInBounds_toArray, List.set_cons_succ, List.set_cons_zero]
 go_wp2_with (refine stop_box 46 (.tmp 3) #[.int .i64 b0, .int .i64 b1, .int .i64 b2] rfl rfl rfl hJ3 (fun bk4 W4 hJ4 => ?_))
 clear hJ3
 unfold Stop
 try simp only [Act.put, List.setIfInBounds_toArray, List.set_cons_succ, List.set_cons_zero]
 go_wp2_with fail
 refine (Haw.out _).mono ?_
 rintro e W5 ⟨rfl, hB⟩
 have hJ5 := hJ4.later hB
 clear hB
 clear hJ4
 go_wp2
 refine wp_loop_rounds 4 ?_
 rw [rounds_succ]
 go_wp2
 obtain ⟨m5_5, hm⟩ : ∃ m, m = W5.heap.size := ⟨_, rfl⟩
 have hM := hJ5.em
 rw [← hm] at hM
 clear hm hJ5
 refine wp_region_z 8 [some 24, some 25, some 26, some 27, some 28, some 29, some 30, some 11] (veL m5_5 [.eq (.int .i64 0), .eq (.pointer (some ⟨bk1, 0, none⟩)), .eq (.agg #[.int .i64 v.x.lo, .int .i64 v.x.hi, .bool v.x.all]), .eq (.int .i64 0), .eq (.pointer (some ⟨bk3, 0, none⟩)), .eq (.int .i64 a0), .eq (.bool p), .eq (.bool p)]) (Em w m5_5 [(bk4, #[.int .i64 b0, .int .i64 b1, .int .i64 b2], 46), (bk3, #[.int .i64 a0, .int .i64 a1, .int .i64 a2], 46), (bk2, #[.int .i64 u.x.lo, .int .i64 u.x.hi, .bool u.x.all, .int .i64 u.y.lo, .int .i64 u.y.hi, .bool u.y.all, .int .i64 u.z.lo, .int .i64 u.z.hi, .bool u.z.all], 34), (bk1, #[.int .i64 v.x.lo, .int .i64 v.x.hi, .bool v.x.all, .int .i64 v.y.lo, .int .i64 v.y.hi, .bool v.y.all, .int .i64 v.z.lo, .int .i64 v.z.hi, .bool v.z.all], 34)]) (by kernel_rfl) (by kernel_rfl) (by rfl) (by decide) (by rfl) hM ?_ ?_
 ·
  intro i hl hi uu ww aa hJ hd hev hin
  clear hM
  obtain rfl | rfl | rfl | rfl | rfl | rfl | rfl | rfl : i = 0 ∨ i = 1 ∨ i = 2 ∨ i = 3 ∨ i = 4 ∨ i = 5 ∨ i = 6 ∨ i = 7 := by omega
  ·
   have x10 : aa.tmps[10]? = some (.int .i64 0) := (hev 10 (by decide)).trans rfl
   clear hd hev hin
   simp only [List.getElem_cons_succ, List.getElem_cons_zero]
   clear hl
   refine .inr ⟨rfl, fun K' hK => ?_⟩
   have HK := Lib.hid hK
   clear hK
   go_simp
   exact HK.out (.int .i64 0) _ hJ rfl veL_same
  ·
   have x4 : aa.tmps[4]? = some (.pointer (some ⟨bk1, 0, none⟩)) := (hev 4 (by decide)).trans rfl
   have x24 : aa.tmps[24]? = some (.int .i64 0) := (hin 0 24 rfl).trans (congrArg some (show uu 0 = .int .i64 0 from hd 0 (by decide) (by kernel_rfl)))
   clear hd hev hin
   simp only [List.getElem_cons_succ, List.getElem_cons_zero]
   clear hl
   refine .inr ⟨rfl, fun K' hK => ?_⟩
   have HK := Lib.hid hK
   clear hK
   go_simp
   exact HK.out (.pointer (some ⟨bk1, 0, none⟩)) _ hJ rfl veL_same
  ·
   have x25 : aa.tmps[25]? = some (.pointer (some ⟨bk1, 0, none⟩)) := (hin 1 25 rfl).trans (congrArg some (show uu 1 = .pointer (some ⟨bk1, 0, none⟩) from hd 1 (by decide) (by kernel_rfl)))
   clear hd hev hin
   simp only [List.getElem_cons_succ, List.getElem_cons_zero]
   clear hl
   refine .inr ⟨rfl, fun K' hK => ?_⟩
   have HK := Lib.hid hK
   clear hK
   have f0 : ww.cell? ⟨bk1, 0, none⟩ = some (.int .i64 v.x.lo) := hJ.es.cell 3 rfl 0 rfl
   have f1 : ww.cell? ⟨bk1, 1, none⟩ = some (.int .i64 v.x.hi) := hJ.es.cell 3 rfl 1 rfl
   have f2 : ww.cell? ⟨bk1, 2, none⟩ = some (.bool v.x.all) := hJ.es.cell 3 rfl 2 rfl
   go_simp
   exact HK.out (.agg #[.int .i64 v.x.lo, .int .i64 v.x.hi, .bool v.x.all]) _ hJ rfl veL_same
  ·
   have x10 : aa.tmps[10]? = some (.int .i64 0) := (hev 10 (by decide)).trans rfl
   clear hd hev hin
   simp only [List.getElem_cons_succ, List.getElem_cons_zero]
   clear hl
   refine .inr ⟨rfl, fun K' hK => ?_⟩
   have HK := Lib.hid hK
   clear hK
   go_simp
   exact HK.out (.int .i64 0) _ hJ rfl veL_same
  ·
   have x6 : aa.tmps[6]? = some (.pointer (some ⟨bk3, 0, none⟩)) := (hev 6 (by decide)).trans rfl
   have x27 : aa.tmps[27]? = some (.int .i64 0) := (hin 3 27 rfl).trans (congrArg some (show uu 3 = .int .i64 0 from hd 3 (by decide) (by kernel_rfl)))
   clear hd hev hin
   simp only [List.getElem_cons_succ, List.getElem_cons_zero]
   clear hl
   refine .inr ⟨rfl, fun K' hK => ?_⟩
   have HK := Lib.hid hK
   clear hK
   go_simp
   exact HK.out (.pointer (some ⟨bk3, 0, none⟩)) _ hJ rfl veL_same
  ·
   have x28 : aa.tmps[28]? = some (.pointer (some ⟨bk3, 0, none⟩)) := (hin 4 28 rfl).trans (congrArg some (show uu 4 = .pointer (some ⟨bk3, 0, none⟩) from hd 4 (by decide) (by kernel_rfl)))
   clear hd hev hin
   simp only [List.getElem_cons_succ, List.getElem_cons_zero]
   clear hl
   refine .inr ⟨rfl, fun K' hK => ?_⟩
   have HK := Lib.hid hK
   clear hK
   have f0 : ww.cell? ⟨bk3, 0, none⟩ = some (.int .i64 a0) := hJ.es.cell 1 rfl 0 rfl
   go_simp
   exact HK.out (.int .i64 a0) _ hJ rfl veL_same
  ·
   have x26 : aa.tmps[26]? = some (.agg #[.int .i64 v.x.lo, .int .i64 v.x.hi, .bool v.x.all]) := (hin 2 26 rfl).trans (congrArg some (show uu 2 = .agg #[.int .i64 v.x.lo, .int .i64 v.x.hi, .bool v.x.all] from hd 2 (by decide) (by kernel_rfl)))
   have x29 : aa.tmps[29]? = some (.int .i64 a0) := (hin 5 29 rfl).trans (congrArg some (show uu 5 = .int .i64 a0 from hd 5 (by decide) (by kernel_rfl)))
   clear hd hev hin
   simp only [List.getElem_cons_succ, List.getElem_cons_zero]
   clear hl
   refine .inr ⟨rfl, fun K' hK => ?_⟩
   have HK := Lib.hid hK
   clear hK
   go_simp
   refine (Hp0.out ww).mono ?_
   rintro e W' ⟨rfl, hB⟩
   exact HK.out (.bool p) _ (hJ.later hB) rfl (veL_later hB)
  ·
   have x30 : aa.tmps[30]? = some (.bool p) := (hin 6 30 rfl).trans (congrArg some (show uu 6 = .bool p from hd 6 (by decide) (by kernel_rfl)))
   clear hd hev hin
   simp only [List.getElem_cons_succ, List.getElem_cons_zero]
   clear hl
   refine .inr ⟨rfl, fun K' hK => ?_⟩
   have HK := Lib.hid hK
   clear hK
   go_simp
   exact HK.out (.bool p) _ hJ rfl veL_same
 clear hM
 intro uu W6 hJm hd
 have e_0 : uu 0 = .int .i64 0 := hd 0 (by decide)
 have e_1 : uu 1 = .pointer (some ⟨bk1, 0, none⟩) := hd 1 (by decide)
 have e_2 : uu 2 = .agg #[.int .i64 v.x.lo, .int .i64 v.x.hi, .bool v.x.all] := hd 2 (by decide)
 have e_3 : uu 3 = .int .i64 0 := hd 3 (by decide)
 have e_4 : uu 4 = .pointer (some ⟨bk3, 0, none⟩) := hd 4 (by decide)
 have e_5 : uu 5 = .int .i64 a0 := hd 5 (by decide)
 have e_6 : uu 6 = .bool p := hd 6 (by decide)
 have e_7 : uu 7 = .bool p := hd 7 (by decide)
 clear hd
 simp only [layS, Act.put, List.setIfInBounds_toArray, List.set_cons_succ, List.set_cons_zero, Nat.zero_add, Nat.reduceAdd, List.drop_succ_cons, List.drop_zero, List.drop_nil, e_0, e_1, e_2, e_3, e_4, e_5, e_6, e_7]
 clear e_0 e_1 e_2 e_3 e_4 e_5 e_6 e_7
 have hJ6 := hJm.es
 clear hJm
 go_wp2
 obtain ⟨m6_6, hm⟩ : ∃ m, m = W6.heap.size := ⟨_, rfl⟩
 have hM := hJ6.em
 rw [← hm] at hM
 clear hm hJ6
 refine wp_region_z 8 [some 31, some 32, some 33, some 34, some 35, some 36, some 37, some 12] (veL m6_6 [.eq (.int .i64 0), .eq (.pointer (some ⟨bk2, 0, none⟩)), .eq (.agg #[.int .i64 u.x.lo, .int .i64 u.x.hi, .bool u.x.all]), .eq (.int .i64 0), .eq (.pointer (some ⟨bk4, 0, none⟩)), .eq (.int .i64 b0), .eq (.bool q), .eq (.bool q)]) (Em w m6_6 [(bk4, #[.int .i64 b0, .int .i64 b1, .int .i64 b2], 46), (bk3, #[.int .i64 a0, .int .i64 a1, .int .i64 a2], 46), (bk2, #[.int .i64 u.x.lo, .int .i64 u.x.hi, .bool u.x.all, .int .i64 u.y.lo, .int .i64 u.y.hi, .bool u.y.all, .int .i64 u.z.lo, .int .i64 u.z.hi, .bool u.z.all], 34), (bk1, #[.int .i64 v.x.lo, .int .i64 v.x.hi, .bool v.x.all, .int .i64 v.y.lo, .int .i64 v.y.hi, .bool v.y.all, .int .i64 v.z.lo, .int .i64 v.z.hi, .bool v.z.all], 34)]) (by kernel_rfl) (by kernel_rfl) (by rfl) (by decide) (by rfl) hM ?_ ?_
 ·
  intro i hl hi uu ww aa hJ hd hev hin
  clear hM
  obtain rfl | rfl | rfl | rfl | rfl | rfl | rfl | rfl : i = 0 ∨ i = 1 ∨ i = 2 ∨ i = 3 ∨ i = 4 ∨ i = 5 ∨ i = 6 ∨ i = 7 := by omega
  ·
   have x10 : aa.tmps[10]? = some (.int .i64 0) := (hev 10 (by decide)).trans rfl
   clear hd hev hin
   simp only [List.getElem_cons_succ, List.getElem_cons_zero]
   clear hl
   refine .inr ⟨rfl, fun K' hK => ?_⟩
   have HK := Lib.hid hK
   clear hK
   go_simp
   exact HK.out (.int .i64 0) _ hJ rfl veL_same
  ·
   have x5 : aa.tmps[5]? = some (.pointer (some ⟨bk2, 0, none⟩)) := (hev 5 (by decide)).trans rfl
   have x31 : aa.tmps[31]? = some (.int .i64 0) := (hin 0 31 rfl).trans (congrArg some (show uu 0 = .int .i64 0 from hd 0 (by decide) (by kernel_rfl)))
   clear hd hev hin
   simp only [List.getElem_cons_succ, List.getElem_cons_zero]
   clear hl
   refine .inr ⟨rfl, fun K' hK => ?_⟩
   have HK := Lib.hid hK
   clear hK
   go_simp
   exact HK.out (.pointer (some ⟨bk2, 0, none⟩)) _ hJ rfl veL_same
  ·
   have x32 : aa.tmps[32]? = some (.pointer (some ⟨bk2, 0, none⟩)) := (hin 1 32 rfl).trans (congrArg some (show uu 1 = .pointer (some ⟨bk2, 0, none⟩) from hd 1 (by decide) (by kernel_rfl)))
   clear hd hev hin
   simp only [List.getElem_cons_succ, List.getElem_cons_zero]
   clear hl
   refine .inr ⟨rfl, fun K' hK => ?_⟩
   have HK := Lib.hid hK
   clear hK
   have f0 : ww.cell? ⟨bk2, 0, none⟩ = some (.int .i64 u.x.lo) := hJ.es.cell 2 rfl 0 rfl
   have f1 : ww.cell? ⟨bk2, 1, none⟩ = some (.int .i64 u.x.hi) := hJ.es.cell 2 rfl 1 rfl
   have f2 : ww.cell? ⟨bk2, 2, none⟩ = some (.bool u.x.all) := hJ.es.cell 2 rfl 2 rfl
   go_simp
   exact HK.out (.agg #[.int .i64 u.x.lo, .int .i64 u.x.hi, .bool u.x.all]) _ hJ rfl veL_same
  ·
   have x10 : aa.tmps[10]? = some (.int .i64 0) := (hev 10 (by decide)).trans rfl
   clear hd hev hin
   simp only [List.getElem_cons_succ, List.getElem_cons_zero]
   clear hl
   refine .inr ⟨rfl, fun K' hK => ?_⟩
   have HK := Lib.hid hK
   clear hK
   go_simp
   exact HK.out (.int .i64 0) _ hJ rfl veL_same
  ·
   have x7 : aa.tmps[7]? = some (.pointer (some ⟨bk4, 0, none⟩)) := (hev 7 (by decide)).trans rfl
   have x34 : aa.tmps[34]? = some (.int .i64 0) := (hin 3 34 rfl).trans (congrArg some (show uu 3 = .int .i64 0 from hd 3 (by decide) (by kernel_rfl)))
   clear hd hev hin
   simp only [List.getElem_cons_succ, List.getElem_cons_zero]
   clear hl
   refine .inr ⟨rfl, fun K' hK => ?_⟩
   have HK := Lib.hid hK
   clear hK
   go_simp
   exact HK.out (.pointer (some ⟨bk4, 0, none⟩)) _ hJ rfl veL_same
  ·
   have x35 : aa.tmps[35]? = some (.pointer (some ⟨bk4, 0, none⟩)) := (hin 4 35 rfl).trans (congrArg some (show uu 4 = .pointer (some ⟨bk4, 0, none⟩) from hd 4 (by decide) (by kernel_rfl)))
   clear hd hev hin
   simp only [List.getElem_cons_succ, List.getElem_cons_zero]
   clear hl
   refine .inr ⟨rfl, fun K' hK => ?_⟩
   have HK := Lib.hid hK
   clear hK
   have f0 : ww.cell? ⟨bk4, 0, none⟩ = some (.int .i64 b0) := hJ.es.cell 0 rfl 0 rfl
   go_simp
   exact HK.out (.int .i64 b0) _ hJ rfl veL_same
  ·
   have x33 : aa.tmps[33]? = some (.agg #[.int .i64 u.x.lo, .int .i64 u.x.hi, .bool u.x.all]) := (hin 2 33 rfl).trans (congrArg some (show uu 2 = .agg #[.int .i64 u.x.lo, .int .i64 u.x.hi, .bool u.x.all] from hd 2 (by decide) (by kernel_rfl)))
   have x36 : aa.tmps[36]? = some (.int .i64 b0) := (hin 5 36 rfl).trans (congrArg some (show uu 5 = .int .i64 b0 from hd 5 (by decide) (by kernel_rfl)))
   clear hd hev hin
   simp only [List.getElem_cons_succ, List.getElem_cons_zero]
   clear hl
   refine .inr ⟨rfl, fun K' hK => ?_⟩
   have HK := Lib.hid hK
   clear hK
   go_simp
   refine (Hq0.out ww).mono ?_
   rintro e W' ⟨rfl, hB⟩
   exact HK.out (.bool q) _ (hJ.later hB) rfl (veL_later hB)
  ·
   have x37 : aa.tmps[37]? = some (.bool q) := (hin 6 37 rfl).trans (congrArg some (show uu 6 = .bool q from hd 6 (by decide) (by kernel_rfl)))
   clear hd hev hin
   simp only [List.getElem_cons_succ, List.getElem_cons_zero]
   clear hl
   refine .inr ⟨rfl, fun K' hK => ?_⟩
   have HK := Lib.hid hK
   clear hK
   go_simp
   exact HK.out (.bool q) _ hJ rfl veL_same
 clear hM
 intro uu W7 hJm hd
 have e_0 : uu 0 = .int .i64 0 := hd 0 (by decide)
 have e_1 : uu 1 = .pointer (some ⟨bk2, 0, none⟩) := hd 1 (by decide)
 have e_2 : uu 2 = .agg #[.int .i64 u.x.lo, .int .i64 u.x.hi, .bool u.x.all] := hd 2 (by decide)
 have e_3 : uu 3 = .int .i64 0 := hd 3 (by decide)
 have e_4 : uu 4 = .pointer (some ⟨bk4, 0, none⟩) := hd 4 (by decide)
 have e_5 : uu 5 = .int .i64 b0 := hd 5 (by decide)
 have e_6 : uu 6 = .bool q := hd 6 (by decide)
 have e_7 : uu 7 = .bool q := hd 7 (by decide)
 clear hd
 simp only [layS, Act.put, List.setIfInBounds_toArray, List.set_cons_succ, List.set_cons_zero, Nat.zero_add, Nat.reduceAdd, List.drop_succ_cons, List.drop_zero, List.drop_nil, e_0, e_1, e_2, e_3, e_4, e_5, e_6, e_7]
 clear e_0 e_1 e_2 e_3 e_4 e_5 e_6 e_7
 have hJ7 := hJm.es
 clear hJm
 have f0 : W7.cell? ⟨bk3, 0, none⟩ = some (.int .i64 a0) := hJ7.cell 1 rfl 0 rfl
 have f1 : W7.cell? ⟨bk4, 0, none⟩ = some (.int .i64 b0) := hJ7.cell 0 rfl 0 rfl
 cases p <;> cases q
 all_goals go_wp2
 all_goals first | (go_ret; exact ⟨rfl, hJ7.below⟩) | exact absurd ⟨by trivial, by trivial, by omega, by omega, by omega, by omega⟩ HF.out
set_option maxRecDepth 100000 in
set_option maxHeartbeats 12800000 in
theorem Holds_f1 (v u : Vc) (a0 a1 a2 b0 b1 b2 : Int) (p q : Bool) (hHaw : ∀ W : World, Calls Try.prog 40 #[] W (PVal (.bool true) W)) (hHp0 : ∀ W : World, Calls Try.prog 63 #[.agg #[.int .i64 v.x.lo, .int .i64 v.x.hi, .bool v.x.all], .int .i64 a0] W (PVal (.bool true) W)) (hHq0 : ∀ W : World, Calls Try.prog 63 #[.agg #[.int .i64 u.x.lo, .int .i64 u.x.hi, .bool u.x.all], .int .i64 b0] W (PVal (.bool true) W)) (hHp1 : ∀ W : World, Calls Try.prog 63 #[.agg #[.int .i64 v.y.lo, .int .i64 v.y.hi, .bool v.y.all], .int .i64 a1] W (PVal (.bool p) W)) (hHq1 : ∀ W : World, Calls Try.prog 63 #[.agg #[.int .i64 u.y.lo, .int .i64 u.y.hi, .bool u.y.all], .int .i64 b1] W (PVal (.bool q) W)) (al0 : decide (a0 < -1000000) = false) (ag0 : decide (1000000 < a0) = false) (bl0 : decide (b0 < -1000000) = false) (bg0 : decide (1000000 < b0) = false) (hHF : ¬ (p = true ∧ q = true ∧ -1000000 ≤ a1 ∧ a1 ≤ 1000000 ∧ -1000000 ≤ b1 ∧ b1 ≤ 1000000)) (w : World) : Calls Try.prog 9 #[.agg #[.int .i64 v.x.lo, .int .i64 v.x.hi, .bool v.x.all, .int .i64 v.y.lo, .int .i64 v.y.hi, .bool v.y.all, .int .i64 v.z.lo, .int .i64 v.z.hi, .bool v.z.all], .agg #[.int .i64 u.x.lo, .int .i64 u.x.hi, .bool u.x.all, .int .i64 u.y.lo, .int .i64 u.y.hi, .bool u.y.all, .int .i64 u.z.lo, .int .i64 u.z.hi, .bool u.z.all], .agg #[.int .i64 a0, .int .i64 a1, .int .i64 a2], .agg #[.int .i64 b0, .int .i64 b1, .int .i64 b2]] w (PVal (.bool true) w) := by
 have Haw := Lib.hid hHaw
 have Hp0 := Lib.hid hHp0
 have Hq0 := Lib.hid hHq0
 have Hp1 := Lib.hid hHp1
 have Hq1 := Lib.hid hHq1
 clear hHaw hHp0 hHq0 hHp1 hHq1
 have HF := Lib.hid hHF
 clear hHF
 have hJ0 := es_nil w
 go_enter Try.func9, Try.ntmps9
 go_wp2_with (refine stop_box 34 (.tmp 0) #[.int .i64 v.x.lo, .int .i64 v.x.hi, .bool v.x.all, .int .i64 v.y.lo, .int .i64 v.y.hi, .bool v.y.all, .int .i64 v.z.lo, .int .i64 v.z.hi, .bool v.z.all] rfl rfl rfl hJ0 (fun bk1 W1 hJ1 => ?_))
 clear hJ0
 unfold Stop
 try simp only [Act.put, List.setIfInBounds_toArray, List.set_cons_succ, List.set_cons_zero]
 go_wp2_with (refine stop_box 34 (.tmp 1) #[.int .i64 u.x.lo, .int .i64 u.x.hi, .bool u.x.all, .int .i64 u.y.lo, .int .i64 u.y.hi, .bool u.y.all, .int .i64 u.z.lo, .int .i64 u.z.hi, .bool u.z.all] rfl rfl rfl hJ1 (fun bk2 W2 hJ2 => ?_))
 clear hJ1
 unfold Stop
 try simp only [Act.put, List.setIfInBounds_toArray, List.set_cons_succ, List.set_cons_zero]
 go_wp2_with (refine stop_box 46 (.tmp 2) #[.int .i64 a0, .int .i64 a1, .int .i64 a2] rfl rfl rfl hJ2 (fun bk3 W3 hJ3 => ?_))
 clear hJ2
 unfold Stop
 try simp only [Act.put, List.setIfInBounds_toArray, List.set_cons_succ, List.set_cons_zero]
 go_wp2_with (refine stop_box 46 (.tmp 3) #[.int .i64 b0, .int .i64 b1, .int .i64 b2] rfl rfl rfl hJ3 (fun bk4 W4 hJ4 => ?_))
 clear hJ3
 unfold Stop
 try simp only [Act.put, List.setIfInBounds_toArray, List.set_cons_succ, List.set_cons_zero]
 go_wp2_with fail
 refine (Haw.out _).mono ?_
 rintro e W5 ⟨rfl, hB⟩
 have hJ5 := hJ4.later hB
 clear hB
 clear hJ4
 go_wp2
 refine wp_loop_rounds 4 ?_
 rw [rounds_succ]
 go_wp2
 obtain ⟨m5_5, hm⟩ : ∃ m, m = W5.heap.size := ⟨_, rfl⟩
 have hM := hJ5.em
 rw [← hm] at hM
 clear hm hJ5
 refine wp_region_z 8 [some 24, some 25, some 26, some 27, some 28, some 29, some 30, some 11] (veL m5_5 [.eq (.int .i64 0), .eq (.pointer (some ⟨bk1, 0, none⟩)), .eq (.agg #[.int .i64 v.x.lo, .int .i64 v.x.hi, .bool v.x.all]), .eq (.int .i64 0), .eq (.pointer (some ⟨bk3, 0, none⟩)), .eq (.int .i64 a0), .eq (.bool true), .eq (.bool true)]) (Em w m5_5 [(bk4, #[.int .i64 b0, .int .i64 b1, .int .i64 b2], 46), (bk3, #[.int .i64 a0, .int .i64 a1, .int .i64 a2], 46), (bk2, #[.int .i64 u.x.lo, .int .i64 u.x.hi, .bool u.x.all, .int .i64 u.y.lo, .int .i64 u.y.hi, .bool u.y.all, .int .i64 u.z.lo, .int .i64 u.z.hi, .bool u.z.all], 34), (bk1, #[.int .i64 v.x.lo, .int .i64 v.x.hi, .bool v.x.all, .int .i64 v.y.lo, .int .i64 v.y.hi, .bool v.y.all, .int .i64 v.z.lo, .int .i64 v.z.hi, .bool v.z.all], 34)]) (by kernel_rfl) (by kernel_rfl) (by rfl) (by decide) (by rfl) hM ?_ ?_
 ·
  intro i hl hi uu ww aa hJ hd hev hin
  clear hM
  obtain rfl | rfl | rfl | rfl | rfl | rfl | rfl | rfl : i = 0 ∨ i = 1 ∨ i = 2 ∨ i = 3 ∨ i = 4 ∨ i = 5 ∨ i = 6 ∨ i = 7 := by omega
  ·
   have x10 : aa.tmps[10]? = some (.int .i64 0) := (hev 10 (by decide)).trans rfl
   clear hd hev hin
   simp only [List.getElem_cons_succ, List.getElem_cons_zero]
   clear hl
   refine .inr ⟨rfl, fun K' hK => ?_⟩
   have HK := Lib.hid hK
   clear hK
   go_simp
   exact HK.out (.int .i64 0) _ hJ rfl veL_same
  ·
   have x4 : aa.tmps[4]? = some (.pointer (some ⟨bk1, 0, none⟩)) := (hev 4 (by decide)).trans rfl
   have x24 : aa.tmps[24]? = some (.int .i64 0) := (hin 0 24 rfl).trans (congrArg some (show uu 0 = .int .i64 0 from hd 0 (by decide) (by kernel_rfl)))
   clear hd hev hin
   simp only [List.getElem_cons_succ, List.getElem_cons_zero]
   clear hl
   refine .inr ⟨rfl, fun K' hK => ?_⟩
   have HK := Lib.hid hK
   clear hK
   go_simp
   exact HK.out (.pointer (some ⟨bk1, 0, none⟩)) _ hJ rfl veL_same
  ·
   have x25 : aa.tmps[25]? = some (.pointer (some ⟨bk1, 0, none⟩)) := (hin 1 25 rfl).trans (congrArg some (show uu 1 = .pointer (some ⟨bk1, 0, none⟩) from hd 1 (by decide) (by kernel_rfl)))
   clear hd hev hin
   simp only [List.getElem_cons_succ, List.getElem_cons_zero]
   clear hl
   refine .inr ⟨rfl, fun K' hK => ?_⟩
   have HK := Lib.hid hK
   clear hK
   have f0 : ww.cell? ⟨bk1, 0, none⟩ = some (.int .i64 v.x.lo) := hJ.es.cell 3 rfl 0 rfl
   have f1 : ww.cell? ⟨bk1, 1, none⟩ = some (.int .i64 v.x.hi) := hJ.es.cell 3 rfl 1 rfl
   have f2 : ww.cell? ⟨bk1, 2, none⟩ = some (.bool v.x.all) := hJ.es.cell 3 rfl 2 rfl
   go_simp
   exact HK.out (.agg #[.int .i64 v.x.lo, .int .i64 v.x.hi, .bool v.x.all]) _ hJ rfl veL_same
  ·
   have x10 : aa.tmps[10]? = some (.int .i64 0) := (hev 10 (by decide)).trans rfl
   clear hd hev hin
   simp only [List.getElem_cons_succ, List.getElem_cons_zero]
   clear hl
   refine .inr ⟨rfl, fun K' hK => ?_⟩
   have HK := Lib.hid hK
   clear hK
   go_simp
   exact HK.out (.int .i64 0) _ hJ rfl veL_same
  ·
   have x6 : aa.tmps[6]? = some (.pointer (some ⟨bk3, 0, none⟩)) := (hev 6 (by decide)).trans rfl
   have x27 : aa.tmps[27]? = some (.int .i64 0) := (hin 3 27 rfl).trans (congrArg some (show uu 3 = .int .i64 0 from hd 3 (by decide) (by kernel_rfl)))
   clear hd hev hin
   simp only [List.getElem_cons_succ, List.getElem_cons_zero]
   clear hl
   refine .inr ⟨rfl, fun K' hK => ?_⟩
   have HK := Lib.hid hK
   clear hK
   go_simp
   exact HK.out (.pointer (some ⟨bk3, 0, none⟩)) _ hJ rfl veL_same
  ·
   have x28 : aa.tmps[28]? = some (.pointer (some ⟨bk3, 0, none⟩)) := (hin 4 28 rfl).trans (congrArg some (show uu 4 = .pointer (some ⟨bk3, 0, none⟩) from hd 4 (by decide) (by kernel_rfl)))
   clear hd hev hin
   simp only [List.getElem_cons_succ, List.getElem_cons_zero]
   clear hl
   refine .inr ⟨rfl, fun K' hK => ?_⟩
   have HK := Lib.hid hK
   clear hK
   have f0 : ww.cell? ⟨bk3, 0, none⟩ = some (.int .i64 a0) := hJ.es.cell 1 rfl 0 rfl
   go_simp
   exact HK.out (.int .i64 a0) _ hJ rfl veL_same
  ·
   have x26 : aa.tmps[26]? = some (.agg #[.int .i64 v.x.lo, .int .i64 v.x.hi, .bool v.x.all]) := (hin 2 26 rfl).trans (congrArg some (show uu 2 = .agg #[.int .i64 v.x.lo, .int .i64 v.x.hi, .bool v.x.all] from hd 2 (by decide) (by kernel_rfl)))
   have x29 : aa.tmps[29]? = some (.int .i64 a0) := (hin 5 29 rfl).trans (congrArg some (show uu 5 = .int .i64 a0 from hd 5 (by decide) (by kernel_rfl)))
   clear hd hev hin
   simp only [List.getElem_cons_succ, List.getElem_cons_zero]
   clear hl
   refine .inr ⟨rfl, fun K' hK => ?_⟩
   have HK := Lib.hid hK
   clear hK
   go_simp
   refine (Hp0.out ww).mono ?_
   rintro e W' ⟨rfl, hB⟩
   exact HK.out (.bool true) _ (hJ.later hB) rfl (veL_later hB)
  ·
   have x30 : aa.tmps[30]? = some (.bool true) := (hin 6 30 rfl).trans (congrArg some (show uu 6 = .bool true from hd 6 (by decide) (by kernel_rfl)))
   clear hd hev hin
   simp only [List.getElem_cons_succ, List.getElem_cons_zero]
   clear hl
   refine .inr ⟨rfl, fun K' hK => ?_⟩
   have HK := Lib.hid hK
   clear hK
   go_simp
   exact HK.out (.bool true) _ hJ rfl veL_same
 clear hM
 intro uu W6 hJm hd
 have e_0 : uu 0 = .int .i64 0 := hd 0 (by decide)
 have e_1 : uu 1 = .pointer (some ⟨bk1, 0, none⟩) := hd 1 (by decide)
 have e_2 : uu 2 = .agg #[.int .i64 v.x.lo, .int .i64 v.x.hi, .bool v.x.all] := hd 2 (by decide)
 have e_3 : uu 3 = .int .i64 0 := hd 3 (by decide)
 have e_4 : uu 4 = .pointer (some ⟨bk3, 0, none⟩) := hd 4 (by decide)
 have e_5 : uu 5 = .int .i64 a0 := hd 5 (by decide)
 have e_6 : uu 6 = .bool true := hd 6 (by decide)
 have e_7 : uu 7 = .bool true := hd 7 (by decide)
 clear hd
 simp only [layS, Act.put, List.setIfInBounds_toArray, List.set_cons_succ, List.set_cons_zero, Nat.zero_add, Nat.reduceAdd, List.drop_succ_cons, List.drop_zero, List.drop_nil, e_0, e_1, e_2, e_3, e_4, e_5, e_6, e_7]
 clear e_0 e_1 e_2 e_3 e_4 e_5 e_6 e_7
 have hJ6 := hJm.es
 clear hJm
 go_wp2
 obtain ⟨m6_6, hm⟩ : ∃ m, m = W6.heap.size := ⟨_, rfl⟩
 have hM := hJ6.em
 rw [← hm] at hM
 clear hm hJ6
 refine wp_region_z 8 [some 31, some 32, some 33, some 34, some 35, some 36, some 37, some 12] (veL m6_6 [.eq (.int .i64 0), .eq (.pointer (some ⟨bk2, 0, none⟩)), .eq (.agg #[.int .i64 u.x.lo, .int .i64 u.x.hi, .bool u.x.all]), .eq (.int .i64 0), .eq (.pointer (some ⟨bk4, 0, none⟩)), .eq (.int .i64 b0), .eq (.bool true), .eq (.bool true)]) (Em w m6_6 [(bk4, #[.int .i64 b0, .int .i64 b1, .int .i64 b2], 46), (bk3, #[.int .i64 a0, .int .i64 a1, .int .i64 a2], 46), (bk2, #[.int .i64 u.x.lo, .int .i64 u.x.hi, .bool u.x.all, .int .i64 u.y.lo, .int .i64 u.y.hi, .bool u.y.all, .int .i64 u.z.lo, .int .i64 u.z.hi, .bool u.z.all], 34), (bk1, #[.int .i64 v.x.lo, .int .i64 v.x.hi, .bool v.x.all, .int .i64 v.y.lo, .int .i64 v.y.hi, .bool v.y.all, .int .i64 v.z.lo, .int .i64 v.z.hi, .bool v.z.all], 34)]) (by kernel_rfl) (by kernel_rfl) (by rfl) (by decide) (by rfl) hM ?_ ?_
 ·
  intro i hl hi uu ww aa hJ hd hev hin
  clear hM
  obtain rfl | rfl | rfl | rfl | rfl | rfl | rfl | rfl : i = 0 ∨ i = 1 ∨ i = 2 ∨ i = 3 ∨ i = 4 ∨ i = 5 ∨ i = 6 ∨ i = 7 := by omega
  ·
   have x10 : aa.tmps[10]? = some (.int .i64 0) := (hev 10 (by decide)).trans rfl
   clear hd hev hin
   simp only [List.getElem_cons_succ, List.getElem_cons_zero]
   clear hl
   refine .inr ⟨rfl, fun K' hK => ?_⟩
   have HK := Lib.hid hK
   clear hK
   go_simp
   exact HK.out (.int .i64 0) _ hJ rfl veL_same
  ·
   have x5 : aa.tmps[5]? = some (.pointer (some ⟨bk2, 0, none⟩)) := (hev 5 (by decide)).trans rfl
   have x31 : aa.tmps[31]? = some (.int .i64 0) := (hin 0 31 rfl).trans (congrArg some (show uu 0 = .int .i64 0 from hd 0 (by decide) (by kernel_rfl)))
   clear hd hev hin
   simp only [List.getElem_cons_succ, List.getElem_cons_zero]
   clear hl
   refine .inr ⟨rfl, fun K' hK => ?_⟩
   have HK := Lib.hid hK
   clear hK
   go_simp
   exact HK.out (.pointer (some ⟨bk2, 0, none⟩)) _ hJ rfl veL_same
  ·
   have x32 : aa.tmps[32]? = some (.pointer (some ⟨bk2, 0, none⟩)) := (hin 1 32 rfl).trans (congrArg some (show uu 1 = .pointer (some ⟨bk2, 0, none⟩) from hd 1 (by decide) (by kernel_rfl)))
   clear hd hev hin
   simp only [List.getElem_cons_succ, List.getElem_cons_zero]
   clear hl
   refine .inr ⟨rfl, fun K' hK => ?_⟩
   have HK := Lib.hid hK
   clear hK
   have f0 : ww.cell? ⟨bk2, 0, none⟩ = some (.int .i64 u.x.lo) := hJ.es.cell 2 rfl 0 rfl
   have f1 : ww.cell? ⟨bk2, 1, none⟩ = some (.int .i64 u.x.hi) := hJ.es.cell 2 rfl 1 rfl
   have f2 : ww.cell? ⟨bk2, 2, none⟩ = some (.bool u.x.all) := hJ.es.cell 2 rfl 2 rfl
   go_simp
   exact HK.out (.agg #[.int .i64 u.x.lo, .int .i64 u.x.hi, .bool u.x.all]) _ hJ rfl veL_same
  ·
   have x10 : aa.tmps[10]? = some (.int .i64 0) := (hev 10 (by decide)).trans rfl
   clear hd hev hin
   simp only [List.getElem_cons_succ, List.getElem_cons_zero]
   clear hl
   refine .inr ⟨rfl, fun K' hK => ?_⟩
   have HK := Lib.hid hK
   clear hK
   go_simp
   exact HK.out (.int .i64 0) _ hJ rfl veL_same
  ·
   have x7 : aa.tmps[7]? = some (.pointer (some ⟨bk4, 0, none⟩)) := (hev 7 (by decide)).trans rfl
   have x34 : aa.tmps[34]? = some (.int .i64 0) := (hin 3 34 rfl).trans (congrArg some (show uu 3 = .int .i64 0 from hd 3 (by decide) (by kernel_rfl)))
   clear hd hev hin
   simp only [List.getElem_cons_succ, List.getElem_cons_zero]
   clear hl
   refine .inr ⟨rfl, fun K' hK => ?_⟩
   have HK := Lib.hid hK
   clear hK
   go_simp
   exact HK.out (.pointer (some ⟨bk4, 0, none⟩)) _ hJ rfl veL_same
  ·
   have x35 : aa.tmps[35]? = some (.pointer (some ⟨bk4, 0, none⟩)) := (hin 4 35 rfl).trans (congrArg some (show uu 4 = .pointer (some ⟨bk4, 0, none⟩) from hd 4 (by decide) (by kernel_rfl)))
   clear hd hev hin
   simp only [List.getElem_cons_succ, List.getElem_cons_zero]
   clear hl
   refine .inr ⟨rfl, fun K' hK => ?_⟩
   have HK := Lib.hid hK
   clear hK
   have f0 : ww.cell? ⟨bk4, 0, none⟩ = some (.int .i64 b0) := hJ.es.cell 0 rfl 0 rfl
   go_simp
   exact HK.out (.int .i64 b0) _ hJ rfl veL_same
  ·
   have x33 : aa.tmps[33]? = some (.agg #[.int .i64 u.x.lo, .int .i64 u.x.hi, .bool u.x.all]) := (hin 2 33 rfl).trans (congrArg some (show uu 2 = .agg #[.int .i64 u.x.lo, .int .i64 u.x.hi, .bool u.x.all] from hd 2 (by decide) (by kernel_rfl)))
   have x36 : aa.tmps[36]? = some (.int .i64 b0) := (hin 5 36 rfl).trans (congrArg some (show uu 5 = .int .i64 b0 from hd 5 (by decide) (by kernel_rfl)))
   clear hd hev hin
   simp only [List.getElem_cons_succ, List.getElem_cons_zero]
   clear hl
   refine .inr ⟨rfl, fun K' hK => ?_⟩
   have HK := Lib.hid hK
   clear hK
   go_simp
   refine (Hq0.out ww).mono ?_
   rintro e W' ⟨rfl, hB⟩
   exact HK.out (.bool true) _ (hJ.later hB) rfl (veL_later hB)
  ·
   have x37 : aa.tmps[37]? = some (.bool true) := (hin 6 37 rfl).trans (congrArg some (show uu 6 = .bool true from hd 6 (by decide) (by kernel_rfl)))
   clear hd hev hin
   simp only [List.getElem_cons_succ, List.getElem_cons_zero]
   clear hl
   refine .inr ⟨rfl, fun K' hK => ?_⟩
   have HK := Lib.hid hK
   clear hK
   go_simp
   exact HK.out (.bool true) _ hJ rfl veL_same
 clear hM
 intro uu W7 hJm hd
 have e_0 : uu 0 = .int .i64 0 := hd 0 (by decide)
 have e_1 : uu 1 = .pointer (some ⟨bk2, 0, none⟩) := hd 1 (by decide)
 have e_2 : uu 2 = .agg #[.int .i64 u.x.lo, .int .i64 u.x.hi, .bool u.x.all] := hd 2 (by decide)
 have e_3 : uu 3 = .int .i64 0 := hd 3 (by decide)
 have e_4 : uu 4 = .pointer (some ⟨bk4, 0, none⟩) := hd 4 (by decide)
 have e_5 : uu 5 = .int .i64 b0 := hd 5 (by decide)
 have e_6 : uu 6 = .bool true := hd 6 (by decide)
 have e_7 : uu 7 = .bool true := hd 7 (by decide)
 clear hd
 simp only [layS, Act.put, List.setIfInBounds_toArray, List.set_cons_succ, List.set_cons_zero, Nat.zero_add, Nat.reduceAdd, List.drop_succ_cons, List.drop_zero, List.drop_nil, e_0, e_1, e_2, e_3, e_4, e_5, e_6, e_7]
 clear e_0 e_1 e_2 e_3 e_4 e_5 e_6 e_7
 have hJ7 := hJm.es
 clear hJm
 have f0 : W7.cell? ⟨bk3, 0, none⟩ = some (.int .i64 a0) := hJ7.cell 1 rfl 0 rfl
 have f1 : W7.cell? ⟨bk4, 0, none⟩ = some (.int .i64 b0) := hJ7.cell 0 rfl 0 rfl
 go_wp2
 clear f0 f1
 rw [rounds_succ]
 go_wp2
 obtain ⟨m5_7, hm⟩ : ∃ m, m = W7.heap.size := ⟨_, rfl⟩
 have hM := hJ7.em
 rw [← hm] at hM
 clear hm hJ7
 refine wp_region_z 8 [some 24, some 25, some 26, some 27, some 28, some 29, some 30, some 11] (veL m5_7 [.eq (.int .i64 1), .eq (.pointer (some ⟨bk1, 3, none⟩)), .eq (.agg #[.int .i64 v.y.lo, .int .i64 v.y.hi, .bool v.y.all]), .eq (.int .i64 1), .eq (.pointer (some ⟨bk3, 1, none⟩)), .eq (.int .i64 a1), .eq (.bool p), .eq (.bool p)]) (Em w m5_7 [(bk4, #[.int .i64 b0, .int .i64 b1, .int .i64 b2], 46), (bk3, #[.int .i64 a0, .int .i64 a1, .int .i64 a2], 46), (bk2, #[.int .i64 u.x.lo, .int .i64 u.x.hi, .bool u.x.all, .int .i64 u.y.lo, .int .i64 u.y.hi, .bool u.y.all, .int .i64 u.z.lo, .int .i64 u.z.hi, .bool u.z.all], 34), (bk1, #[.int .i64 v.x.lo, .int .i64 v.x.hi, .bool v.x.all, .int .i64 v.y.lo, .int .i64 v.y.hi, .bool v.y.all, .int .i64 v.z.lo, .int .i64 v.z.hi, .bool v.z.all], 34)]) (by kernel_rfl) (by kernel_rfl) (by rfl) (by decide) (by rfl) hM ?_ ?_
 ·
  intro i hl hi uu ww aa hJ hd hev hin
  clear hM
  obtain rfl | rfl | rfl | rfl | rfl | rfl | rfl | rfl : i = 0 ∨ i = 1 ∨ i = 2 ∨ i = 3 ∨ i = 4 ∨ i = 5 ∨ i = 6 ∨ i = 7 := by omega
  ·
   have x10 : aa.tmps[10]? = some (.int .i64 1) := (hev 10 (by decide)).trans rfl
   clear hd hev hin
   simp only [List.getElem_cons_succ, List.getElem_cons_zero]
   clear hl
   refine .inr ⟨rfl, fun K' hK => ?_⟩
   have HK := Lib.hid hK
   clear hK
   go_simp
   exact HK.out (.int .i64 1) _ hJ rfl veL_same
  ·
   have x4 : aa.tmps[4]? = some (.pointer (some ⟨bk1, 0, none⟩)) := (hev 4 (by decide)).trans rfl
   have x24 : aa.tmps[24]? = some (.int .i64 1) := (hin 0 24 rfl).trans (congrArg some (show uu 0 = .int .i64 1 from hd 0 (by decide) (by kernel_rfl)))
   clear hd hev hin
   simp only [List.getElem_cons_succ, List.getElem_cons_zero]
   clear hl
   refine .inr ⟨rfl, fun K' hK => ?_⟩
   have HK := Lib.hid hK
   clear hK
   go_simp
   exact HK.out (.pointer (some ⟨bk1, 3, none⟩)) _ hJ rfl veL_same
  ·
   have x25 : aa.tmps[25]? = some (.pointer (some ⟨bk1, 3, none⟩)) := (hin 1 25 rfl).trans (congrArg some (show uu 1 = .pointer (some ⟨bk1, 3, none⟩) from hd 1 (by decide) (by kernel_rfl)))
   clear hd hev hin
   simp only [List.getElem_cons_succ, List.getElem_cons_zero]
   clear hl
   refine .inr ⟨rfl, fun K' hK => ?_⟩
   have HK := Lib.hid hK
   clear hK
   have f0 : ww.cell? ⟨bk1, 3, none⟩ = some (.int .i64 v.y.lo) := hJ.es.cell 3 rfl 3 rfl
   have f1 : ww.cell? ⟨bk1, 4, none⟩ = some (.int .i64 v.y.hi) := hJ.es.cell 3 rfl 4 rfl
   have f2 : ww.cell? ⟨bk1, 5, none⟩ = some (.bool v.y.all) := hJ.es.cell 3 rfl 5 rfl
   go_simp
   exact HK.out (.agg #[.int .i64 v.y.lo, .int .i64 v.y.hi, .bool v.y.all]) _ hJ rfl veL_same
  ·
   have x10 : aa.tmps[10]? = some (.int .i64 1) := (hev 10 (by decide)).trans rfl
   clear hd hev hin
   simp only [List.getElem_cons_succ, List.getElem_cons_zero]
   clear hl
   refine .inr ⟨rfl, fun K' hK => ?_⟩
   have HK := Lib.hid hK
   clear hK
   go_simp
   exact HK.out (.int .i64 1) _ hJ rfl veL_same
  ·
   have x6 : aa.tmps[6]? = some (.pointer (some ⟨bk3, 0, none⟩)) := (hev 6 (by decide)).trans rfl
   have x27 : aa.tmps[27]? = some (.int .i64 1) := (hin 3 27 rfl).trans (congrArg some (show uu 3 = .int .i64 1 from hd 3 (by decide) (by kernel_rfl)))
   clear hd hev hin
   simp only [List.getElem_cons_succ, List.getElem_cons_zero]
   clear hl
   refine .inr ⟨rfl, fun K' hK => ?_⟩
   have HK := Lib.hid hK
   clear hK
   go_simp
   exact HK.out (.pointer (some ⟨bk3, 1, none⟩)) _ hJ rfl veL_same
  ·
   have x28 : aa.tmps[28]? = some (.pointer (some ⟨bk3, 1, none⟩)) := (hin 4 28 rfl).trans (congrArg some (show uu 4 = .pointer (some ⟨bk3, 1, none⟩) from hd 4 (by decide) (by kernel_rfl)))
   clear hd hev hin
   simp only [List.getElem_cons_succ, List.getElem_cons_zero]
   clear hl
   refine .inr ⟨rfl, fun K' hK => ?_⟩
   have HK := Lib.hid hK
   clear hK
   have f0 : ww.cell? ⟨bk3, 1, none⟩ = some (.int .i64 a1) := hJ.es.cell 1 rfl 1 rfl
   go_simp
   exact HK.out (.int .i64 a1) _ hJ rfl veL_same
  ·
   have x26 : aa.tmps[26]? = some (.agg #[.int .i64 v.y.lo, .int .i64 v.y.hi, .bool v.y.all]) := (hin 2 26 rfl).trans (congrArg some (show uu 2 = .agg #[.int .i64 v.y.lo, .int .i64 v.y.hi, .bool v.y.all] from hd 2 (by decide) (by kernel_rfl)))
   have x29 : aa.tmps[29]? = some (.int .i64 a1) := (hin 5 29 rfl).trans (congrArg some (show uu 5 = .int .i64 a1 from hd 5 (by decide) (by kernel_rfl)))
   clear hd hev hin
   simp only [List.getElem_cons_succ, List.getElem_cons_zero]
   clear hl
   refine .inr ⟨rfl, fun K' hK => ?_⟩
   have HK := Lib.hid hK
   clear hK
   go_simp
   refine (Hp1.out ww).mono ?_
   rintro e W' ⟨rfl, hB⟩
   exact HK.out (.bool p) _ (hJ.later hB) rfl (veL_later hB)
  ·
   have x30 : aa.tmps[30]? = some (.bool p) := (hin 6 30 rfl).trans (congrArg some (show uu 6 = .bool p from hd 6 (by decide) (by kernel_rfl)))
   clear hd hev hin
   simp only [List.getElem_cons_succ, List.getElem_cons_zero]
   clear hl
   refine .inr ⟨rfl, fun K' hK => ?_⟩
   have HK := Lib.hid hK
   clear hK
   go_simp
   exact HK.out (.bool p) _ hJ rfl veL_same
 clear hM
 intro uu W8 hJm hd
 have e_0 : uu 0 = .int .i64 1 := hd 0 (by decide)
 have e_1 : uu 1 = .pointer (some ⟨bk1, 3, none⟩) := hd 1 (by decide)
 have e_2 : uu 2 = .agg #[.int .i64 v.y.lo, .int .i64 v.y.hi, .bool v.y.all] := hd 2 (by decide)
 have e_3 : uu 3 = .int .i64 1 := hd 3 (by decide)
 have e_4 : uu 4 = .pointer (some ⟨bk3, 1, none⟩) := hd 4 (by decide)
 have e_5 : uu 5 = .int .i64 a1 := hd 5 (by decide)
 have e_6 : uu 6 = .bool p := hd 6 (by decide)
 have e_7 : uu 7 = .bool p := hd 7 (by decide)
 clear hd
 simp only [layS, Act.put, List.setIfInBounds_toArray, List.set_cons_succ, List.set_cons_zero, Nat.zero_add, Nat.reduceAdd, List.drop_succ_cons, List.drop_zero, List.drop_nil, e_0, e_1, e_2, e_3, e_4, e_5, e_6, e_7]
 clear e_0 e_1 e_2 e_3 e_4 e_5 e_6 e_7
 have hJ8 := hJm.es
 clear hJm
 go_wp2
 obtain ⟨m6_8, hm⟩ : ∃ m, m = W8.heap.size := ⟨_, rfl⟩
 have hM := hJ8.em
 rw [← hm] at hM
 clear hm hJ8
 refine wp_region_z 8 [some 31, some 32, some 33, some 34, some 35, some 36, some 37, some 12] (veL m6_8 [.eq (.int .i64 1), .eq (.pointer (some ⟨bk2, 3, none⟩)), .eq (.agg #[.int .i64 u.y.lo, .int .i64 u.y.hi, .bool u.y.all]), .eq (.int .i64 1), .eq (.pointer (some ⟨bk4, 1, none⟩)), .eq (.int .i64 b1), .eq (.bool q), .eq (.bool q)]) (Em w m6_8 [(bk4, #[.int .i64 b0, .int .i64 b1, .int .i64 b2], 46), (bk3, #[.int .i64 a0, .int .i64 a1, .int .i64 a2], 46), (bk2, #[.int .i64 u.x.lo, .int .i64 u.x.hi, .bool u.x.all, .int .i64 u.y.lo, .int .i64 u.y.hi, .bool u.y.all, .int .i64 u.z.lo, .int .i64 u.z.hi, .bool u.z.all], 34), (bk1, #[.int .i64 v.x.lo, .int .i64 v.x.hi, .bool v.x.all, .int .i64 v.y.lo, .int .i64 v.y.hi, .bool v.y.all, .int .i64 v.z.lo, .int .i64 v.z.hi, .bool v.z.all], 34)]) (by kernel_rfl) (by kernel_rfl) (by rfl) (by decide) (by rfl) hM ?_ ?_
 ·
  intro i hl hi uu ww aa hJ hd hev hin
  clear hM
  obtain rfl | rfl | rfl | rfl | rfl | rfl | rfl | rfl : i = 0 ∨ i = 1 ∨ i = 2 ∨ i = 3 ∨ i = 4 ∨ i = 5 ∨ i = 6 ∨ i = 7 := by omega
  ·
   have x10 : aa.tmps[10]? = some (.int .i64 1) := (hev 10 (by decide)).trans rfl
   clear hd hev hin
   simp only [List.getElem_cons_succ, List.getElem_cons_zero]
   clear hl
   refine .inr ⟨rfl, fun K' hK => ?_⟩
   have HK := Lib.hid hK
   clear hK
   go_simp
   exact HK.out (.int .i64 1) _ hJ rfl veL_same
  ·
   have x5 : aa.tmps[5]? = some (.pointer (some ⟨bk2, 0, none⟩)) := (hev 5 (by decide)).trans rfl
   have x31 : aa.tmps[31]? = some (.int .i64 1) := (hin 0 31 rfl).trans (congrArg some (show uu 0 = .int .i64 1 from hd 0 (by decide) (by kernel_rfl)))
   clear hd hev hin
   simp only [List.getElem_cons_succ, List.getElem_cons_zero]
   clear hl
   refine .inr ⟨rfl, fun K' hK => ?_⟩
   have HK := Lib.hid hK
   clear hK
   go_simp
   exact HK.out (.pointer (some ⟨bk2, 3, none⟩)) _ hJ rfl veL_same
  ·
   have x32 : aa.tmps[32]? = some (.pointer (some ⟨bk2, 3, none⟩)) := (hin 1 32 rfl).trans (congrArg some (show uu 1 = .pointer (some ⟨bk2, 3, none⟩) from hd 1 (by decide) (by kernel_rfl)))
   clear hd hev hin
   simp only [List.getElem_cons_succ, List.getElem_cons_zero]
   clear hl
   refine .inr ⟨rfl, fun K' hK => ?_⟩
   have HK := Lib.hid hK
   clear hK
   have f0 : ww.cell? ⟨bk2, 3, none⟩ = some (.int .i64 u.y.lo) := hJ.es.cell 2 rfl 3 rfl
   have f1 : ww.cell? ⟨bk2, 4, none⟩ = some (.int .i64 u.y.hi) := hJ.es.cell 2 rfl 4 rfl
   have f2 : ww.cell? ⟨bk2, 5, none⟩ = some (.bool u.y.all) := hJ.es.cell 2 rfl 5 rfl
   go_simp
   exact HK.out (.agg #[.int .i64 u.y.lo, .int .i64 u.y.hi, .bool u.y.all]) _ hJ rfl veL_same
  ·
   have x10 : aa.tmps[10]? = some (.int .i64 1) := (hev 10 (by decide)).trans rfl
   clear hd hev hin
   simp only [List.getElem_cons_succ, List.getElem_cons_zero]
   clear hl
   refine .inr ⟨rfl, fun K' hK => ?_⟩
   have HK := Lib.hid hK
   clear hK
   go_simp
   exact HK.out (.int .i64 1) _ hJ rfl veL_same
  ·
   have x7 : aa.tmps[7]? = some (.pointer (some ⟨bk4, 0, none⟩)) := (hev 7 (by decide)).trans rfl
   have x34 : aa.tmps[34]? = some (.int .i64 1) := (hin 3 34 rfl).trans (congrArg some (show uu 3 = .int .i64 1 from hd 3 (by decide) (by kernel_rfl)))
   clear hd hev hin
   simp only [List.getElem_cons_succ, List.getElem_cons_zero]
   clear hl
   refine .inr ⟨rfl, fun K' hK => ?_⟩
   have HK := Lib.hid hK
   clear hK
   go_simp
   exact HK.out (.pointer (some ⟨bk4, 1, none⟩)) _ hJ rfl veL_same
  ·
   have x35 : aa.tmps[35]? = some (.pointer (some ⟨bk4, 1, none⟩)) := (hin 4 35 rfl).trans (congrArg some (show uu 4 = .pointer (some ⟨bk4, 1, none⟩) from hd 4 (by decide) (by kernel_rfl)))
   clear hd hev hin
   simp only [List.getElem_cons_succ, List.getElem_cons_zero]
   clear hl
   refine .inr ⟨rfl, fun K' hK => ?_⟩
   have HK := Lib.hid hK
   clear hK
   have f0 : ww.cell? ⟨bk4, 1, none⟩ = some (.int .i64 b1) := hJ.es.cell 0 rfl 1 rfl
   go_simp
   exact HK.out (.int .i64 b1) _ hJ rfl veL_same
  ·
   have x33 : aa.tmps[33]? = some (.agg #[.int .i64 u.y.lo, .int .i64 u.y.hi, .bool u.y.all]) := (hin 2 33 rfl).trans (congrArg some (show uu 2 = .agg #[.int .i64 u.y.lo, .int .i64 u.y.hi, .bool u.y.all] from hd 2 (by decide) (by kernel_rfl)))
   have x36 : aa.tmps[36]? = some (.int .i64 b1) := (hin 5 36 rfl).trans (congrArg some (show uu 5 = .int .i64 b1 from hd 5 (by decide) (by kernel_rfl)))
   clear hd hev hin
   simp only [List.getElem_cons_succ, List.getElem_cons_zero]
   clear hl
   refine .inr ⟨rfl, fun K' hK => ?_⟩
   have HK := Lib.hid hK
   clear hK
   go_simp
   refine (Hq1.out ww).mono ?_
   rintro e W' ⟨rfl, hB⟩
   exact HK.out (.bool q) _ (hJ.later hB) rfl (veL_later hB)
  ·
   have x37 : aa.tmps[37]? = some (.bool q) := (hin 6 37 rfl).trans (congrArg some (show uu 6 = .bool q from hd 6 (by decide) (by kernel_rfl)))
   clear hd hev hin
   simp only [List.getElem_cons_succ, List.getElem_cons_zero]
   clear hl
   refine .inr ⟨rfl, fun K' hK => ?_⟩
   have HK := Lib.hid hK
   clear hK
   go_simp
   exact HK.out (.bool q) _ hJ rfl veL_same
 clear hM
 intro uu W9 hJm hd
 have e_0 : uu 0 = .int .i64 1 := hd 0 (by decide)
 have e_1 : uu 1 = .pointer (some ⟨bk2, 3, none⟩) := hd 1 (by decide)
 have e_2 : uu 2 = .agg #[.int .i64 u.y.lo, .int .i64 u.y.hi, .bool u.y.all] := hd 2 (by decide)
 have e_3 : uu 3 = .int .i64 1 := hd 3 (by decide)
 have e_4 : uu 4 = .pointer (some ⟨bk4, 1, none⟩) := hd 4 (by decide)
 have e_5 : uu 5 = .int .i64 b1 := hd 5 (by decide)
 have e_6 : uu 6 = .bool q := hd 6 (by decide)
 have e_7 : uu 7 = .bool q := hd 7 (by decide)
 clear hd
 simp only [layS, Act.put, List.setIfInBounds_toArray, List.set_cons_succ, List.set_cons_zero, Nat.zero_add, Nat.reduceAdd, List.drop_succ_cons, List.drop_zero, List.drop_nil, e_0, e_1, e_2, e_3, e_4, e_5, e_6, e_7]
 clear e_0 e_1 e_2 e_3 e_4 e_5 e_6 e_7
 have hJ9 := hJm.es
 clear hJm
 have f0 : W9.cell? ⟨bk3, 1, none⟩ = some (.int .i64 a1) := hJ9.cell 1 rfl 1 rfl
 have f1 : W9.cell? ⟨bk4, 1, none⟩ = some (.int .i64 b1) := hJ9.cell 0 rfl 1 rfl
 cases p <;> cases q
 all_goals go_wp2
 all_goals first | (go_ret; exact ⟨rfl, hJ9.below⟩) | exact absurd ⟨by trivial, by trivial, by omega, by omega, by omega, by omega⟩ HF.out
set_option maxRecDepth 100000 in
set_option maxHeartbeats 12800000 in
theorem Holds_f2 (v u : Vc) (a0 a1 a2 b0 b1 b2 : Int) (p q : Bool) (hHaw : ∀ W : World, Calls Try.prog 40 #[] W (PVal (.bool true) W)) (hHp0 : ∀ W : World, Calls Try.prog 63 #[.agg #[.int .i64 v.x.lo, .int .i64 v.x.hi, .bool v.x.all], .int .i64 a0] W (PVal (.bool true) W)) (hHq0 : ∀ W : World, Calls Try.prog 63 #[.agg #[.int .i64 u.x.lo, .int .i64 u.x.hi, .bool u.x.all], .int .i64 b0] W (PVal (.bool true) W)) (hHp1 : ∀ W : World, Calls Try.prog 63 #[.agg #[.int .i64 v.y.lo, .int .i64 v.y.hi, .bool v.y.all], .int .i64 a1] W (PVal (.bool true) W)) (hHq1 : ∀ W : World, Calls Try.prog 63 #[.agg #[.int .i64 u.y.lo, .int .i64 u.y.hi, .bool u.y.all], .int .i64 b1] W (PVal (.bool true) W)) (hHp2 : ∀ W : World, Calls Try.prog 63 #[.agg #[.int .i64 v.z.lo, .int .i64 v.z.hi, .bool v.z.all], .int .i64 a2] W (PVal (.bool p) W)) (hHq2 : ∀ W : World, Calls Try.prog 63 #[.agg #[.int .i64 u.z.lo, .int .i64 u.z.hi, .bool u.z.all], .int .i64 b2] W (PVal (.bool q) W)) (al0 : decide (a0 < -1000000) = false) (ag0 : decide (1000000 < a0) = false) (bl0 : decide (b0 < -1000000) = false) (bg0 : decide (1000000 < b0) = false) (al1 : decide (a1 < -1000000) = false) (ag1 : decide (1000000 < a1) = false) (bl1 : decide (b1 < -1000000) = false) (bg1 : decide (1000000 < b1) = false) (hHF : ¬ (p = true ∧ q = true ∧ -1000000 ≤ a2 ∧ a2 ≤ 1000000 ∧ -1000000 ≤ b2 ∧ b2 ≤ 1000000)) (w : World) : Calls Try.prog 9 #[.agg #[.int .i64 v.x.lo, .int .i64 v.x.hi, .bool v.x.all, .int .i64 v.y.lo, .int .i64 v.y.hi, .bool v.y.all, .int .i64 v.z.lo, .int .i64 v.z.hi, .bool v.z.all], .agg #[.int .i64 u.x.lo, .int .i64 u.x.hi, .bool u.x.all, .int .i64 u.y.lo, .int .i64 u.y.hi, .bool u.y.all, .int .i64 u.z.lo, .int .i64 u.z.hi, .bool u.z.all], .agg #[.int .i64 a0, .int .i64 a1, .int .i64 a2], .agg #[.int .i64 b0, .int .i64 b1, .int .i64 b2]] w (PVal (.bool true) w) := by
 have Haw := Lib.hid hHaw
 have Hp0 := Lib.hid hHp0
 have Hq0 := Lib.hid hHq0
 have Hp1 := Lib.hid hHp1
 have Hq1 := Lib.hid hHq1
 have Hp2 := Lib.hid hHp2
 have Hq2 := Lib.hid hHq2
 clear hHaw hHp0 hHq0 hHp1 hHq1 hHp2 hHq2
 have HF := Lib.hid hHF
 clear hHF
 have hJ0 := es_nil w
 go_enter Try.func9, Try.ntmps9
 go_wp2_with (refine stop_box 34 (.tmp 0) #[.int .i64 v.x.lo, .int .i64 v.x.hi, .bool v.x.all, .int .i64 v.y.lo, .int .i64 v.y.hi, .bool v.y.all, .int .i64 v.z.lo, .int .i64 v.z.hi, .bool v.z.all] rfl rfl rfl hJ0 (fun bk1 W1 hJ1 => ?_))
 clear hJ0
 unfold Stop
 try simp only [Act.put, List.setIfInBounds_toArray, List.set_cons_succ, List.set_cons_zero]
 go_wp2_with (refine stop_box 34 (.tmp 1) #[.int .i64 u.x.lo, .int .i64 u.x.hi, .bool u.x.all, .int .i64 u.y.lo, .int .i64 u.y.hi, .bool u.y.all, .int .i64 u.z.lo, .int .i64 u.z.hi, .bool u.z.all] rfl rfl rfl hJ1 (fun bk2 W2 hJ2 => ?_))
 clear hJ1
 unfold Stop
 try simp only [Act.put, List.setIfInBounds_toArray, List.set_cons_succ, List.set_cons_zero]
 go_wp2_with (refine stop_box 46 (.tmp 2) #[.int .i64 a0, .int .i64 a1, .int .i64 a2] rfl rfl rfl hJ2 (fun bk3 W3 hJ3 => ?_))
 clear hJ2
 unfold Stop
 try simp only [Act.put, List.setIfInBounds_toArray, List.set_cons_succ, List.set_cons_zero]
 go_wp2_with (refine stop_box 46 (.tmp 3) #[.int .i64 b0, .int .i64 b1, .int .i64 b2] rfl rfl rfl hJ3 (fun bk4 W4 hJ4 => ?_))
 clear hJ3
 unfold Stop
 try simp only [Act.put, List.setIfInBounds_toArray, List.set_cons_succ, List.set_cons_zero]
 go_wp2_with fail
 refine (Haw.out _).mono ?_
 rintro e W5 ⟨rfl, hB⟩
 have hJ5 := hJ4.later hB
 clear hB
 clear hJ4
 go_wp2
 refine wp_loop_rounds 4 ?_
 rw [rounds_succ]
 go_wp2
 obtain ⟨m5_5, hm⟩ : ∃ m, m = W5.heap.size := ⟨_, rfl⟩
 have hM := hJ5.em
 rw [← hm] at hM
 clear hm hJ5
 refine wp_region_z 8 [some 24, some 25, some 26, some 27, some 28, some 29, some 30, some 11] (veL m5_5 [.eq (.int .i64 0), .eq (.pointer (some ⟨bk1, 0, none⟩)), .eq (.agg #[.int .i64 v.x.lo, .int .i64 v.x.hi, .bool v.x.all]), .eq (.int .i64 0), .eq (.pointer (some ⟨bk3, 0, none⟩)), .eq (.int .i64 a0), .eq (.bool true), .eq (.bool true)]) (Em w m5_5 [(bk4, #[.int .i64 b0, .int .i64 b1, .int .i64 b2], 46), (bk3, #[.int .i64 a0, .int .i64 a1, .int .i64 a2], 46), (bk2, #[.int .i64 u.x.lo, .int .i64 u.x.hi, .bool u.x.all, .int .i64 u.y.lo, .int .i64 u.y.hi, .bool u.y.all, .int .i64 u.z.lo, .int .i64 u.z.hi, .bool u.z.all], 34), (bk1, #[.int .i64 v.x.lo, .int .i64 v.x.hi, .bool v.x.all, .int .i64 v.y.lo, .int .i64 v.y.hi, .bool v.y.all, .int .i64 v.z.lo, .int .i64 v.z.hi, .bool v.z.all], 34)]) (by kernel_rfl) (by kernel_rfl) (by rfl) (by decide) (by rfl) hM ?_ ?_
 ·
  intro i hl hi uu ww aa hJ hd hev hin
  clear hM
  obtain rfl | rfl | rfl | rfl | rfl | rfl | rfl | rfl : i = 0 ∨ i = 1 ∨ i = 2 ∨ i = 3 ∨ i = 4 ∨ i = 5 ∨ i = 6 ∨ i = 7 := by omega
  ·
   have x10 : aa.tmps[10]? = some (.int .i64 0) := (hev 10 (by decide)).trans rfl
   clear hd hev hin
   simp only [List.getElem_cons_succ, List.getElem_cons_zero]
   clear hl
   refine .inr ⟨rfl, fun K' hK => ?_⟩
   have HK := Lib.hid hK
   clear hK
   go_simp
   exact HK.out (.int .i64 0) _ hJ rfl veL_same
  ·
   have x4 : aa.tmps[4]? = some (.pointer (some ⟨bk1, 0, none⟩)) := (hev 4 (by decide)).trans rfl
   have x24 : aa.tmps[24]? = some (.int .i64 0) := (hin 0 24 rfl).trans (congrArg some (show uu 0 = .int .i64 0 from hd 0 (by decide) (by kernel_rfl)))
   clear hd hev hin
   simp only [List.getElem_cons_succ, List.getElem_cons_zero]
   clear hl
   refine .inr ⟨rfl, fun K' hK => ?_⟩
   have HK := Lib.hid hK
   clear hK
   go_simp
   exact HK.out (.pointer (some ⟨bk1, 0, none⟩)) _ hJ rfl veL_same
  ·
   have x25 : aa.tmps[25]? = some (.pointer (some ⟨bk1, 0, none⟩)) := (hin 1 25 rfl).trans (congrArg some (show uu 1 = .pointer (some ⟨bk1, 0, none⟩) from hd 1 (by decide) (by kernel_rfl)))
   clear hd hev hin
   simp only [List.getElem_cons_succ, List.getElem_cons_zero]
   clear hl
   refine .inr ⟨rfl, fun K' hK => ?_⟩
   have HK := Lib.hid hK
   clear hK
   have f0 : ww.cell? ⟨bk1, 0, none⟩ = some (.int .i64 v.x.lo) := hJ.es.cell 3 rfl 0 rfl
   have f1 : ww.cell? ⟨bk1, 1, none⟩ = some (.int .i64 v.x.hi) := hJ.es.cell 3 rfl 1 rfl
   have f2 : ww.cell? ⟨bk1, 2, none⟩ = some (.bool v.x.all) := hJ.es.cell 3 rfl 2 rfl
   go_simp
   exact HK.out (.agg #[.int .i64 v.x.lo, .int .i64 v.x.hi, .bool v.x.all]) _ hJ rfl veL_same
  ·
   have x10 : aa.tmps[10]? = some (.int .i64 0) := (hev 10 (by decide)).trans rfl
   clear hd hev hin
   simp only [List.getElem_cons_succ, List.getElem_cons_zero]
   clear hl
   refine .inr ⟨rfl, fun K' hK => ?_⟩
   have HK := Lib.hid hK
   clear hK
   go_simp
   exact HK.out (.int .i64 0) _ hJ rfl veL_same
  ·
   have x6 : aa.tmps[6]? = some (.pointer (some ⟨bk3, 0, none⟩)) := (hev 6 (by decide)).trans rfl
   have x27 : aa.tmps[27]? = some (.int .i64 0) := (hin 3 27 rfl).trans (congrArg some (show uu 3 = .int .i64 0 from hd 3 (by decide) (by kernel_rfl)))
   clear hd hev hin
   simp only [List.getElem_cons_succ, List.getElem_cons_zero]
   clear hl
   refine .inr ⟨rfl, fun K' hK => ?_⟩
   have HK := Lib.hid hK
   clear hK
   go_simp
   exact HK.out (.pointer (some ⟨bk3, 0, none⟩)) _ hJ rfl veL_same
  ·
   have x28 : aa.tmps[28]? = some (.pointer (some ⟨bk3, 0, none⟩)) := (hin 4 28 rfl).trans (congrArg some (show uu 4 = .pointer (some ⟨bk3, 0, none⟩) from hd 4 (by decide) (by kernel_rfl)))
   clear hd hev hin
   simp only [List.getElem_cons_succ, List.getElem_cons_zero]
   clear hl
   refine .inr ⟨rfl, fun K' hK => ?_⟩
   have HK := Lib.hid hK
   clear hK
   have f0 : ww.cell? ⟨bk3, 0, none⟩ = some (.int .i64 a0) := hJ.es.cell 1 rfl 0 rfl
   go_simp
   exact HK.out (.int .i64 a0) _ hJ rfl veL_same
  ·
   have x26 : aa.tmps[26]? = some (.agg #[.int .i64 v.x.lo, .int .i64 v.x.hi, .bool v.x.all]) := (hin 2 26 rfl).trans (congrArg some (show uu 2 = .agg #[.int .i64 v.x.lo, .int .i64 v.x.hi, .bool v.x.all] from hd 2 (by decide) (by kernel_rfl)))
   have x29 : aa.tmps[29]? = some (.int .i64 a0) := (hin 5 29 rfl).trans (congrArg some (show uu 5 = .int .i64 a0 from hd 5 (by decide) (by kernel_rfl)))
   clear hd hev hin
   simp only [List.getElem_cons_succ, List.getElem_cons_zero]
   clear hl
   refine .inr ⟨rfl, fun K' hK => ?_⟩
   have HK := Lib.hid hK
   clear hK
   go_simp
   refine (Hp0.out ww).mono ?_
   rintro e W' ⟨rfl, hB⟩
   exact HK.out (.bool true) _ (hJ.later hB) rfl (veL_later hB)
  ·
   have x30 : aa.tmps[30]? = some (.bool true) := (hin 6 30 rfl).trans (congrArg some (show uu 6 = .bool true from hd 6 (by decide) (by kernel_rfl)))
   clear hd hev hin
   simp only [List.getElem_cons_succ, List.getElem_cons_zero]
   clear hl
   refine .inr ⟨rfl, fun K' hK => ?_⟩
   have HK := Lib.hid hK
   clear hK
   go_simp
   exact HK.out (.bool true) _ hJ rfl veL_same
 clear hM
 intro uu W6 hJm hd
 have e_0 : uu 0 = .int .i64 0 := hd 0 (by decide)
 have e_1 : uu 1 = .pointer (some ⟨bk1, 0, none⟩) := hd 1 (by decide)
 have e_2 : uu 2 = .agg #[.int .i64 v.x.lo, .int .i64 v.x.hi, .bool v.x.all] := hd 2 (by decide)
 have e_3 : uu 3 = .int .i64 0 := hd 3 (by decide)
 have e_4 : uu 4 = .pointer (some ⟨bk3, 0, none⟩) := hd 4 (by decide)
 have e_5 : uu 5 = .int .i64 a0 := hd 5 (by decide)
 have e_6 : uu 6 = .bool true := hd 6 (by decide)
 have e_7 : uu 7 = .bool true := hd 7 (by decide)
 clear hd
 simp only [layS, Act.put, List.setIfInBounds_toArray, List.set_cons_succ, List.set_cons_zero, Nat.zero_add, Nat.reduceAdd, List.drop_succ_cons, List.drop_zero, List.drop_nil, e_0, e_1, e_2, e_3, e_4, e_5, e_6, e_7]
 clear e_0 e_1 e_2 e_3 e_4 e_5 e_6 e_7
 have hJ6 := hJm.es
 clear hJm
 go_wp2
 obtain ⟨m6_6, hm⟩ : ∃ m, m = W6.heap.size := ⟨_, rfl⟩
 have hM := hJ6.em
 rw [← hm] at hM
 clear hm hJ6
 refine wp_region_z 8 [some 31, some 32, some 33, some 34, some 35, some 36, some 37, some 12] (veL m6_6 [.eq (.int .i64 0), .eq (.pointer (some ⟨bk2, 0, none⟩)), .eq (.agg #[.int .i64 u.x.lo, .int .i64 u.x.hi, .bool u.x.all]), .eq (.int .i64 0), .eq (.pointer (some ⟨bk4, 0, none⟩)), .eq (.int .i64 b0), .eq (.bool true), .eq (.bool true)]) (Em w m6_6 [(bk4, #[.int .i64 b0, .int .i64 b1, .int .i64 b2], 46), (bk3, #[.int .i64 a0, .int .i64 a1, .int .i64 a2], 46), (bk2, #[.int .i64 u.x.lo, .int .i64 u.x.hi, .bool u.x.all, .int .i64 u.y.lo, .int .i64 u.y.hi, .bool u.y.all, .int .i64 u.z.lo, .int .i64 u.z.hi, .bool u.z.all], 34), (bk1, #[.int .i64 v.x.lo, .int .i64 v.x.hi, .bool v.x.all, .int .i64 v.y.lo, .int .i64 v.y.hi, .bool v.y.all, .int .i64 v.z.lo, .int .i64 v.z.hi, .bool v.z.all], 34)]) (by kernel_rfl) (by kernel_rfl) (by rfl) (by decide) (by rfl) hM ?_ ?_
 ·
  intro i hl hi uu ww aa hJ hd hev hin
  clear hM
  obtain rfl | rfl | rfl | rfl | rfl | rfl | rfl | rfl : i = 0 ∨ i = 1 ∨ i = 2 ∨ i = 3 ∨ i = 4 ∨ i = 5 ∨ i = 6 ∨ i = 7 := by omega
  ·
   have x10 : aa.tmps[10]? = some (.int .i64 0) := (hev 10 (by decide)).trans rfl
   clear hd hev hin
   simp only [List.getElem_cons_succ, List.getElem_cons_zero]
   clear hl
   refine .inr ⟨rfl, fun K' hK => ?_⟩
   have HK := Lib.hid hK
   clear hK
   go_simp
   exact HK.out (.int .i64 0) _ hJ rfl veL_same
  ·
   have x5 : aa.tmps[5]? = some (.pointer (some ⟨bk2, 0, none⟩)) := (hev 5 (by decide)).trans rfl
   have x31 : aa.tmps[31]? = some (.int .i64 0) := (hin 0 31 rfl).trans (congrArg some (show uu 0 = .int .i64 0 from hd 0 (by decide) (by kernel_rfl)))
   clear hd hev hin
   simp only [List.getElem_cons_succ, List.getElem_cons_zero]
   clear hl
   refine .inr ⟨rfl, fun K' hK => ?_⟩
   have HK := Lib.hid hK
   clear hK
   go_simp
   exact HK.out (.pointer (some ⟨bk2, 0, none⟩)) _ hJ rfl veL_same
  ·
   have x32 : aa.tmps[32]? = some (.pointer (some ⟨bk2, 0, none⟩)) := (hin 1 32 rfl).trans (congrArg some (show uu 1 = .pointer (some ⟨bk2, 0, none⟩) from hd 1 (by decide) (by kernel_rfl)))
   clear hd hev hin
   simp only [List.getElem_cons_succ, List.getElem_cons_zero]
   clear hl
   refine .inr ⟨rfl, fun K' hK => ?_⟩
   have HK := Lib.hid hK
   clear hK
   have f0 : ww.cell? ⟨bk2, 0, none⟩ = some (.int .i64 u.x.lo) := hJ.es.cell 2 rfl 0 rfl
   have f1 : ww.cell? ⟨bk2, 1, none⟩ = some (.int .i64 u.x.hi) := hJ.es.cell 2 rfl 1 rfl
   have f2 : ww.cell? ⟨bk2, 2, none⟩ = some (.bool u.x.all) := hJ.es.cell 2 rfl 2 rfl
   go_simp
   exact HK.out (.agg #[.int .i64 u.x.lo, .int .i64 u.x.hi, .bool u.x.all]) _ hJ rfl veL_same
  ·
   have x10 : aa.tmps[10]? = some (.int .i64 0) := (hev 10 (by decide)).trans rfl
   clear hd hev hin
   simp only [List.getElem_cons_succ, List.getElem_cons_zero]
   clear hl
   refine .inr ⟨rfl, fun K' hK => ?_⟩
   have HK := Lib.hid hK
   clear hK
   go_simp
   exact HK.out (.int .i64 0) _ hJ rfl veL_same
  ·
   have x7 : aa.tmps[7]? = some (.pointer (some ⟨bk4, 0, none⟩)) := (hev 7 (by decide)).trans rfl
   have x34 : aa.tmps[34]? = some (.int .i64 0) := (hin 3 34 rfl).trans (congrArg some (show uu 3 = .int .i64 0 from hd 3 (by decide) (by kernel_rfl)))
   clear hd hev hin
   simp only [List.getElem_cons_succ, List.getElem_cons_zero]
   clear hl
   refine .inr ⟨rfl, fun K' hK => ?_⟩
   have HK := Lib.hid hK
   clear hK
   go_simp
   exact HK.out (.pointer (some ⟨bk4, 0, none⟩)) _ hJ rfl veL_same
  ·
   have x35 : aa.tmps[35]? = some (.pointer (some ⟨bk4, 0, none⟩)) := (hin 4 35 rfl).trans (congrArg some (show uu 4 = .pointer (some ⟨bk4, 0, none⟩) from hd 4 (by decide) (by kernel_rfl)))
   clear hd hev hin
   simp only [List.getElem_cons_succ, List.getElem_cons_zero]
   clear hl
   refine .inr ⟨rfl, fun K' hK => ?_⟩
   have HK := Lib.hid hK
   clear hK
   have f0 : ww.cell? ⟨bk4, 0, none⟩ = some (.int .i64 b0) := hJ.es.cell 0 rfl 0 rfl
   go_simp
   exact HK.out (.int .i64 b0) _ hJ rfl veL_same
  ·
   have x33 : aa.tmps[33]? = some (.agg #[.int .i64 u.x.lo, .int .i64 u.x.hi, .bool u.x.all]) := (hin 2 33 rfl).trans (congrArg some (show uu 2 = .agg #[.int .i64 u.x.lo, .int .i64 u.x.hi, .bool u.x.all] from hd 2 (by decide) (by kernel_rfl)))
   have x36 : aa.tmps[36]? = some (.int .i64 b0) := (hin 5 36 rfl).trans (congrArg some (show uu 5 = .int .i64 b0 from hd 5 (by decide) (by kernel_rfl)))
   clear hd hev hin
   simp only [List.getElem_cons_succ, List.getElem_cons_zero]
   clear hl
   refine .inr ⟨rfl, fun K' hK => ?_⟩
   have HK := Lib.hid hK
   clear hK
   go_simp
   refine (Hq0.out ww).mono ?_
   rintro e W' ⟨rfl, hB⟩
   exact HK.out (.bool true) _ (hJ.later hB) rfl (veL_later hB)
  ·
   have x37 : aa.tmps[37]? = some (.bool true) := (hin 6 37 rfl).trans (congrArg some (show uu 6 = .bool true from hd 6 (by decide) (by kernel_rfl)))
   clear hd hev hin
   simp only [List.getElem_cons_succ, List.getElem_cons_zero]
   clear hl
   refine .inr ⟨rfl, fun K' hK => ?_⟩
   have HK := Lib.hid hK
   clear hK
   go_simp
   exact HK.out (.bool true) _ hJ rfl veL_same
 clear hM
 intro uu W7 hJm hd
 have e_0 : uu 0 = .int .i64 0 := hd 0 (by decide)
 have e_1 : uu 1 = .pointer (some ⟨bk2, 0, none⟩) := hd 1 (by decide)
 have e_2 : uu 2 = .agg #[.int .i64 u.x.lo, .int .i64 u.x.hi, .bool u.x.all] := hd 2 (by decide)
 have e_3 : uu 3 = .int .i64 0 := hd 3 (by decide)
 have e_4 : uu 4 = .pointer (some ⟨bk4, 0, none⟩) := hd 4 (by decide)
 have e_5 : uu 5 = .int .i64 b0 := hd 5 (by decide)
 have e_6 : uu 6 = .bool true := hd 6 (by decide)
 have e_7 : uu 7 = .bool true := hd 7 (by decide)
 clear hd
 simp only [layS, Act.put, List.setIfInBounds_toArray, List.set_cons_succ, List.set_cons_zero, Nat.zero_add, Nat.reduceAdd, List.drop_succ_cons, List.drop_zero, List.drop_nil, e_0, e_1, e_2, e_3, e_4, e_5, e_6, e_7]
 clear e_0 e_1 e_2 e_3 e_4 e_5 e_6 e_7
 have hJ7 := hJm.es
 clear hJm
 have f0 : W7.cell? ⟨bk3, 0, none⟩ = some (.int .i64 a0) := hJ7.cell 1 rfl 0 rfl
 have f1 : W7.cell? ⟨bk4, 0, none⟩ = some (.int .i64 b0) := hJ7.cell 0 rfl 0 rfl
 go_wp2
 clear f0 f1
 rw [rounds_succ]
 go_wp2
 obtain ⟨m5_7, hm⟩ : ∃ m, m = W7.heap.size := ⟨_, rfl⟩
 have hM := hJ7.em
 rw [← hm] at hM
 clear hm hJ7
 refine wp_region_z 8 [some 24, some 25, some 26, some 27, some 28, some 29, some 30, some 11] (veL m5_7 [.eq (.int .i64 1), .eq (.pointer (some ⟨bk1, 3, none⟩)), .eq (.agg #[.int .i64 v.y.lo, .int .i64 v.y.hi, .bool v.y.all]), .eq (.int .i64 1), .eq (.pointer (some ⟨bk3, 1, none⟩)), .eq (.int .i64 a1), .eq (.bool true), .eq (.bool true)]) (Em w m5_7 [(bk4, #[.int .i64 b0, .int .i64 b1, .int .i64 b2], 46), (bk3, #[.int .i64 a0, .int .i64 a1, .int .i64 a2], 46), (bk2, #[.int .i64 u.x.lo, .int .i64 u.x.hi, .bool u.x.all, .int .i64 u.y.lo, .int .i64 u.y.hi, .bool u.y.all, .int .i64 u.z.lo, .int .i64 u.z.hi, .bool u.z.all], 34), (bk1, #[.int .i64 v.x.lo, .int .i64 v.x.hi, .bool v.x.all, .int .i64 v.y.lo, .int .i64 v.y.hi, .bool v.y.all, .int .i64 v.z.lo, .int .i64 v.z.hi, .bool v.z.all], 34)]) (by kernel_rfl) (by kernel_rfl) (by rfl) (by decide) (by rfl) hM ?_ ?_
 ·
  intro i hl hi uu ww aa hJ hd hev hin
  clear hM
  obtain rfl | rfl | rfl | rfl | rfl | rfl | rfl | rfl : i = 0 ∨ i = 1 ∨ i = 2 ∨ i = 3 ∨ i = 4 ∨ i = 5 ∨ i = 6 ∨ i = 7 := by omega
  ·
   have x10 : aa.tmps[10]? = some (.int .i64 1) := (hev 10 (by decide)).trans rfl
   clear hd hev hin
   simp only [List.getElem_cons_succ, List.getElem_cons_zero]
   clear hl
   refine .inr ⟨rfl, fun K' hK => ?_⟩
   have HK := Lib.hid hK
   clear hK
   go_simp
   exact HK.out (.int .i64 1) _ hJ rfl veL_same
  ·
   have x4 : aa.tmps[4]? = some (.pointer (some ⟨bk1, 0, none⟩)) := (hev 4 (by decide)).trans rfl
   have x24 : aa.tmps[24]? = some (.int .i64 1) := (hin 0 24 rfl).trans (congrArg some (show uu 0 = .int .i64 1 from hd 0 (by decide) (by kernel_rfl)))
   clear hd hev hin
   simp only [List.getElem_cons_succ, List.getElem_cons_zero]
   clear hl
   refine .inr ⟨rfl, fun K' hK => ?_⟩
   have HK := Lib.hid hK
   clear hK
   go_simp
   exact HK.out (.pointer (some ⟨bk1, 3, none⟩)) _ hJ rfl veL_same
  ·
   have x25 : aa.tmps[25]? = some (.pointer (some ⟨bk1, 3, none⟩)) := (hin 1 25 rfl).trans (congrArg some (show uu 1 = .pointer (some ⟨bk1, 3, none⟩) from hd 1 (by decide) (by kernel_rfl)))
   clear hd hev hin
   simp only [List.getElem_cons_succ, List.getElem_cons_zero]
   clear hl
   refine .inr ⟨rfl, fun K' hK => ?_⟩
   have HK := Lib.hid hK
   clear hK
   have f0 : ww.cell? ⟨bk1, 3, none⟩ = some (.int .i64 v.y.lo) := hJ.es.cell 3 rfl 3 rfl
   have f1 : ww.cell? ⟨bk1, 4, none⟩ = some (.int .i64 v.y.hi) := hJ.es.cell 3 rfl 4 rfl
   have f2 : ww.cell? ⟨bk1, 5, none⟩ = some (.bool v.y.all) := hJ.es.cell 3 rfl 5 rfl
   go_simp
   exact HK.out (.agg #[.int .i64 v.y.lo, .int .i64 v.y.hi, .bool v.y.all]) _ hJ rfl veL_same
  ·
   have x10 : aa.tmps[10]? = some (.int .i64 1) := (hev 10 (by decide)).trans rfl
   clear hd hev hin
   simp only [List.getElem_cons_succ, List.getElem_cons_zero]
   clear hl
   refine .inr ⟨rfl, fun K' hK => ?_⟩
   have HK := Lib.hid hK
   clear hK
   go_simp
   exact HK.out (.int .i64 1) _ hJ rfl veL_same
  ·
   have x6 : aa.tmps[6]? = some (.pointer (some ⟨bk3, 0, none⟩)) := (hev 6 (by decide)).trans rfl
   have x27 : aa.tmps[27]? = some (.int .i64 1) := (hin 3 27 rfl).trans (congrArg some (show uu 3 = .int .i64 1 from hd 3 (by decide) (by kernel_rfl)))
   clear hd hev hin
   simp only [List.getElem_cons_succ, List.getElem_cons_zero]
   clear hl
   refine .inr ⟨rfl, fun K' hK => ?_⟩
   have HK := Lib.hid hK
   clear hK
   go_simp
   exact HK.out (.pointer (some ⟨bk3, 1, none⟩)) _ hJ rfl veL_same
  ·
   have x28 : aa.tmps[28]? = some (.pointer (some ⟨bk3, 1, none⟩)) := (hin 4 28 rfl).trans (congrArg some (show uu 4 = .pointer (some ⟨bk3, 1, none⟩) from hd 4 (by decide) (by kernel_rfl)))
   clear hd hev hin
   simp only [List.getElem_cons_succ, List.getElem_cons_zero]
   clear hl
   refine .inr ⟨rfl, fun K' hK => ?_⟩
   have HK := Lib.hid hK
   clear hK
   have f0 : ww.cell? ⟨bk3, 1, none⟩ = some (.int .i64 a1) := hJ.es.cell 1 rfl 1 rfl
   go_simp
   exact HK.out (.int .i64 a1) _ hJ rfl veL_same
  ·
   have x26 : aa.tmps[26]? = some (.agg #[.int .i64 v.y.lo, .int .i64 v.y.hi, .bool v.y.all]) := (hin 2 26 rfl).trans (congrArg some (show uu 2 = .agg #[.int .i64 v.y.lo, .int .i64 v.y.hi, .bool v.y.all] from hd 2 (by decide) (by kernel_rfl)))
   have x29 : aa.tmps[29]? = some (.int .i64 a1) := (hin 5 29 rfl).trans (congrArg some (show uu 5 = .int .i64 a1 from hd 5 (by decide) (by kernel_rfl)))
   clear hd hev hin
   simp only [List.getElem_cons_succ, List.getElem_cons_zero]
   clear hl
   refine .inr ⟨rfl, fun K' hK => ?_⟩
   have HK := Lib.hid hK
   clear hK
   go_simp
   refine (Hp1.out ww).mono ?_
   rintro e W' ⟨rfl, hB⟩
   exact HK.out (.bool true) _ (hJ.later hB) rfl (veL_later hB)
  ·
   have x30 : aa.tmps[30]? = some (.bool true) := (hin 6 30 rfl).trans (congrArg some (show uu 6 = .bool true from hd 6 (by decide) (by kernel_rfl)))
   clear hd hev hin
   simp only [List.getElem_cons_succ, List.getElem_cons_zero]
   clear hl
   refine .inr ⟨rfl, fun K' hK => ?_⟩
   have HK := Lib.hid hK
   clear hK
   go_simp
   exact HK.out (.bool true) _ hJ rfl veL_same
 clear hM
 intro uu W8 hJm hd
 have e_0 : uu 0 = .int .i64 1 := hd 0 (by decide)
 have e_1 : uu 1 = .pointer (some ⟨bk1, 3, none⟩) := hd 1 (by decide)
 have e_2 : uu 2 = .agg #[.int .i64 v.y.lo, .int .i64 v.y.hi, .bool v.y.all] := hd 2 (by decide)
 have e_3 : uu 3 = .int .i64 1 := hd 3 (by decide)
 have e_4 : uu 4 = .pointer (some ⟨bk3, 1, none⟩) := hd 4 (by decide)
 have e_5 : uu 5 = .int .i64 a1 := hd 5 (by decide)
 have e_6 : uu 6 = .bool true := hd 6 (by decide)
 have e_7 : uu 7 = .bool true := hd 7 (by decide)
 clear hd
 simp only [layS, Act.put, List.setIfInBounds_toArray, List.set_cons_succ, List.set_cons_zero, Nat.zero_add, Nat.reduceAdd, List.drop_succ_cons, List.drop_zero, List.drop_nil, e_0, e_1, e_2, e_3, e_4, e_5, e_6, e_7]
 clear e_0 e_1 e_2 e_3 e_4 e_5 e_6 e_7
 have hJ8 := hJm.es
 clear hJm
 go_wp2
 obtain ⟨m6_8, hm⟩ : ∃ m, m = W8.heap.size := ⟨_, rfl⟩
 have hM := hJ8.em
 rw [← hm] at hM
 clear hm hJ8
 refine wp_region_z 8 [some 31, some 32, some 33, some 34, some 35, some 36, some 37, some 12] (veL m6_8 [.eq (.int .i64 1), .eq (.pointer (some ⟨bk2, 3, none⟩)), .eq (.agg #[.int .i64 u.y.lo, .int .i64 u.y.hi, .bool u.y.all]), .eq (.int .i64 1), .eq (.pointer (some ⟨bk4, 1, none⟩)), .eq (.int .i64 b1), .eq (.bool true), .eq (.bool true)]) (Em w m6_8 [(bk4, #[.int .i64 b0, .int .i64 b1, .int .i64 b2], 46), (bk3, #[.int .i64 a0, .int .i64 a1, .int .i64 a2], 46), (bk2, #[.int .i64 u.x.lo, .int .i64 u.x.hi, .bool u.x.all, .int .i64 u.y.lo, .int .i64 u.y.hi, .bool u.y.all, .int .i64 u.z.lo, .int .i64 u.z.hi, .bool u.z.all], 34), (bk1, #[.int .i64 v.x.lo, .int .i64 v.x.hi, .bool v.x.all, .int .i64 v.y.lo, .int .i64 v.y.hi, .bool v.y.all, .int .i64 v.z.lo, .int .i64 v.z.hi, .bool v.z.all], 34)]) (by kernel_rfl) (by kernel_rfl) (by rfl) (by decide) (by rfl) hM ?_ ?_
 ·
  intro i hl hi uu ww aa hJ hd hev hin
  clear hM
  obtain rfl | rfl | rfl | rfl | rfl | rfl | rfl | rfl : i = 0 ∨ i = 1 ∨ i = 2 ∨ i = 3 ∨ i = 4 ∨ i = 5 ∨ i = 6 ∨ i = 7 := by omega
  ·
   have x10 : aa.tmps[10]? = some (.int .i64 1) := (hev 10 (by decide)).trans rfl
   clear hd hev hin
   simp only [List.getElem_cons_succ, List.getElem_cons_zero]
   clear hl
   refine .inr ⟨rfl, fun K' hK => ?_⟩
   have HK := Lib.hid hK
   clear hK
   go_simp
   exact HK.out (.int .i64 1) _ hJ rfl veL_same
  ·
   have x5 : aa.tmps[5]? = some (.pointer (some ⟨bk2, 0, none⟩)) := (hev 5 (by decide)).trans rfl
   have x31 : aa.tmps[31]? = some (.int .i64 1) := (hin 0 31 rfl).trans (congrArg some (show uu 0 = .int .i64 1 from hd 0 (by decide) (by kernel_rfl)))
   clear hd hev hin
   simp only [List.getElem_cons_succ, List.getElem_cons_zero]
   clear hl
   refine .inr ⟨rfl, fun K' hK => ?_⟩
   have HK := Lib.hid hK
   clear hK
   go_simp
   exact HK.out (.pointer (some ⟨bk2, 3, none⟩)) _ hJ rfl veL_same
  ·
   have x32 : aa.tmps[32]? = some (.pointer (some ⟨bk2, 3, none⟩)) := (hin 1 32 rfl).trans (congrArg some (show uu 1 = .pointer (some ⟨bk2, 3, none⟩) from hd 1 (by decide) (by kernel_rfl)))
   clear hd hev hin
   simp only [List.getElem_cons_succ, List.getElem_cons_zero]
   clear hl
   refine .inr ⟨rfl, fun K' hK => ?_⟩
   have HK := Lib.hid hK
   clear hK
   have f0 : ww.cell? ⟨bk2, 3, none⟩ = some (.int .i64 u.y.lo) := hJ.es.cell 2 rfl 3 rfl
   have f1 : ww.cell? ⟨bk2, 4, none⟩ = some (.int .i64 u.y.hi) := hJ.es.cell 2 rfl 4 rfl
   have f2 : ww.cell? ⟨bk2, 5, none⟩ = some (.bool u.y.all) := hJ.es.cell 2 rfl 5 rfl
   go_simp
   exact HK.out (.agg #[.int .i64 u.y.lo, .int .i64 u.y.hi, .bool u.y.all]) _ hJ rfl veL_same
  ·
   have x10 : aa.tmps[10]? = some (.int .i64 1) := (hev 10 (by decide)).trans rfl
   clear hd hev hin
   simp only [List.getElem_cons_succ, List.getElem_cons_zero]
   clear hl
   refine .inr ⟨rfl, fun K' hK => ?_⟩
   have HK := Lib.hid hK
   clear hK
   go_simp
   exact HK.out (.int .i64 1) _ hJ rfl veL_same
  ·
   have x7 : aa.tmps[7]? = some (.pointer (some ⟨bk4, 0, none⟩)) := (hev 7 (by decide)).trans rfl
   have x34 : aa.tmps[34]? = some (.int .i64 1) := (hin 3 34 rfl).trans (congrArg some (show uu 3 = .int .i64 1 from hd 3 (by decide) (by kernel_rfl)))
   clear hd hev hin
   simp only [List.getElem_cons_succ, List.getElem_cons_zero]
   clear hl
   refine .inr ⟨rfl, fun K' hK => ?_⟩
   have HK := Lib.hid hK
   clear hK
   go_simp
   exact HK.out (.pointer (some ⟨bk4, 1, none⟩)) _ hJ rfl veL_same
  ·
   have x35 : aa.tmps[35]? = some (.pointer (some ⟨bk4, 1, none⟩)) := (hin 4 35 rfl).trans (congrArg some (show uu 4 = .pointer (some ⟨bk4, 1, none⟩) from hd 4 (by decide) (by kernel_rfl)))
   clear hd hev hin
   simp only [List.getElem_cons_succ, List.getElem_cons_zero]
   clear hl
   refine .inr ⟨rfl, fun K' hK => ?_⟩
   have HK := Lib.hid hK
   clear hK
   have f0 : ww.cell? ⟨bk4, 1, none⟩ = some (.int .i64 b1) := hJ.es.cell 0 rfl 1 rfl
   go_simp
   exact HK.out (.int .i64 b1) _ hJ rfl veL_same
  ·
   have x33 : aa.tmps[33]? = some (.agg #[.int .i64 u.y.lo, .int .i64 u.y.hi, .bool u.y.all]) := (hin 2 33 rfl).trans (congrArg some (show uu 2 = .agg #[.int .i64 u.y.lo, .int .i64 u.y.hi, .bool u.y.all] from hd 2 (by decide) (by kernel_rfl)))
   have x36 : aa.tmps[36]? = some (.int .i64 b1) := (hin 5 36 rfl).trans (congrArg some (show uu 5 = .int .i64 b1 from hd 5 (by decide) (by kernel_rfl)))
   clear hd hev hin
   simp only [List.getElem_cons_succ, List.getElem_cons_zero]
   clear hl
   refine .inr ⟨rfl, fun K' hK => ?_⟩
   have HK := Lib.hid hK
   clear hK
   go_simp
   refine (Hq1.out ww).mono ?_
   rintro e W' ⟨rfl, hB⟩
   exact HK.out (.bool true) _ (hJ.later hB) rfl (veL_later hB)
  ·
   have x37 : aa.tmps[37]? = some (.bool true) := (hin 6 37 rfl).trans (congrArg some (show uu 6 = .bool true from hd 6 (by decide) (by kernel_rfl)))
   clear hd hev hin
   simp only [List.getElem_cons_succ, List.getElem_cons_zero]
   clear hl
   refine .inr ⟨rfl, fun K' hK => ?_⟩
   have HK := Lib.hid hK
   clear hK
   go_simp
   exact HK.out (.bool true) _ hJ rfl veL_same
 clear hM
 intro uu W9 hJm hd
 have e_0 : uu 0 = .int .i64 1 := hd 0 (by decide)
 have e_1 : uu 1 = .pointer (some ⟨bk2, 3, none⟩) := hd 1 (by decide)
 have e_2 : uu 2 = .agg #[.int .i64 u.y.lo, .int .i64 u.y.hi, .bool u.y.all] := hd 2 (by decide)
 have e_3 : uu 3 = .int .i64 1 := hd 3 (by decide)
 have e_4 : uu 4 = .pointer (some ⟨bk4, 1, none⟩) := hd 4 (by decide)
 have e_5 : uu 5 = .int .i64 b1 := hd 5 (by decide)
 have e_6 : uu 6 = .bool true := hd 6 (by decide)
 have e_7 : uu 7 = .bool true := hd 7 (by decide)
 clear hd
 simp only [layS, Act.put, List.setIfInBounds_toArray, List.set_cons_succ, List.set_cons_zero, Nat.zero_add, Nat.reduceAdd, List.drop_succ_cons, List.drop_zero, List.drop_nil, e_0, e_1, e_2, e_3, e_4, e_5, e_6, e_7]
 clear e_0 e_1 e_2 e_3 e_4 e_5 e_6 e_7
 have hJ9 := hJm.es
 clear hJm
 have f0 : W9.cell? ⟨bk3, 1, none⟩ = some (.int .i64 a1) := hJ9.cell 1 rfl 1 rfl
 have f1 : W9.cell? ⟨bk4, 1, none⟩ = some (.int .i64 b1) := hJ9.cell 0 rfl 1 rfl
 go_wp2
 clear f0 f1
 rw [rounds_succ]
 go_wp2
 obtain ⟨m5_9, hm⟩ : ∃ m, m = W9.heap.size := ⟨_, rfl⟩
 have hM := hJ9.em
 rw [← hm] at hM
 clear hm hJ9
 refine wp_region_z 8 [some 24, some 25, some 26, some 27, some 28, some 29, some 30, some 11] (veL m5_9 [.eq (.int .i64 2), .eq (.pointer (some ⟨bk1, 6, none⟩)), .eq (.agg #[.int .i64 v.z.lo, .int .i64 v.z.hi, .bool v.z.all]), .eq (.int .i64 2), .eq (.pointer (some ⟨bk3, 2, none⟩)), .eq (.int .i64 a2), .eq (.bool p), .eq (.bool p)]) (Em w m5_9 [(bk4, #[.int .i64 b0, .int .i64 b1, .int .i64 b2], 46), (bk3, #[.int .i64 a0, .int .i64 a1, .int .i64 a2], 46), (bk2, #[.int .i64 u.x.lo, .int .i64 u.x.hi, .bool u.x.all, .int .i64 u.y.lo, .int .i64 u.y.hi, .bool u.y.all, .int .i64 u.z.lo, .int .i64 u.z.hi, .bool u.z.all], 34), (bk1, #[.int .i64 v.x.lo, .int .i64 v.x.hi, .bool v.x.all, .int .i64 v.y.lo, .int .i64 v.y.hi, .bool v.y.all, .int .i64 v.z.lo, .int .i64 v.z.hi, .bool v.z.all], 34)]) (by kernel_rfl) (by kernel_rfl) (by rfl) (by decide) (by rfl) hM ?_ ?_
 ·
  intro i hl hi uu ww aa hJ hd hev hin
  clear hM
  obtain rfl | rfl | rfl | rfl | rfl | rfl | rfl | rfl : i = 0 ∨ i = 1 ∨ i = 2 ∨ i = 3 ∨ i = 4 ∨ i = 5 ∨ i = 6 ∨ i = 7 := by omega
  ·
   have x10 : aa.tmps[10]? = some (.int .i64 2) := (hev 10 (by decide)).trans rfl
   clear hd hev hin
   simp only [List.getElem_cons_succ, List.getElem_cons_zero]
   clear hl
   refine .inr ⟨rfl, fun K' hK => ?_⟩
   have HK := Lib.hid hK
   clear hK
   go_simp
   exact HK.out (.int .i64 2) _ hJ rfl veL_same
  ·
   have x4 : aa.tmps[4]? = some (.pointer (some ⟨bk1, 0, none⟩)) := (hev 4 (by decide)).trans rfl
   have x24 : aa.tmps[24]? = some (.int .i64 2) := (hin 0 24 rfl).trans (congrArg some (show uu 0 = .int .i64 2 from hd 0 (by decide) (by kernel_rfl)))
   clear hd hev hin
   simp only [List.getElem_cons_succ, List.getElem_cons_zero]
   clear hl
   refine .inr ⟨rfl, fun K' hK => ?_⟩
   have HK := Lib.hid hK
   clear hK
   go_simp
   exact HK.out (.pointer (some ⟨bk1, 6, none⟩)) _ hJ rfl veL_same
  ·
   have x25 : aa.tmps[25]? = some (.pointer (some ⟨bk1, 6, none⟩)) := (hin 1 25 rfl).trans (congrArg some (show uu 1 = .pointer (some ⟨bk1, 6, none⟩) from hd 1 (by decide) (by kernel_rfl)))
   clear hd hev hin
   simp only [List.getElem_cons_succ, List.getElem_cons_zero]
   clear hl
   refine .inr ⟨rfl, fun K' hK => ?_⟩
   have HK := Lib.hid hK
   clear hK
   have f0 : ww.cell? ⟨bk1, 6, none⟩ = some (.int .i64 v.z.lo) := hJ.es.cell 3 rfl 6 rfl
   have f1 : ww.cell? ⟨bk1, 7, none⟩ = some (.int .i64 v.z.hi) := hJ.es.cell 3 rfl 7 rfl
   have f2 : ww.cell? ⟨bk1, 8, none⟩ = some (.bool v.z.all) := hJ.es.cell 3 rfl 8 rfl
   go_simp
   exact HK.out (.agg #[.int .i64 v.z.lo, .int .i64 v.z.hi, .bool v.z.all]) _ hJ rfl veL_same
  ·
   have x10 : aa.tmps[10]? = some (.int .i64 2) := (hev 10 (by decide)).trans rfl
   clear hd hev hin
   simp only [List.getElem_cons_succ, List.getElem_cons_zero]
   clear hl
   refine .inr ⟨rfl, fun K' hK => ?_⟩
   have HK := Lib.hid hK
   clear hK
   go_simp
   exact HK.out (.int .i64 2) _ hJ rfl veL_same
  ·
   have x6 : aa.tmps[6]? = some (.pointer (some ⟨bk3, 0, none⟩)) := (hev 6 (by decide)).trans rfl
   have x27 : aa.tmps[27]? = some (.int .i64 2) := (hin 3 27 rfl).trans (congrArg some (show uu 3 = .int .i64 2 from hd 3 (by decide) (by kernel_rfl)))
   clear hd hev hin
   simp only [List.getElem_cons_succ, List.getElem_cons_zero]
   clear hl
   refine .inr ⟨rfl, fun K' hK => ?_⟩
   have HK := Lib.hid hK
   clear hK
   go_simp
   exact HK.out (.pointer (some ⟨bk3, 2, none⟩)) _ hJ rfl veL_same
  ·
   have x28 : aa.tmps[28]? = some (.pointer (some ⟨bk3, 2, none⟩)) := (hin 4 28 rfl).trans (congrArg some (show uu 4 = .pointer (some ⟨bk3, 2, none⟩) from hd 4 (by decide) (by kernel_rfl)))
   clear hd hev hin
   simp only [List.getElem_cons_succ, List.getElem_cons_zero]
   clear hl
   refine .inr ⟨rfl, fun K' hK => ?_⟩
   have HK := Lib.hid hK
   clear hK
   have f0 : ww.cell? ⟨bk3, 2, none⟩ = some (.int .i64 a2) := hJ.es.cell 1 rfl 2 rfl
   go_simp
   exact HK.out (.int .i64 a2) _ hJ rfl veL_same
  ·
   have x26 : aa.tmps[26]? = some (.agg #[.int .i64 v.z.lo, .int .i64 v.z.hi, .bool v.z.all]) := (hin 2 26 rfl).trans (congrArg some (show uu 2 = .agg #[.int .i64 v.z.lo, .int .i64 v.z.hi, .bool v.z.all] from hd 2 (by decide) (by kernel_rfl)))
   have x29 : aa.tmps[29]? = some (.int .i64 a2) := (hin 5 29 rfl).trans (congrArg some (show uu 5 = .int .i64 a2 from hd 5 (by decide) (by kernel_rfl)))
   clear hd hev hin
   simp only [List.getElem_cons_succ, List.getElem_cons_zero]
   clear hl
   refine .inr ⟨rfl, fun K' hK => ?_⟩
   have HK := Lib.hid hK
   clear hK
   go_simp
   refine (Hp2.out ww).mono ?_
   rintro e W' ⟨rfl, hB⟩
   exact HK.out (.bool p) _ (hJ.later hB) rfl (veL_later hB)
  ·
   have x30 : aa.tmps[30]? = some (.bool p) := (hin 6 30 rfl).trans (congrArg some (show uu 6 = .bool p from hd 6 (by decide) (by kernel_rfl)))
   clear hd hev hin
   simp only [List.getElem_cons_succ, List.getElem_cons_zero]
   clear hl
   refine .inr ⟨rfl, fun K' hK => ?_⟩
   have HK := Lib.hid hK
   clear hK
   go_simp
   exact HK.out (.bool p) _ hJ rfl veL_same
 clear hM
 intro uu W10 hJm hd
 have e_0 : uu 0 = .int .i64 2 := hd 0 (by decide)
 have e_1 : uu 1 = .pointer (some ⟨bk1, 6, none⟩) := hd 1 (by decide)
 have e_2 : uu 2 = .agg #[.int .i64 v.z.lo, .int .i64 v.z.hi, .bool v.z.all] := hd 2 (by decide)
 have e_3 : uu 3 = .int .i64 2 := hd 3 (by decide)
 have e_4 : uu 4 = .pointer (some ⟨bk3, 2, none⟩) := hd 4 (by decide)
 have e_5 : uu 5 = .int .i64 a2 := hd 5 (by decide)
 have e_6 : uu 6 = .bool p := hd 6 (by decide)
 have e_7 : uu 7 = .bool p := hd 7 (by decide)
 clear hd
 simp only [layS, Act.put, List.setIfInBounds_toArray, List.set_cons_succ, List.set_cons_zero, Nat.zero_add, Nat.reduceAdd, List.drop_succ_cons, List.drop_zero, List.drop_nil, e_0, e_1, e_2, e_3, e_4, e_5, e_6, e_7]
 clear e_0 e_1 e_2 e_3 e_4 e_5 e_6 e_7
 have hJ10 := hJm.es
 clear hJm
 go_wp2
 obtain ⟨m6_10, hm⟩ : ∃ m, m = W10.heap.size := ⟨_, rfl⟩
 have hM := hJ10.em
 rw [← hm] at hM
 clear hm hJ10
 refine wp_region_z 8 [some 31, some 32, some 33, some 34, some 35, some 36, some 37, some 12] (veL m6_10 [.eq (.int .i64 2), .eq (.pointer (some ⟨bk2, 6, none⟩)), .eq (.agg #[.int .i64 u.z.lo, .int .i64 u.z.hi, .bool u.z.all]), .eq (.int .i64 2), .eq (.pointer (some ⟨bk4, 2, none⟩)), .eq (.int .i64 b2), .eq (.bool q), .eq (.bool q)]) (Em w m6_10 [(bk4, #[.int .i64 b0, .int .i64 b1, .int .i64 b2], 46), (bk3, #[.int .i64 a0, .int .i64 a1, .int .i64 a2], 46), (bk2, #[.int .i64 u.x.lo, .int .i64 u.x.hi, .bool u.x.all, .int .i64 u.y.lo, .int .i64 u.y.hi, .bool u.y.all, .int .i64 u.z.lo, .int .i64 u.z.hi, .bool u.z.all], 34), (bk1, #[.int .i64 v.x.lo, .int .i64 v.x.hi, .bool v.x.all, .int .i64 v.y.lo, .int .i64 v.y.hi, .bool v.y.all, .int .i64 v.z.lo, .int .i64 v.z.hi, .bool v.z.all], 34)]) (by kernel_rfl) (by kernel_rfl) (by rfl) (by decide) (by rfl) hM ?_ ?_
 ·
  intro i hl hi uu ww aa hJ hd hev hin
  clear hM
  obtain rfl | rfl | rfl | rfl | rfl | rfl | rfl | rfl : i = 0 ∨ i = 1 ∨ i = 2 ∨ i = 3 ∨ i = 4 ∨ i = 5 ∨ i = 6 ∨ i = 7 := by omega
  ·
   have x10 : aa.tmps[10]? = some (.int .i64 2) := (hev 10 (by decide)).trans rfl
   clear hd hev hin
   simp only [List.getElem_cons_succ, List.getElem_cons_zero]
   clear hl
   refine .inr ⟨rfl, fun K' hK => ?_⟩
   have HK := Lib.hid hK
   clear hK
   go_simp
   exact HK.out (.int .i64 2) _ hJ rfl veL_same
  ·
   have x5 : aa.tmps[5]? = some (.pointer (some ⟨bk2, 0, none⟩)) := (hev 5 (by decide)).trans rfl
   have x31 : aa.tmps[31]? = some (.int .i64 2) := (hin 0 31 rfl).trans (congrArg some (show uu 0 = .int .i64 2 from hd 0 (by decide) (by kernel_rfl)))
   clear hd hev hin
   simp only [List.getElem_cons_succ, List.getElem_cons_zero]
   clear hl
   refine .inr ⟨rfl, fun K' hK => ?_⟩
   have HK := Lib.hid hK
   clear hK
   go_simp
   exact HK.out (.pointer (some ⟨bk2, 6, none⟩)) _ hJ rfl veL_same
  ·
   have x32 : aa.tmps[32]? = some (.pointer (some ⟨bk2, 6, none⟩)) := (hin 1 32 rfl).trans (congrArg some (show uu 1 = .pointer (some ⟨bk2, 6, none⟩) from hd 1 (by decide) (by kernel_rfl)))
   clear hd hev hin
   simp only [List.getElem_cons_succ, List.getElem_cons_zero]
   clear hl
   refine .inr ⟨rfl, fun K' hK => ?_⟩
   have HK := Lib.hid hK
   clear hK
   have f0 : ww.cell? ⟨bk2, 6, none⟩ = some (.int .i64 u.z.lo) := hJ.es.cell 2 rfl 6 rfl
   have f1 : ww.cell? ⟨bk2, 7, none⟩ = some (.int .i64 u.z.hi) := hJ.es.cell 2 rfl 7 rfl
   have f2 : ww.cell? ⟨bk2, 8, none⟩ = some (.bool u.z.all) := hJ.es.cell 2 rfl 8 rfl
   go_simp
   exact HK.out (.agg #[.int .i64 u.z.lo, .int .i64 u.z.hi, .bool u.z.all]) _ hJ rfl veL_same
  ·
   have x10 : aa.tmps[10]? = some (.int .i64 2) := (hev 10 (by decide)).trans rfl
   clear hd hev hin
   simp only [List.getElem_cons_succ, List.getElem_cons_zero]
   clear hl
   refine .inr ⟨rfl, fun K' hK => ?_⟩
   have HK := Lib.hid hK
   clear hK
   go_simp
   exact HK.out (.int .i64 2) _ hJ rfl veL_same
  ·
   have x7 : aa.tmps[7]? = some (.pointer (some ⟨bk4, 0, none⟩)) := (hev 7 (by decide)).trans rfl
   have x34 : aa.tmps[34]? = some (.int .i64 2) := (hin 3 34 rfl).trans (congrArg some (show uu 3 = .int .i64 2 from hd 3 (by decide) (by kernel_rfl)))
   clear hd hev hin
   simp only [List.getElem_cons_succ, List.getElem_cons_zero]
   clear hl
   refine .inr ⟨rfl, fun K' hK => ?_⟩
   have HK := Lib.hid hK
   clear hK
   go_simp
   exact HK.out (.pointer (some ⟨bk4, 2, none⟩)) _ hJ rfl veL_same
  ·
   have x35 : aa.tmps[35]? = some (.pointer (some ⟨bk4, 2, none⟩)) := (hin 4 35 rfl).trans (congrArg some (show uu 4 = .pointer (some ⟨bk4, 2, none⟩) from hd 4 (by decide) (by kernel_rfl)))
   clear hd hev hin
   simp only [List.getElem_cons_succ, List.getElem_cons_zero]
   clear hl
   refine .inr ⟨rfl, fun K' hK => ?_⟩
   have HK := Lib.hid hK
   clear hK
   have f0 : ww.cell? ⟨bk4, 2, none⟩ = some (.int .i64 b2) := hJ.es.cell 0 rfl 2 rfl
   go_simp
   exact HK.out (.int .i64 b2) _ hJ rfl veL_same
  ·
   have x33 : aa.tmps[33]? = some (.agg #[.int .i64 u.z.lo, .int .i64 u.z.hi, .bool u.z.all]) := (hin 2 33 rfl).trans (congrArg some (show uu 2 = .agg #[.int .i64 u.z.lo, .int .i64 u.z.hi, .bool u.z.all] from hd 2 (by decide) (by kernel_rfl)))
   have x36 : aa.tmps[36]? = some (.int .i64 b2) := (hin 5 36 rfl).trans (congrArg some (show uu 5 = .int .i64 b2 from hd 5 (by decide) (by kernel_rfl)))
   clear hd hev hin
   simp only [List.getElem_cons_succ, List.getElem_cons_zero]
   clear hl
   refine .inr ⟨rfl, fun K' hK => ?_⟩
   have HK := Lib.hid hK
   clear hK
   go_simp
   refine (Hq2.out ww).mono ?_
   rintro e W' ⟨rfl, hB⟩
   exact HK.out (.bool q) _ (hJ.later hB) rfl (veL_later hB)
  ·
   have x37 : aa.tmps[37]? = some (.bool q) := (hin 6 37 rfl).trans (congrArg some (show uu 6 = .bool q from hd 6 (by decide) (by kernel_rfl)))
   clear hd hev hin
   simp only [List.getElem_cons_succ, List.getElem_cons_zero]
   clear hl
   refine .inr ⟨rfl, fun K' hK => ?_⟩
   have HK := Lib.hid hK
   clear hK
   go_simp
   exact HK.out (.bool q) _ hJ rfl veL_same
 clear hM
 intro uu W11 hJm hd
 have e_0 : uu 0 = .int .i64 2 := hd 0 (by decide)
 have e_1 : uu 1 = .pointer (some ⟨bk2, 6, none⟩) := hd 1 (by decide)
 have e_2 : uu 2 = .agg #[.int .i64 u.z.lo, .int .i64 u.z.hi, .bool u.z.all] := hd 2 (by decide)
 have e_3 : uu 3 = .int .i64 2 := hd 3 (by decide)
 have e_4 : uu 4 = .pointer (some ⟨bk4, 2, none⟩) := hd 4 (by decide)
 have e_5 : uu 5 = .int .i64 b2 := hd 5 (by decide)
 have e_6 : uu 6 = .bool q := hd 6 (by decide)
 have e_7 : uu 7 = .bool q := hd 7 (by decide)
 clear hd
 simp only [layS, Act.put, List.setIfInBounds_toArray, List.set_cons_succ, List.set_cons_zero, Nat.zero_add, Nat.reduceAdd, List.drop_succ_cons, List.drop_zero, List.drop_nil, e_0, e_1, e_2, e_3, e_4, e_5, e_6, e_7]
 clear e_0 e_1 e_2 e_3 e_4 e_5 e_6 e_7
 have hJ11 := hJm.es
 clear hJm
 have f0 : W11.cell? ⟨bk3, 2, none⟩ = some (.int .i64 a2) := hJ11.cell 1 rfl 2 rfl
 have f1 : W11.cell? ⟨bk4, 2, none⟩ = some (.int .i64 b2) := hJ11.cell 0 rfl 2 rfl
 cases p <;> cases q
 all_goals go_wp2
 all_goals first | (go_ret; exact ⟨rfl, hJ11.below⟩) | exact absurd ⟨by trivial, by trivial, by omega, by omega, by omega, by omega⟩ HF.out
set_option maxRecDepth 100000 in
set_option maxHeartbeats 12800000 in
theorem Holds_ok (v u c : Vc) (a0 a1 a2 b0 b1 b2 : Int) (d n : Sp) (hHaw : ∀ W : World, Calls Try.prog 40 #[] W (PVal (.bool true) W)) (hHp0 : ∀ W : World, Calls Try.prog 63 #[.agg #[.int .i64 v.x.lo, .int .i64 v.x.hi, .bool v.x.all], .int .i64 a0] W (PVal (.bool true) W)) (hHq0 : ∀ W : World, Calls Try.prog 63 #[.agg #[.int .i64 u.x.lo, .int .i64 u.x.hi, .bool u.x.all], .int .i64 b0] W (PVal (.bool true) W)) (hHp1 : ∀ W : World, Calls Try.prog 63 #[.agg #[.int .i64 v.y.lo, .int .i64 v.y.hi, .bool v.y.all], .int .i64 a1] W (PVal (.bool true) W)) (hHq1 : ∀ W : World, Calls Try.prog 63 #[.agg #[.int .i64 u.y.lo, .int .i64 u.y.hi, .bool u.y.all], .int .i64 b1] W (PVal (.bool true) W)) (hHp2 : ∀ W : World, Calls Try.prog 63 #[.agg #[.int .i64 v.z.lo, .int .i64 v.z.hi, .bool v.z.all], .int .i64 a2] W (PVal (.bool true) W)) (hHq2 : ∀ W : World, Calls Try.prog 63 #[.agg #[.int .i64 u.z.lo, .int .i64 u.z.hi, .bool u.z.all], .int .i64 b2] W (PVal (.bool true) W)) (hHd : ∀ W : World, Calls Try.prog 46 #[.agg #[.int .i64 v.x.lo, .int .i64 v.x.hi, .bool v.x.all, .int .i64 v.y.lo, .int .i64 v.y.hi, .bool v.y.all, .int .i64 v.z.lo, .int .i64 v.z.hi, .bool v.z.all], .agg #[.int .i64 u.x.lo, .int .i64 u.x.hi, .bool u.x.all, .int .i64 u.y.lo, .int .i64 u.y.hi, .bool u.y.all, .int .i64 u.z.lo, .int .i64 u.z.hi, .bool u.z.all]] W (PVal (.agg #[.int .i64 d.lo, .int .i64 d.hi, .bool d.all]) W)) (hHdi : ∀ W : World, Calls Try.prog 64 #[.agg #[.int .i64 d.lo, .int .i64 d.hi, .bool d.all], .int .i64 (((a0 * b0) + (a1 * b1)) + (a2 * b2)), .int .i64 1048576] W (PVal (.bool true) W)) (hHn : ∀ W : World, Calls Try.prog 48 #[.agg #[.int .i64 v.x.lo, .int .i64 v.x.hi, .bool v.x.all, .int .i64 v.y.lo, .int .i64 v.y.hi, .bool v.y.all, .int .i64 v.z.lo, .int .i64 v.z.hi, .bool v.z.all]] W (PVal (.agg #[.int .i64 n.lo, .int .i64 n.hi, .bool n.all]) W)) (hHni : ∀ W : World, Calls Try.prog 64 #[.agg #[.int .i64 n.lo, .int .i64 n.hi, .bool n.all], .int .i64 (((a0 * a0) + (a1 * a1)) + (a2 * a2)), .int .i64 1048576] W (PVal (.bool true) W)) (hHc : ∀ W : World, Calls Try.prog 47 #[.agg #[.int .i64 v.x.lo, .int .i64 v.x.hi, .bool v.x.all, .int .i64 v.y.lo, .int .i64 v.y.hi, .bool v.y.all, .int .i64 v.z.lo, .int .i64 v.z.hi, .bool v.z.all], .agg #[.int .i64 u.x.lo, .int .i64 u.x.hi, .bool u.x.all, .int .i64 u.y.lo, .int .i64 u.y.hi, .bool u.y.all, .int .i64 u.z.lo, .int .i64 u.z.hi, .bool u.z.all]] W (PVal (.agg #[.int .i64 c.x.lo, .int .i64 c.x.hi, .bool c.x.all, .int .i64 c.y.lo, .int .i64 c.y.hi, .bool c.y.all, .int .i64 c.z.lo, .int .i64 c.z.hi, .bool c.z.all]) W)) (hHxi : ∀ W : World, Calls Try.prog 64 #[.agg #[.int .i64 c.x.lo, .int .i64 c.x.hi, .bool c.x.all], .int .i64 ((a1 * b2) - (a2 * b1)), .int .i64 1048576] W (PVal (.bool true) W)) (hHyi : ∀ W : World, Calls Try.prog 64 #[.agg #[.int .i64 c.y.lo, .int .i64 c.y.hi, .bool c.y.all], .int .i64 ((a2 * b0) - (a0 * b2)), .int .i64 1048576] W (PVal (.bool true) W)) (hHzi : ∀ W : World, Calls Try.prog 64 #[.agg #[.int .i64 c.z.lo, .int .i64 c.z.hi, .bool c.z.all], .int .i64 ((a0 * b1) - (a1 * b0)), .int .i64 1048576] W (PVal (.bool true) W)) (al0 : decide (a0 < -1000000) = false) (ag0 : decide (1000000 < a0) = false) (bl0 : decide (b0 < -1000000) = false) (bg0 : decide (1000000 < b0) = false) (al1 : decide (a1 < -1000000) = false) (ag1 : decide (1000000 < a1) = false) (bl1 : decide (b1 < -1000000) = false) (bg1 : decide (1000000 < b1) = false) (al2 : decide (a2 < -1000000) = false) (ag2 : decide (1000000 < a2) = false) (bl2 : decide (b2 < -1000000) = false) (bg2 : decide (1000000 < b2) = false) (hK0 : wrap64 (a0 * b0) = a0 * b0) (hK1 : wrap64 (a1 * b1) = a1 * b1) (hK2 : wrap64 ((a0 * b0) + (a1 * b1)) = (a0 * b0) + (a1 * b1)) (hK3 : wrap64 (a2 * b2) = a2 * b2) (hK4 : wrap64 (((a0 * b0) + (a1 * b1)) + (a2 * b2)) = ((a0 * b0) + (a1 * b1)) + (a2 * b2)) (hK5 : wrap64 (a0 * a0) = a0 * a0) (hK6 : wrap64 (a1 * a1) = a1 * a1) (hK7 : wrap64 ((a0 * a0) + (a1 * a1)) = (a0 * a0) + (a1 * a1)) (hK8 : wrap64 (a2 * a2) = a2 * a2) (hK9 : wrap64 (((a0 * a0) + (a1 * a1)) + (a2 * a2)) = ((a0 * a0) + (a1 * a1)) + (a2 * a2)) (hK10 : wrap64 (a1 * b2) = a1 * b2) (hK11 : wrap64 (a2 * b1) = a2 * b1) (hK12 : wrap64 ((a1 * b2) - (a2 * b1)) = (a1 * b2) - (a2 * b1)) (hK13 : wrap64 (a2 * b0) = a2 * b0) (hK14 : wrap64 (a0 * b2) = a0 * b2) (hK15 : wrap64 ((a2 * b0) - (a0 * b2)) = (a2 * b0) - (a0 * b2)) (hK16 : wrap64 (a0 * b1) = a0 * b1) (hK17 : wrap64 (a1 * b0) = a1 * b0) (hK18 : wrap64 ((a0 * b1) - (a1 * b0)) = (a0 * b1) - (a1 * b0)) (w : World) : Calls Try.prog 9 #[.agg #[.int .i64 v.x.lo, .int .i64 v.x.hi, .bool v.x.all, .int .i64 v.y.lo, .int .i64 v.y.hi, .bool v.y.all, .int .i64 v.z.lo, .int .i64 v.z.hi, .bool v.z.all], .agg #[.int .i64 u.x.lo, .int .i64 u.x.hi, .bool u.x.all, .int .i64 u.y.lo, .int .i64 u.y.hi, .bool u.y.all, .int .i64 u.z.lo, .int .i64 u.z.hi, .bool u.z.all], .agg #[.int .i64 a0, .int .i64 a1, .int .i64 a2], .agg #[.int .i64 b0, .int .i64 b1, .int .i64 b2]] w (PVal (.bool true) w) := by
 have Haw := Lib.hid hHaw
 have Hp0 := Lib.hid hHp0
 have Hq0 := Lib.hid hHq0
 have Hp1 := Lib.hid hHp1
 have Hq1 := Lib.hid hHq1
 have Hp2 := Lib.hid hHp2
 have Hq2 := Lib.hid hHq2
 have Hd := Lib.hid hHd
 have Hdi := Lib.hid hHdi
 have Hn := Lib.hid hHn
 have Hni := Lib.hid hHni
 have Hc := Lib.hid hHc
 have Hxi := Lib.hid hHxi
 have Hyi := Lib.hid hHyi
 have Hzi := Lib.hid hHzi
 clear hHaw hHp0 hHq0 hHp1 hHq1 hHp2 hHq2 hHd hHdi hHn hHni hHc hHxi hHyi hHzi
 have K0 := Lib.hid hK0
 have K1 := Lib.hid hK1
 have K2 := Lib.hid hK2
 have K3 := Lib.hid hK3
 have K4 := Lib.hid hK4
 have K5 := Lib.hid hK5
 have K6 := Lib.hid hK6
 have K7 := Lib.hid hK7
 have K8 := Lib.hid hK8
 have K9 := Lib.hid hK9
 have K10 := Lib.hid hK10
 have K11 := Lib.hid hK11
 have K12 := Lib.hid hK12
 have K13 := Lib.hid hK13
 have K14 := Lib.hid hK14
 have K15 := Lib.hid hK15
 have K16 := Lib.hid hK16
 have K17 := Lib.hid hK17
 have K18 := Lib.hid hK18
 clear hK0 hK1 hK2 hK3 hK4 hK5 hK6 hK7 hK8 hK9 hK10 hK11 hK12 hK13 hK14 hK15 hK16 hK17 hK18
 have hJ0 := es_nil w
 go_enter Try.func9, Try.ntmps9
 go_wp2_with (refine stop_box 34 (.tmp 0) #[.int .i64 v.x.lo, .int .i64 v.x.hi, .bool v.x.all, .int .i64 v.y.lo, .int .i64 v.y.hi, .bool v.y.all, .int .i64 v.z.lo, .int .i64 v.z.hi, .bool v.z.all] rfl rfl rfl hJ0 (fun bk1 W1 hJ1 => ?_))
 clear hJ0
 unfold Stop
 try simp only [Act.put, List.setIfInBounds_toArray, List.set_cons_succ, List.set_cons_zero]
 go_wp2_with (refine stop_box 34 (.tmp 1) #[.int .i64 u.x.lo, .int .i64 u.x.hi, .bool u.x.all, .int .i64 u.y.lo, .int .i64 u.y.hi, .bool u.y.all, .int .i64 u.z.lo, .int .i64 u.z.hi, .bool u.z.all] rfl rfl rfl hJ1 (fun bk2 W2 hJ2 => ?_))
 clear hJ1
 unfold Stop
 try simp only [Act.put, List.setIfInBounds_toArray, List.set_cons_succ, List.set_cons_zero]
 go_wp2_with (refine stop_box 46 (.tmp 2) #[.int .i64 a0, .int .i64 a1, .int .i64 a2] rfl rfl rfl hJ2 (fun bk3 W3 hJ3 => ?_))
 clear hJ2
 unfold Stop
 try simp only [Act.put, List.setIfInBounds_toArray, List.set_cons_succ, List.set_cons_zero]
 go_wp2_with (refine stop_box 46 (.tmp 3) #[.int .i64 b0, .int .i64 b1, .int .i64 b2] rfl rfl rfl hJ3 (fun bk4 W4 hJ4 => ?_))
 clear hJ3
 unfold Stop
 try simp only [Act.put, List.setIfInBounds_toArray, List.set_cons_succ, List.set_cons_zero]
 go_wp2_with fail
 refine (Haw.out _).mono ?_
 rintro e W5 ⟨rfl, hB⟩
 have hJ5 := hJ4.later hB
 clear hB
 clear hJ4
 go_wp2
 refine wp_loop_rounds 4 ?_
 rw [rounds_succ]
 go_wp2
 obtain ⟨m5_5, hm⟩ : ∃ m, m = W5.heap.size := ⟨_, rfl⟩
 have hM := hJ5.em
 rw [← hm] at hM
 clear hm hJ5
 refine wp_region_z 8 [some 24, some 25, some 26, some 27, some 28, some 29, some 30, some 11] (veL m5_5 [.eq (.int .i64 0), .eq (.pointer (some ⟨bk1, 0, none⟩)), .eq (.agg #[.int .i64 v.x.lo, .int .i64 v.x.hi, .bool v.x.all]), .eq (.int .i64 0), .eq (.pointer (some ⟨bk3, 0, none⟩)), .eq (.int .i64 a0), .eq (.bool true), .eq (.bool true)]) (Em w m5_5 [(bk4, #[.int .i64 b0, .int .i64 b1, .int .i64 b2], 46), (bk3, #[.int .i64 a0, .int .i64 a1, .int .i64 a2], 46), (bk2, #[.int .i64 u.x.lo, .int .i64 u.x.hi, .bool u.x.all, .int .i64 u.y.lo, .int .i64 u.y.hi, .bool u.y.all, .int .i64 u.z.lo, .int .i64 u.z.hi, .bool u.z.all], 34), (bk1, #[.int .i64 v.x.lo, .int .i64 v.x.hi, .bool v.x.all, .int .i64 v.y.lo, .int .i64 v.y.hi, .bool v.y.all, .int .i64 v.z.lo, .int .i64 v.z.hi, .bool v.z.all], 34)]) (by kernel_rfl) (by kernel_rfl) (by rfl) (by decide) (by rfl) hM ?_ ?_
 ·
  intro i hl hi uu ww aa hJ hd hev hin
  clear hM
  obtain rfl | rfl | rfl | rfl | rfl | rfl | rfl | rfl : i = 0 ∨ i = 1 ∨ i = 2 ∨ i = 3 ∨ i = 4 ∨ i = 5 ∨ i = 6 ∨ i = 7 := by omega
  ·
   have x10 : aa.tmps[10]? = some (.int .i64 0) := (hev 10 (by decide)).trans rfl
   clear hd hev hin
   simp only [List.getElem_cons_succ, List.getElem_cons_zero]
   clear hl
   refine .inr ⟨rfl, fun K' hK => ?_⟩
   have HK := Lib.hid hK
   clear hK
   go_simp
   exact HK.out (.int .i64 0) _ hJ rfl veL_same
  ·
   have x4 : aa.tmps[4]? = some (.pointer (some ⟨bk1, 0, none⟩)) := (hev 4 (by decide)).trans rfl
   have x24 : aa.tmps[24]? = some (.int .i64 0) := (hin 0 24 rfl).trans (congrArg some (show uu 0 = .int .i64 0 from hd 0 (by decide) (by kernel_rfl)))
   clear hd hev hin
   simp only [List.getElem_cons_succ, List.getElem_cons_zero]
   clear hl
   refine .inr ⟨rfl, fun K' hK => ?_⟩
   have HK := Lib.hid hK
   clear hK
   go_simp
   exact HK.out (.pointer (some ⟨bk1, 0, none⟩)) _ hJ rfl veL_same
  ·
   have x25 : aa.tmps[25]? = some (.pointer (some ⟨bk1, 0, none⟩)) := (hin 1 25 rfl).trans (congrArg some (show uu 1 = .pointer (some ⟨bk1, 0, none⟩) from hd 1 (by decide) (by kernel_rfl)))
   clear hd hev hin
   simp only [List.getElem_cons_succ, List.getElem_cons_zero]
   clear hl
   refine .inr ⟨rfl, fun K' hK => ?_⟩
   have HK := Lib.hid hK
   clear hK
   have f0 : ww.cell? ⟨bk1, 0, none⟩ = some (.int .i64 v.x.lo) := hJ.es.cell 3 rfl 0 rfl
   have f1 : ww.cell? ⟨bk1, 1, none⟩ = some (.int .i64 v.x.hi) := hJ.es.cell 3 rfl 1 rfl
   have f2 : ww.cell? ⟨bk1, 2, none⟩ = some (.bool v.x.all) := hJ.es.cell 3 rfl 2 rfl
   go_simp
   exact HK.out (.agg #[.int .i64 v.x.lo, .int .i64 v.x.hi, .bool v.x.all]) _ hJ rfl veL_same
  ·
   have x10 : aa.tmps[10]? = some (.int .i64 0) := (hev 10 (by decide)).trans rfl
   clear hd hev hin
   simp only [List.getElem_cons_succ, List.getElem_cons_zero]
   clear hl
   refine .inr ⟨rfl, fun K' hK => ?_⟩
   have HK := Lib.hid hK
   clear hK
   go_simp
   exact HK.out (.int .i64 0) _ hJ rfl veL_same
  ·
   have x6 : aa.tmps[6]? = some (.pointer (some ⟨bk3, 0, none⟩)) := (hev 6 (by decide)).trans rfl
   have x27 : aa.tmps[27]? = some (.int .i64 0) := (hin 3 27 rfl).trans (congrArg some (show uu 3 = .int .i64 0 from hd 3 (by decide) (by kernel_rfl)))
   clear hd hev hin
   simp only [List.getElem_cons_succ, List.getElem_cons_zero]
   clear hl
   refine .inr ⟨rfl, fun K' hK => ?_⟩
   have HK := Lib.hid hK
   clear hK
   go_simp
   exact HK.out (.pointer (some ⟨bk3, 0, none⟩)) _ hJ rfl veL_same
  ·
   have x28 : aa.tmps[28]? = some (.pointer (some ⟨bk3, 0, none⟩)) := (hin 4 28 rfl).trans (congrArg some (show uu 4 = .pointer (some ⟨bk3, 0, none⟩) from hd 4 (by decide) (by kernel_rfl)))
   clear hd hev hin
   simp only [List.getElem_cons_succ, List.getElem_cons_zero]
   clear hl
   refine .inr ⟨rfl, fun K' hK => ?_⟩
   have HK := Lib.hid hK
   clear hK
   have f0 : ww.cell? ⟨bk3, 0, none⟩ = some (.int .i64 a0) := hJ.es.cell 1 rfl 0 rfl
   go_simp
   exact HK.out (.int .i64 a0) _ hJ rfl veL_same
  ·
   have x26 : aa.tmps[26]? = some (.agg #[.int .i64 v.x.lo, .int .i64 v.x.hi, .bool v.x.all]) := (hin 2 26 rfl).trans (congrArg some (show uu 2 = .agg #[.int .i64 v.x.lo, .int .i64 v.x.hi, .bool v.x.all] from hd 2 (by decide) (by kernel_rfl)))
   have x29 : aa.tmps[29]? = some (.int .i64 a0) := (hin 5 29 rfl).trans (congrArg some (show uu 5 = .int .i64 a0 from hd 5 (by decide) (by kernel_rfl)))
   clear hd hev hin
   simp only [List.getElem_cons_succ, List.getElem_cons_zero]
   clear hl
   refine .inr ⟨rfl, fun K' hK => ?_⟩
   have HK := Lib.hid hK
   clear hK
   go_simp
   refine (Hp0.out ww).mono ?_
   rintro e W' ⟨rfl, hB⟩
   exact HK.out (.bool true) _ (hJ.later hB) rfl (veL_later hB)
  ·
   have x30 : aa.tmps[30]? = some (.bool true) := (hin 6 30 rfl).trans (congrArg some (show uu 6 = .bool true from hd 6 (by decide) (by kernel_rfl)))
   clear hd hev hin
   simp only [List.getElem_cons_succ, List.getElem_cons_zero]
   clear hl
   refine .inr ⟨rfl, fun K' hK => ?_⟩
   have HK := Lib.hid hK
   clear hK
   go_simp
   exact HK.out (.bool true) _ hJ rfl veL_same
 clear hM
 intro uu W6 hJm hd
 have e_0 : uu 0 = .int .i64 0 := hd 0 (by decide)
 have e_1 : uu 1 = .pointer (some ⟨bk1, 0, none⟩) := hd 1 (by decide)
 have e_2 : uu 2 = .agg #[.int .i64 v.x.lo, .int .i64 v.x.hi, .bool v.x.all] := hd 2 (by decide)
 have e_3 : uu 3 = .int .i64 0 := hd 3 (by decide)
 have e_4 : uu 4 = .pointer (some ⟨bk3, 0, none⟩) := hd 4 (by decide)
 have e_5 : uu 5 = .int .i64 a0 := hd 5 (by decide)
 have e_6 : uu 6 = .bool true := hd 6 (by decide)
 have e_7 : uu 7 = .bool true := hd 7 (by decide)
 clear hd
 simp only [layS, Act.put, List.setIfInBounds_toArray, List.set_cons_succ, List.set_cons_zero, Nat.zero_add, Nat.reduceAdd, List.drop_succ_cons, List.drop_zero, List.drop_nil, e_0, e_1, e_2, e_3, e_4, e_5, e_6, e_7]
 clear e_0 e_1 e_2 e_3 e_4 e_5 e_6 e_7
 have hJ6 := hJm.es
 clear hJm
 go_wp2
 obtain ⟨m6_6, hm⟩ : ∃ m, m = W6.heap.size := ⟨_, rfl⟩
 have hM := hJ6.em
 rw [← hm] at hM
 clear hm hJ6
 refine wp_region_z 8 [some 31, some 32, some 33, some 34, some 35, some 36, some 37, some 12] (veL m6_6 [.eq (.int .i64 0), .eq (.pointer (some ⟨bk2, 0, none⟩)), .eq (.agg #[.int .i64 u.x.lo, .int .i64 u.x.hi, .bool u.x.all]), .eq (.int .i64 0), .eq (.pointer (some ⟨bk4, 0, none⟩)), .eq (.int .i64 b0), .eq (.bool true), .eq (.bool true)]) (Em w m6_6 [(bk4, #[.int .i64 b0, .int .i64 b1, .int .i64 b2], 46), (bk3, #[.int .i64 a0, .int .i64 a1, .int .i64 a2], 46), (bk2, #[.int .i64 u.x.lo, .int .i64 u.x.hi, .bool u.x.all, .int .i64 u.y.lo, .int .i64 u.y.hi, .bool u.y.all, .int .i64 u.z.lo, .int .i64 u.z.hi, .bool u.z.all], 34), (bk1, #[.int .i64 v.x.lo, .int .i64 v.x.hi, .bool v.x.all, .int .i64 v.y.lo, .int .i64 v.y.hi, .bool v.y.all, .int .i64 v.z.lo, .int .i64 v.z.hi, .bool v.z.all], 34)]) (by kernel_rfl) (by kernel_rfl) (by rfl) (by decide) (by rfl) hM ?_ ?_
 ·
  intro i hl hi uu ww aa hJ hd hev hin
  clear hM
  obtain rfl | rfl | rfl | rfl | rfl | rfl | rfl | rfl : i = 0 ∨ i = 1 ∨ i = 2 ∨ i = 3 ∨ i = 4 ∨ i = 5 ∨ i = 6 ∨ i = 7 := by omega
  ·
   have x10 : aa.tmps[10]? = some (.int .i64 0) := (hev 10 (by decide)).trans rfl
   clear hd hev hin
   simp only [List.getElem_cons_succ, List.getElem_cons_zero]
   clear hl
   refine .inr ⟨rfl, fun K' hK => ?_⟩
   have HK := Lib.hid hK
   clear hK
   go_simp
   exact HK.out (.int .i64 0) _ hJ rfl veL_same
  ·
   have x5 : aa.tmps[5]? = some (.pointer (some ⟨bk2, 0, none⟩)) := (hev 5 (by decide)).trans rfl
   have x31 : aa.tmps[31]? = some (.int .i64 0) := (hin 0 31 rfl).trans (congrArg some (show uu 0 = .int .i64 0 from hd 0 (by decide) (by kernel_rfl)))
   clear hd hev hin
   simp only [List.getElem_cons_succ, List.getElem_cons_zero]
   clear hl
   refine .inr ⟨rfl, fun K' hK => ?_⟩
   have HK := Lib.hid hK
   clear hK
   go_simp
   exact HK.out (.pointer (some ⟨bk2, 0, none⟩)) _ hJ rfl veL_same
  ·
   have x32 : aa.tmps[32]? = some (.pointer (some ⟨bk2, 0, none⟩)) := (hin 1 32 rfl).trans (congrArg some (show uu 1 = .pointer (some ⟨bk2, 0, none⟩) from hd 1 (by decide) (by kernel_rfl)))
   clear hd hev hin
   simp only [List.getElem_cons_succ, List.getElem_cons_zero]
   clear hl
   refine .inr ⟨rfl, fun K' hK => ?_⟩
   have HK := Lib.hid hK
   clear hK
   have f0 : ww.cell? ⟨bk2, 0, none⟩ = some (.int .i64 u.x.lo) := hJ.es.cell 2 rfl 0 rfl
   have f1 : ww.cell? ⟨bk2, 1, none⟩ = some (.int .i64 u.x.hi) := hJ.es.cell 2 rfl 1 rfl
   have f2 : ww.cell? ⟨bk2, 2, none⟩ = some (.bool u.x.all) := hJ.es.cell 2 rfl 2 rfl
   go_simp
   exact HK.out (.agg #[.int .i64 u.x.lo, .int .i64 u.x.hi, .bool u.x.all]) _ hJ rfl veL_same
  ·
   have x10 : aa.tmps[10]? = some (.int .i64 0) := (hev 10 (by decide)).trans rfl
   clear hd hev hin
   simp only [List.getElem_cons_succ, List.getElem_cons_zero]
   clear hl
   refine .inr ⟨rfl, fun K' hK => ?_⟩
   have HK := Lib.hid hK
   clear hK
   go_simp
   exact HK.out (.int .i64 0) _ hJ rfl veL_same
  ·
   have x7 : aa.tmps[7]? = some (.pointer (some ⟨bk4, 0, none⟩)) := (hev 7 (by decide)).trans rfl
   have x34 : aa.tmps[34]? = some (.int .i64 0) := (hin 3 34 rfl).trans (congrArg some (show uu 3 = .int .i64 0 from hd 3 (by decide) (by kernel_rfl)))
   clear hd hev hin
   simp only [List.getElem_cons_succ, List.getElem_cons_zero]
   clear hl
   refine .inr ⟨rfl, fun K' hK => ?_⟩
   have HK := Lib.hid hK
   clear hK
   go_simp
   exact HK.out (.pointer (some ⟨bk4, 0, none⟩)) _ hJ rfl veL_same
  ·
   have x35 : aa.tmps[35]? = some (.pointer (some ⟨bk4, 0, none⟩)) := (hin 4 35 rfl).trans (congrArg some (show uu 4 = .pointer (some ⟨bk4, 0, none⟩) from hd 4 (by decide) (by kernel_rfl)))
   clear hd hev hin
   simp only [List.getElem_cons_succ, List.getElem_cons_zero]
   clear hl
   refine .inr ⟨rfl, fun K' hK => ?_⟩
   have HK := Lib.hid hK
   clear hK
   have f0 : ww.cell? ⟨bk4, 0, none⟩ = some (.int .i64 b0) := hJ.es.cell 0 rfl 0 rfl
   go_simp
   exact HK.out (.int .i64 b0) _ hJ rfl veL_same
  ·
   have x33 : aa.tmps[33]? = some (.agg #[.int .i64 u.x.lo, .int .i64 u.x.hi, .bool u.x.all]) := (hin 2 33 rfl).trans (congrArg some (show uu 2 = .agg #[.int .i64 u.x.lo, .int .i64 u.x.hi, .bool u.x.all] from hd 2 (by decide) (by kernel_rfl)))
   have x36 : aa.tmps[36]? = some (.int .i64 b0) := (hin 5 36 rfl).trans (congrArg some (show uu 5 = .int .i64 b0 from hd 5 (by decide) (by kernel_rfl)))
   clear hd hev hin
   simp only [List.getElem_cons_succ, List.getElem_cons_zero]
   clear hl
   refine .inr ⟨rfl, fun K' hK => ?_⟩
   have HK := Lib.hid hK
   clear hK
   go_simp
   refine (Hq0.out ww).mono ?_
   rintro e W' ⟨rfl, hB⟩
   exact HK.out (.bool true) _ (hJ.later hB) rfl (veL_later hB)
  ·
   have x37 : aa.tmps[37]? = some (.bool true) := (hin 6 37 rfl).trans (congrArg some (show uu 6 = .bool true from hd 6 (by decide) (by kernel_rfl)))
   clear hd hev hin
   simp only [List.getElem_cons_succ, List.getElem_cons_zero]
   clear hl
   refine .inr ⟨rfl, fun K' hK => ?_⟩
   have HK := Lib.hid hK
   clear hK
   go_simp
   exact HK.out (.bool true) _ hJ rfl veL_same
 clear hM
 intro uu W7 hJm hd
 have e_0 : uu 0 = .int .i64 0 := hd 0 (by decide)
 have e_1 : uu 1 = .pointer (some ⟨bk2, 0, none⟩) := hd 1 (by decide)
 have e_2 : uu 2 = .agg #[.int .i64 u.x.lo, .int .i64 u.x.hi, .bool u.x.all] := hd 2 (by decide)
 have e_3 : uu 3 = .int .i64 0 := hd 3 (by decide)
 have e_4 : uu 4 = .pointer (some ⟨bk4, 0, none⟩) := hd 4 (by decide)
 have e_5 : uu 5 = .int .i64 b0 := hd 5 (by decide)
 have e_6 : uu 6 = .bool true := hd 6 (by decide)
 have e_7 : uu 7 = .bool true := hd 7 (by decide)
 clear hd
 simp only [layS, Act.put, List.setIfInBounds_toArray, List.set_cons_succ, List.set_cons_zero, Nat.zero_add, Nat.reduceAdd, List.drop_succ_cons, List.drop_zero, List.drop_nil, e_0, e_1, e_2, e_3, e_4, e_5, e_6, e_7]
 clear e_0 e_1 e_2 e_3 e_4 e_5 e_6 e_7
 have hJ7 := hJm.es
 clear hJm
 have f0 : W7.cell? ⟨bk3, 0, none⟩ = some (.int .i64 a0) := hJ7.cell 1 rfl 0 rfl
 have f1 : W7.cell? ⟨bk4, 0, none⟩ = some (.int .i64 b0) := hJ7.cell 0 rfl 0 rfl
 go_wp2
 clear f0 f1
 rw [rounds_succ]
 go_wp2
 obtain ⟨m5_7, hm⟩ : ∃ m, m = W7.heap.size := ⟨_, rfl⟩
 have hM := hJ7.em
 rw [← hm] at hM
 clear hm hJ7
 refine wp_region_z 8 [some 24, some 25, some 26, some 27, some 28, some 29, some 30, some 11] (veL m5_7 [.eq (.int .i64 1), .eq (.pointer (some ⟨bk1, 3, none⟩)), .eq (.agg #[.int .i64 v.y.lo, .int .i64 v.y.hi, .bool v.y.all]), .eq (.int .i64 1), .eq (.pointer (some ⟨bk3, 1, none⟩)), .eq (.int .i64 a1), .eq (.bool true), .eq (.bool true)]) (Em w m5_7 [(bk4, #[.int .i64 b0, .int .i64 b1, .int .i64 b2], 46), (bk3, #[.int .i64 a0, .int .i64 a1, .int .i64 a2], 46), (bk2, #[.int .i64 u.x.lo, .int .i64 u.x.hi, .bool u.x.all, .int .i64 u.y.lo, .int .i64 u.y.hi, .bool u.y.all, .int .i64 u.z.lo, .int .i64 u.z.hi, .bool u.z.all], 34), (bk1, #[.int .i64 v.x.lo, .int .i64 v.x.hi, .bool v.x.all, .int .i64 v.y.lo, .int .i64 v.y.hi, .bool v.y.all, .int .i64 v.z.lo, .int .i64 v.z.hi, .bool v.z.all], 34)]) (by kernel_rfl) (by kernel_rfl) (by rfl) (by decide) (by rfl) hM ?_ ?_
 ·
  intro i hl hi uu ww aa hJ hd hev hin
  clear hM
  obtain rfl | rfl | rfl | rfl | rfl | rfl | rfl | rfl : i = 0 ∨ i = 1 ∨ i = 2 ∨ i = 3 ∨ i = 4 ∨ i = 5 ∨ i = 6 ∨ i = 7 := by omega
  ·
   have x10 : aa.tmps[10]? = some (.int .i64 1) := (hev 10 (by decide)).trans rfl
   clear hd hev hin
   simp only [List.getElem_cons_succ, List.getElem_cons_zero]
   clear hl
   refine .inr ⟨rfl, fun K' hK => ?_⟩
   have HK := Lib.hid hK
   clear hK
   go_simp
   exact HK.out (.int .i64 1) _ hJ rfl veL_same
  ·
   have x4 : aa.tmps[4]? = some (.pointer (some ⟨bk1, 0, none⟩)) := (hev 4 (by decide)).trans rfl
   have x24 : aa.tmps[24]? = some (.int .i64 1) := (hin 0 24 rfl).trans (congrArg some (show uu 0 = .int .i64 1 from hd 0 (by decide) (by kernel_rfl)))
   clear hd hev hin
   simp only [List.getElem_cons_succ, List.getElem_cons_zero]
   clear hl
   refine .inr ⟨rfl, fun K' hK => ?_⟩
   have HK := Lib.hid hK
   clear hK
   go_simp
   exact HK.out (.pointer (some ⟨bk1, 3, none⟩)) _ hJ rfl veL_same
  ·
   have x25 : aa.tmps[25]? = some (.pointer (some ⟨bk1, 3, none⟩)) := (hin 1 25 rfl).trans (congrArg some (show uu 1 = .pointer (some ⟨bk1, 3, none⟩) from hd 1 (by decide) (by kernel_rfl)))
   clear hd hev hin
   simp only [List.getElem_cons_succ, List.getElem_cons_zero]
   clear hl
   refine .inr ⟨rfl, fun K' hK => ?_⟩
   have HK := Lib.hid hK
   clear hK
   have f0 : ww.cell? ⟨bk1, 3, none⟩ = some (.int .i64 v.y.lo) := hJ.es.cell 3 rfl 3 rfl
   have f1 : ww.cell? ⟨bk1, 4, none⟩ = some (.int .i64 v.y.hi) := hJ.es.cell 3 rfl 4 rfl
   have f2 : ww.cell? ⟨bk1, 5, none⟩ = some (.bool v.y.all) := hJ.es.cell 3 rfl 5 rfl
   go_simp
   exact HK.out (.agg #[.int .i64 v.y.lo, .int .i64 v.y.hi, .bool v.y.all]) _ hJ rfl veL_same
  ·
   have x10 : aa.tmps[10]? = some (.int .i64 1) := (hev 10 (by decide)).trans rfl
   clear hd hev hin
   simp only [List.getElem_cons_succ, List.getElem_cons_zero]
   clear hl
   refine .inr ⟨rfl, fun K' hK => ?_⟩
   have HK := Lib.hid hK
   clear hK
   go_simp
   exact HK.out (.int .i64 1) _ hJ rfl veL_same
  ·
   have x6 : aa.tmps[6]? = some (.pointer (some ⟨bk3, 0, none⟩)) := (hev 6 (by decide)).trans rfl
   have x27 : aa.tmps[27]? = some (.int .i64 1) := (hin 3 27 rfl).trans (congrArg some (show uu 3 = .int .i64 1 from hd 3 (by decide) (by kernel_rfl)))
   clear hd hev hin
   simp only [List.getElem_cons_succ, List.getElem_cons_zero]
   clear hl
   refine .inr ⟨rfl, fun K' hK => ?_⟩
   have HK := Lib.hid hK
   clear hK
   go_simp
   exact HK.out (.pointer (some ⟨bk3, 1, none⟩)) _ hJ rfl veL_same
  ·
   have x28 : aa.tmps[28]? = some (.pointer (some ⟨bk3, 1, none⟩)) := (hin 4 28 rfl).trans (congrArg some (show uu 4 = .pointer (some ⟨bk3, 1, none⟩) from hd 4 (by decide) (by kernel_rfl)))
   clear hd hev hin
   simp only [List.getElem_cons_succ, List.getElem_cons_zero]
   clear hl
   refine .inr ⟨rfl, fun K' hK => ?_⟩
   have HK := Lib.hid hK
   clear hK
   have f0 : ww.cell? ⟨bk3, 1, none⟩ = some (.int .i64 a1) := hJ.es.cell 1 rfl 1 rfl
   go_simp
   exact HK.out (.int .i64 a1) _ hJ rfl veL_same
  ·
   have x26 : aa.tmps[26]? = some (.agg #[.int .i64 v.y.lo, .int .i64 v.y.hi, .bool v.y.all]) := (hin 2 26 rfl).trans (congrArg some (show uu 2 = .agg #[.int .i64 v.y.lo, .int .i64 v.y.hi, .bool v.y.all] from hd 2 (by decide) (by kernel_rfl)))
   have x29 : aa.tmps[29]? = some (.int .i64 a1) := (hin 5 29 rfl).trans (congrArg some (show uu 5 = .int .i64 a1 from hd 5 (by decide) (by kernel_rfl)))
   clear hd hev hin
   simp only [List.getElem_cons_succ, List.getElem_cons_zero]
   clear hl
   refine .inr ⟨rfl, fun K' hK => ?_⟩
   have HK := Lib.hid hK
   clear hK
   go_simp
   refine (Hp1.out ww).mono ?_
   rintro e W' ⟨rfl, hB⟩
   exact HK.out (.bool true) _ (hJ.later hB) rfl (veL_later hB)
  ·
   have x30 : aa.tmps[30]? = some (.bool true) := (hin 6 30 rfl).trans (congrArg some (show uu 6 = .bool true from hd 6 (by decide) (by kernel_rfl)))
   clear hd hev hin
   simp only [List.getElem_cons_succ, List.getElem_cons_zero]
   clear hl
   refine .inr ⟨rfl, fun K' hK => ?_⟩
   have HK := Lib.hid hK
   clear hK
   go_simp
   exact HK.out (.bool true) _ hJ rfl veL_same
 clear hM
 intro uu W8 hJm hd
 have e_0 : uu 0 = .int .i64 1 := hd 0 (by decide)
 have e_1 : uu 1 = .pointer (some ⟨bk1, 3, none⟩) := hd 1 (by decide)
 have e_2 : uu 2 = .agg #[.int .i64 v.y.lo, .int .i64 v.y.hi, .bool v.y.all] := hd 2 (by decide)
 have e_3 : uu 3 = .int .i64 1 := hd 3 (by decide)
 have e_4 : uu 4 = .pointer (some ⟨bk3, 1, none⟩) := hd 4 (by decide)
 have e_5 : uu 5 = .int .i64 a1 := hd 5 (by decide)
 have e_6 : uu 6 = .bool true := hd 6 (by decide)
 have e_7 : uu 7 = .bool true := hd 7 (by decide)
 clear hd
 simp only [layS, Act.put, List.setIfInBounds_toArray, List.set_cons_succ, List.set_cons_zero, Nat.zero_add, Nat.reduceAdd, List.drop_succ_cons, List.drop_zero, List.drop_nil, e_0, e_1, e_2, e_3, e_4, e_5, e_6, e_7]
 clear e_0 e_1 e_2 e_3 e_4 e_5 e_6 e_7
 have hJ8 := hJm.es
 clear hJm
 go_wp2
 obtain ⟨m6_8, hm⟩ : ∃ m, m = W8.heap.size := ⟨_, rfl⟩
 have hM := hJ8.em
 rw [← hm] at hM
 clear hm hJ8
 refine wp_region_z 8 [some 31, some 32, some 33, some 34, some 35, some 36, some 37, some 12] (veL m6_8 [.eq (.int .i64 1), .eq (.pointer (some ⟨bk2, 3, none⟩)), .eq (.agg #[.int .i64 u.y.lo, .int .i64 u.y.hi, .bool u.y.all]), .eq (.int .i64 1), .eq (.pointer (some ⟨bk4, 1, none⟩)), .eq (.int .i64 b1), .eq (.bool true), .eq (.bool true)]) (Em w m6_8 [(bk4, #[.int .i64 b0, .int .i64 b1, .int .i64 b2], 46), (bk3, #[.int .i64 a0, .int .i64 a1, .int .i64 a2], 46), (bk2, #[.int .i64 u.x.lo, .int .i64 u.x.hi, .bool u.x.all, .int .i64 u.y.lo, .int .i64 u.y.hi, .bool u.y.all, .int .i64 u.z.lo, .int .i64 u.z.hi, .bool u.z.all], 34), (bk1, #[.int .i64 v.x.lo, .int .i64 v.x.hi, .bool v.x.all, .int .i64 v.y.lo, .int .i64 v.y.hi, .bool v.y.all, .int .i64 v.z.lo, .int .i64 v.z.hi, .bool v.z.all], 34)]) (by kernel_rfl) (by kernel_rfl) (by rfl) (by decide) (by rfl) hM ?_ ?_
 ·
  intro i hl hi uu ww aa hJ hd hev hin
  clear hM
  obtain rfl | rfl | rfl | rfl | rfl | rfl | rfl | rfl : i = 0 ∨ i = 1 ∨ i = 2 ∨ i = 3 ∨ i = 4 ∨ i = 5 ∨ i = 6 ∨ i = 7 := by omega
  ·
   have x10 : aa.tmps[10]? = some (.int .i64 1) := (hev 10 (by decide)).trans rfl
   clear hd hev hin
   simp only [List.getElem_cons_succ, List.getElem_cons_zero]
   clear hl
   refine .inr ⟨rfl, fun K' hK => ?_⟩
   have HK := Lib.hid hK
   clear hK
   go_simp
   exact HK.out (.int .i64 1) _ hJ rfl veL_same
  ·
   have x5 : aa.tmps[5]? = some (.pointer (some ⟨bk2, 0, none⟩)) := (hev 5 (by decide)).trans rfl
   have x31 : aa.tmps[31]? = some (.int .i64 1) := (hin 0 31 rfl).trans (congrArg some (show uu 0 = .int .i64 1 from hd 0 (by decide) (by kernel_rfl)))
   clear hd hev hin
   simp only [List.getElem_cons_succ, List.getElem_cons_zero]
   clear hl
   refine .inr ⟨rfl, fun K' hK => ?_⟩
   have HK := Lib.hid hK
   clear hK
   go_simp
   exact HK.out (.pointer (some ⟨bk2, 3, none⟩)) _ hJ rfl veL_same
  ·
   have x32 : aa.tmps[32]? = some (.pointer (some ⟨bk2, 3, none⟩)) := (hin 1 32 rfl).trans (congrArg some (show uu 1 = .pointer (some ⟨bk2, 3, none⟩) from hd 1 (by decide) (by kernel_rfl)))
   clear hd hev hin
   simp only [List.getElem_cons_succ, List.getElem_cons_zero]
   clear hl
   refine .inr ⟨rfl, fun K' hK => ?_⟩
   have HK := Lib.hid hK
   clear hK
   have f0 : ww.cell? ⟨bk2, 3, none⟩ = some (.int .i64 u.y.lo) := hJ.es.cell 2 rfl 3 rfl
   have f1 : ww.cell? ⟨bk2, 4, none⟩ = some (.int .i64 u.y.hi) := hJ.es.cell 2 rfl 4 rfl
   have f2 : ww.cell? ⟨bk2, 5, none⟩ = some (.bool u.y.all) := hJ.es.cell 2 rfl 5 rfl
   go_simp
   exact HK.out (.agg #[.int .i64 u.y.lo, .int .i64 u.y.hi, .bool u.y.all]) _ hJ rfl veL_same
  ·
   have x10 : aa.tmps[10]? = some (.int .i64 1) := (hev 10 (by decide)).trans rfl
   clear hd hev hin
   simp only [List.getElem_cons_succ, List.getElem_cons_zero]
   clear hl
   refine .inr ⟨rfl, fun K' hK => ?_⟩
   have HK := Lib.hid hK
   clear hK
   go_simp
   exact HK.out (.int .i64 1) _ hJ rfl veL_same
  ·
   have x7 : aa.tmps[7]? = some (.pointer (some ⟨bk4, 0, none⟩)) := (hev 7 (by decide)).trans rfl
   have x34 : aa.tmps[34]? = some (.int .i64 1) := (hin 3 34 rfl).trans (congrArg some (show uu 3 = .int .i64 1 from hd 3 (by decide) (by kernel_rfl)))
   clear hd hev hin
   simp only [List.getElem_cons_succ, List.getElem_cons_zero]
   clear hl
   refine .inr ⟨rfl, fun K' hK => ?_⟩
   have HK := Lib.hid hK
   clear hK
   go_simp
   exact HK.out (.pointer (some ⟨bk4, 1, none⟩)) _ hJ rfl veL_same
  ·
   have x35 : aa.tmps[35]? = some (.pointer (some ⟨bk4, 1, none⟩)) := (hin 4 35 rfl).trans (congrArg some (show uu 4 = .pointer (some ⟨bk4, 1, none⟩) from hd 4 (by decide) (by kernel_rfl)))
   clear hd hev hin
   simp only [List.getElem_cons_succ, List.getElem_cons_zero]
   clear hl
   refine .inr ⟨rfl, fun K' hK => ?_⟩
   have HK := Lib.hid hK
   clear hK
   have f0 : ww.cell? ⟨bk4, 1, none⟩ = some (.int .i64 b1) := hJ.es.cell 0 rfl 1 rfl
   go_simp
   exact HK.out (.int .i64 b1) _ hJ rfl veL_same
  ·
   have x33 : aa.tmps[33]? = some (.agg #[.int .i64 u.y.lo, .int .i64 u.y.hi, .bool u.y.all]) := (hin 2 33 rfl).trans (congrArg some (show uu 2 = .agg #[.int .i64 u.y.lo, .int .i64 u.y.hi, .bool u.y.all] from hd 2 (by decide) (by kernel_rfl)))
   have x36 : aa.tmps[36]? = some (.int .i64 b1) := (hin 5 36 rfl).trans (congrArg some (show uu 5 = .int .i64 b1 from hd 5 (by decide) (by kernel_rfl)))
   clear hd hev hin
   simp only [List.getElem_cons_succ, List.getElem_cons_zero]
   clear hl
   refine .inr ⟨rfl, fun K' hK => ?_⟩
   have HK := Lib.hid hK
   clear hK
   go_simp
   refine (Hq1.out ww).mono ?_
   rintro e W' ⟨rfl, hB⟩
   exact HK.out (.bool true) _ (hJ.later hB) rfl (veL_later hB)
  ·
   have x37 : aa.tmps[37]? = some (.bool true) := (hin 6 37 rfl).trans (congrArg some (show uu 6 = .bool true from hd 6 (by decide) (by kernel_rfl)))
   clear hd hev hin
   simp only [List.getElem_cons_succ, List.getElem_cons_zero]
   clear hl
   refine .inr ⟨rfl, fun K' hK => ?_⟩
   have HK := Lib.hid hK
   clear hK
   go_simp
   exact HK.out (.bool true) _ hJ rfl veL_same
 clear hM
 intro uu W9 hJm hd
 have e_0 : uu 0 = .int .i64 1 := hd 0 (by decide)
 have e_1 : uu 1 = .pointer (some ⟨bk2, 3, none⟩) := hd 1 (by decide)
 have e_2 : uu 2 = .agg #[.int .i64 u.y.lo, .int .i64 u.y.hi, .bool u.y.all] := hd 2 (by decide)
 have e_3 : uu 3 = .int .i64 1 := hd 3 (by decide)
 have e_4 : uu 4 = .pointer (some ⟨bk4, 1, none⟩) := hd 4 (by decide)
 have e_5 : uu 5 = .int .i64 b1 := hd 5 (by decide)
 have e_6 : uu 6 = .bool true := hd 6 (by decide)
 have e_7 : uu 7 = .bool true := hd 7 (by decide)
 clear hd
 simp only [layS, Act.put, List.setIfInBounds_toArray, List.set_cons_succ, List.set_cons_zero, Nat.zero_add, Nat.reduceAdd, List.drop_succ_cons, List.drop_zero, List.drop_nil, e_0, e_1, e_2, e_3, e_4, e_5, e_6, e_7]
 clear e_0 e_1 e_2 e_3 e_4 e_5 e_6 e_7
 have hJ9 := hJm.es
 clear hJm
 have f0 : W9.cell? ⟨bk3, 1, none⟩ = some (.int .i64 a1) := hJ9.cell 1 rfl 1 rfl
 have f1 : W9.cell? ⟨bk4, 1, none⟩ = some (.int .i64 b1) := hJ9.cell 0 rfl 1 rfl
 go_wp2
 clear f0 f1
 rw [rounds_succ]
 go_wp2
 obtain ⟨m5_9, hm⟩ : ∃ m, m = W9.heap.size := ⟨_, rfl⟩
 have hM := hJ9.em
 rw [← hm] at hM
 clear hm hJ9
 refine wp_region_z 8 [some 24, some 25, some 26, some 27, some 28, some 29, some 30, some 11] (veL m5_9 [.eq (.int .i64 2), .eq (.pointer (some ⟨bk1, 6, none⟩)), .eq (.agg #[.int .i64 v.z.lo, .int .i64 v.z.hi, .bool v.z.all]), .eq (.int .i64 2), .eq (.pointer (some ⟨bk3, 2, none⟩)), .eq (.int .i64 a2), .eq (.bool true), .eq (.bool true)]) (Em w m5_9 [(bk4, #[.int .i64 b0, .int .i64 b1, .int .i64 b2], 46), (bk3, #[.int .i64 a0, .int .i64 a1, .int .i64 a2], 46), (bk2, #[.int .i64 u.x.lo, .int .i64 u.x.hi, .bool u.x.all, .int .i64 u.y.lo, .int .i64 u.y.hi, .bool u.y.all, .int .i64 u.z.lo, .int .i64 u.z.hi, .bool u.z.all], 34), (bk1, #[.int .i64 v.x.lo, .int .i64 v.x.hi, .bool v.x.all, .int .i64 v.y.lo, .int .i64 v.y.hi, .bool v.y.all, .int .i64 v.z.lo, .int .i64 v.z.hi, .bool v.z.all], 34)]) (by kernel_rfl) (by kernel_rfl) (by rfl) (by decide) (by rfl) hM ?_ ?_
 ·
  intro i hl hi uu ww aa hJ hd hev hin
  clear hM
  obtain rfl | rfl | rfl | rfl | rfl | rfl | rfl | rfl : i = 0 ∨ i = 1 ∨ i = 2 ∨ i = 3 ∨ i = 4 ∨ i = 5 ∨ i = 6 ∨ i = 7 := by omega
  ·
   have x10 : aa.tmps[10]? = some (.int .i64 2) := (hev 10 (by decide)).trans rfl
   clear hd hev hin
   simp only [List.getElem_cons_succ, List.getElem_cons_zero]
   clear hl
   refine .inr ⟨rfl, fun K' hK => ?_⟩
   have HK := Lib.hid hK
   clear hK
   go_simp
   exact HK.out (.int .i64 2) _ hJ rfl veL_same
  ·
   have x4 : aa.tmps[4]? = some (.pointer (some ⟨bk1, 0, none⟩)) := (hev 4 (by decide)).trans rfl
   have x24 : aa.tmps[24]? = some (.int .i64 2) := (hin 0 24 rfl).trans (congrArg some (show uu 0 = .int .i64 2 from hd 0 (by decide) (by kernel_rfl)))
   clear hd hev hin
   simp only [List.getElem_cons_succ, List.getElem_cons_zero]
   clear hl
   refine .inr ⟨rfl, fun K' hK => ?_⟩
   have HK := Lib.hid hK
   clear hK
   go_simp
   exact HK.out (.pointer (some ⟨bk1, 6, none⟩)) _ hJ rfl veL_same
  ·
   have x25 : aa.tmps[25]? = some (.pointer (some ⟨bk1, 6, none⟩)) := (hin 1 25 rfl).trans (congrArg some (show uu 1 = .pointer (some ⟨bk1, 6, none⟩) from hd 1 (by decide) (by kernel_rfl)))
   clear hd hev hin
   simp only [List.getElem_cons_succ, List.getElem_cons_zero]
   clear hl
   refine .inr ⟨rfl, fun K' hK => ?_⟩
   have HK := Lib.hid hK
   clear hK
   have f0 : ww.cell? ⟨bk1, 6, none⟩ = some (.int .i64 v.z.lo) := hJ.es.cell 3 rfl 6 rfl
   have f1 : ww.cell? ⟨bk1, 7, none⟩ = some (.int .i64 v.z.hi) := hJ.es.cell 3 rfl 7 rfl
   have f2 : ww.cell? ⟨bk1, 8, none⟩ = some (.bool v.z.all) := hJ.es.cell 3 rfl 8 rfl
   go_simp
   exact HK.out (.agg #[.int .i64 v.z.lo, .int .i64 v.z.hi, .bool v.z.all]) _ hJ rfl veL_same
  ·
   have x10 : aa.tmps[10]? = some (.int .i64 2) := (hev 10 (by decide)).trans rfl
   clear hd hev hin
   simp only [List.getElem_cons_succ, List.getElem_cons_zero]
   clear hl
   refine .inr ⟨rfl, fun K' hK => ?_⟩
   have HK := Lib.hid hK
   clear hK
   go_simp
   exact HK.out (.int .i64 2) _ hJ rfl veL_same
  ·
   have x6 : aa.tmps[6]? = some (.pointer (some ⟨bk3, 0, none⟩)) := (hev 6 (by decide)).trans rfl
   have x27 : aa.tmps[27]? = some (.int .i64 2) := (hin 3 27 rfl).trans (congrArg some (show uu 3 = .int .i64 2 from hd 3 (by decide) (by kernel_rfl)))
   clear hd hev hin
   simp only [List.getElem_cons_succ, List.getElem_cons_zero]
   clear hl
   refine .inr ⟨rfl, fun K' hK => ?_⟩
   have HK := Lib.hid hK
   clear hK
   go_simp
   exact HK.out (.pointer (some ⟨bk3, 2, none⟩)) _ hJ rfl veL_same
  ·
   have x28 : aa.tmps[28]? = some (.pointer (some ⟨bk3, 2, none⟩)) := (hin 4 28 rfl).trans (congrArg some (show uu 4 = .pointer (some ⟨bk3, 2, none⟩) from hd 4 (by decide) (by kernel_rfl)))
   clear hd hev hin
   simp only [List.getElem_cons_succ, List.getElem_cons_zero]
   clear hl
   refine .inr ⟨rfl, fun K' hK => ?_⟩
   have HK := Lib.hid hK
   clear hK
   have f0 : ww.cell? ⟨bk3, 2, none⟩ = some (.int .i64 a2) := hJ.es.cell 1 rfl 2 rfl
   go_simp
   exact HK.out (.int .i64 a2) _ hJ rfl veL_same
  ·
   have x26 : aa.tmps[26]? = some (.agg #[.int .i64 v.z.lo, .int .i64 v.z.hi, .bool v.z.all]) := (hin 2 26 rfl).trans (congrArg some (show uu 2 = .agg #[.int .i64 v.z.lo, .int .i64 v.z.hi, .bool v.z.all] from hd 2 (by decide) (by kernel_rfl)))
   have x29 : aa.tmps[29]? = some (.int .i64 a2) := (hin 5 29 rfl).trans (congrArg some (show uu 5 = .int .i64 a2 from hd 5 (by decide) (by kernel_rfl)))
   clear hd hev hin
   simp only [List.getElem_cons_succ, List.getElem_cons_zero]
   clear hl
   refine .inr ⟨rfl, fun K' hK => ?_⟩
   have HK := Lib.hid hK
   clear hK
   go_simp
   refine (Hp2.out ww).mono ?_
   rintro e W' ⟨rfl, hB⟩
   exact HK.out (.bool true) _ (hJ.later hB) rfl (veL_later hB)
  ·
   have x30 : aa.tmps[30]? = some (.bool true) := (hin 6 30 rfl).trans (congrArg some (show uu 6 = .bool true from hd 6 (by decide) (by kernel_rfl)))
   clear hd hev hin
   simp only [List.getElem_cons_succ, List.getElem_cons_zero]
   clear hl
   refine .inr ⟨rfl, fun K' hK => ?_⟩
   have HK := Lib.hid hK
   clear hK
   go_simp
   exact HK.out (.bool true) _ hJ rfl veL_same
 clear hM
 intro uu W10 hJm hd
 have e_0 : uu 0 = .int .i64 2 := hd 0 (by decide)
 have e_1 : uu 1 = .pointer (some ⟨bk1, 6, none⟩) := hd 1 (by decide)
 have e_2 : uu 2 = .agg #[.int .i64 v.z.lo, .int .i64 v.z.hi, .bool v.z.all] := hd 2 (by decide)
 have e_3 : uu 3 = .int .i64 2 := hd 3 (by decide)
 have e_4 : uu 4 = .pointer (some ⟨bk3, 2, none⟩) := hd 4 (by decide)
 have e_5 : uu 5 = .int .i64 a2 := hd 5 (by decide)
 have e_6 : uu 6 = .bool true := hd 6 (by decide)
 have e_7 : uu 7 = .bool true := hd 7 (by decide)
 clear hd
 simp only [layS, Act.put, List.setIfInBounds_toArray, List.set_cons_succ, List.set_cons_zero, Nat.zero_add, Nat.reduceAdd, List.drop_succ_cons, List.drop_zero, List.drop_nil, e_0, e_1, e_2, e_3, e_4, e_5, e_6, e_7]
 clear e_0 e_1 e_2 e_3 e_4 e_5 e_6 e_7
 have hJ10 := hJm.es
 clear hJm
 go_wp2
 obtain ⟨m6_10, hm⟩ : ∃ m, m = W10.heap.size := ⟨_, rfl⟩
 have hM := hJ10.em
 rw [← hm] at hM
 clear hm hJ10
 refine wp_region_z 8 [some 31, some 32, some 33, some 34, some 35, some 36, some 37, some 12] (veL m6_10 [.eq (.int .i64 2), .eq (.pointer (some ⟨bk2, 6, none⟩)), .eq (.agg #[.int .i64 u.z.lo, .int .i64 u.z.hi, .bool u.z.all]), .eq (.int .i64 2), .eq (.pointer (some ⟨bk4, 2, none⟩)), .eq (.int .i64 b2), .eq (.bool true), .eq (.bool true)]) (Em w m6_10 [(bk4, #[.int .i64 b0, .int .i64 b1, .int .i64 b2], 46), (bk3, #[.int .i64 a0, .int .i64 a1, .int .i64 a2], 46), (bk2, #[.int .i64 u.x.lo, .int .i64 u.x.hi, .bool u.x.all, .int .i64 u.y.lo, .int .i64 u.y.hi, .bool u.y.all, .int .i64 u.z.lo, .int .i64 u.z.hi, .bool u.z.all], 34), (bk1, #[.int .i64 v.x.lo, .int .i64 v.x.hi, .bool v.x.all, .int .i64 v.y.lo, .int .i64 v.y.hi, .bool v.y.all, .int .i64 v.z.lo, .int .i64 v.z.hi, .bool v.z.all], 34)]) (by kernel_rfl) (by kernel_rfl) (by rfl) (by decide) (by rfl) hM ?_ ?_
 ·
  intro i hl hi uu ww aa hJ hd hev hin
  clear hM
  obtain rfl | rfl | rfl | rfl | rfl | rfl | rfl | rfl : i = 0 ∨ i = 1 ∨ i = 2 ∨ i = 3 ∨ i = 4 ∨ i = 5 ∨ i = 6 ∨ i = 7 := by omega
  ·
   have x10 : aa.tmps[10]? = some (.int .i64 2) := (hev 10 (by decide)).trans rfl
   clear hd hev hin
   simp only [List.getElem_cons_succ, List.getElem_cons_zero]
   clear hl
   refine .inr ⟨rfl, fun K' hK => ?_⟩
   have HK := Lib.hid hK
   clear hK
   go_simp
   exact HK.out (.int .i64 2) _ hJ rfl veL_same
  ·
   have x5 : aa.tmps[5]? = some (.pointer (some ⟨bk2, 0, none⟩)) := (hev 5 (by decide)).trans rfl
   have x31 : aa.tmps[31]? = some (.int .i64 2) := (hin 0 31 rfl).trans (congrArg some (show uu 0 = .int .i64 2 from hd 0 (by decide) (by kernel_rfl)))
   clear hd hev hin
   simp only [List.getElem_cons_succ, List.getElem_cons_zero]
   clear hl
   refine .inr ⟨rfl, fun K' hK => ?_⟩
   have HK := Lib.hid hK
   clear hK
   go_simp
   exact HK.out (.pointer (some ⟨bk2, 6, none⟩)) _ hJ rfl veL_same
  ·
   have x32 : aa.tmps[32]? = some (.pointer (some ⟨bk2, 6, none⟩)) := (hin 1 32 rfl).trans (congrArg some (show uu 1 = .pointer (some ⟨bk2, 6, none⟩) from hd 1 (by decide) (by kernel_rfl)))
   clear hd hev hin
   simp only [List.getElem_cons_succ, List.getElem_cons_zero]
   clear hl
   refine .inr ⟨rfl, fun K' hK => ?_⟩
   have HK := Lib.hid hK
   clear hK
   have f0 : ww.cell? ⟨bk2, 6, none⟩ = some (.int .i64 u.z.lo) := hJ.es.cell 2 rfl 6 rfl
   have f1 : ww.cell? ⟨bk2, 7, none⟩ = some (.int .i64 u.z.hi) := hJ.es.cell 2 rfl 7 rfl
   have f2 : ww.cell? ⟨bk2, 8, none⟩ = some (.bool u.z.all) := hJ.es.cell 2 rfl 8 rfl
   go_simp
   exact HK.out (.agg #[.int .i64 u.z.lo, .int .i64 u.z.hi, .bool u.z.all]) _ hJ rfl veL_same
  ·
   have x10 : aa.tmps[10]? = some (.int .i64 2) := (hev 10 (by decide)).trans rfl
   clear hd hev hin
   simp only [List.getElem_cons_succ, List.getElem_cons_zero]
   clear hl
   refine .inr ⟨rfl, fun K' hK => ?_⟩
   have HK := Lib.hid hK
   clear hK
   go_simp
   exact HK.out (.int .i64 2) _ hJ rfl veL_same
  ·
   have x7 : aa.tmps[7]? = some (.pointer (some ⟨bk4, 0, none⟩)) := (hev 7 (by decide)).trans rfl
   have x34 : aa.tmps[34]? = some (.int .i64 2) := (hin 3 34 rfl).trans (congrArg some (show uu 3 = .int .i64 2 from hd 3 (by decide) (by kernel_rfl)))
   clear hd hev hin
   simp only [List.getElem_cons_succ, List.getElem_cons_zero]
   clear hl
   refine .inr ⟨rfl, fun K' hK => ?_⟩
   have HK := Lib.hid hK
   clear hK
   go_simp
   exact HK.out (.pointer (some ⟨bk4, 2, none⟩)) _ hJ rfl veL_same
  ·
   have x35 : aa.tmps[35]? = some (.pointer (some ⟨bk4, 2, none⟩)) := (hin 4 35 rfl).trans (congrArg some (show uu 4 = .pointer (some ⟨bk4, 2, none⟩) from hd 4 (by decide) (by kernel_rfl)))
   clear hd hev hin
   simp only [List.getElem_cons_succ, List.getElem_cons_zero]
   clear hl
   refine .inr ⟨rfl, fun K' hK => ?_⟩
   have HK := Lib.hid hK
   clear hK
   have f0 : ww.cell? ⟨bk4, 2, none⟩ = some (.int .i64 b2) := hJ.es.cell 0 rfl 2 rfl
   go_simp
   exact HK.out (.int .i64 b2) _ hJ rfl veL_same
  ·
   have x33 : aa.tmps[33]? = some (.agg #[.int .i64 u.z.lo, .int .i64 u.z.hi, .bool u.z.all]) := (hin 2 33 rfl).trans (congrArg some (show uu 2 = .agg #[.int .i64 u.z.lo, .int .i64 u.z.hi, .bool u.z.all] from hd 2 (by decide) (by kernel_rfl)))
   have x36 : aa.tmps[36]? = some (.int .i64 b2) := (hin 5 36 rfl).trans (congrArg some (show uu 5 = .int .i64 b2 from hd 5 (by decide) (by kernel_rfl)))
   clear hd hev hin
   simp only [List.getElem_cons_succ, List.getElem_cons_zero]
   clear hl
   refine .inr ⟨rfl, fun K' hK => ?_⟩
   have HK := Lib.hid hK
   clear hK
   go_simp
   refine (Hq2.out ww).mono ?_
   rintro e W' ⟨rfl, hB⟩
   exact HK.out (.bool true) _ (hJ.later hB) rfl (veL_later hB)
  ·
   have x37 : aa.tmps[37]? = some (.bool true) := (hin 6 37 rfl).trans (congrArg some (show uu 6 = .bool true from hd 6 (by decide) (by kernel_rfl)))
   clear hd hev hin
   simp only [List.getElem_cons_succ, List.getElem_cons_zero]
   clear hl
   refine .inr ⟨rfl, fun K' hK => ?_⟩
   have HK := Lib.hid hK
   clear hK
   go_simp
   exact HK.out (.bool true) _ hJ rfl veL_same
 clear hM
 intro uu W11 hJm hd
 have e_0 : uu 0 = .int .i64 2 := hd 0 (by decide)
 have e_1 : uu 1 = .pointer (some ⟨bk2, 6, none⟩) := hd 1 (by decide)
 have e_2 : uu 2 = .agg #[.int .i64 u.z.lo, .int .i64 u.z.hi, .bool u.z.all] := hd 2 (by decide)
 have e_3 : uu 3 = .int .i64 2 := hd 3 (by decide)
 have e_4 : uu 4 = .pointer (some ⟨bk4, 2, none⟩) := hd 4 (by decide)
 have e_5 : uu 5 = .int .i64 b2 := hd 5 (by decide)
 have e_6 : uu 6 = .bool true := hd 6 (by decide)
 have e_7 : uu 7 = .bool true := hd 7 (by decide)
 clear hd
 simp only [layS, Act.put, List.setIfInBounds_toArray, List.set_cons_succ, List.set_cons_zero, Nat.zero_add, Nat.reduceAdd, List.drop_succ_cons, List.drop_zero, List.drop_nil, e_0, e_1, e_2, e_3, e_4, e_5, e_6, e_7]
 clear e_0 e_1 e_2 e_3 e_4 e_5 e_6 e_7
 have hJ11 := hJm.es
 clear hJm
 have f0 : W11.cell? ⟨bk3, 2, none⟩ = some (.int .i64 a2) := hJ11.cell 1 rfl 2 rfl
 have f1 : W11.cell? ⟨bk4, 2, none⟩ = some (.int .i64 b2) := hJ11.cell 0 rfl 2 rfl
 go_wp2
 clear f0 f1
 rw [rounds_succ]
 go_wp2
 obtain ⟨m9_11, hm⟩ : ∃ m, m = W11.heap.size := ⟨_, rfl⟩
 have hM := hJ11.em
 rw [← hm] at hM
 clear hm hJ11
 refine wp_region_z 22 [some 69, some 70, some 71, some 72, some 73, some 74, some 75, some 76, some 77, some 78, some 79, some 80, some 81, some 82, some 83, some 84, some 85, some 86, some 87, some 88, some 89, some 13] (veL m9_11 [.eq (.agg #[.int .i64 v.x.lo, .int .i64 v.x.hi, .bool v.x.all, .int .i64 v.y.lo, .int .i64 v.y.hi, .bool v.y.all, .int .i64 v.z.lo, .int .i64 v.z.hi, .bool v.z.all]), .eq (.agg #[.int .i64 u.x.lo, .int .i64 u.x.hi, .bool u.x.all, .int .i64 u.y.lo, .int .i64 u.y.hi, .bool u.y.all, .int .i64 u.z.lo, .int .i64 u.z.hi, .bool u.z.all]), .eq (.agg #[.int .i64 d.lo, .int .i64 d.hi, .bool d.all]), .eq (.pointer (some ⟨bk3, 0, none⟩)), .eq (.int .i64 a0), .eq (.pointer (some ⟨bk4, 0, none⟩)), .eq (.int .i64 b0), .eq (.int .i64 (a0 * b0)), .eq (.pointer (some ⟨bk3, 1, none⟩)), .eq (.int .i64 a1), .eq (.pointer (some ⟨bk4, 1, none⟩)), .eq (.int .i64 b1), .eq (.int .i64 (a1 * b1)), .eq (.int .i64 ((a0 * b0) + (a1 * b1))), .eq (.pointer (some ⟨bk3, 2, none⟩)), .eq (.int .i64 a2), .eq (.pointer (some ⟨bk4, 2, none⟩)), .eq (.int .i64 b2), .eq (.int .i64 (a2 * b2)), .eq (.int .i64 (((a0 * b0) + (a1 * b1)) + (a2 * b2))), .eq (.bool true), .eq (.bool true)]) (Em w m9_11 [(bk4, #[.int .i64 b0, .int .i64 b1, .int .i64 b2], 46), (bk3, #[.int .i64 a0, .int .i64 a1, .int .i64 a2], 46), (bk2, #[.int .i64 u.x.lo, .int .i64 u.x.hi, .bool u.x.all, .int .i64 u.y.lo, .int .i64 u.y.hi, .bool u.y.all, .int .i64 u.z.lo, .int .i64 u.z.hi, .bool u.z.all], 34), (bk1, #[.int .i64 v.x.lo, .int .i64 v.x.hi, .bool v.x.all, .int .i64 v.y.lo, .int .i64 v.y.hi, .bool v.y.all, .int .i64 v.z.lo, .int .i64 v.z.hi, .bool v.z.all], 34)]) (by kernel_rfl) (by kernel_rfl) (by rfl) (by decide) (by rfl) hM ?_ ?_
 ·
  intro i hl hi uu ww aa hJ hd hev hin
  clear hM
  obtain rfl | rfl | rfl | rfl | rfl | rfl | rfl | rfl | rfl | rfl | rfl | rfl | rfl | rfl | rfl | rfl | rfl | rfl | rfl | rfl | rfl | rfl : i = 0 ∨ i = 1 ∨ i = 2 ∨ i = 3 ∨ i = 4 ∨ i = 5 ∨ i = 6 ∨ i = 7 ∨ i = 8 ∨ i = 9 ∨ i = 10 ∨ i = 11 ∨ i = 12 ∨ i = 13 ∨ i = 14 ∨ i = 15 ∨ i = 16 ∨ i = 17 ∨ i = 18 ∨ i = 19 ∨ i = 20 ∨ i = 21 := by omega
  ·
   have x4 : aa.tmps[4]? = some (.pointer (some ⟨bk1, 0, none⟩)) := (hev 4 (by decide)).trans rfl
   clear hd hev hin
   simp only [List.getElem_cons_succ, List.getElem_cons_zero]
   clear hl
   refine .inr ⟨rfl, fun K' hK => ?_⟩
   have HK := Lib.hid hK
   clear hK
   have f0 : ww.cell? ⟨bk1, 0, none⟩ = some (.int .i64 v.x.lo) := hJ.es.cell 3 rfl 0 rfl
   have f1 : ww.cell? ⟨bk1, 1, none⟩ = some (.int .i64 v.x.hi) := hJ.es.cell 3 rfl 1 rfl
   have f2 : ww.cell? ⟨bk1, 2, none⟩ = some (.bool v.x.all) := hJ.es.cell 3 rfl 2 rfl
   have f3 : ww.cell? ⟨bk1, 3, none⟩ = some (.int .i64 v.y.lo) := hJ.es.cell 3 rfl 3 rfl
   have f4 : ww.cell? ⟨bk1, 4, none⟩ = some (.int .i64 v.y.hi) := hJ.es.cell 3 rfl 4 rfl
   have f5 : ww.cell? ⟨bk1, 5, none⟩ = some (.bool v.y.all) := hJ.es.cell 3 rfl 5 rfl
   have f6 : ww.cell? ⟨bk1, 6, none⟩ = some (.int .i64 v.z.lo) := hJ.es.cell 3 rfl 6 rfl
   have f7 : ww.cell? ⟨bk1, 7, none⟩ = some (.int .i64 v.z.hi) := hJ.es.cell 3 rfl 7 rfl
   have f8 : ww.cell? ⟨bk1, 8, none⟩ = some (.bool v.z.all) := hJ.es.cell 3 rfl 8 rfl
   go_simp
   exact HK.out (.agg #[.int .i64 v.x.lo, .int .i64 v.x.hi, .bool v.x.all, .int .i64 v.y.lo, .int .i64 v.y.hi, .bool v.y.all, .int .i64 v.z.lo, .int .i64 v.z.hi, .bool v.z.all]) _ hJ rfl veL_same
  ·
   have x5 : aa.tmps[5]? = some (.pointer (some ⟨bk2, 0, none⟩)) := (hev 5 (by decide)).trans rfl
   clear hd hev hin
   simp only [List.getElem_cons_succ, List.getElem_cons_zero]
   clear hl
   refine .inr ⟨rfl, fun K' hK => ?_⟩
   have HK := Lib.hid hK
   clear hK
   have f0 : ww.cell? ⟨bk2, 0, none⟩ = some (.int .i64 u.x.lo) := hJ.es.cell 2 rfl 0 rfl
   have f1 : ww.cell? ⟨bk2, 1, none⟩ = some (.int .i64 u.x.hi) := hJ.es.cell 2 rfl 1 rfl
   have f2 : ww.cell? ⟨bk2, 2, none⟩ = some (.bool u.x.all) := hJ.es.cell 2 rfl 2 rfl
   have f3 : ww.cell? ⟨bk2, 3, none⟩ = some (.int .i64 u.y.lo) := hJ.es.cell 2 rfl 3 rfl
   have f4 : ww.cell? ⟨bk2, 4, none⟩ = some (.int .i64 u.y.hi) := hJ.es.cell 2 rfl 4 rfl
   have f5 : ww.cell? ⟨bk2, 5, none⟩ = some (.bool u.y.all) := hJ.es.cell 2 rfl 5 rfl
   have f6 : ww.cell? ⟨bk2, 6, none⟩ = some (.int .i64 u.z.lo) := hJ.es.cell 2 rfl 6 rfl
   have f7 : ww.cell? ⟨bk2, 7, none⟩ = some (.int .i64 u.z.hi) := hJ.es.cell 2 rfl 7 rfl
   have f8 : ww.cell? ⟨bk2, 8, none⟩ = some (.bool u.z.all) := hJ.es.cell 2 rfl 8 rfl
   go_simp
   exact HK.out (.agg #[.int .i64 u.x.lo, .int .i64 u.x.hi, .bool u.x.all, .int .i64 u.y.lo, .int .i64 u.y.hi, .bool u.y.all, .int .i64 u.z.lo, .int .i64 u.z.hi, .bool u.z.all]) _ hJ rfl veL_same
  ·
   have x69 : aa.tmps[69]? = some (.agg #[.int .i64 v.x.lo, .int .i64 v.x.hi, .bool v.x.all, .int .i64 v.y.lo, .int .i64 v.y.hi, .bool v.y.all, .int .i64 v.z.lo, .int .i64 v.z.hi, .bool v.z.all]) := (hin 0 69 rfl).trans (congrArg some (show uu 0 = .agg #[.int .i64 v.x.lo, .int .i64 v.x.hi, .bool v.x.all, .int .i64 v.y.lo, .int .i64 v.y.hi, .bool v.y.all, .int .i64 v.z.lo, .int .i64 v.z.hi, .bool v.z.all] from hd 0 (by decide) (by kernel_rfl)))
   have x70 : aa.tmps[70]? = some (.agg #[.int .i64 u.x.lo, .int .i64 u.x.hi, .bool u.x.all, .int .i64 u.y.lo, .int .i64 u.y.hi, .bool u.y.all, .int .i64 u.z.lo, .int .i64 u.z.hi, .bool u.z.all]) := (hin 1 70 rfl).trans (congrArg some (show uu 1 = .agg #[.int .i64 u.x.lo, .int .i64 u.x.hi, .bool u.x.all, .int .i64 u.y.lo, .int .i64 u.y.hi, .bool u.y.all, .int .i64 u.z.lo, .int .i64 u.z.hi, .bool u.z.all] from hd 1 (by decide) (by kernel_rfl)))
   clear hd hev hin
   simp only [List.getElem_cons_succ, List.getElem_cons_zero]
   clear hl
   refine .inr ⟨rfl, fun K' hK => ?_⟩
   have HK := Lib.hid hK
   clear hK
   go_simp
   refine (Hd.out ww).mono ?_
   rintro e W' ⟨rfl, hB⟩
   exact HK.out (.agg #[.int .i64 d.lo, .int .i64 d.hi, .bool d.all]) _ (hJ.later hB) rfl (veL_later hB)
  ·
   have x6 : aa.tmps[6]? = some (.pointer (some ⟨bk3, 0, none⟩)) := (hev 6 (by decide)).trans rfl
   clear hd hev hin
   simp only [List.getElem_cons_succ, List.getElem_cons_zero]
   clear hl
   refine .inr ⟨rfl, fun K' hK => ?_⟩
   have HK := Lib.hid hK
   clear hK
   go_simp
   exact HK.out (.pointer (some ⟨bk3, 0, none⟩)) _ hJ rfl veL_same
  ·
   have x72 : aa.tmps[72]? = some (.pointer (some ⟨bk3, 0, none⟩)) := (hin 3 72 rfl).trans (congrArg some (show uu 3 = .pointer (some ⟨bk3, 0, none⟩) from hd 3 (by decide) (by kernel_rfl)))
   clear hd hev hin
   simp only [List.getElem_cons_succ, List.getElem_cons_zero]
   clear hl
   refine .inr ⟨rfl, fun K' hK => ?_⟩
   have HK := Lib.hid hK
   clear hK
   have f0 : ww.cell? ⟨bk3, 0, none⟩ = some (.int .i64 a0) := hJ.es.cell 1 rfl 0 rfl
   go_simp
   exact HK.out (.int .i64 a0) _ hJ rfl veL_same
  ·
   have x7 : aa.tmps[7]? = some (.pointer (some ⟨bk4, 0, none⟩)) := (hev 7 (by decide)).trans rfl
   clear hd hev hin
   simp only [List.getElem_cons_succ, List.getElem_cons_zero]
   clear hl
   refine .inr ⟨rfl, fun K' hK => ?_⟩
   have HK := Lib.hid hK
   clear hK
   go_simp
   exact HK.out (.pointer (some ⟨bk4, 0, none⟩)) _ hJ rfl veL_same
  ·
   have x74 : aa.tmps[74]? = some (.pointer (some ⟨bk4, 0, none⟩)) := (hin 5 74 rfl).trans (congrArg some (show uu 5 = .pointer (some ⟨bk4, 0, none⟩) from hd 5 (by decide) (by kernel_rfl)))
   clear hd hev hin
   simp only [List.getElem_cons_succ, List.getElem_cons_zero]
   clear hl
   refine .inr ⟨rfl, fun K' hK => ?_⟩
   have HK := Lib.hid hK
   clear hK
   have f0 : ww.cell? ⟨bk4, 0, none⟩ = some (.int .i64 b0) := hJ.es.cell 0 rfl 0 rfl
   go_simp
   exact HK.out (.int .i64 b0) _ hJ rfl veL_same
  ·
   have x73 : aa.tmps[73]? = some (.int .i64 a0) := (hin 4 73 rfl).trans (congrArg some (show uu 4 = .int .i64 a0 from hd 4 (by decide) (by kernel_rfl)))
   have x75 : aa.tmps[75]? = some (.int .i64 b0) := (hin 6 75 rfl).trans (congrArg some (show uu 6 = .int .i64 b0 from hd 6 (by decide) (by kernel_rfl)))
   clear hd hev hin
   simp only [List.getElem_cons_succ, List.getElem_cons_zero]
   clear hl
   refine .inr ⟨rfl, fun K' hK => ?_⟩
   have HK := Lib.hid hK
   clear hK
   have qK0 := K0.out
   have rK0 := wrapI K0.out
   go_simp
   exact HK.out (.int .i64 (a0 * b0)) _ hJ rfl veL_same
  ·
   have x6 : aa.tmps[6]? = some (.pointer (some ⟨bk3, 0, none⟩)) := (hev 6 (by decide)).trans rfl
   clear hd hev hin
   simp only [List.getElem_cons_succ, List.getElem_cons_zero]
   clear hl
   refine .inr ⟨rfl, fun K' hK => ?_⟩
   have HK := Lib.hid hK
   clear hK
   go_simp
   exact HK.out (.pointer (some ⟨bk3, 1, none⟩)) _ hJ rfl veL_same
  ·
   have x77 : aa.tmps[77]? = some (.pointer (some ⟨bk3, 1, none⟩)) := (hin 8 77 rfl).trans (congrArg some (show uu 8 = .pointer (some ⟨bk3, 1, none⟩) from hd 8 (by decide) (by kernel_rfl)))
   clear hd hev hin
   simp only [List.getElem_cons_succ, List.getElem_cons_zero]
   clear hl
   refine .inr ⟨rfl, fun K' hK => ?_⟩
   have HK := Lib.hid hK
   clear hK
   have f0 : ww.cell? ⟨bk3, 1, none⟩ = some (.int .i64 a1) := hJ.es.cell 1 rfl 1 rfl
   go_simp
   exact HK.out (.int .i64 a1) _ hJ rfl veL_same
  ·
   have x7 : aa.tmps[7]? = some (.pointer (some ⟨bk4, 0, none⟩)) := (hev 7 (by decide)).trans rfl
   clear hd hev hin
   simp only [List.getElem_cons_succ, List.getElem_cons_zero]
   clear hl
   refine .inr ⟨rfl, fun K' hK => ?_⟩
   have HK := Lib.hid hK
   clear hK
   go_simp
   exact HK.out (.pointer (some ⟨bk4, 1, none⟩)) _ hJ rfl veL_same
  ·
   have x79 : aa.tmps[79]? = some (.pointer (some ⟨bk4, 1, none⟩)) := (hin 10 79 rfl).trans (congrArg some (show uu 10 = .pointer (some ⟨bk4, 1, none⟩) from hd 10 (by decide) (by kernel_rfl)))
   clear hd hev hin
   simp only [List.getElem_cons_succ, List.getElem_cons_zero]
   clear hl
   refine .inr ⟨rfl, fun K' hK => ?_⟩
   have HK := Lib.hid hK
   clear hK
   have f0 : ww.cell? ⟨bk4, 1, none⟩ = some (.int .i64 b1) := hJ.es.cell 0 rfl 1 rfl
   go_simp
   exact HK.out (.int .i64 b1) _ hJ rfl veL_same
  ·
   have x78 : aa.tmps[78]? = some (.int .i64 a1) := (hin 9 78 rfl).trans (congrArg some (show uu 9 = .int .i64 a1 from hd 9 (by decide) (by kernel_rfl)))
   have x80 : aa.tmps[80]? = some (.int .i64 b1) := (hin 11 80 rfl).trans (congrArg some (show uu 11 = .int .i64 b1 from hd 11 (by decide) (by kernel_rfl)))
   clear hd hev hin
   simp only [List.getElem_cons_succ, List.getElem_cons_zero]
   clear hl
   refine .inr ⟨rfl, fun K' hK => ?_⟩
   have HK := Lib.hid hK
   clear hK
   have qK1 := K1.out
   have rK1 := wrapI K1.out
   go_simp
   exact HK.out (.int .i64 (a1 * b1)) _ hJ rfl veL_same
  ·
   have x76 : aa.tmps[76]? = some (.int .i64 (a0 * b0)) := (hin 7 76 rfl).trans (congrArg some (show uu 7 = .int .i64 (a0 * b0) from hd 7 (by decide) (by kernel_rfl)))
   have x81 : aa.tmps[81]? = some (.int .i64 (a1 * b1)) := (hin 12 81 rfl).trans (congrArg some (show uu 12 = .int .i64 (a1 * b1) from hd 12 (by decide) (by kernel_rfl)))
   clear hd hev hin
   simp only [List.getElem_cons_succ, List.getElem_cons_zero]
   clear hl
   refine .inr ⟨rfl, fun K' hK => ?_⟩
   have HK := Lib.hid hK
   clear hK
   have qK2 := K2.out
   have rK2 := wrapI K2.out
   go_simp
   exact HK.out (.int .i64 ((a0 * b0) + (a1 * b1))) _ hJ rfl veL_same
  ·
   have x6 : aa.tmps[6]? = some (.pointer (some ⟨bk3, 0, none⟩)) := (hev 6 (by decide)).trans rfl
   clear hd hev hin
   simp only [List.getElem_cons_succ, List.getElem_cons_zero]
   clear hl
   refine .inr ⟨rfl, fun K' hK => ?_⟩
   have HK := Lib.hid hK
   clear hK
   go_simp
   exact HK.out (.pointer (some ⟨bk3, 2, none⟩)) _ hJ rfl veL_same
  ·
   have x83 : aa.tmps[83]? = some (.pointer (some ⟨bk3, 2, none⟩)) := (hin 14 83 rfl).trans (congrArg some (show uu 14 = .pointer (some ⟨bk3, 2, none⟩) from hd 14 (by decide) (by kernel_rfl)))
   clear hd hev hin
   simp only [List.getElem_cons_succ, List.getElem_cons_zero]
   clear hl
   refine .inr ⟨rfl, fun K' hK => ?_⟩
   have HK := Lib.hid hK
   clear hK
   have f0 : ww.cell? ⟨bk3, 2, none⟩ = some (.int .i64 a2) := hJ.es.cell 1 rfl 2 rfl
   go_simp
   exact HK.out (.int .i64 a2) _ hJ rfl veL_same
  ·
   have x7 : aa.tmps[7]? = some (.pointer (some ⟨bk4, 0, none⟩)) := (hev 7 (by decide)).trans rfl
   clear hd hev hin
   simp only [List.getElem_cons_succ, List.getElem_cons_zero]
   clear hl
   refine .inr ⟨rfl, fun K' hK => ?_⟩
   have HK := Lib.hid hK
   clear hK
   go_simp
   exact HK.out (.pointer (some ⟨bk4, 2, none⟩)) _ hJ rfl veL_same
  ·
   have x85 : aa.tmps[85]? = some (.pointer (some ⟨bk4, 2, none⟩)) := (hin 16 85 rfl).trans (congrArg some (show uu 16 = .pointer (some ⟨bk4, 2, none⟩) from hd 16 (by decide) (by kernel_rfl)))
   clear hd hev hin
   simp only [List.getElem_cons_succ, List.getElem_cons_zero]
   clear hl
   refine .inr ⟨rfl, fun K' hK => ?_⟩
   have HK := Lib.hid hK
   clear hK
   have f0 : ww.cell? ⟨bk4, 2, none⟩ = some (.int .i64 b2) := hJ.es.cell 0 rfl 2 rfl
   go_simp
   exact HK.out (.int .i64 b2) _ hJ rfl veL_same
  ·
   have x84 : aa.tmps[84]? = some (.int .i64 a2) := (hin 15 84 rfl).trans (congrArg some (show uu 15 = .int .i64 a2 from hd 15 (by decide) (by kernel_rfl)))
   have x86 : aa.tmps[86]? = some (.int .i64 b2) := (hin 17 86 rfl).trans (congrArg some (show uu 17 = .int .i64 b2 from hd 17 (by decide) (by kernel_rfl)))
   clear hd hev hin
   simp only [List.getElem_cons_succ, List.getElem_cons_zero]
   clear hl
   refine .inr ⟨rfl, fun K' hK => ?_⟩
   have HK := Lib.hid hK
   clear hK
   have qK3 := K3.out
   have rK3 := wrapI K3.out
   go_simp
   exact HK.out (.int .i64 (a2 * b2)) _ hJ rfl veL_same
  ·
   have x82 : aa.tmps[82]? = some (.int .i64 ((a0 * b0) + (a1 * b1))) := (hin 13 82 rfl).trans (congrArg some (show uu 13 = .int .i64 ((a0 * b0) + (a1 * b1)) from hd 13 (by decide) (by kernel_rfl)))
   have x87 : aa.tmps[87]? = some (.int .i64 (a2 * b2)) := (hin 18 87 rfl).trans (congrArg some (show uu 18 = .int .i64 (a2 * b2) from hd 18 (by decide) (by kernel_rfl)))
   clear hd hev hin
   simp only [List.getElem_cons_succ, List.getElem_cons_zero]
   clear hl
   refine .inr ⟨rfl, fun K' hK => ?_⟩
   have HK := Lib.hid hK
   clear hK
   have qK4 := K4.out
   have rK4 := wrapI K4.out
   go_simp
   exact HK.out (.int .i64 (((a0 * b0) + (a1 * b1)) + (a2 * b2))) _ hJ rfl veL_same
  ·
   have x71 : aa.tmps[71]? = some (.agg #[.int .i64 d.lo, .int .i64 d.hi, .bool d.all]) := (hin 2 71 rfl).trans (congrArg some (show uu 2 = .agg #[.int .i64 d.lo, .int .i64 d.hi, .bool d.all] from hd 2 (by decide) (by kernel_rfl)))
   have x88 : aa.tmps[88]? = some (.int .i64 (((a0 * b0) + (a1 * b1)) + (a2 * b2))) := (hin 19 88 rfl).trans (congrArg some (show uu 19 = .int .i64 (((a0 * b0) + (a1 * b1)) + (a2 * b2)) from hd 19 (by decide) (by kernel_rfl)))
   clear hd hev hin
   simp only [List.getElem_cons_succ, List.getElem_cons_zero]
   clear hl
   refine .inr ⟨rfl, fun K' hK => ?_⟩
   have HK := Lib.hid hK
   clear hK
   go_simp
   refine (Hdi.out ww).mono ?_
   rintro e W' ⟨rfl, hB⟩
   exact HK.out (.bool true) _ (hJ.later hB) rfl (veL_later hB)
  ·
   have x89 : aa.tmps[89]? = some (.bool true) := (hin 20 89 rfl).trans (congrArg some (show uu 20 = .bool true from hd 20 (by decide) (by kernel_rfl)))
   clear hd hev hin
   simp only [List.getElem_cons_succ, List.getElem_cons_zero]
   clear hl
   refine .inr ⟨rfl, fun K' hK => ?_⟩
   have HK := Lib.hid hK
   clear hK
   go_simp
   exact HK.out (.bool true) _ hJ rfl veL_same
 clear hM
 intro uu W12 hJm hd
 have e_0 : uu 0 = .agg #[.int .i64 v.x.lo, .int .i64 v.x.hi, .bool v.x.all, .int .i64 v.y.lo, .int .i64 v.y.hi, .bool v.y.all, .int .i64 v.z.lo, .int .i64 v.z.hi, .bool v.z.all] := hd 0 (by decide)
 have e_1 : uu 1 = .agg #[.int .i64 u.x.lo, .int .i64 u.x.hi, .bool u.x.all, .int .i64 u.y.lo, .int .i64 u.y.hi, .bool u.y.all, .int .i64 u.z.lo, .int .i64 u.z.hi, .bool u.z.all] := hd 1 (by decide)
 have e_2 : uu 2 = .agg #[.int .i64 d.lo, .int .i64 d.hi, .bool d.all] := hd 2 (by decide)
 have e_3 : uu 3 = .pointer (some ⟨bk3, 0, none⟩) := hd 3 (by decide)
 have e_4 : uu 4 = .int .i64 a0 := hd 4 (by decide)
 have e_5 : uu 5 = .pointer (some ⟨bk4, 0, none⟩) := hd 5 (by decide)
 have e_6 : uu 6 = .int .i64 b0 := hd 6 (by decide)
 have e_7 : uu 7 = .int .i64 (a0 * b0) := hd 7 (by decide)
 have e_8 : uu 8 = .pointer (some ⟨bk3, 1, none⟩) := hd 8 (by decide)
 have e_9 : uu 9 = .int .i64 a1 := hd 9 (by decide)
 have e_10 : uu 10 = .pointer (some ⟨bk4, 1, none⟩) := hd 10 (by decide)
 have e_11 : uu 11 = .int .i64 b1 := hd 11 (by decide)
 have e_12 : uu 12 = .int .i64 (a1 * b1) := hd 12 (by decide)
 have e_13 : uu 13 = .int .i64 ((a0 * b0) + (a1 * b1)) := hd 13 (by decide)
 have e_14 : uu 14 = .pointer (some ⟨bk3, 2, none⟩) := hd 14 (by decide)
 have e_15 : uu 15 = .int .i64 a2 := hd 15 (by decide)
 have e_16 : uu 16 = .pointer (some ⟨bk4, 2, none⟩) := hd 16 (by decide)
 have e_17 : uu 17 = .int .i64 b2 := hd 17 (by decide)
 have e_18 : uu 18 = .int .i64 (a2 * b2) := hd 18 (by decide)
 have e_19 : uu 19 = .int .i64 (((a0 * b0) + (a1 * b1)) + (a2 * b2)) := hd 19 (by decide)
 have e_20 : uu 20 = .bool true := hd 20 (by decide)
 have e_21 : uu 21 = .bool true := hd 21 (by decide)
 clear hd
 simp only [layS, Act.put, List.setIfInBounds_toArray, List.set_cons_succ, List.set_cons_zero, Nat.zero_add, Nat.reduceAdd, List.drop_succ_cons, List.drop_zero, List.drop_nil, e_0, e_1, e_2, e_3, e_4, e_5, e_6, e_7, e_8, e_9, e_10, e_11, e_12, e_13, e_14, e_15, e_16, e_17, e_18, e_19, e_20, e_21]
 clear e_0 e_1 e_2 e_3 e_4 e_5 e_6 e_7 e_8 e_9 e_10 e_11 e_12 e_13 e_14 e_15 e_16 e_17 e_18 e_19 e_20 e_21
 have hJ12 := hJm.es
 clear hJm
 go_wp2
 obtain ⟨m10_12, hm⟩ : ∃ m, m = W12.heap.size := ⟨_, rfl⟩
 have hM := hJ12.em
 rw [← hm] at hM
 clear hm hJ12
 refine wp_region_z 21 [some 90, some 91, some 92, some 93, some 94, some 95, some 96, some 97, some 98, some 99, some 100, some 101, some 102, some 103, some 104, some 105, some 106, some 107, some 108, some 109, some 14] (veL m10_12 [.eq (.agg #[.int .i64 v.x.lo, .int .i64 v.x.hi, .bool v.x.all, .int .i64 v.y.lo, .int .i64 v.y.hi, .bool v.y.all, .int .i64 v.z.lo, .int .i64 v.z.hi, .bool v.z.all]), .eq (.agg #[.int .i64 n.lo, .int .i64 n.hi, .bool n.all]), .eq (.pointer (some ⟨bk3, 0, none⟩)), .eq (.int .i64 a0), .eq (.pointer (some ⟨bk3, 0, none⟩)), .eq (.int .i64 a0), .eq (.int .i64 (a0 * a0)), .eq (.pointer (some ⟨bk3, 1, none⟩)), .eq (.int .i64 a1), .eq (.pointer (some ⟨bk3, 1, none⟩)), .eq (.int .i64 a1), .eq (.int .i64 (a1 * a1)), .eq (.int .i64 ((a0 * a0) + (a1 * a1))), .eq (.pointer (some ⟨bk3, 2, none⟩)), .eq (.int .i64 a2), .eq (.pointer (some ⟨bk3, 2, none⟩)), .eq (.int .i64 a2), .eq (.int .i64 (a2 * a2)), .eq (.int .i64 (((a0 * a0) + (a1 * a1)) + (a2 * a2))), .eq (.bool true), .eq (.bool true)]) (Em w m10_12 [(bk4, #[.int .i64 b0, .int .i64 b1, .int .i64 b2], 46), (bk3, #[.int .i64 a0, .int .i64 a1, .int .i64 a2], 46), (bk2, #[.int .i64 u.x.lo, .int .i64 u.x.hi, .bool u.x.all, .int .i64 u.y.lo, .int .i64 u.y.hi, .bool u.y.all, .int .i64 u.z.lo, .int .i64 u.z.hi, .bool u.z.all], 34), (bk1, #[.int .i64 v.x.lo, .int .i64 v.x.hi, .bool v.x.all, .int .i64 v.y.lo, .int .i64 v.y.hi, .bool v.y.all, .int .i64 v.z.lo, .int .i64 v.z.hi, .bool v.z.all], 34)]) (by kernel_rfl) (by kernel_rfl) (by rfl) (by decide) (by rfl) hM ?_ ?_
 ·
  intro i hl hi uu ww aa hJ hd hev hin
  clear hM
  obtain rfl | rfl | rfl | rfl | rfl | rfl | rfl | rfl | rfl | rfl | rfl | rfl | rfl | rfl | rfl | rfl | rfl | rfl | rfl | rfl | rfl : i = 0 ∨ i = 1 ∨ i = 2 ∨ i = 3 ∨ i = 4 ∨ i = 5 ∨ i = 6 ∨ i = 7 ∨ i = 8 ∨ i = 9 ∨ i = 10 ∨ i = 11 ∨ i = 12 ∨ i = 13 ∨ i = 14 ∨ i = 15 ∨ i = 16 ∨ i = 17 ∨ i = 18 ∨ i = 19 ∨ i = 20 := by omega
  ·
   have x4 : aa.tmps[4]? = some (.pointer (some ⟨bk1, 0, none⟩)) := (hev 4 (by decide)).trans rfl
   clear hd hev hin
   simp only [List.getElem_cons_succ, List.getElem_cons_zero]
   clear hl
   refine .inr ⟨rfl, fun K' hK => ?_⟩
   have HK := Lib.hid hK
   clear hK
   have f0 : ww.cell? ⟨bk1, 0, none⟩ = some (.int .i64 v.x.lo) := hJ.es.cell 3 rfl 0 rfl
   have f1 : ww.cell? ⟨bk1, 1, none⟩ = some (.int .i64 v.x.hi) := hJ.es.cell 3 rfl 1 rfl
   have f2 : ww.cell? ⟨bk1, 2, none⟩ = some (.bool v.x.all) := hJ.es.cell 3 rfl 2 rfl
   have f3 : ww.cell? ⟨bk1, 3, none⟩ = some (.int .i64 v.y.lo) := hJ.es.cell 3 rfl 3 rfl
   have f4 : ww.cell? ⟨bk1, 4, none⟩ = some (.int .i64 v.y.hi) := hJ.es.cell 3 rfl 4 rfl
   have f5 : ww.cell? ⟨bk1, 5, none⟩ = some (.bool v.y.all) := hJ.es.cell 3 rfl 5 rfl
   have f6 : ww.cell? ⟨bk1, 6, none⟩ = some (.int .i64 v.z.lo) := hJ.es.cell 3 rfl 6 rfl
   have f7 : ww.cell? ⟨bk1, 7, none⟩ = some (.int .i64 v.z.hi) := hJ.es.cell 3 rfl 7 rfl
   have f8 : ww.cell? ⟨bk1, 8, none⟩ = some (.bool v.z.all) := hJ.es.cell 3 rfl 8 rfl
   go_simp
   exact HK.out (.agg #[.int .i64 v.x.lo, .int .i64 v.x.hi, .bool v.x.all, .int .i64 v.y.lo, .int .i64 v.y.hi, .bool v.y.all, .int .i64 v.z.lo, .int .i64 v.z.hi, .bool v.z.all]) _ hJ rfl veL_same
  ·
   have x90 : aa.tmps[90]? = some (.agg #[.int .i64 v.x.lo, .int .i64 v.x.hi, .bool v.x.all, .int .i64 v.y.lo, .int .i64 v.y.hi, .bool v.y.all, .int .i64 v.z.lo, .int .i64 v.z.hi, .bool v.z.all]) := (hin 0 90 rfl).trans (congrArg some (show uu 0 = .agg #[.int .i64 v.x.lo, .int .i64 v.x.hi, .bool v.x.all, .int .i64 v.y.lo, .int .i64 v.y.hi, .bool v.y.all, .int .i64 v.z.lo, .int .i64 v.z.hi, .bool v.z.all] from hd 0 (by decide) (by kernel_rfl)))
   clear hd hev hin
   simp only [List.getElem_cons_succ, List.getElem_cons_zero]
   clear hl
   refine .inr ⟨rfl, fun K' hK => ?_⟩
   have HK := Lib.hid hK
   clear hK
   go_simp
   refine (Hn.out ww).mono ?_
   rintro e W' ⟨rfl, hB⟩
   exact HK.out (.agg #[.int .i64 n.lo, .int .i64 n.hi, .bool n.all]) _ (hJ.later hB) rfl (veL_later hB)
  ·
   have x6 : aa.tmps[6]? = some (.pointer (some ⟨bk3, 0, none⟩)) := (hev 6 (by decide)).trans rfl
   clear hd hev hin
   simp only [List.getElem_cons_succ, List.getElem_cons_zero]
   clear hl
   refine .inr ⟨rfl, fun K' hK => ?_⟩
   have HK := Lib.hid hK
   clear hK
   go_simp
   exact HK.out (.pointer (some ⟨bk3, 0, none⟩)) _ hJ rfl veL_same
  ·
   have x92 : aa.tmps[92]? = some (.pointer (some ⟨bk3, 0, none⟩)) := (hin 2 92 rfl).trans (congrArg some (show uu 2 = .pointer (some ⟨bk3, 0, none⟩) from hd 2 (by decide) (by kernel_rfl)))
   clear hd hev hin
   simp only [List.getElem_cons_succ, List.getElem_cons_zero]
   clear hl
   refine .inr ⟨rfl, fun K' hK => ?_⟩
   have HK := Lib.hid hK
   clear hK
   have f0 : ww.cell? ⟨bk3, 0, none⟩ = some (.int .i64 a0) := hJ.es.cell 1 rfl 0 rfl
   go_simp
   exact HK.out (.int .i64 a0) _ hJ rfl veL_same
  ·
   have x6 : aa.tmps[6]? = some (.pointer (some ⟨bk3, 0, none⟩)) := (hev 6 (by decide)).trans rfl
   clear hd hev hin
   simp only [List.getElem_cons_succ, List.getElem_cons_zero]
   clear hl
   refine .inr ⟨rfl, fun K' hK => ?_⟩
   have HK := Lib.hid hK
   clear hK
   go_simp
   exact HK.out (.pointer (some ⟨bk3, 0, none⟩)) _ hJ rfl veL_same
  ·
   have x94 : aa.tmps[94]? = some (.pointer (some ⟨bk3, 0, none⟩)) := (hin 4 94 rfl).trans (congrArg some (show uu 4 = .pointer (some ⟨bk3, 0, none⟩) from hd 4 (by decide) (by kernel_rfl)))
   clear hd hev hin
   simp only [List.getElem_cons_succ, List.getElem_cons_zero]
   clear hl
   refine .inr ⟨rfl, fun K' hK => ?_⟩
   have HK := Lib.hid hK
   clear hK
   have f0 : ww.cell? ⟨bk3, 0, none⟩ = some (.int .i64 a0) := hJ.es.cell 1 rfl 0 rfl
   go_simp
   exact HK.out (.int .i64 a0) _ hJ rfl veL_same
  ·
   have x93 : aa.tmps[93]? = some (.int .i64 a0) := (hin 3 93 rfl).trans (congrArg some (show uu 3 = .int .i64 a0 from hd 3 (by decide) (by kernel_rfl)))
   have x95 : aa.tmps[95]? = some (.int .i64 a0) := (hin 5 95 rfl).trans (congrArg some (show uu 5 = .int .i64 a0 from hd 5 (by decide) (by kernel_rfl)))
   clear hd hev hin
   simp only [List.getElem_cons_succ, List.getElem_cons_zero]
   clear hl
   refine .inr ⟨rfl, fun K' hK => ?_⟩
   have HK := Lib.hid hK
   clear hK
   have qK5 := K5.out
   have rK5 := wrapI K5.out
   go_simp
   exact HK.out (.int .i64 (a0 * a0)) _ hJ rfl veL_same
  ·
   have x6 : aa.tmps[6]? = some (.pointer (some ⟨bk3, 0, none⟩)) := (hev 6 (by decide)).trans rfl
   clear hd hev hin
   simp only [List.getElem_cons_succ, List.getElem_cons_zero]
   clear hl
   refine .inr ⟨rfl, fun K' hK => ?_⟩
   have HK := Lib.hid hK
   clear hK
   go_simp
   exact HK.out (.pointer (some ⟨bk3, 1, none⟩)) _ hJ rfl veL_same
  ·
   have x97 : aa.tmps[97]? = some (.pointer (some ⟨bk3, 1, none⟩)) := (hin 7 97 rfl).trans (congrArg some (show uu 7 = .pointer (some ⟨bk3, 1, none⟩) from hd 7 (by decide) (by kernel_rfl)))
   clear hd hev hin
   simp only [List.getElem_cons_succ, List.getElem_cons_zero]
   clear hl
   refine .inr ⟨rfl, fun K' hK => ?_⟩
   have HK := Lib.hid hK
   clear hK
   have f0 : ww.cell? ⟨bk3, 1, none⟩ = some (.int .i64 a1) := hJ.es.cell 1 rfl 1 rfl
   go_simp
   exact HK.out (.int .i64 a1) _ hJ rfl veL_same
  ·
   have x6 : aa.tmps[6]? = some (.pointer (some ⟨bk3, 0, none⟩)) := (hev 6 (by decide)).trans rfl
   clear hd hev hin
   simp only [List.getElem_cons_succ, List.getElem_cons_zero]
   clear hl
   refine .inr ⟨rfl, fun K' hK => ?_⟩
   have HK := Lib.hid hK
   clear hK
   go_simp
   exact HK.out (.pointer (some ⟨bk3, 1, none⟩)) _ hJ rfl veL_same
  ·
   have x99 : aa.tmps[99]? = some (.pointer (some ⟨bk3, 1, none⟩)) := (hin 9 99 rfl).trans (congrArg some (show uu 9 = .pointer (some ⟨bk3, 1, none⟩) from hd 9 (by decide) (by kernel_rfl)))
   clear hd hev hin
   simp only [List.getElem_cons_succ, List.getElem_cons_zero]
   clear hl
   refine .inr ⟨rfl, fun K' hK => ?_⟩
   have HK := Lib.hid hK
   clear hK
   have f0 : ww.cell? ⟨bk3, 1, none⟩ = some (.int .i64 a1) := hJ.es.cell 1 rfl 1 rfl
   go_simp
   exact HK.out (.int .i64 a1) _ hJ rfl veL_same
  ·
   have x98 : aa.tmps[98]? = some (.int .i64 a1) := (hin 8 98 rfl).trans (congrArg some (show uu 8 = .int .i64 a1 from hd 8 (by decide) (by kernel_rfl)))
   have x100 : aa.tmps[100]? = some (.int .i64 a1) := (hin 10 100 rfl).trans (congrArg some (show uu 10 = .int .i64 a1 from hd 10 (by decide) (by kernel_rfl)))
   clear hd hev hin
   simp only [List.getElem_cons_succ, List.getElem_cons_zero]
   clear hl
   refine .inr ⟨rfl, fun K' hK => ?_⟩
   have HK := Lib.hid hK
   clear hK
   have qK6 := K6.out
   have rK6 := wrapI K6.out
   go_simp
   exact HK.out (.int .i64 (a1 * a1)) _ hJ rfl veL_same
  ·
   have x96 : aa.tmps[96]? = some (.int .i64 (a0 * a0)) := (hin 6 96 rfl).trans (congrArg some (show uu 6 = .int .i64 (a0 * a0) from hd 6 (by decide) (by kernel_rfl)))
   have x101 : aa.tmps[101]? = some (.int .i64 (a1 * a1)) := (hin 11 101 rfl).trans (congrArg some (show uu 11 = .int .i64 (a1 * a1) from hd 11 (by decide) (by kernel_rfl)))
   clear hd hev hin
   simp only [List.getElem_cons_succ, List.getElem_cons_zero]
   clear hl
   refine .inr ⟨rfl, fun K' hK => ?_⟩
   have HK := Lib.hid hK
   clear hK
   have qK7 := K7.out
   have rK7 := wrapI K7.out
   go_simp
   exact HK.out (.int .i64 ((a0 * a0) + (a1 * a1))) _ hJ rfl veL_same
  ·
   have x6 : aa.tmps[6]? = some (.pointer (some ⟨bk3, 0, none⟩)) := (hev 6 (by decide)).trans rfl
   clear hd hev hin
   simp only [List.getElem_cons_succ, List.getElem_cons_zero]
   clear hl
   refine .inr ⟨rfl, fun K' hK => ?_⟩
   have HK := Lib.hid hK
   clear hK
   go_simp
   exact HK.out (.pointer (some ⟨bk3, 2, none⟩)) _ hJ rfl veL_same
  ·
   have x103 : aa.tmps[103]? = some (.pointer (some ⟨bk3, 2, none⟩)) := (hin 13 103 rfl).trans (congrArg some (show uu 13 = .pointer (some ⟨bk3, 2, none⟩) from hd 13 (by decide) (by kernel_rfl)))
   clear hd hev hin
   simp only [List.getElem_cons_succ, List.getElem_cons_zero]
   clear hl
   refine .inr ⟨rfl, fun K' hK => ?_⟩
   have HK := Lib.hid hK
   clear hK
   have f0 : ww.cell? ⟨bk3, 2, none⟩ = some (.int .i64 a2) := hJ.es.cell 1 rfl 2 rfl
   go_simp
   exact HK.out (.int .i64 a2) _ hJ rfl veL_same
  ·
   have x6 : aa.tmps[6]? = some (.pointer (some ⟨bk3, 0, none⟩)) := (hev 6 (by decide)).trans rfl
   clear hd hev hin
   simp only [List.getElem_cons_succ, List.getElem_cons_zero]
   clear hl
   refine .inr ⟨rfl, fun K' hK => ?_⟩
   have HK := Lib.hid hK
   clear hK
   go_simp
   exact HK.out (.pointer (some ⟨bk3, 2, none⟩)) _ hJ rfl veL_same
  ·
   have x105 : aa.tmps[105]? = some (.pointer (some ⟨bk3, 2, none⟩)) := (hin 15 105 rfl).trans (congrArg some (show uu 15 = .pointer (some ⟨bk3, 2, none⟩) from hd 15 (by decide) (by kernel_rfl)))
   clear hd hev hin
   simp only [List.getElem_cons_succ, List.getElem_cons_zero]
   clear hl
   refine .inr ⟨rfl, fun K' hK => ?_⟩
   have HK := Lib.hid hK
   clear hK
   have f0 : ww.cell? ⟨bk3, 2, none⟩ = some (.int .i64 a2) := hJ.es.cell 1 rfl 2 rfl
   go_simp
   exact HK.out (.int .i64 a2) _ hJ rfl veL_same
  ·
   have x104 : aa.tmps[104]? = some (.int .i64 a2) := (hin 14 104 rfl).trans (congrArg some (show uu 14 = .int .i64 a2 from hd 14 (by decide) (by kernel_rfl)))
   have x106 : aa.tmps[106]? = some (.int .i64 a2) := (hin 16 106 rfl).trans (congrArg some (show uu 16 = .int .i64 a2 from hd 16 (by decide) (by kernel_rfl)))
   clear hd hev hin
   simp only [List.getElem_cons_succ, List.getElem_cons_zero]
   clear hl
   refine .inr ⟨rfl, fun K' hK => ?_⟩
   have HK := Lib.hid hK
   clear hK
   have qK8 := K8.out
   have rK8 := wrapI K8.out
   go_simp
   exact HK.out (.int .i64 (a2 * a2)) _ hJ rfl veL_same
  ·
   have x102 : aa.tmps[102]? = some (.int .i64 ((a0 * a0) + (a1 * a1))) := (hin 12 102 rfl).trans (congrArg some (show uu 12 = .int .i64 ((a0 * a0) + (a1 * a1)) from hd 12 (by decide) (by kernel_rfl)))
   have x107 : aa.tmps[107]? = some (.int .i64 (a2 * a2)) := (hin 17 107 rfl).trans (congrArg some (show uu 17 = .int .i64 (a2 * a2) from hd 17 (by decide) (by kernel_rfl)))
   clear hd hev hin
   simp only [List.getElem_cons_succ, List.getElem_cons_zero]
   clear hl
   refine .inr ⟨rfl, fun K' hK => ?_⟩
   have HK := Lib.hid hK
   clear hK
   have qK9 := K9.out
   have rK9 := wrapI K9.out
   go_simp
   exact HK.out (.int .i64 (((a0 * a0) + (a1 * a1)) + (a2 * a2))) _ hJ rfl veL_same
  ·
   have x91 : aa.tmps[91]? = some (.agg #[.int .i64 n.lo, .int .i64 n.hi, .bool n.all]) := (hin 1 91 rfl).trans (congrArg some (show uu 1 = .agg #[.int .i64 n.lo, .int .i64 n.hi, .bool n.all] from hd 1 (by decide) (by kernel_rfl)))
   have x108 : aa.tmps[108]? = some (.int .i64 (((a0 * a0) + (a1 * a1)) + (a2 * a2))) := (hin 18 108 rfl).trans (congrArg some (show uu 18 = .int .i64 (((a0 * a0) + (a1 * a1)) + (a2 * a2)) from hd 18 (by decide) (by kernel_rfl)))
   clear hd hev hin
   simp only [List.getElem_cons_succ, List.getElem_cons_zero]
   clear hl
   refine .inr ⟨rfl, fun K' hK => ?_⟩
   have HK := Lib.hid hK
   clear hK
   go_simp
   refine (Hni.out ww).mono ?_
   rintro e W' ⟨rfl, hB⟩
   exact HK.out (.bool true) _ (hJ.later hB) rfl (veL_later hB)
  ·
   have x109 : aa.tmps[109]? = some (.bool true) := (hin 19 109 rfl).trans (congrArg some (show uu 19 = .bool true from hd 19 (by decide) (by kernel_rfl)))
   clear hd hev hin
   simp only [List.getElem_cons_succ, List.getElem_cons_zero]
   clear hl
   refine .inr ⟨rfl, fun K' hK => ?_⟩
   have HK := Lib.hid hK
   clear hK
   go_simp
   exact HK.out (.bool true) _ hJ rfl veL_same
 clear hM
 intro uu W13 hJm hd
 have e_0 : uu 0 = .agg #[.int .i64 v.x.lo, .int .i64 v.x.hi, .bool v.x.all, .int .i64 v.y.lo, .int .i64 v.y.hi, .bool v.y.all, .int .i64 v.z.lo, .int .i64 v.z.hi, .bool v.z.all] := hd 0 (by decide)
 have e_1 : uu 1 = .agg #[.int .i64 n.lo, .int .i64 n.hi, .bool n.all] := hd 1 (by decide)
 have e_2 : uu 2 = .pointer (some ⟨bk3, 0, none⟩) := hd 2 (by decide)
 have e_3 : uu 3 = .int .i64 a0 := hd 3 (by decide)
 have e_4 : uu 4 = .pointer (some ⟨bk3, 0, none⟩) := hd 4 (by decide)
 have e_5 : uu 5 = .int .i64 a0 := hd 5 (by decide)
 have e_6 : uu 6 = .int .i64 (a0 * a0) := hd 6 (by decide)
 have e_7 : uu 7 = .pointer (some ⟨bk3, 1, none⟩) := hd 7 (by decide)
 have e_8 : uu 8 = .int .i64 a1 := hd 8 (by decide)
 have e_9 : uu 9 = .pointer (some ⟨bk3, 1, none⟩) := hd 9 (by decide)
 have e_10 : uu 10 = .int .i64 a1 := hd 10 (by decide)
 have e_11 : uu 11 = .int .i64 (a1 * a1) := hd 11 (by decide)
 have e_12 : uu 12 = .int .i64 ((a0 * a0) + (a1 * a1)) := hd 12 (by decide)
 have e_13 : uu 13 = .pointer (some ⟨bk3, 2, none⟩) := hd 13 (by decide)
 have e_14 : uu 14 = .int .i64 a2 := hd 14 (by decide)
 have e_15 : uu 15 = .pointer (some ⟨bk3, 2, none⟩) := hd 15 (by decide)
 have e_16 : uu 16 = .int .i64 a2 := hd 16 (by decide)
 have e_17 : uu 17 = .int .i64 (a2 * a2) := hd 17 (by decide)
 have e_18 : uu 18 = .int .i64 (((a0 * a0) + (a1 * a1)) + (a2 * a2)) := hd 18 (by decide)
 have e_19 : uu 19 = .bool true := hd 19 (by decide)
 have e_20 : uu 20 = .bool true := hd 20 (by decide)
 clear hd
 simp only [layS, Act.put, List.setIfInBounds_toArray, List.set_cons_succ, List.set_cons_zero, Nat.zero_add, Nat.reduceAdd, List.drop_succ_cons, List.drop_zero, List.drop_nil, e_0, e_1, e_2, e_3, e_4, e_5, e_6, e_7, e_8, e_9, e_10, e_11, e_12, e_13, e_14, e_15, e_16, e_17, e_18, e_19, e_20]
 clear e_0 e_1 e_2 e_3 e_4 e_5 e_6 e_7 e_8 e_9 e_10 e_11 e_12 e_13 e_14 e_15 e_16 e_17 e_18 e_19 e_20
 have hJ13 := hJm.es
 clear hJm
 have f0 : W13.cell? ⟨bk1, 0, none⟩ = some (.int .i64 v.x.lo) := hJ13.cell 3 rfl 0 rfl
 have f1 : W13.cell? ⟨bk1, 1, none⟩ = some (.int .i64 v.x.hi) := hJ13.cell 3 rfl 1 rfl
 have f2 : W13.cell? ⟨bk1, 2, none⟩ = some (.bool v.x.all) := hJ13.cell 3 rfl 2 rfl
 have f3 : W13.cell? ⟨bk1, 3, none⟩ = some (.int .i64 v.y.lo) := hJ13.cell 3 rfl 3 rfl
 have f4 : W13.cell? ⟨bk1, 4, none⟩ = some (.int .i64 v.y.hi) := hJ13.cell 3 rfl 4 rfl
 have f5 : W13.cell? ⟨bk1, 5, none⟩ = some (.bool v.y.all) := hJ13.cell 3 rfl 5 rfl
 have f6 : W13.cell? ⟨bk1, 6, none⟩ = some (.int .i64 v.z.lo) := hJ13.cell 3 rfl 6 rfl
 have f7 : W13.cell? ⟨bk1, 7, none⟩ = some (.int .i64 v.z.hi) := hJ13.cell 3 rfl 7 rfl
 have f8 : W13.cell? ⟨bk1, 8, none⟩ = some (.bool v.z.all) := hJ13.cell 3 rfl 8 rfl
 have f9 : W13.cell? ⟨bk2, 0, none⟩ = some (.int .i64 u.x.lo) := hJ13.cell 2 rfl 0 rfl
 have f10 : W13.cell? ⟨bk2, 1, none⟩ = some (.int .i64 u.x.hi) := hJ13.cell 2 rfl 1 rfl
 have f11 : W13.cell? ⟨bk2, 2, none⟩ = some (.bool u.x.all) := hJ13.cell 2 rfl 2 rfl
 have f12 : W13.cell? ⟨bk2, 3, none⟩ = some (.int .i64 u.y.lo) := hJ13.cell 2 rfl 3 rfl
 have f13 : W13.cell? ⟨bk2, 4, none⟩ = some (.int .i64 u.y.hi) := hJ13.cell 2 rfl 4 rfl
 have f14 : W13.cell? ⟨bk2, 5, none⟩ = some (.bool u.y.all) := hJ13.cell 2 rfl 5 rfl
 have f15 : W13.cell? ⟨bk2, 6, none⟩ = some (.int .i64 u.z.lo) := hJ13.cell 2 rfl 6 rfl
 have f16 : W13.cell? ⟨bk2, 7, none⟩ = some (.int .i64 u.z.hi) := hJ13.cell 2 rfl 7 rfl
 have f17 : W13.cell? ⟨bk2, 8, none⟩ = some (.bool u.z.all) := hJ13.cell 2 rfl 8 rfl
 go_wp2_with fail
 refine (Hc.out _).mono ?_
 rintro e W14 ⟨rfl, hB⟩
 have hJ14 := hJ13.later hB
 clear hB
 clear f0 f1 f2 f3 f4 f5 f6 f7 f8 f9 f10 f11 f12 f13 f14 f15 f16 f17
 clear hJ13
 go_wp2_with (refine stop_alloc 34 #[.int .i64 0, .int .i64 0, .bool false, .int .i64 0, .int .i64 0, .bool false, .int .i64 0, .int .i64 0, .bool false] (.agg #[.int .i64 0, .int .i64 0, .bool false, .int .i64 0, .int .i64 0, .bool false, .int .i64 0, .int .i64 0, .bool false]) rfl rfl zv34 rfl hJ14 (fun bk5 W15 hJ15 => ?_))
 clear hJ14
 unfold Stop
 try simp only [Act.put, List.setIfInBounds_toArray, List.set_cons_succ, List.set_cons_zero]
 go_wp2_with (refine stop_store 34 (.tmp 15) (.tmp 112) 0 bk5 0 #[.int .i64 0, .int .i64 0, .bool false, .int .i64 0, .int .i64 0, .bool false, .int .i64 0, .int .i64 0, .bool false] 34 9 [.int .i64 c.x.lo, .int .i64 c.x.hi, .bool c.x.all, .int .i64 c.y.lo, .int .i64 c.y.hi, .bool c.y.all, .int .i64 c.z.lo, .int .i64 c.z.hi, .bool c.z.all] #[.int .i64 c.x.lo, .int .i64 c.x.hi, .bool c.x.all, .int .i64 c.y.lo, .int .i64 c.y.hi, .bool c.y.all, .int .i64 c.z.lo, .int .i64 c.z.hi, .bool c.z.all] [(bk5, #[.int .i64 c.x.lo, .int .i64 c.x.hi, .bool c.x.all, .int .i64 c.y.lo, .int .i64 c.y.hi, .bool c.y.all, .int .i64 c.z.lo, .int .i64 c.z.hi, .bool c.z.all], 34), (bk4, #[.int .i64 b0, .int .i64 b1, .int .i64 b2], 46), (bk3, #[.int .i64 a0, .int .i64 a1, .int .i64 a2], 46), (bk2, #[.int .i64 u.x.lo, .int .i64 u.x.hi, .bool u.x.all, .int .i64 u.y.lo, .int .i64 u.y.hi, .bool u.y.all, .int .i64 u.z.lo, .int .i64 u.z.hi, .bool u.z.all], 34), (bk1, #[.int .i64 v.x.lo, .int .i64 v.x.hi, .bool v.x.all, .int .i64 v.y.lo, .int .i64 v.y.hi, .bool v.y.all, .int .i64 v.z.lo, .int .i64 v.z.hi, .bool v.z.all], 34)] rfl rfl rfl rfl sz34 hJ15 rfl rfl (Nat.le_of_ble_eq_true (by kernel_rfl)) (by kernel_rfl) (by kernel_rfl) (by kernel_rfl) (fun W16 hJ16 => ?_))
 clear hJ15
 unfold Stop
 try simp only [Act.put, List.setIfInBounds_toArray, List.set_cons_succ, List.set_cons_zero]
 have f0 : W16.cell? ⟨bk5, 0, none⟩ = some (.int .i64 c.x.lo) := hJ16.cell 0 rfl 0 rfl
 have f1 : W16.cell? ⟨bk5, 1, none⟩ = some (.int .i64 c.x.hi) := hJ16.cell 0 rfl 1 rfl
 have f2 : W16.cell? ⟨bk5, 2, none⟩ = some (.bool c.x.all) := hJ16.cell 0 rfl 2 rfl
 have f3 : W16.cell? ⟨bk3, 1, none⟩ = some (.int .i64 a1) := hJ16.cell 2 rfl 1 rfl
 have f4 : W16.cell? ⟨bk4, 2, none⟩ = some (.int .i64 b2) := hJ16.cell 1 rfl 2 rfl
 have f5 : W16.cell? ⟨bk3, 2, none⟩ = some (.int .i64 a2) := hJ16.cell 2 rfl 2 rfl
 have f6 : W16.cell? ⟨bk4, 1, none⟩ = some (.int .i64 b1) := hJ16.cell 1 rfl 1 rfl
 have qK10 := K10.out
 have qK11 := K11.out
 have qK12 := K12.out
 go_wp2_with fail
 refine (Hxi.out _).mono ?_
 rintro e W17 ⟨rfl, hB⟩
 have hJ17 := hJ16.later hB
 clear hB
 clear f0 f1 f2 f3 f4 f5 f6 qK10 qK11 qK12
 clear hJ16
 have f0 : W17.cell? ⟨bk5, 3, none⟩ = some (.int .i64 c.y.lo) := hJ17.cell 0 rfl 3 rfl
 have f1 : W17.cell? ⟨bk5, 4, none⟩ = some (.int .i64 c.y.hi) := hJ17.cell 0 rfl 4 rfl
 have f2 : W17.cell? ⟨bk5, 5, none⟩ = some (.bool c.y.all) := hJ17.cell 0 rfl 5 rfl
 have f3 : W17.cell? ⟨bk3, 2, none⟩ = some (.int .i64 a2) := hJ17.cell 2 rfl 2 rfl
 have f4 : W17.cell? ⟨bk4, 0, none⟩ = some (.int .i64 b0) := hJ17.cell 1 rfl 0 rfl
 have f5 : W17.cell? ⟨bk3, 0, none⟩ = some (.int .i64 a0) := hJ17.cell 2 rfl 0 rfl
 have f6 : W17.cell? ⟨bk4, 2, none⟩ = some (.int .i64 b2) := hJ17.cell 1 rfl 2 rfl
 have qK13 := K13.out
 have qK14 := K14.out
 have qK15 := K15.out
 go_wp2_with fail
 refine (Hyi.out _).mono ?_
 rintro e W18 ⟨rfl, hB⟩
 have hJ18 := hJ17.later hB
 clear hB
 clear f0 f1 f2 f3 f4 f5 f6 qK13 qK14 qK15
 clear hJ17
 have f0 : W18.cell? ⟨bk5, 6, none⟩ = some (.int .i64 c.z.lo) := hJ18.cell 0 rfl 6 rfl
 have f1 : W18.cell? ⟨bk5, 7, none⟩ = some (.int .i64 c.z.hi) := hJ18.cell 0 rfl 7 rfl
 have f2 : W18.cell? ⟨bk5, 8, none⟩ = some (.bool c.z.all) := hJ18.cell 0 rfl 8 rfl
 have f3 : W18.cell? ⟨bk3, 0, none⟩ = some (.int .i64 a0) := hJ18.cell 2 rfl 0 rfl
 have f4 : W18.cell? ⟨bk4, 1, none⟩ = some (.int .i64 b1) := hJ18.cell 1 rfl 1 rfl
 have f5 : W18.cell? ⟨bk3, 1, none⟩ = some (.int .i64 a1) := hJ18.cell 2 rfl 1 rfl
 have f6 : W18.cell? ⟨bk4, 0, none⟩ = some (.int .i64 b0) := hJ18.cell 1 rfl 0 rfl
 have qK16 := K16.out
 have qK17 := K17.out
 have qK18 := K18.out
 go_wp2_with fail
 refine (Hzi.out _).mono ?_
 rintro e W19 ⟨rfl, hB⟩
 have hJ19 := hJ18.later hB
 clear hB
 clear f0 f1 f2 f3 f4 f5 f6 qK16 qK17 qK18
 clear hJ18
 go_wp2
 go_ret
 exact ⟨rfl, hJ19.below⟩
theorem mul_bm {a b : Int} (h1 : -1000000 ≤ a) (h2 : a ≤ 1000000) (h3 : -1000000 ≤ b) (h4 : b ≤ 1000000) : -1000000000000 ≤ a * b ∧ a * b ≤ 1000000000000 := by
 have e1 := bil (x := ⟨-1000000, 1000000, false⟩) (y := ⟨-1000000, 1000000, false⟩) h1 h2 h3 h4
 exact ⟨Int.le_trans (by decide) e1.1, Int.le_trans e1.2 (by decide)⟩
theorem VecHolds_any (v u : Vc) (a0 a1 a2 b0 b1 b2 : Int) (w : World) : Calls Try.prog 9 #[.agg #[.int .i64 v.x.lo, .int .i64 v.x.hi, .bool v.x.all, .int .i64 v.y.lo, .int .i64 v.y.hi, .bool v.y.all, .int .i64 v.z.lo, .int .i64 v.z.hi, .bool v.z.all], .agg #[.int .i64 u.x.lo, .int .i64 u.x.hi, .bool u.x.all, .int .i64 u.y.lo, .int .i64 u.y.hi, .bool u.y.all, .int .i64 u.z.lo, .int .i64 u.z.hi, .bool u.z.all], .agg #[.int .i64 a0, .int .i64 a1, .int .i64 a2], .agg #[.int .i64 b0, .int .i64 b1, .int .i64 b2]] w (PVal (.bool true) w) := by
 by_cases c0 : hasB v.x a0 = true ∧ hasB u.x b0 = true ∧ -1000000 ≤ a0 ∧ a0 ≤ 1000000 ∧ -1000000 ≤ b0 ∧ b0 ≤ 1000000
 case neg => exact Holds_f0 v u a0 a1 a2 b0 b1 b2 _ _ vawake_any (Has_any v.x a0) (Has_any u.x b0) c0 w
 obtain ⟨p0, q0, s0, t0, s0', t0'⟩ := c0
 have hp0 := Has_any v.x a0
 rw [p0] at hp0
 have hq0 := Has_any u.x b0
 rw [q0] at hq0
 by_cases c1 : hasB v.y a1 = true ∧ hasB u.y b1 = true ∧ -1000000 ≤ a1 ∧ a1 ≤ 1000000 ∧ -1000000 ≤ b1 ∧ b1 ≤ 1000000
 case neg => exact Holds_f1 v u a0 a1 a2 b0 b1 b2 _ _ vawake_any hp0 hq0 (Has_any v.y a1) (Has_any u.y b1) (decide_eq_false (by omega)) (decide_eq_false (by omega)) (decide_eq_false (by omega)) (decide_eq_false (by omega)) c1 w
 obtain ⟨p1, q1, s1, t1, s1', t1'⟩ := c1
 have hp1 := Has_any v.y a1
 rw [p1] at hp1
 have hq1 := Has_any u.y b1
 rw [q1] at hq1
 by_cases c2 : hasB v.z a2 = true ∧ hasB u.z b2 = true ∧ -1000000 ≤ a2 ∧ a2 ≤ 1000000 ∧ -1000000 ≤ b2 ∧ b2 ≤ 1000000
 case neg => exact Holds_f2 v u a0 a1 a2 b0 b1 b2 _ _ vawake_any hp0 hq0 hp1 hq1 (Has_any v.z a2) (Has_any u.z b2) (decide_eq_false (by omega)) (decide_eq_false (by omega)) (decide_eq_false (by omega)) (decide_eq_false (by omega)) (decide_eq_false (by omega)) (decide_eq_false (by omega)) (decide_eq_false (by omega)) (decide_eq_false (by omega)) c2 w
 obtain ⟨p2, q2, s2, t2, s2', t2'⟩ := c2
 have hp2 := Has_any v.z a2
 rw [p2] at hp2
 have hq2 := Has_any u.z b2
 rw [q2] at hq2
 obtain ⟨r0, r1, r2⟩ := holds_cross p0 p1 p2 q0 q1 q2
 have m00 := mul_bm s0 t0 s0' t0'
 have m01 := mul_bm s0 t0 s1' t1'
 have m02 := mul_bm s0 t0 s2' t2'
 have m10 := mul_bm s1 t1 s0' t0'
 have m11 := mul_bm s1 t1 s1' t1'
 have m12 := mul_bm s1 t1 s2' t2'
 have m20 := mul_bm s2 t2 s0' t0'
 have m21 := mul_bm s2 t2 s1' t1'
 have m22 := mul_bm s2 t2 s2' t2'
 have n0 := mul_bm s0 t0 s0 t0
 have n1 := mul_bm s1 t1 s1 t1
 have n2 := mul_bm s2 t2 s2 t2
 exact Holds_ok v u (crossV v u) a0 a1 a2 b0 b1 b2 (dotV v u) (normV v) vawake_any hp0 hq0 hp1 hq1 hp2 hq2 (vDot_any v u) (inside_any (add_can _ _) (holds_dot p0 p1 p2 q0 q1 q2)) (vNorm_any v) (inside_any (add_can _ _) (holds_norm p0 p1 p2)) (vCross_any v u) (inside_any (add_can _ _) r0) (inside_any (add_can _ _) r1) (inside_any (add_can _ _) r2)
  (decide_eq_false (by omega)) (decide_eq_false (by omega)) (decide_eq_false (by omega)) (decide_eq_false (by omega)) (decide_eq_false (by omega)) (decide_eq_false (by omega)) (decide_eq_false (by omega)) (decide_eq_false (by omega)) (decide_eq_false (by omega)) (decide_eq_false (by omega)) (decide_eq_false (by omega)) (decide_eq_false (by omega))
  (by unfold wrap64; omega) (by unfold wrap64; omega) (by unfold wrap64; omega) (by unfold wrap64; omega) (by unfold wrap64; omega) (by unfold wrap64; omega) (by unfold wrap64; omega) (by unfold wrap64; omega) (by unfold wrap64; omega) (by unfold wrap64; omega) (by unfold wrap64; omega) (by unfold wrap64; omega) (by unfold wrap64; omega) (by unfold wrap64; omega) (by unfold wrap64; omega) (by unfold wrap64; omega) (by unfold wrap64; omega) (by unfold wrap64; omega) (by unfold wrap64; omega) w
end Go.Proofs.Ytpahkpcoinbgcaa
