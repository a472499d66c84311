/- Parts of the proof. -/
import Derived.Test.YtdochhhepmlapaaGb33
/- Package gimballaw05: the walk of awake. No statement of the seat is proved here. -/
namespace Go.Proofs.Ytdochhhepmlapaa
open Go Go.RowKit
attribute [local go_sem ↓] run_eqlSs run_eqlDs run_eqlV run_eqlW run_eqlI
set_option maxRecDepth 100000 in
set_option maxHeartbeats 12800000 in
theorem vawake_w (p q r s t f g b : Vc) (a c : Sp) (hH1 : ∀ W : World, Calls Try.prog 28 #[.int .i64 1048576, .int .i64 2097152, .int .i64 0] W (PVal (.agg #[.int .i64 p.x.lo, .int .i64 p.x.hi, .bool p.x.all, .int .i64 p.y.lo, .int .i64 p.y.hi, .bool p.y.all, .int .i64 p.z.lo, .int .i64 p.z.hi, .bool p.z.all]) W)) (hH2 : ∀ W : World, Calls Try.prog 28 #[.int .i64 3145728, .int .i64 1048576, .int .i64 5] W (PVal (.agg #[.int .i64 q.x.lo, .int .i64 q.x.hi, .bool q.x.all, .int .i64 q.y.lo, .int .i64 q.y.hi, .bool q.y.all, .int .i64 q.z.lo, .int .i64 q.z.hi, .bool q.z.all]) W)) (hH3 : ∀ W : World, Calls Try.prog 16 #[.agg #[.int .i64 p.x.lo, .int .i64 p.x.hi, .bool p.x.all, .int .i64 p.y.lo, .int .i64 p.y.hi, .bool p.y.all, .int .i64 p.z.lo, .int .i64 p.z.hi, .bool p.z.all], .agg #[.int .i64 q.x.lo, .int .i64 q.x.hi, .bool q.x.all, .int .i64 q.y.lo, .int .i64 q.y.hi, .bool q.y.all, .int .i64 q.z.lo, .int .i64 q.z.hi, .bool q.z.all]] W (PVal (.agg #[.int .i64 a.lo, .int .i64 a.hi, .bool a.all]) W)) (hH4 : ∀ W : World, Calls Try.prog 28 #[.int .i64 1048576, .int .i64 0, .int .i64 0] W (PVal (.agg #[.int .i64 r.x.lo, .int .i64 r.x.hi, .bool r.x.all, .int .i64 r.y.lo, .int .i64 r.y.hi, .bool r.y.all, .int .i64 r.z.lo, .int .i64 r.z.hi, .bool r.z.all]) W)) (hH5 : ∀ W : World, Calls Try.prog 28 #[.int .i64 0, .int .i64 1048576, .int .i64 0] W (PVal (.agg #[.int .i64 s.x.lo, .int .i64 s.x.hi, .bool s.x.all, .int .i64 s.y.lo, .int .i64 s.y.hi, .bool s.y.all, .int .i64 s.z.lo, .int .i64 s.z.hi, .bool s.z.all]) W)) (hH6 : ∀ W : World, Calls Try.prog 17 #[.agg #[.int .i64 r.x.lo, .int .i64 r.x.hi, .bool r.x.all, .int .i64 r.y.lo, .int .i64 r.y.hi, .bool r.y.all, .int .i64 r.z.lo, .int .i64 r.z.hi, .bool r.z.all], .agg #[.int .i64 s.x.lo, .int .i64 s.x.hi, .bool s.x.all, .int .i64 s.y.lo, .int .i64 s.y.hi, .bool s.y.all, .int .i64 s.z.lo, .int .i64 s.z.hi, .bool s.z.all]] W (PVal (.agg #[.int .i64 b.x.lo, .int .i64 b.x.hi, .bool b.x.all, .int .i64 b.y.lo, .int .i64 b.y.hi, .bool b.y.all, .int .i64 b.z.lo, .int .i64 b.z.hi, .bool b.z.all]) W)) (hH7 : ∀ W : World, Calls Try.prog 28 #[.int .i64 3145728, .int .i64 4194304, .int .i64 0] W (PVal (.agg #[.int .i64 t.x.lo, .int .i64 t.x.hi, .bool t.x.all, .int .i64 t.y.lo, .int .i64 t.y.hi, .bool t.y.all, .int .i64 t.z.lo, .int .i64 t.z.hi, .bool t.z.all]) W)) (hH8 : ∀ W : World, Calls Try.prog 18 #[.agg #[.int .i64 t.x.lo, .int .i64 t.x.hi, .bool t.x.all, .int .i64 t.y.lo, .int .i64 t.y.hi, .bool t.y.all, .int .i64 t.z.lo, .int .i64 t.z.hi, .bool t.z.all]] W (PVal (.agg #[.int .i64 c.lo, .int .i64 c.hi, .bool c.all]) W)) (hH9 : ∀ W : World, Calls Try.prog 28 #[.int .i64 1, .int .i64 2, .int .i64 3] W (PVal (.agg #[.int .i64 f.x.lo, .int .i64 f.x.hi, .bool f.x.all, .int .i64 f.y.lo, .int .i64 f.y.hi, .bool f.y.all, .int .i64 f.z.lo, .int .i64 f.z.hi, .bool f.z.all]) W)) (hH10 : ∀ W : World, Calls Try.prog 27 #[.agg #[.int .i64 f.x.lo, .int .i64 f.x.hi, .bool f.x.all, .int .i64 f.y.lo, .int .i64 f.y.hi, .bool f.y.all, .int .i64 f.z.lo, .int .i64 f.z.hi, .bool f.z.all]] W (PVal (.int .i64 0) W)) (hH11 : ∀ W : World, Calls Try.prog 28 #[.int .i64 1, .int .i64 2, .int .i64 1099511627776] W (PVal (.agg #[.int .i64 g.x.lo, .int .i64 g.x.hi, .bool g.x.all, .int .i64 g.y.lo, .int .i64 g.y.hi, .bool g.y.all, .int .i64 g.z.lo, .int .i64 g.z.hi, .bool g.z.all]) W)) (hH12 : ∀ W : World, Calls Try.prog 27 #[.agg #[.int .i64 g.x.lo, .int .i64 g.x.hi, .bool g.x.all, .int .i64 g.y.lo, .int .i64 g.y.hi, .bool g.y.all, .int .i64 g.z.lo, .int .i64 g.z.hi, .bool g.z.all]] W (PVal (.int .i64 2147483647) W)) (hH13 : ∀ W : World, Calls Try.prog 45 #[.int .i64 5242880, .int .i64 5242880] W (PVal (.agg #[.int .i64 a.lo, .int .i64 a.hi, .bool a.all]) W)) (hH14 : ∀ W : World, Calls Try.prog 28 #[.int .i64 0, .int .i64 0, .int .i64 1048576] W (PVal (.agg #[.int .i64 b.x.lo, .int .i64 b.x.hi, .bool b.x.all, .int .i64 b.y.lo, .int .i64 b.y.hi, .bool b.y.all, .int .i64 b.z.lo, .int .i64 b.z.hi, .bool b.z.all]) W)) (hH15 : ∀ W : World, Calls Try.prog 45 #[.int .i64 26214400, .int .i64 26214400] W (PVal (.agg #[.int .i64 c.lo, .int .i64 c.hi, .bool c.all]) W))  (w : World) : Calls Try.prog 10 #[] w (PVal (.bool true) w) := by
 have H1 := Lib.hid hH1
 have H2 := Lib.hid hH2
 have H3 := Lib.hid hH3
 have H4 := Lib.hid hH4
 have H5 := Lib.hid hH5
 have H6 := Lib.hid hH6
 have H7 := Lib.hid hH7
 have H8 := Lib.hid hH8
 have H9 := Lib.hid hH9
 have H10 := Lib.hid hH10
 have H11 := Lib.hid hH11
 have H12 := Lib.hid hH12
 have H13 := Lib.hid hH13
 have H14 := Lib.hid hH14
 have H15 := Lib.hid hH15
 clear hH1 hH2 hH3 hH4 hH5 hH6 hH7 hH8 hH9 hH10 hH11 hH12 hH13 hH14 hH15
 have hJ0 := es_nil w
 go_enter Try.func10, Try.ntmps10
 go_wp2_with fail
 refine (H1.out _).mono ?_
 rintro e W1 ⟨rfl, hB⟩
 have hJ1 := hJ0.later hB
 clear hB
 clear hJ0
 go_wp2_with fail
 refine (H2.out _).mono ?_
 rintro e W2 ⟨rfl, hB⟩
 have hJ2 := hJ1.later hB
 clear hB
 clear hJ1
 go_wp2_with fail
 refine (H3.out _).mono ?_
 rintro e W3 ⟨rfl, hB⟩
 have hJ3 := hJ2.later hB
 clear hB
 clear hJ2
 go_wp2_with (refine stop_alloc 23 #[.int .i64 0, .int .i64 0, .bool false] (.agg #[.int .i64 0, .int .i64 0, .bool false]) rfl rfl zv23 rfl hJ3 (fun b1 W4 hJ4 => ?_))
 clear hJ3
 unfold Stop
 try simp only [Act.put, List.setIfInBounds_toArray, List.set_cons_succ, List.set_cons_zero]
 go_wp2_with (refine stop_store 23 (.tmp 1) (.tmp 8) 0 b1 0 #[.int .i64 0, .int .i64 0, .bool false] 23 3 [.int .i64 a.lo, .int .i64 a.hi, .bool a.all] #[.int .i64 a.lo, .int .i64 a.hi, .bool a.all] [(b1, #[.int .i64 a.lo, .int .i64 a.hi, .bool a.all], 23)] rfl rfl rfl rfl sz23 hJ4 rfl rfl (Nat.le_of_ble_eq_true (by kernel_rfl)) (by kernel_rfl) (by kernel_rfl) (by kernel_rfl) (fun W5 hJ5 => ?_))
 clear hJ4
 unfold Stop
 try simp only [Act.put, List.setIfInBounds_toArray, List.set_cons_succ, List.set_cons_zero]
 go_wp2_with fail
 refine (H4.out _).mono ?_
 rintro e W6 ⟨rfl, hB⟩
 have hJ6 := hJ5.later hB
 clear hB
 clear hJ5
 go_wp2_with fail
 refine (H5.out _).mono ?_
 rintro e W7 ⟨rfl, hB⟩
 have hJ7 := hJ6.later hB
 clear hB
 clear hJ6
 go_wp2_with fail
 refine (H6.out _).mono ?_
 rintro e W8 ⟨rfl, hB⟩
 have hJ8 := hJ7.later hB
 clear hB
 clear hJ7
 go_wp2_with (refine stop_alloc 25 #[.int .i64 0, .int .i64 0, .bool false, .int .i64 0, .int .i64 0, .bool false, .int .i64 0, .int .i64 0, .bool false] (.agg #[.int .i64 0, .int .i64 0, .bool false, .int .i64 0, .int .i64 0, .bool false, .int .i64 0, .int .i64 0, .bool false]) rfl rfl zv25 rfl hJ8 (fun b2 W9 hJ9 => ?_))
 clear hJ8
 unfold Stop
 try simp only [Act.put, List.setIfInBounds_toArray, List.set_cons_succ, List.set_cons_zero]
 go_wp2_with (refine stop_store 25 (.tmp 2) (.tmp 11) 0 b2 0 #[.int .i64 0, .int .i64 0, .bool false, .int .i64 0, .int .i64 0, .bool false, .int .i64 0, .int .i64 0, .bool false] 25 9 [.int .i64 b.x.lo, .int .i64 b.x.hi, .bool b.x.all, .int .i64 b.y.lo, .int .i64 b.y.hi, .bool b.y.all, .int .i64 b.z.lo, .int .i64 b.z.hi, .bool b.z.all] #[.int .i64 b.x.lo, .int .i64 b.x.hi, .bool b.x.all, .int .i64 b.y.lo, .int .i64 b.y.hi, .bool b.y.all, .int .i64 b.z.lo, .int .i64 b.z.hi, .bool b.z.all] [(b2, #[.int .i64 b.x.lo, .int .i64 b.x.hi, .bool b.x.all, .int .i64 b.y.lo, .int .i64 b.y.hi, .bool b.y.all, .int .i64 b.z.lo, .int .i64 b.z.hi, .bool b.z.all], 25), (b1, #[.int .i64 a.lo, .int .i64 a.hi, .bool a.all], 23)] rfl rfl rfl rfl sz25 hJ9 rfl rfl (Nat.le_of_ble_eq_true (by kernel_rfl)) (by kernel_rfl) (by kernel_rfl) (by kernel_rfl) (fun W10 hJ10 => ?_))
 clear hJ9
 unfold Stop
 try simp only [Act.put, List.setIfInBounds_toArray, List.set_cons_succ, List.set_cons_zero]
 go_wp2_with fail
 refine (H7.out _).mono ?_
 rintro e W11 ⟨rfl, hB⟩
 have hJ11 := hJ10.later hB
 clear hB
 clear hJ10
 go_wp2_with fail
 refine (H8.out _).mono ?_
 rintro e W12 ⟨rfl, hB⟩
 have hJ12 := hJ11.later hB
 clear hB
 clear hJ11
 go_wp2_with (refine stop_alloc 23 #[.int .i64 0, .int .i64 0, .bool false] (.agg #[.int .i64 0, .int .i64 0, .bool false]) rfl rfl zv23 rfl hJ12 (fun b3 W13 hJ13 => ?_))
 clear hJ12
 unfold Stop
 try simp only [Act.put, List.setIfInBounds_toArray, List.set_cons_succ, List.set_cons_zero]
 go_wp2_with (refine stop_store 23 (.tmp 3) (.tmp 13) 0 b3 0 #[.int .i64 0, .int .i64 0, .bool false] 23 3 [.int .i64 c.lo, .int .i64 c.hi, .bool c.all] #[.int .i64 c.lo, .int .i64 c.hi, .bool c.all] [(b3, #[.int .i64 c.lo, .int .i64 c.hi, .bool c.all], 23), (b2, #[.int .i64 b.x.lo, .int .i64 b.x.hi, .bool b.x.all, .int .i64 b.y.lo, .int .i64 b.y.hi, .bool b.y.all, .int .i64 b.z.lo, .int .i64 b.z.hi, .bool b.z.all], 25), (b1, #[.int .i64 a.lo, .int .i64 a.hi, .bool a.all], 23)] rfl rfl rfl rfl sz23 hJ13 rfl rfl (Nat.le_of_ble_eq_true (by kernel_rfl)) (by kernel_rfl) (by kernel_rfl) (by kernel_rfl) (fun W14 hJ14 => ?_))
 clear hJ13
 unfold Stop
 try simp only [Act.put, List.setIfInBounds_toArray, List.set_cons_succ, List.set_cons_zero]
 go_wp2_with fail
 refine (H9.out _).mono ?_
 rintro e W15 ⟨rfl, hB⟩
 have hJ15 := hJ14.later hB
 clear hB
 clear hJ14
 go_wp2_with fail
 refine (H10.out _).mono ?_
 rintro e W16 ⟨rfl, hB⟩
 have hJ16 := hJ15.later hB
 clear hB
 clear hJ15
 go_wp2_with fail
 refine (H11.out _).mono ?_
 rintro e W17 ⟨rfl, hB⟩
 have hJ17 := hJ16.later hB
 clear hB
 clear hJ16
 go_wp2_with fail
 refine (H12.out _).mono ?_
 rintro e W18 ⟨rfl, hB⟩
 have hJ18 := hJ17.later hB
 clear hB
 clear hJ17
 go_wp2
 obtain ⟨m6_18, hm⟩ : ∃ m, m = W18.heap.size := ⟨_, rfl⟩
 have hM := hJ18.em
 rw [← hm] at hM
 clear hm hJ18
 refine wp_region_z 22 [some 18, some 19, some 20, some 21, some 22, some 23, some 24, some 25, some 26, some 27, some 28, some 29, some 30, some 31, some 32, some 33, some 34, some 35, some 36, some 37, some 38, some 0] (veL m6_18 [.eq (.agg #[.int .i64 a.lo, .int .i64 a.hi, .bool a.all]), .eq (.agg #[.int .i64 a.lo, .int .i64 a.hi, .bool a.all]), .eq (.bool true), .eq (.bool true), .eq (.agg #[.int .i64 b.x.lo, .int .i64 b.x.hi, .bool b.x.all, .int .i64 b.y.lo, .int .i64 b.y.hi, .bool b.y.all, .int .i64 b.z.lo, .int .i64 b.z.hi, .bool b.z.all]), .eq (.agg #[.int .i64 b.x.lo, .int .i64 b.x.hi, .bool b.x.all, .int .i64 b.y.lo, .int .i64 b.y.hi, .bool b.y.all, .int .i64 b.z.lo, .int .i64 b.z.hi, .bool b.z.all]), .eq (.bool true), .eq (.bool true), .eq (.bool true), .eq (.agg #[.int .i64 c.lo, .int .i64 c.hi, .bool c.all]), .eq (.agg #[.int .i64 c.lo, .int .i64 c.hi, .bool c.all]), .eq (.bool true), .eq (.bool true), .eq (.bool true), .eq (.int .i64 0), .eq (.bool true), .eq (.bool true), .eq (.bool true), .eq (.int .i64 2147483647), .eq (.bool true), .eq (.bool true), .eq (.bool true)]) (Em w m6_18 [(b3, #[.int .i64 c.lo, .int .i64 c.hi, .bool c.all], 23), (b2, #[.int .i64 b.x.lo, .int .i64 b.x.hi, .bool b.x.all, .int .i64 b.y.lo, .int .i64 b.y.hi, .bool b.y.all, .int .i64 b.z.lo, .int .i64 b.z.hi, .bool b.z.all], 25), (b1, #[.int .i64 a.lo, .int .i64 a.hi, .bool a.all], 23)]) (by kernel_rfl) (by kernel_rfl) (by rfl) (by decide) (by rfl) hM ?_ ?_
 ·
  intro i hl hi uu ww aa hJ hd hev hin
  clear hM
  obtain rfl | rfl | rfl | rfl | rfl | rfl | rfl | rfl | rfl | rfl | rfl | rfl | rfl | rfl | rfl | rfl | rfl | rfl | rfl | rfl | rfl | rfl : i = 0 ∨ i = 1 ∨ i = 2 ∨ i = 3 ∨ i = 4 ∨ i = 5 ∨ i = 6 ∨ i = 7 ∨ i = 8 ∨ i = 9 ∨ i = 10 ∨ i = 11 ∨ i = 12 ∨ i = 13 ∨ i = 14 ∨ i = 15 ∨ i = 16 ∨ i = 17 ∨ i = 18 ∨ i = 19 ∨ i = 20 ∨ i = 21 := by omega
  ·
   have x1 : aa.tmps[1]? = some (.pointer (some ⟨b1, 0, none⟩)) := (hev 1 (by decide)).trans rfl
   clear hd hev hin
   simp only [List.getElem_cons_succ, List.getElem_cons_zero]
   clear hl
   refine .inr ⟨rfl, fun K' hK => ?_⟩
   have HK := Lib.hid hK
   clear hK
   have f0 : ww.cell? ⟨b1, 0, none⟩ = some (.int .i64 a.lo) := hJ.es.cell 2 rfl 0 rfl
   have f1 : ww.cell? ⟨b1, 1, none⟩ = some (.int .i64 a.hi) := hJ.es.cell 2 rfl 1 rfl
   have f2 : ww.cell? ⟨b1, 2, none⟩ = some (.bool a.all) := hJ.es.cell 2 rfl 2 rfl
   go_simp
   exact HK.out (.agg #[.int .i64 a.lo, .int .i64 a.hi, .bool a.all]) _ hJ rfl veL_same
  ·
   clear hd hev hin
   simp only [List.getElem_cons_succ, List.getElem_cons_zero]
   clear hl
   refine .inr ⟨rfl, fun K' hK => ?_⟩
   have HK := Lib.hid hK
   clear hK
   go_simp
   refine (H13.out ww).mono ?_
   rintro e W' ⟨rfl, hB⟩
   exact HK.out (.agg #[.int .i64 a.lo, .int .i64 a.hi, .bool a.all]) _ (hJ.later hB) rfl (veL_later hB)
  ·
   have x18 : aa.tmps[18]? = some (.agg #[.int .i64 a.lo, .int .i64 a.hi, .bool a.all]) := (hin 0 18 rfl).trans (congrArg some (show uu 0 = .agg #[.int .i64 a.lo, .int .i64 a.hi, .bool a.all] from hd 0 (by decide) (by kernel_rfl)))
   have x19 : aa.tmps[19]? = some (.agg #[.int .i64 a.lo, .int .i64 a.hi, .bool a.all]) := (hin 1 19 rfl).trans (congrArg some (show uu 1 = .agg #[.int .i64 a.lo, .int .i64 a.hi, .bool a.all] from hd 1 (by decide) (by kernel_rfl)))
   clear hd hev hin
   simp only [List.getElem_cons_succ, List.getElem_cons_zero]
   clear hl
   refine .inr ⟨rfl, fun K' hK => ?_⟩
   have HK := Lib.hid hK
   clear hK
   go_simp
   exact HK.out (.bool true) _ hJ rfl veL_same
  ·
   have x20 : aa.tmps[20]? = some (.bool true) := (hin 2 20 rfl).trans (congrArg some (show uu 2 = .bool true from hd 2 (by decide) (by kernel_rfl)))
   clear hd hev hin
   simp only [List.getElem_cons_succ, List.getElem_cons_zero]
   clear hl
   refine .inr ⟨rfl, fun K' hK => ?_⟩
   have HK := Lib.hid hK
   clear hK
   go_simp
   exact HK.out (.bool true) _ hJ rfl veL_same
  ·
   have x2 : aa.tmps[2]? = some (.pointer (some ⟨b2, 0, none⟩)) := (hev 2 (by decide)).trans rfl
   have y3 : aa.tmps[21]? = some (.bool true) := (hin 3 21 rfl).trans (congrArg some (show uu 3 = .bool true from hd 3 (by decide) (by kernel_rfl)))
   clear hd hev hin
   simp only [List.getElem_cons_succ, List.getElem_cons_zero]
   clear hl
   refine .inr ⟨?_, fun K' hK => ?_⟩
   ·
    simp [Region.wanted, yielded, y3]
   clear y3
   have HK := Lib.hid hK
   clear hK
   have f0 : ww.cell? ⟨b2, 0, none⟩ = some (.int .i64 b.x.lo) := hJ.es.cell 1 rfl 0 rfl
   have f1 : ww.cell? ⟨b2, 1, none⟩ = some (.int .i64 b.x.hi) := hJ.es.cell 1 rfl 1 rfl
   have f2 : ww.cell? ⟨b2, 2, none⟩ = some (.bool b.x.all) := hJ.es.cell 1 rfl 2 rfl
   have f3 : ww.cell? ⟨b2, 3, none⟩ = some (.int .i64 b.y.lo) := hJ.es.cell 1 rfl 3 rfl
   have f4 : ww.cell? ⟨b2, 4, none⟩ = some (.int .i64 b.y.hi) := hJ.es.cell 1 rfl 4 rfl
   have f5 : ww.cell? ⟨b2, 5, none⟩ = some (.bool b.y.all) := hJ.es.cell 1 rfl 5 rfl
   have f6 : ww.cell? ⟨b2, 6, none⟩ = some (.int .i64 b.z.lo) := hJ.es.cell 1 rfl 6 rfl
   have f7 : ww.cell? ⟨b2, 7, none⟩ = some (.int .i64 b.z.hi) := hJ.es.cell 1 rfl 7 rfl
   have f8 : ww.cell? ⟨b2, 8, none⟩ = some (.bool b.z.all) := hJ.es.cell 1 rfl 8 rfl
   go_simp
   exact HK.out (.agg #[.int .i64 b.x.lo, .int .i64 b.x.hi, .bool b.x.all, .int .i64 b.y.lo, .int .i64 b.y.hi, .bool b.y.all, .int .i64 b.z.lo, .int .i64 b.z.hi, .bool b.z.all]) _ hJ rfl veL_same
  ·
   have y3 : aa.tmps[21]? = some (.bool true) := (hin 3 21 rfl).trans (congrArg some (show uu 3 = .bool true from hd 3 (by decide) (by kernel_rfl)))
   clear hd hev hin
   simp only [List.getElem_cons_succ, List.getElem_cons_zero]
   clear hl
   refine .inr ⟨?_, fun K' hK => ?_⟩
   ·
    simp [Region.wanted, yielded, y3]
   clear y3
   have HK := Lib.hid hK
   clear hK
   go_simp
   refine (H14.out ww).mono ?_
   rintro e W' ⟨rfl, hB⟩
   exact HK.out (.agg #[.int .i64 b.x.lo, .int .i64 b.x.hi, .bool b.x.all, .int .i64 b.y.lo, .int .i64 b.y.hi, .bool b.y.all, .int .i64 b.z.lo, .int .i64 b.z.hi, .bool b.z.all]) _ (hJ.later hB) rfl (veL_later hB)
  ·
   have x22 : aa.tmps[22]? = some (.agg #[.int .i64 b.x.lo, .int .i64 b.x.hi, .bool b.x.all, .int .i64 b.y.lo, .int .i64 b.y.hi, .bool b.y.all, .int .i64 b.z.lo, .int .i64 b.z.hi, .bool b.z.all]) := (hin 4 22 rfl).trans (congrArg some (show uu 4 = .agg #[.int .i64 b.x.lo, .int .i64 b.x.hi, .bool b.x.all, .int .i64 b.y.lo, .int .i64 b.y.hi, .bool b.y.all, .int .i64 b.z.lo, .int .i64 b.z.hi, .bool b.z.all] from hd 4 (by decide) (by kernel_rfl)))
   have x23 : aa.tmps[23]? = some (.agg #[.int .i64 b.x.lo, .int .i64 b.x.hi, .bool b.x.all, .int .i64 b.y.lo, .int .i64 b.y.hi, .bool b.y.all, .int .i64 b.z.lo, .int .i64 b.z.hi, .bool b.z.all]) := (hin 5 23 rfl).trans (congrArg some (show uu 5 = .agg #[.int .i64 b.x.lo, .int .i64 b.x.hi, .bool b.x.all, .int .i64 b.y.lo, .int .i64 b.y.hi, .bool b.y.all, .int .i64 b.z.lo, .int .i64 b.z.hi, .bool b.z.all] from hd 5 (by decide) (by kernel_rfl)))
   have y3 : aa.tmps[21]? = some (.bool true) := (hin 3 21 rfl).trans (congrArg some (show uu 3 = .bool true from hd 3 (by decide) (by kernel_rfl)))
   clear hd hev hin
   simp only [List.getElem_cons_succ, List.getElem_cons_zero]
   clear hl
   refine .inr ⟨?_, fun K' hK => ?_⟩
   ·
    simp [Region.wanted, yielded, y3]
   clear y3
   have HK := Lib.hid hK
   clear hK
   go_simp
   exact HK.out (.bool true) _ hJ rfl veL_same
  ·
   have x21 : aa.tmps[21]? = some (.bool true) := (hin 3 21 rfl).trans (congrArg some (show uu 3 = .bool true from hd 3 (by decide) (by kernel_rfl)))
   have x24 : aa.tmps[24]? = some (.bool true) := (hin 6 24 rfl).trans (congrArg some (show uu 6 = .bool true from hd 6 (by decide) (by kernel_rfl)))
   clear hd hev hin
   simp only [List.getElem_cons_succ, List.getElem_cons_zero]
   clear hl
   refine .inr ⟨rfl, fun K' hK => ?_⟩
   have HK := Lib.hid hK
   clear hK
   go_simp
   exact HK.out (.bool true) _ hJ rfl veL_same
  ·
   have x25 : aa.tmps[25]? = some (.bool true) := (hin 7 25 rfl).trans (congrArg some (show uu 7 = .bool true from hd 7 (by decide) (by kernel_rfl)))
   clear hd hev hin
   simp only [List.getElem_cons_succ, List.getElem_cons_zero]
   clear hl
   refine .inr ⟨rfl, fun K' hK => ?_⟩
   have HK := Lib.hid hK
   clear hK
   go_simp
   exact HK.out (.bool true) _ hJ rfl veL_same
  ·
   have x3 : aa.tmps[3]? = some (.pointer (some ⟨b3, 0, none⟩)) := (hev 3 (by decide)).trans rfl
   have y8 : aa.tmps[26]? = some (.bool true) := (hin 8 26 rfl).trans (congrArg some (show uu 8 = .bool true from hd 8 (by decide) (by kernel_rfl)))
   clear hd hev hin
   simp only [List.getElem_cons_succ, List.getElem_cons_zero]
   clear hl
   refine .inr ⟨?_, fun K' hK => ?_⟩
   ·
    simp [Region.wanted, yielded, y8]
   clear y8
   have HK := Lib.hid hK
   clear hK
   have f0 : ww.cell? ⟨b3, 0, none⟩ = some (.int .i64 c.lo) := hJ.es.cell 0 rfl 0 rfl
   have f1 : ww.cell? ⟨b3, 1, none⟩ = some (.int .i64 c.hi) := hJ.es.cell 0 rfl 1 rfl
   have f2 : ww.cell? ⟨b3, 2, none⟩ = some (.bool c.all) := hJ.es.cell 0 rfl 2 rfl
   go_simp
   exact HK.out (.agg #[.int .i64 c.lo, .int .i64 c.hi, .bool c.all]) _ hJ rfl veL_same
  ·
   have y8 : aa.tmps[26]? = some (.bool true) := (hin 8 26 rfl).trans (congrArg some (show uu 8 = .bool true from hd 8 (by decide) (by kernel_rfl)))
   clear hd hev hin
   simp only [List.getElem_cons_succ, List.getElem_cons_zero]
   clear hl
   refine .inr ⟨?_, fun K' hK => ?_⟩
   ·
    simp [Region.wanted, yielded, y8]
   clear y8
   have HK := Lib.hid hK
   clear hK
   go_simp
   refine (H15.out ww).mono ?_
   rintro e W' ⟨rfl, hB⟩
   exact HK.out (.agg #[.int .i64 c.lo, .int .i64 c.hi, .bool c.all]) _ (hJ.later hB) rfl (veL_later hB)
  ·
   have x27 : aa.tmps[27]? = some (.agg #[.int .i64 c.lo, .int .i64 c.hi, .bool c.all]) := (hin 9 27 rfl).trans (congrArg some (show uu 9 = .agg #[.int .i64 c.lo, .int .i64 c.hi, .bool c.all] from hd 9 (by decide) (by kernel_rfl)))
   have x28 : aa.tmps[28]? = some (.agg #[.int .i64 c.lo, .int .i64 c.hi, .bool c.all]) := (hin 10 28 rfl).trans (congrArg some (show uu 10 = .agg #[.int .i64 c.lo, .int .i64 c.hi, .bool c.all] from hd 10 (by decide) (by kernel_rfl)))
   have y8 : aa.tmps[26]? = some (.bool true) := (hin 8 26 rfl).trans (congrArg some (show uu 8 = .bool true from hd 8 (by decide) (by kernel_rfl)))
   clear hd hev hin
   simp only [List.getElem_cons_succ, List.getElem_cons_zero]
   clear hl
   refine .inr ⟨?_, fun K' hK => ?_⟩
   ·
    simp [Region.wanted, yielded, y8]
   clear y8
   have HK := Lib.hid hK
   clear hK
   go_simp
   exact HK.out (.bool true) _ hJ rfl veL_same
  ·
   have x26 : aa.tmps[26]? = some (.bool true) := (hin 8 26 rfl).trans (congrArg some (show uu 8 = .bool true from hd 8 (by decide) (by kernel_rfl)))
   have x29 : aa.tmps[29]? = some (.bool true) := (hin 11 29 rfl).trans (congrArg some (show uu 11 = .bool true from hd 11 (by decide) (by kernel_rfl)))
   clear hd hev hin
   simp only [List.getElem_cons_succ, List.getElem_cons_zero]
   clear hl
   refine .inr ⟨rfl, fun K' hK => ?_⟩
   have HK := Lib.hid hK
   clear hK
   go_simp
   exact HK.out (.bool true) _ hJ rfl veL_same
  ·
   have x30 : aa.tmps[30]? = some (.bool true) := (hin 12 30 rfl).trans (congrArg some (show uu 12 = .bool true from hd 12 (by decide) (by kernel_rfl)))
   clear hd hev hin
   simp only [List.getElem_cons_succ, List.getElem_cons_zero]
   clear hl
   refine .inr ⟨rfl, fun K' hK => ?_⟩
   have HK := Lib.hid hK
   clear hK
   go_simp
   exact HK.out (.bool true) _ hJ rfl veL_same
  ·
   have x4 : aa.tmps[4]? = some (.int .i64 0) := (hev 4 (by decide)).trans rfl
   have y13 : aa.tmps[31]? = some (.bool true) := (hin 13 31 rfl).trans (congrArg some (show uu 13 = .bool true from hd 13 (by decide) (by kernel_rfl)))
   clear hd hev hin
   simp only [List.getElem_cons_succ, List.getElem_cons_zero]
   clear hl
   refine .inr ⟨?_, fun K' hK => ?_⟩
   ·
    simp [Region.wanted, yielded, y13]
   clear y13
   have HK := Lib.hid hK
   clear hK
   go_simp
   exact HK.out (.int .i64 0) _ hJ rfl veL_same
  ·
   have x32 : aa.tmps[32]? = some (.int .i64 0) := (hin 14 32 rfl).trans (congrArg some (show uu 14 = .int .i64 0 from hd 14 (by decide) (by kernel_rfl)))
   have y13 : aa.tmps[31]? = some (.bool true) := (hin 13 31 rfl).trans (congrArg some (show uu 13 = .bool true from hd 13 (by decide) (by kernel_rfl)))
   clear hd hev hin
   simp only [List.getElem_cons_succ, List.getElem_cons_zero]
   clear hl
   refine .inr ⟨?_, fun K' hK => ?_⟩
   ·
    simp [Region.wanted, yielded, y13]
   clear y13
   have HK := Lib.hid hK
   clear hK
   go_simp
   exact HK.out (.bool true) _ hJ rfl veL_same
  ·
   have x31 : aa.tmps[31]? = some (.bool true) := (hin 13 31 rfl).trans (congrArg some (show uu 13 = .bool true from hd 13 (by decide) (by kernel_rfl)))
   have x33 : aa.tmps[33]? = some (.bool true) := (hin 15 33 rfl).trans (congrArg some (show uu 15 = .bool true from hd 15 (by decide) (by kernel_rfl)))
   clear hd hev hin
   simp only [List.getElem_cons_succ, List.getElem_cons_zero]
   clear hl
   refine .inr ⟨rfl, fun K' hK => ?_⟩
   have HK := Lib.hid hK
   clear hK
   go_simp
   exact HK.out (.bool true) _ hJ rfl veL_same
  ·
   have x34 : aa.tmps[34]? = some (.bool true) := (hin 16 34 rfl).trans (congrArg some (show uu 16 = .bool true from hd 16 (by decide) (by kernel_rfl)))
   clear hd hev hin
   simp only [List.getElem_cons_succ, List.getElem_cons_zero]
   clear hl
   refine .inr ⟨rfl, fun K' hK => ?_⟩
   have HK := Lib.hid hK
   clear hK
   go_simp
   exact HK.out (.bool true) _ hJ rfl veL_same
  ·
   have x5 : aa.tmps[5]? = some (.int .i64 2147483647) := (hev 5 (by decide)).trans rfl
   have y17 : aa.tmps[35]? = some (.bool true) := (hin 17 35 rfl).trans (congrArg some (show uu 17 = .bool true from hd 17 (by decide) (by kernel_rfl)))
   clear hd hev hin
   simp only [List.getElem_cons_succ, List.getElem_cons_zero]
   clear hl
   refine .inr ⟨?_, fun K' hK => ?_⟩
   ·
    simp [Region.wanted, yielded, y17]
   clear y17
   have HK := Lib.hid hK
   clear hK
   go_simp
   exact HK.out (.int .i64 2147483647) _ hJ rfl veL_same
  ·
   have x36 : aa.tmps[36]? = some (.int .i64 2147483647) := (hin 18 36 rfl).trans (congrArg some (show uu 18 = .int .i64 2147483647 from hd 18 (by decide) (by kernel_rfl)))
   have y17 : aa.tmps[35]? = some (.bool true) := (hin 17 35 rfl).trans (congrArg some (show uu 17 = .bool true from hd 17 (by decide) (by kernel_rfl)))
   clear hd hev hin
   simp only [List.getElem_cons_succ, List.getElem_cons_zero]
   clear hl
   refine .inr ⟨?_, fun K' hK => ?_⟩
   ·
    simp [Region.wanted, yielded, y17]
   clear y17
   have HK := Lib.hid hK
   clear hK
   go_simp
   exact HK.out (.bool true) _ hJ rfl veL_same
  ·
   have x35 : aa.tmps[35]? = some (.bool true) := (hin 17 35 rfl).trans (congrArg some (show uu 17 = .bool true from hd 17 (by decide) (by kernel_rfl)))
   have x37 : aa.tmps[37]? = some (.bool true) := (hin 19 37 rfl).trans (congrArg some (show uu 19 = .bool true from hd 19 (by decide) (by kernel_rfl)))
   clear hd hev hin
   simp only [List.getElem_cons_succ, List.getElem_cons_zero]
   clear hl
   refine .inr ⟨rfl, fun K' hK => ?_⟩
   have HK := Lib.hid hK
   clear hK
   go_simp
   exact HK.out (.bool true) _ hJ rfl veL_same
  ·
   have x38 : aa.tmps[38]? = some (.bool true) := (hin 20 38 rfl).trans (congrArg some (show uu 20 = .bool true from hd 20 (by decide) (by kernel_rfl)))
   clear hd hev hin
   simp only [List.getElem_cons_succ, List.getElem_cons_zero]
   clear hl
   refine .inr ⟨rfl, fun K' hK => ?_⟩
   have HK := Lib.hid hK
   clear hK
   go_simp
   exact HK.out (.bool true) _ hJ rfl veL_same
 clear hM
 intro uu W19 hJm hd
 have e_0 : uu 0 = .agg #[.int .i64 a.lo, .int .i64 a.hi, .bool a.all] := hd 0 (by decide)
 have e_1 : uu 1 = .agg #[.int .i64 a.lo, .int .i64 a.hi, .bool a.all] := hd 1 (by decide)
 have e_2 : uu 2 = .bool true := hd 2 (by decide)
 have e_3 : uu 3 = .bool true := hd 3 (by decide)
 have e_4 : uu 4 = .agg #[.int .i64 b.x.lo, .int .i64 b.x.hi, .bool b.x.all, .int .i64 b.y.lo, .int .i64 b.y.hi, .bool b.y.all, .int .i64 b.z.lo, .int .i64 b.z.hi, .bool b.z.all] := hd 4 (by decide)
 have e_5 : uu 5 = .agg #[.int .i64 b.x.lo, .int .i64 b.x.hi, .bool b.x.all, .int .i64 b.y.lo, .int .i64 b.y.hi, .bool b.y.all, .int .i64 b.z.lo, .int .i64 b.z.hi, .bool b.z.all] := hd 5 (by decide)
 have e_6 : uu 6 = .bool true := hd 6 (by decide)
 have e_7 : uu 7 = .bool true := hd 7 (by decide)
 have e_8 : uu 8 = .bool true := hd 8 (by decide)
 have e_9 : uu 9 = .agg #[.int .i64 c.lo, .int .i64 c.hi, .bool c.all] := hd 9 (by decide)
 have e_10 : uu 10 = .agg #[.int .i64 c.lo, .int .i64 c.hi, .bool c.all] := hd 10 (by decide)
 have e_11 : uu 11 = .bool true := hd 11 (by decide)
 have e_12 : uu 12 = .bool true := hd 12 (by decide)
 have e_13 : uu 13 = .bool true := hd 13 (by decide)
 have e_14 : uu 14 = .int .i64 0 := hd 14 (by decide)
 have e_15 : uu 15 = .bool true := hd 15 (by decide)
 have e_16 : uu 16 = .bool true := hd 16 (by decide)
 have e_17 : uu 17 = .bool true := hd 17 (by decide)
 have e_18 : uu 18 = .int .i64 2147483647 := hd 18 (by decide)
 have e_19 : uu 19 = .bool true := hd 19 (by decide)
 have e_20 : uu 20 = .bool true := hd 20 (by decide)
 have e_21 : uu 21 = .bool true := hd 21 (by decide)
 clear hd
 simp only [layS, Act.put, List.setIfInBounds_toArray, List.set_cons_succ, List.set_cons_zero, Nat.zero_add, Nat.reduceAdd, List.drop_succ_cons, List.drop_zero, List.drop_nil, e_0, e_1, e_2, e_3, e_4, e_5, e_6, e_7, e_8, e_9, e_10, e_11, e_12, e_13, e_14, e_15, e_16, e_17, e_18, e_19, e_20, e_21]
 clear e_0 e_1 e_2 e_3 e_4 e_5 e_6 e_7 e_8 e_9 e_10 e_11 e_12 e_13 e_14 e_15 e_16 e_17 e_18 e_19 e_20 e_21
 have hJ19 := hJm.es
 clear hJm
 go_wp2
 go_ret
 exact ⟨rfl, hJ19.below⟩
theorem vDot_at {v u : Vc} {z : Sp} (h : dotV v u = z) (w : World) : Calls Try.prog 16 #[.agg #[.int .i64 v.x.lo, .int .i64 v.x.hi, .bool v.x.all, .int .i64 v.y.lo, .int .i64 v.y.hi, .bool v.y.all, .int .i64 v.z.lo, .int .i64 v.z.hi, .bool v.z.all], .agg #[.int .i64 u.x.lo, .int .i64 u.x.hi, .bool u.x.all, .int .i64 u.y.lo, .int .i64 u.y.hi, .bool u.y.all, .int .i64 u.z.lo, .int .i64 u.z.hi, .bool u.z.all]] w (PVal (.agg #[.int .i64 z.lo, .int .i64 z.hi, .bool z.all]) w) := h ▸ vDot_any v u w
theorem vCross_at {v u z : Vc} (h : crossV v u = z) (w : World) : Calls Try.prog 17 #[.agg #[.int .i64 v.x.lo, .int .i64 v.x.hi, .bool v.x.all, .int .i64 v.y.lo, .int .i64 v.y.hi, .bool v.y.all, .int .i64 v.z.lo, .int .i64 v.z.hi, .bool v.z.all], .agg #[.int .i64 u.x.lo, .int .i64 u.x.hi, .bool u.x.all, .int .i64 u.y.lo, .int .i64 u.y.hi, .bool u.y.all, .int .i64 u.z.lo, .int .i64 u.z.hi, .bool u.z.all]] w (PVal (.agg #[.int .i64 z.x.lo, .int .i64 z.x.hi, .bool z.x.all, .int .i64 z.y.lo, .int .i64 z.y.hi, .bool z.y.all, .int .i64 z.z.lo, .int .i64 z.z.hi, .bool z.z.all]) w) := h ▸ vCross_any v u w
theorem vNorm_at {v : Vc} {z : Sp} (h : normV v = z) (w : World) : Calls Try.prog 18 #[.agg #[.int .i64 v.x.lo, .int .i64 v.x.hi, .bool v.x.all, .int .i64 v.y.lo, .int .i64 v.y.hi, .bool v.y.all, .int .i64 v.z.lo, .int .i64 v.z.hi, .bool v.z.all]] w (PVal (.agg #[.int .i64 z.lo, .int .i64 z.hi, .bool z.all]) w) := h ▸ vNorm_any v w
theorem vRad_at {v : Vc} {z : Int} (h : radV v = z) (w : World) : Calls Try.prog 27 #[.agg #[.int .i64 v.x.lo, .int .i64 v.x.hi, .bool v.x.all, .int .i64 v.y.lo, .int .i64 v.y.hi, .bool v.y.all, .int .i64 v.z.lo, .int .i64 v.z.hi, .bool v.z.all]] w (PVal (.int .i64 z) w) := h ▸ vRad_any v w
theorem vawake_any (w : World) : Calls Try.prog 10 #[] w (PVal (.bool true) w) :=
 vawake_w (ofV 1048576 2097152 0) (ofV 3145728 1048576 5) (ofV 1048576 0 0) (ofV 0 1048576 0) (ofV 3145728 4194304 0) (ofV 1 2 3) (ofV 1 2 1099511627776) (ofV 0 0 1048576) (ofS 5242880 5242880) (ofS 26214400 26214400)
  (vOf_any _ _ _) (vOf_any _ _ _) (vDot_at (by kernel_rfl)) (vOf_any _ _ _) (vOf_any _ _ _) (vCross_at (by kernel_rfl)) (vOf_any _ _ _) (vNorm_at (by kernel_rfl)) (vOf_any _ _ _) (vRad_at (by kernel_rfl)) (vOf_any _ _ _) (vRad_at (by kernel_rfl)) (sOf_any _ _) (vOf_any _ _ _) (sOf_any _ _) w
end Go.Proofs.Ytdochhhepmlapaa
