/- Parts of the proof. -/
import Derived.Test.YtpahkpcoinbgcaaGs22
import Derived.Test.YtpahkpcoinbgcaaGs25
import Derived.Test.YtpahkpcoinbgcaaGs23
import Derived.Test.YtpahkpcoinbgcaaGs21
/- The document's spans: the walk of Sqrt. No statement of the seat is proved here. -/
namespace Go.Proofs.Ytpahkpcoinbgcaa
open Go Go.RowKit
theorem zv71 (W : World) : (zeroValue 71).run Try.prog W = .ok (.agg #[.bool false, .slice none 0 0]) W := by kernel_rfl
theorem sz71 (W : World) : (sizeOf 71).run Try.prog W = .ok 2 W := by kernel_rfl
set_option maxRecDepth 100000 in
set_option maxHeartbeats 12800000 in
theorem rdSqrt_no (x : Sp) (hHR : ∀ (W : World), Calls Try.prog 78 #[.agg #[.int .i64 x.lo, .int .i64 x.hi, .bool x.all]] W (PVal (.agg #[.int .i64 0, .int .i64 0, .bool true]) W))   (w : World) : Calls Try.prog 27 #[.agg #[.int .i64 x.lo, .int .i64 x.hi, .bool x.all]] w (PVal (.agg #[.int .i64 0, .int .i64 0, .bool true]) w) := by
 have HR := Lib.hid hHR
 clear hHR
 have hJ0 := en_nil w
 go_enter Try.func27, Try.ntmps27
 go_wp2_with (refine stopn_box 25 (.tmp 0) #[.int .i64 x.lo, .int .i64 x.hi, .bool x.all] rfl rfl rfl hJ0 (fun bk1 W1 hJ1 => ?_))
 clear hJ0
 unfold Stop
 try simp only [Act.put, List.setIfInBounds_toArray, List.set_cons_succ, List.set_cons_zero]
 go_wp2_with (refine stopn_alloc 25 #[.int .i64 0, .int .i64 0, .bool false] (.agg #[.int .i64 0, .int .i64 0, .bool false]) rfl rfl zv25 rfl hJ1 (fun bk2 W2 hJ2 => ?_))
 clear hJ1
 unfold Stop
 try simp only [Act.put, List.setIfInBounds_toArray, List.set_cons_succ, List.set_cons_zero]
 have f0 : W2.cell? ⟨bk1, 0, none⟩ = some (.int .i64 x.lo) := hJ2.cell 1 rfl 0 rfl
 have f1 : W2.cell? ⟨bk1, 1, none⟩ = some (.int .i64 x.hi) := hJ2.cell 1 rfl 1 rfl
 have f2 : W2.cell? ⟨bk1, 2, none⟩ = some (.bool x.all) := hJ2.cell 1 rfl 2 rfl
 go_wp2_with fail
 refine (HR.out _).mono ?_
 rintro zz W3 ⟨rfl, hB⟩
 have hJ3 := hJ2.later hB
 clear hB
 clear f0 f1 f2
 clear hJ2
 go_wp2_with (refine stopn_alloc 25 #[.int .i64 0, .int .i64 0, .bool false] (.agg #[.int .i64 0, .int .i64 0, .bool false]) rfl rfl zv25 rfl hJ3 (fun bk3 W4 hJ4 => ?_))
 clear hJ3
 unfold Stop
 try simp only [Act.put, List.setIfInBounds_toArray, List.set_cons_succ, List.set_cons_zero]
 go_wp2_with (refine stopn_store 25 (.tmp 3) (.tmp 12) 0 bk3 0 #[.int .i64 0, .int .i64 0, .bool false] 25 3 [.int .i64 0, .int .i64 0, .bool true] #[.int .i64 0, .int .i64 0, .bool true] [(bk3, #[.int .i64 0, .int .i64 0, .bool true], 25), (bk2, #[.int .i64 0, .int .i64 0, .bool false], 25), (bk1, #[.int .i64 x.lo, .int .i64 x.hi, .bool x.all], 25)] (by kernel_rfl) rfl rfl rfl rfl sz25 hJ4 rfl rfl (Nat.le_of_ble_eq_true (by kernel_rfl)) (by kernel_rfl) (by kernel_rfl) (by kernel_rfl) (fun W5 hJ5 => ?_))
 clear hJ4
 unfold Stop
 try simp only [Act.put, List.setIfInBounds_toArray, List.set_cons_succ, List.set_cons_zero]
 have f0 : W5.cell? ⟨bk3, 2, none⟩ = some (.bool true) := hJ5.cell 0 rfl 2 rfl
 go_wp2_with (refine stopn_store 25 (.tmp 2) (.tmp 20) 1 bk2 0 #[.int .i64 0, .int .i64 0, .bool false] 25 3 [.int .i64 0, .int .i64 0, .bool true] #[.int .i64 0, .int .i64 0, .bool true] [(bk3, #[.int .i64 0, .int .i64 0, .bool true], 25), (bk2, #[.int .i64 0, .int .i64 0, .bool true], 25), (bk1, #[.int .i64 x.lo, .int .i64 x.hi, .bool x.all], 25)] (by kernel_rfl) rfl rfl rfl rfl sz25 hJ5 rfl rfl (Nat.le_of_ble_eq_true (by kernel_rfl)) (by kernel_rfl) (by kernel_rfl) (by kernel_rfl) (fun W6 hJ6 => ?_))
 clear f0
 clear hJ5
 unfold Stop
 try simp only [Act.put, List.setIfInBounds_toArray, List.set_cons_succ, List.set_cons_zero]
 have f0 : W6.cell? ⟨bk2, 0, none⟩ = some (.int .i64 0) := hJ6.cell 1 rfl 0 rfl
 have f1 : W6.cell? ⟨bk2, 1, none⟩ = some (.int .i64 0) := hJ6.cell 1 rfl 1 rfl
 have f2 : W6.cell? ⟨bk2, 2, none⟩ = some (.bool true) := hJ6.cell 1 rfl 2 rfl
 go_wp2
 exact bodyPost_ret (v := .agg #[.int .i64 0, .int .i64 0, .bool true]) (by simp [results, Try.results27, go_sem, f0, f1, f2]) rfl ⟨rfl, hJ6.below⟩
set_option maxRecDepth 100000 in
set_option maxHeartbeats 12800000 in
theorem rdSqrt_neg (l h : Int) (hHR : ∀ (W : World), Calls Try.prog 78 #[.agg #[.int .i64 l, .int .i64 h, .bool false]] W (PVal (.agg #[.int .i64 l, .int .i64 h, .bool false]) W)) (d1 : decide (h < 0) = true)  (w : World) : Calls Try.prog 27 #[.agg #[.int .i64 l, .int .i64 h, .bool false]] w (PVal (.agg #[.int .i64 0, .int .i64 0, .bool true]) w) := by
 have HR := Lib.hid hHR
 clear hHR
 have hJ0 := en_nil w
 go_enter Try.func27, Try.ntmps27
 go_wp2_with (refine stopn_box 25 (.tmp 0) #[.int .i64 l, .int .i64 h, .bool false] rfl rfl rfl hJ0 (fun bk1 W1 hJ1 => ?_))
 clear hJ0
 unfold Stop
 try simp only [Act.put, List.setIfInBounds_toArray, List.set_cons_succ, List.set_cons_zero]
 go_wp2_with (refine stopn_alloc 25 #[.int .i64 0, .int .i64 0, .bool false] (.agg #[.int .i64 0, .int .i64 0, .bool false]) rfl rfl zv25 rfl hJ1 (fun bk2 W2 hJ2 => ?_))
 clear hJ1
 unfold Stop
 try simp only [Act.put, List.setIfInBounds_toArray, List.set_cons_succ, List.set_cons_zero]
 have f0 : W2.cell? ⟨bk1, 0, none⟩ = some (.int .i64 l) := hJ2.cell 1 rfl 0 rfl
 have f1 : W2.cell? ⟨bk1, 1, none⟩ = some (.int .i64 h) := hJ2.cell 1 rfl 1 rfl
 have f2 : W2.cell? ⟨bk1, 2, none⟩ = some (.bool false) := hJ2.cell 1 rfl 2 rfl
 go_wp2_with fail
 refine (HR.out _).mono ?_
 rintro zz W3 ⟨rfl, hB⟩
 have hJ3 := hJ2.later hB
 clear hB
 clear f0 f1 f2
 clear hJ2
 go_wp2_with (refine stopn_alloc 25 #[.int .i64 0, .int .i64 0, .bool false] (.agg #[.int .i64 0, .int .i64 0, .bool false]) rfl rfl zv25 rfl hJ3 (fun bk3 W4 hJ4 => ?_))
 clear hJ3
 unfold Stop
 try simp only [Act.put, List.setIfInBounds_toArray, List.set_cons_succ, List.set_cons_zero]
 go_wp2_with (refine stopn_store 25 (.tmp 3) (.tmp 12) 0 bk3 0 #[.int .i64 0, .int .i64 0, .bool false] 25 3 [.int .i64 l, .int .i64 h, .bool false] #[.int .i64 l, .int .i64 h, .bool false] [(bk3, #[.int .i64 l, .int .i64 h, .bool false], 25), (bk2, #[.int .i64 0, .int .i64 0, .bool false], 25), (bk1, #[.int .i64 l, .int .i64 h, .bool false], 25)] (by kernel_rfl) rfl rfl rfl rfl sz25 hJ4 rfl rfl (Nat.le_of_ble_eq_true (by kernel_rfl)) (by kernel_rfl) (by kernel_rfl) (by kernel_rfl) (fun W5 hJ5 => ?_))
 clear hJ4
 unfold Stop
 try simp only [Act.put, List.setIfInBounds_toArray, List.set_cons_succ, List.set_cons_zero]
 have f0 : W5.cell? ⟨bk3, 2, none⟩ = some (.bool false) := hJ5.cell 0 rfl 2 rfl
 have f1 : W5.cell? ⟨bk3, 1, none⟩ = some (.int .i64 h) := hJ5.cell 0 rfl 1 rfl
 go_wp2_with (refine stopn_store 25 (.tmp 2) (.tmp 20) 1 bk2 0 #[.int .i64 0, .int .i64 0, .bool false] 25 3 [.int .i64 0, .int .i64 0, .bool true] #[.int .i64 0, .int .i64 0, .bool true] [(bk3, #[.int .i64 l, .int .i64 h, .bool false], 25), (bk2, #[.int .i64 0, .int .i64 0, .bool true], 25), (bk1, #[.int .i64 l, .int .i64 h, .bool false], 25)] (by kernel_rfl) rfl rfl rfl rfl sz25 hJ5 rfl rfl (Nat.le_of_ble_eq_true (by kernel_rfl)) (by kernel_rfl) (by kernel_rfl) (by kernel_rfl) (fun W6 hJ6 => ?_))
 clear f0 f1
 clear hJ5
 unfold Stop
 try simp only [Act.put, List.setIfInBounds_toArray, List.set_cons_succ, List.set_cons_zero]
 have f0 : W6.cell? ⟨bk2, 0, none⟩ = some (.int .i64 0) := hJ6.cell 1 rfl 0 rfl
 have f1 : W6.cell? ⟨bk2, 1, none⟩ = some (.int .i64 0) := hJ6.cell 1 rfl 1 rfl
 have f2 : W6.cell? ⟨bk2, 2, none⟩ = some (.bool true) := hJ6.cell 1 rfl 2 rfl
 go_wp2
 exact bodyPost_ret (v := .agg #[.int .i64 0, .int .i64 0, .bool true]) (by simp [results, Try.results27, go_sem, f0, f1, f2]) rfl ⟨rfl, hJ6.below⟩
set_option maxRecDepth 100000 in
set_option maxHeartbeats 12800000 in
theorem rdSqrt_ex (l h l0 rl rh c : Int) (z : Sp) (hHR : ∀ (W : World), Calls Try.prog 78 #[.agg #[.int .i64 l, .int .i64 h, .bool false]] W (PVal (.agg #[.int .i64 l, .int .i64 h, .bool false]) W)) (hH1 : ∀ (W : World), Calls Try.prog 80 #[.int .i64 1048576] W (PN (1048576) W)) (hH2 : ∀ (W : World), Calls Try.prog 80 #[.int .i64 l0] W (PN (l0) W)) (hH3 : ∀ (p0 p1 : NR) (W : World), p0.z = l0 → p1.z = 1048576 → p0.is W → p1.is W → Calls Try.prog 86 #[.agg #[.bool p0.b, .slice p0.a p0.n p0.c], .agg #[.bool p1.b, .slice p1.a p1.n p1.c]] W (PN (l0 * 1048576) W)) (hH4 : ∀ (p0 : NR) (W : World), p0.z = l0 * 1048576 → p0.is W → Calls Try.prog 88 #[.agg #[.bool p0.b, .slice p0.a p0.n p0.c]] W (PN1 (rl) (.int .i64 0) W)) (hH5 : ∀ (W : World), Calls Try.prog 80 #[.int .i64 h] W (PN (h) W)) (hH6 : ∀ (p0 p1 : NR) (W : World), p0.z = h → p1.z = 1048576 → p0.is W → p1.is W → Calls Try.prog 86 #[.agg #[.bool p0.b, .slice p0.a p0.n p0.c], .agg #[.bool p1.b, .slice p1.a p1.n p1.c]] W (PN (h * 1048576) W)) (hH7 : ∀ (p0 : NR) (W : World), p0.z = h * 1048576 → p0.is W → Calls Try.prog 88 #[.agg #[.bool p0.b, .slice p0.a p0.n p0.c]] W (PN1 (rh) (.int .i64 0) W)) (hH8 : ∀ (p0 p1 : NR) (W : World), p0.z = rh → p1.z = rh → p0.is W → p1.is W → Calls Try.prog 86 #[.agg #[.bool p0.b, .slice p0.a p0.n p0.c], .agg #[.bool p1.b, .slice p1.a p1.n p1.c]] W (PN (rh * rh) W)) (hH9 : ∀ (p0 p1 : NR) (W : World), p0.z = rh * rh → p1.z = h * 1048576 → p0.is W → p1.is W → Calls Try.prog 87 #[.agg #[.bool p0.b, .slice p0.a p0.n p0.c], .agg #[.bool p1.b, .slice p1.a p1.n p1.c]] W (PVal (.int .i64 c) W)) (hHc : ∀ (p0 p1 : NR) (W : World), p0.z = rl → p1.z = rh → p0.is W → p1.is W → Calls Try.prog 79 #[.agg #[.bool p0.b, .slice p0.a p0.n p0.c], .agg #[.bool p1.b, .slice p1.a p1.n p1.c], .int .i64 1] W (PVal (.agg #[.int .i64 z.lo, .int .i64 z.hi, .bool z.all]) W)) (d1 : decide (h < 0) = false) (d0 : max 0 l = l0) (dc : decide (c < 0) = false)  (w : World) : Calls Try.prog 27 #[.agg #[.int .i64 l, .int .i64 h, .bool false]] w (PVal (.agg #[.int .i64 z.lo, .int .i64 z.hi, .bool z.all]) w) := by
 have HR := Lib.hid hHR
 have H1 := Lib.hid hH1
 have H2 := Lib.hid hH2
 have H3 := Lib.hid hH3
 have H4 := Lib.hid hH4
 have H5 := Lib.hid hH5
 have H6 := Lib.hid hH6
 have H7 := Lib.hid hH7
 have H8 := Lib.hid hH8
 have H9 := Lib.hid hH9
 have Hc := Lib.hid hHc
 clear hHR hH1 hH2 hH3 hH4 hH5 hH6 hH7 hH8 hH9 hHc
 have hJ0 := en_nil w
 go_enter Try.func27, Try.ntmps27
 go_wp2_with (refine stopn_box 25 (.tmp 0) #[.int .i64 l, .int .i64 h, .bool false] rfl rfl rfl hJ0 (fun bk1 W1 hJ1 => ?_))
 clear hJ0
 unfold Stop
 try simp only [Act.put, List.setIfInBounds_toArray, List.set_cons_succ, List.set_cons_zero]
 go_wp2_with (refine stopn_alloc 25 #[.int .i64 0, .int .i64 0, .bool false] (.agg #[.int .i64 0, .int .i64 0, .bool false]) rfl rfl zv25 rfl hJ1 (fun bk2 W2 hJ2 => ?_))
 clear hJ1
 unfold Stop
 try simp only [Act.put, List.setIfInBounds_toArray, List.set_cons_succ, List.set_cons_zero]
 have f0 : W2.cell? ⟨bk1, 0, none⟩ = some (.int .i64 l) := hJ2.cell 1 rfl 0 rfl
 have f1 : W2.cell? ⟨bk1, 1, none⟩ = some (.int .i64 h) := hJ2.cell 1 rfl 1 rfl
 have f2 : W2.cell? ⟨bk1, 2, none⟩ = some (.bool false) := hJ2.cell 1 rfl 2 rfl
 go_wp2_with fail
 refine (HR.out _).mono ?_
 rintro zz W3 ⟨rfl, hB⟩
 have hJ3 := hJ2.later hB
 clear hB
 clear f0 f1 f2
 clear hJ2
 go_wp2_with (refine stopn_alloc 25 #[.int .i64 0, .int .i64 0, .bool false] (.agg #[.int .i64 0, .int .i64 0, .bool false]) rfl rfl zv25 rfl hJ3 (fun bk3 W4 hJ4 => ?_))
 clear hJ3
 unfold Stop
 try simp only [Act.put, List.setIfInBounds_toArray, List.set_cons_succ, List.set_cons_zero]
 go_wp2_with (refine stopn_store 25 (.tmp 3) (.tmp 12) 0 bk3 0 #[.int .i64 0, .int .i64 0, .bool false] 25 3 [.int .i64 l, .int .i64 h, .bool false] #[.int .i64 l, .int .i64 h, .bool false] [(bk3, #[.int .i64 l, .int .i64 h, .bool false], 25), (bk2, #[.int .i64 0, .int .i64 0, .bool false], 25), (bk1, #[.int .i64 l, .int .i64 h, .bool false], 25)] (by kernel_rfl) rfl rfl rfl rfl sz25 hJ4 rfl rfl (Nat.le_of_ble_eq_true (by kernel_rfl)) (by kernel_rfl) (by kernel_rfl) (by kernel_rfl) (fun W5 hJ5 => ?_))
 clear hJ4
 unfold Stop
 try simp only [Act.put, List.setIfInBounds_toArray, List.set_cons_succ, List.set_cons_zero]
 have f0 : W5.cell? ⟨bk3, 2, none⟩ = some (.bool false) := hJ5.cell 0 rfl 2 rfl
 have f1 : W5.cell? ⟨bk3, 1, none⟩ = some (.int .i64 h) := hJ5.cell 0 rfl 1 rfl
 go_wp2_with fail
 refine (H1.out _).mono ?_
 rintro zz W6 ⟨pn1, hz_pn1, rfl, hi_pn1, hB⟩
 have hJ6 := (hJ5.later hB).more hi_pn1
 have Hz_pn1 := Lib.hid hz_pn1
 clear hz_pn1 hi_pn1
 clear hB
 clear f0 f1
 clear hJ5
 go_wp2_with (refine stopn_alloc 71 #[.bool false, .slice none 0 0] (.agg #[.bool false, .slice none 0 0]) rfl rfl zv71 rfl hJ6 (fun bk4 W7 hJ7 => ?_))
 clear hJ6
 unfold Stop
 try simp only [Act.put, List.setIfInBounds_toArray, List.set_cons_succ, List.set_cons_zero]
 go_wp2_with (refine stopn_store 71 (.tmp 4) (.tmp 21) 0 bk4 0 #[.bool false, .slice none 0 0] 71 2 [.bool pn1.b, .slice pn1.a pn1.n pn1.c] #[.bool pn1.b, .slice pn1.a pn1.n pn1.c] [(bk4, #[.bool pn1.b, .slice pn1.a pn1.n pn1.c], 71), (bk3, #[.int .i64 l, .int .i64 h, .bool false], 25), (bk2, #[.int .i64 0, .int .i64 0, .bool false], 25), (bk1, #[.int .i64 l, .int .i64 h, .bool false], 25)] (by kernel_rfl) rfl rfl rfl rfl sz71 hJ7 rfl rfl (Nat.le_of_ble_eq_true (by kernel_rfl)) (by kernel_rfl) (by kernel_rfl) (by kernel_rfl) (fun W8 hJ8 => ?_))
 clear hJ7
 unfold Stop
 try simp only [Act.put, List.setIfInBounds_toArray, List.set_cons_succ, List.set_cons_zero]
 go_wp2
 obtain ⟨m5_8, hm⟩ : ∃ m, m = W8.heap.size := ⟨_, rfl⟩
 have hM : ∀ uu, Jn w m5_8 [(bk4, #[.bool pn1.b, .slice pn1.a pn1.n pn1.c], 71), (bk3, #[.int .i64 l, .int .i64 h, .bool false], 25), (bk2, #[.int .i64 0, .int .i64 0, .bool false], 25), (bk1, #[.int .i64 l, .int .i64 h, .bool false], 25)] [pn1] [(10, 2, 71)] [(11, 10, 8, 71)] (fun _ => false) uu W8.drew := fun uu => by rw [hm]; exact Jn.start hJ8 uu
 clear hm hJ8
 refine wp_region_y 13 [some 23, some 24, some 25, some 26, some 27, some 28, some 29, some 22, some 30, some 31, some 5, none, some 6] (vnL [.eq (.pointer (some ⟨bk3, 0, none⟩)), .eq (.int .i64 l), .eq (.int .i64 l0), .num (l0), .eq (.agg #[.bool pn1.b, .slice pn1.a pn1.n pn1.c]), .num (l0 * 1048576), .num1 (rl) (.int .i64 0), .num1 (rl) (.int .i64 0), .num (rl), .eq (.int .i64 0), .any, .any, .eq (.int .i64 0)]) (Jn w m5_8 [(bk4, #[.bool pn1.b, .slice pn1.a pn1.n pn1.c], 71), (bk3, #[.int .i64 l, .int .i64 h, .bool false], 25), (bk2, #[.int .i64 0, .int .i64 0, .bool false], 25), (bk1, #[.int .i64 l, .int .i64 h, .bool false], 25)] [pn1] [(10, 2, 71)] [(11, 10, 8, 71)]) (by kernel_rfl) (by kernel_rfl) (by rfl) (by decide) (by rfl) hM ?_ ?_
 ·
  intro i hl hi LL uu ww aa hLi hJ hd hev hin
  clear hM
  obtain rfl | rfl | rfl | rfl | rfl | rfl | rfl | rfl | rfl | rfl | rfl | rfl | rfl : i = 0 ∨ i = 1 ∨ i = 2 ∨ i = 3 ∨ i = 4 ∨ i = 5 ∨ i = 6 ∨ i = 7 ∨ i = 8 ∨ i = 9 ∨ i = 10 ∨ i = 11 ∨ i = 12 := by omega
  ·
   have x3 : aa.tmps[3]? = some (.pointer (some ⟨bk3, 0, none⟩)) := (hev 3 (by decide)).trans rfl
   clear hd hev hin
   simp only [List.getElem_cons_succ, List.getElem_cons_zero]
   clear hl
   refine .inr ⟨rfl, fun K' hK => ?_⟩
   have HK := Lib.hid hK
   clear hK
   go_simp
   exact HK.out (.pointer (some ⟨bk3, 0, none⟩)) _ (hJ.grow hLi (by simp) (by simp) (Below.refl _ _)) rfl vnL_same
  ·
   have x23 : aa.tmps[23]? = some (.pointer (some ⟨bk3, 0, none⟩)) := (hin 0 23 rfl).trans (congrArg some (show uu 0 = .pointer (some ⟨bk3, 0, none⟩) from (hd 0 (by decide) (by kernel_rfl)).2))
   clear hd hev hin
   simp only [List.getElem_cons_succ, List.getElem_cons_zero]
   clear hl
   refine .inr ⟨rfl, fun K' hK => ?_⟩
   have HK := Lib.hid hK
   clear hK
   have f0 : ww.cell? ⟨bk3, 0, none⟩ = some (.int .i64 l) := hJ.em.es.cell 1 rfl 0 rfl
   go_simp
   exact HK.out (.int .i64 l) _ (hJ.grow hLi (by simp) (by simp) (Below.refl _ _)) rfl vnL_same
  ·
   have x24 : aa.tmps[24]? = some (.int .i64 l) := (hin 1 24 rfl).trans (congrArg some (show uu 1 = .int .i64 l from (hd 1 (by decide) (by kernel_rfl)).2))
   clear hd hev hin
   simp only [List.getElem_cons_succ, List.getElem_cons_zero]
   clear hl
   refine .inr ⟨rfl, fun K' hK => ?_⟩
   have HK := Lib.hid hK
   clear hK
   go_simp
   exact HK.out (.int .i64 l0) _ (hJ.grow hLi (by simp) (by simp) (Below.refl _ _)) rfl vnL_same
  ·
   have x25 : aa.tmps[25]? = some (.int .i64 l0) := (hin 2 25 rfl).trans (congrArg some (show uu 2 = .int .i64 l0 from (hd 2 (by decide) (by kernel_rfl)).2))
   clear hd hev hin
   simp only [List.getElem_cons_succ, List.getElem_cons_zero]
   clear hl
   refine .inr ⟨rfl, fun K' hK => ?_⟩
   have HK := Lib.hid hK
   clear hK
   go_simp
   refine (H2.out ww).mono ?_
   rintro zz W' ⟨py0, hzy, rfl, ipy0, hB⟩
   exact HK.out (.agg #[.bool py0.b, .slice py0.a py0.n py0.c]) _ (hJ.grow hLi (by simp) (by simp) hB) ⟨py0, hzy, rfl, ipy0⟩ (vnL_later hB)
  ·
   have x4 : aa.tmps[4]? = some (.pointer (some ⟨bk4, 0, none⟩)) := (hev 4 (by decide)).trans rfl
   clear hd hev hin
   simp only [List.getElem_cons_succ, List.getElem_cons_zero]
   clear hl
   refine .inr ⟨rfl, fun K' hK => ?_⟩
   have HK := Lib.hid hK
   clear hK
   have f0 : ww.cell? ⟨bk4, 0, none⟩ = some (.bool pn1.b) := hJ.em.es.cell 0 rfl 0 rfl
   have f1 : ww.cell? ⟨bk4, 1, none⟩ = some (.slice pn1.a pn1.n pn1.c) := hJ.em.es.cell 0 rfl 1 rfl
   go_simp
   exact HK.out (.agg #[.bool pn1.b, .slice pn1.a pn1.n pn1.c]) _ (hJ.grow hLi (by simp) (by simp) (Below.refl _ _)) rfl vnL_same
  ·
   obtain ⟨q3, z3, e3, iq3⟩ := (show vnP (.num (l0)) (uu 3) ww from (hd 3 (by decide) (by kernel_rfl)).2)
   have x26 : aa.tmps[26]? = some (.agg #[.bool q3.b, .slice q3.a q3.n q3.c]) := (hin 3 26 rfl).trans (congrArg some e3)
   have x27 : aa.tmps[27]? = some (.agg #[.bool pn1.b, .slice pn1.a pn1.n pn1.c]) := (hin 4 27 rfl).trans (congrArg some (show uu 4 = .agg #[.bool pn1.b, .slice pn1.a pn1.n pn1.c] from (hd 4 (by decide) (by kernel_rfl)).2))
   clear hd hev hin
   simp only [List.getElem_cons_succ, List.getElem_cons_zero]
   clear hl
   refine .inr ⟨rfl, fun K' hK => ?_⟩
   have HK := Lib.hid hK
   clear hK
   go_simp
   refine (H3.out q3 pn1 ww z3 Hz_pn1.out iq3 (hJ.num pn1 (by simp))).mono ?_
   rintro zz W' ⟨py0, hzy, rfl, ipy0, hB⟩
   exact HK.out (.agg #[.bool py0.b, .slice py0.a py0.n py0.c]) _ (hJ.grow hLi (by simp) (by simp) hB) ⟨py0, hzy, rfl, ipy0⟩ (vnL_later hB)
  ·
   obtain ⟨q5, z5, e5, iq5⟩ := (show vnP (.num (l0 * 1048576)) (uu 5) ww from (hd 5 (by decide) (by kernel_rfl)).2)
   have x28 : aa.tmps[28]? = some (.agg #[.bool q5.b, .slice q5.a q5.n q5.c]) := (hin 5 28 rfl).trans (congrArg some e5)
   clear hd hev hin
   simp only [List.getElem_cons_succ, List.getElem_cons_zero]
   clear hl
   refine .inr ⟨rfl, fun K' hK => ?_⟩
   have HK := Lib.hid hK
   clear hK
   go_simp
   refine (H4.out q5 ww z5 iq5).mono ?_
   rintro zz W' ⟨py0, hzy, rfl, ipy0, hB⟩
   exact HK.out (.tuple #[.agg #[.bool py0.b, .slice py0.a py0.n py0.c], .int .i64 0]) _ (hJ.grow hLi (by simp) (by simp) hB) ⟨py0, hzy, rfl, ipy0⟩ (vnL_later hB)
  ·
   obtain ⟨q6, z6, e6, iq6⟩ := (show vnP (.num1 (rl) (.int .i64 0)) (uu 6) ww from (hd 6 (by decide) (by kernel_rfl)).2)
   have x29 : aa.tmps[29]? = some (.tuple #[.agg #[.bool q6.b, .slice q6.a q6.n q6.c], .int .i64 0]) := (hin 6 29 rfl).trans (congrArg some e6)
   clear hd hev hin
   simp only [List.getElem_cons_succ, List.getElem_cons_zero]
   clear hl
   refine .inr ⟨rfl, fun K' hK => ?_⟩
   have HK := Lib.hid hK
   clear hK
   go_simp
   exact HK.out (.tuple #[.agg #[.bool q6.b, .slice q6.a q6.n q6.c], .int .i64 0]) _ (hJ.grow hLi (by simp) (by simp) (Below.refl _ _)) ⟨q6, z6, rfl, iq6⟩ vnL_same
  ·
   obtain ⟨q7, z7, e7, iq7⟩ := (show vnP (.num1 (rl) (.int .i64 0)) (uu 7) ww from (hd 7 (by decide) (by kernel_rfl)).2)
   have x22 : aa.tmps[22]? = some (.tuple #[.agg #[.bool q7.b, .slice q7.a q7.n q7.c], .int .i64 0]) := (hin 7 22 rfl).trans (congrArg some e7)
   clear hd hev hin
   simp only [List.getElem_cons_succ, List.getElem_cons_zero]
   clear hl
   refine .inr ⟨rfl, fun K' hK => ?_⟩
   have HK := Lib.hid hK
   clear hK
   go_simp
   exact HK.out (.agg #[.bool q7.b, .slice q7.a q7.n q7.c]) _ (hJ.grow hLi (by simp) (by simp) (Below.refl _ _)) ⟨q7, z7, rfl, iq7⟩ vnL_same
  ·
   obtain ⟨q7, z7, e7, iq7⟩ := (show vnP (.num1 (rl) (.int .i64 0)) (uu 7) ww from (hd 7 (by decide) (by kernel_rfl)).2)
   have x22 : aa.tmps[22]? = some (.tuple #[.agg #[.bool q7.b, .slice q7.a q7.n q7.c], .int .i64 0]) := (hin 7 22 rfl).trans (congrArg some e7)
   clear hd hev hin
   simp only [List.getElem_cons_succ, List.getElem_cons_zero]
   clear hl
   refine .inr ⟨rfl, fun K' hK => ?_⟩
   have HK := Lib.hid hK
   clear hK
   go_simp
   exact HK.out (.int .i64 0) _ (hJ.grow hLi (by simp) (by simp) (Below.refl _ _)) rfl vnL_same
  ·
   clear hd hev hin
   simp only [List.getElem_cons_succ, List.getElem_cons_zero]
   clear hl
   refine .inr ⟨rfl, fun K' hK => ?_⟩
   have HK := Lib.hid hK
   clear hK
   refine wp_alloc 71 rfl (.agg #[.bool false, .slice none 0 0]) zv71 ?_
   exact HK.out _ _ (hJ.alloc hLi (n := 2) rfl (by kernel_rfl) (by simp) (by simp)) trivial (vnL_later ((Below.refl _ _).alloc (Nat.le_refl _) _))
  ·
   have hLa := (hd 10 (by decide) (by kernel_rfl)).1
   obtain ⟨kb, kC, ke, kge, ksz, kno, kcl⟩ := hJ.bx (10, 2, 71) (by simp) hLa
   have x5 : aa.tmps[5]? = some (.pointer (some ⟨kb, 0, none⟩)) := (hin 10 5 rfl).trans (congrArg some ke)
   obtain ⟨q8, z8, e8, iq8⟩ := (show vnP (.num (rl)) (uu 8) ww from (hd 8 (by decide) (by kernel_rfl)).2)
   have x30 : aa.tmps[30]? = some (.agg #[.bool q8.b, .slice q8.a q8.n q8.c]) := (hin 8 30 rfl).trans (congrArg some e8)
   have hLx := (hd 8 (by decide) (by kernel_rfl)).1
   clear hd hev hin
   simp only [List.getElem_cons_succ, List.getElem_cons_zero]
   clear hl
   refine .inr ⟨rfl, fun K' hK => ?_⟩
   have HK := Lib.hid hK
   clear hK
   refine wp_store 71 (.tmp 5) (.tmp 30) rfl 0 kb 0 kC 71 2 [.bool q8.b, .slice q8.a q8.n q8.c] (hJ.em.join kge kcl) rfl (eval_tmp x5) (by rw [eval_tmp x30]; rfl) sz71 rfl (by rw [ksz]; decide) (by kernel_rfl) (fun ww2 hE hk hz => ?_)
   rw [putC_full (show kC.size = ([.bool q8.b, .slice q8.a q8.n q8.c] : List Value).length from ksz)] at hE
   exact HK.out undef _ (hJ.store (a := 10) (x := 8) (n := 2) (T := 71) (Cn := #[.bool q8.b, .slice q8.a q8.n q8.c]) hLi (by simp) (by simp) (by simp) (by simp) (by simp) (by simp) hLa hLx ke kge rfl (by kernel_rfl) (by rw [e8]; rfl) kcl kno hE hk hz) trivial (vnL_store kcl kno hk hz)
  ·
   have x31 : aa.tmps[31]? = some (.int .i64 0) := (hin 9 31 rfl).trans (congrArg some (show uu 9 = .int .i64 0 from (hd 9 (by decide) (by kernel_rfl)).2))
   clear hd hev hin
   simp only [List.getElem_cons_succ, List.getElem_cons_zero]
   clear hl
   refine .inr ⟨rfl, fun K' hK => ?_⟩
   have HK := Lib.hid hK
   clear hK
   go_simp
   exact HK.out (.int .i64 0) _ (hJ.grow hLi (by simp) (by simp) (Below.refl _ _)) rfl vnL_same
 clear hM
 intro LL uu W9 hLL hJm hd
 have e_0 : uu 0 = .pointer (some ⟨bk3, 0, none⟩) := hd 0 (by decide)
 have e_1 : uu 1 = .int .i64 l := hd 1 (by decide)
 have e_2 : uu 2 = .int .i64 l0 := hd 2 (by decide)
 obtain ⟨pn2, hz_pn2, e_3, hi_pn2⟩ := (show vnP (.num (l0)) (uu 3) W9 from hd 3 (by decide))
 have Hz_pn2 := Lib.hid hz_pn2
 clear hz_pn2
 have e_4 : uu 4 = .agg #[.bool pn1.b, .slice pn1.a pn1.n pn1.c] := hd 4 (by decide)
 obtain ⟨pn3, hz_pn3, e_5, hi_pn3⟩ := (show vnP (.num (l0 * 1048576)) (uu 5) W9 from hd 5 (by decide))
 have Hz_pn3 := Lib.hid hz_pn3
 clear hz_pn3
 obtain ⟨pn4, hz_pn4, e_6, hi_pn4⟩ := (show vnP (.num1 (rl) (.int .i64 0)) (uu 6) W9 from hd 6 (by decide))
 have Hz_pn4 := Lib.hid hz_pn4
 clear hz_pn4
 obtain ⟨pn5, hz_pn5, e_7, hi_pn5⟩ := (show vnP (.num1 (rl) (.int .i64 0)) (uu 7) W9 from hd 7 (by decide))
 have Hz_pn5 := Lib.hid hz_pn5
 clear hz_pn5
 obtain ⟨pn6, hz_pn6, e_8, hi_pn6⟩ := (show vnP (.num (rl)) (uu 8) W9 from hd 8 (by decide))
 have Hz_pn6 := Lib.hid hz_pn6
 clear hz_pn6
 have e_9 : uu 9 = .int .i64 0 := hd 9 (by decide)
 obtain ⟨bk5, kC10, e_10, nge10, ksz10, kno10, nB10⟩ := hJm.bx (10, 2, 71) (by simp) (hLL 10 (by decide))
 have e_12 : uu 12 = .int .i64 0 := hd 12 (by decide)
 obtain ⟨_, _, kb11, ke11, kl11⟩ := hJm.st (11, 10, 8, 71) (by simp) (hLL 11 (by decide))
 have kq11 : kb11 = bk5 := by
  have hq := ke11.symm.trans e_10
  injection hq with hq
  injection hq with hq
  injection hq with hq
 subst kq11
 clear ke11
 replace kl11 : Cl W9 (kb11, #[.bool pn6.b, .slice pn6.a pn6.n pn6.c], 71) := by
  rw [show (uu (11, 10, 8, 71).2.2.1) = _ from e_8] at kl11
  exact kl11
 have g10 := hJm.em.join nge10 kl11
 clear hd hLL
 simp only [layS, Act.put, List.setIfInBounds_toArray, List.set_cons_succ, List.set_cons_zero, Nat.zero_add, Nat.reduceAdd, List.drop_succ_cons, List.drop_zero, List.drop_nil, e_0, e_1, e_2, e_3, e_4, e_5, e_6, e_7, e_8, e_9, e_10, e_12]
 have hJ9 := ((((((⟨g10, hJm.num⟩ : En w W9 [(kb11, #[.bool pn6.b, .slice pn6.a pn6.n pn6.c], 71), (bk4, #[.bool pn1.b, .slice pn1.a pn1.n pn1.c], 71), (bk3, #[.int .i64 l, .int .i64 h, .bool false], 25), (bk2, #[.int .i64 0, .int .i64 0, .bool false], 25), (bk1, #[.int .i64 l, .int .i64 h, .bool false], 25)] [pn1])).more hi_pn2).more hi_pn3).more hi_pn4).more hi_pn5).more hi_pn6
 clear hJm e_0 e_1 e_2 e_3 e_4 e_5 e_6 e_7 e_8 e_9 e_10 e_12 nge10 nB10 ksz10 kno10 g10 hi_pn2 hi_pn3 hi_pn4 hi_pn5 hi_pn6
 go_wp2
 obtain ⟨m6_9, hm⟩ : ∃ m, m = W9.heap.size := ⟨_, rfl⟩
 have hM : ∀ uu, Jn w m6_9 [(kb11, #[.bool pn6.b, .slice pn6.a pn6.n pn6.c], 71), (bk4, #[.bool pn1.b, .slice pn1.a pn1.n pn1.c], 71), (bk3, #[.int .i64 l, .int .i64 h, .bool false], 25), (bk2, #[.int .i64 0, .int .i64 0, .bool false], 25), (bk1, #[.int .i64 l, .int .i64 h, .bool false], 25)] [pn6, pn5, pn4, pn3, pn2, pn1] [(5, 2, 71)] [(6, 5, 4, 71)] (fun _ => false) uu W9.drew := fun uu => by rw [hm]; exact Jn.start hJ9 uu
 clear hm hJ9
 refine wp_region_y 7 [some 32, some 33, some 34, some 35, some 36, some 7, none] (vnL [.eq (.pointer (some ⟨bk3, 1, none⟩)), .eq (.int .i64 h), .num (h), .eq (.agg #[.bool pn1.b, .slice pn1.a pn1.n pn1.c]), .num (h * 1048576), .any, .any]) (Jn w m6_9 [(kb11, #[.bool pn6.b, .slice pn6.a pn6.n pn6.c], 71), (bk4, #[.bool pn1.b, .slice pn1.a pn1.n pn1.c], 71), (bk3, #[.int .i64 l, .int .i64 h, .bool false], 25), (bk2, #[.int .i64 0, .int .i64 0, .bool false], 25), (bk1, #[.int .i64 l, .int .i64 h, .bool false], 25)] [pn6, pn5, pn4, pn3, pn2, pn1] [(5, 2, 71)] [(6, 5, 4, 71)]) (by kernel_rfl) (by kernel_rfl) (by rfl) (by decide) (by rfl) hM ?_ ?_
 ·
  intro i hl hi LL uu ww aa hLi hJ hd hev hin
  clear hM
  obtain rfl | rfl | rfl | rfl | rfl | rfl | rfl : i = 0 ∨ i = 1 ∨ i = 2 ∨ i = 3 ∨ i = 4 ∨ i = 5 ∨ i = 6 := by omega
  ·
   have x3 : aa.tmps[3]? = some (.pointer (some ⟨bk3, 0, none⟩)) := (hev 3 (by decide)).trans rfl
   clear hd hev hin
   simp only [List.getElem_cons_succ, List.getElem_cons_zero]
   clear hl
   refine .inr ⟨rfl, fun K' hK => ?_⟩
   have HK := Lib.hid hK
   clear hK
   go_simp
   exact HK.out (.pointer (some ⟨bk3, 1, none⟩)) _ (hJ.grow hLi (by simp) (by simp) (Below.refl _ _)) rfl vnL_same
  ·
   have x32 : aa.tmps[32]? = some (.pointer (some ⟨bk3, 1, none⟩)) := (hin 0 32 rfl).trans (congrArg some (show uu 0 = .pointer (some ⟨bk3, 1, none⟩) from (hd 0 (by decide) (by kernel_rfl)).2))
   clear hd hev hin
   simp only [List.getElem_cons_succ, List.getElem_cons_zero]
   clear hl
   refine .inr ⟨rfl, fun K' hK => ?_⟩
   have HK := Lib.hid hK
   clear hK
   have f0 : ww.cell? ⟨bk3, 1, none⟩ = some (.int .i64 h) := hJ.em.es.cell 2 rfl 1 rfl
   go_simp
   exact HK.out (.int .i64 h) _ (hJ.grow hLi (by simp) (by simp) (Below.refl _ _)) rfl vnL_same
  ·
   have x33 : aa.tmps[33]? = some (.int .i64 h) := (hin 1 33 rfl).trans (congrArg some (show uu 1 = .int .i64 h from (hd 1 (by decide) (by kernel_rfl)).2))
   clear hd hev hin
   simp only [List.getElem_cons_succ, List.getElem_cons_zero]
   clear hl
   refine .inr ⟨rfl, fun K' hK => ?_⟩
   have HK := Lib.hid hK
   clear hK
   go_simp
   refine (H5.out ww).mono ?_
   rintro zz W' ⟨py0, hzy, rfl, ipy0, hB⟩
   exact HK.out (.agg #[.bool py0.b, .slice py0.a py0.n py0.c]) _ (hJ.grow hLi (by simp) (by simp) hB) ⟨py0, hzy, rfl, ipy0⟩ (vnL_later hB)
  ·
   have x4 : aa.tmps[4]? = some (.pointer (some ⟨bk4, 0, none⟩)) := (hev 4 (by decide)).trans rfl
   clear hd hev hin
   simp only [List.getElem_cons_succ, List.getElem_cons_zero]
   clear hl
   refine .inr ⟨rfl, fun K' hK => ?_⟩
   have HK := Lib.hid hK
   clear hK
   have f0 : ww.cell? ⟨bk4, 0, none⟩ = some (.bool pn1.b) := hJ.em.es.cell 1 rfl 0 rfl
   have f1 : ww.cell? ⟨bk4, 1, none⟩ = some (.slice pn1.a pn1.n pn1.c) := hJ.em.es.cell 1 rfl 1 rfl
   go_simp
   exact HK.out (.agg #[.bool pn1.b, .slice pn1.a pn1.n pn1.c]) _ (hJ.grow hLi (by simp) (by simp) (Below.refl _ _)) rfl vnL_same
  ·
   obtain ⟨q2, z2, e2, iq2⟩ := (show vnP (.num (h)) (uu 2) ww from (hd 2 (by decide) (by kernel_rfl)).2)
   have x34 : aa.tmps[34]? = some (.agg #[.bool q2.b, .slice q2.a q2.n q2.c]) := (hin 2 34 rfl).trans (congrArg some e2)
   have x35 : aa.tmps[35]? = some (.agg #[.bool pn1.b, .slice pn1.a pn1.n pn1.c]) := (hin 3 35 rfl).trans (congrArg some (show uu 3 = .agg #[.bool pn1.b, .slice pn1.a pn1.n pn1.c] from (hd 3 (by decide) (by kernel_rfl)).2))
   clear hd hev hin
   simp only [List.getElem_cons_succ, List.getElem_cons_zero]
   clear hl
   refine .inr ⟨rfl, fun K' hK => ?_⟩
   have HK := Lib.hid hK
   clear hK
   go_simp
   refine (H6.out q2 pn1 ww z2 Hz_pn1.out iq2 (hJ.num pn1 (by simp))).mono ?_
   rintro zz W' ⟨py0, hzy, rfl, ipy0, hB⟩
   exact HK.out (.agg #[.bool py0.b, .slice py0.a py0.n py0.c]) _ (hJ.grow hLi (by simp) (by simp) hB) ⟨py0, hzy, rfl, ipy0⟩ (vnL_later hB)
  ·
   clear hd hev hin
   simp only [List.getElem_cons_succ, List.getElem_cons_zero]
   clear hl
   refine .inr ⟨rfl, fun K' hK => ?_⟩
   have HK := Lib.hid hK
   clear hK
   refine wp_alloc 71 rfl (.agg #[.bool false, .slice none 0 0]) zv71 ?_
   exact HK.out _ _ (hJ.alloc hLi (n := 2) rfl (by kernel_rfl) (by simp) (by simp)) trivial (vnL_later ((Below.refl _ _).alloc (Nat.le_refl _) _))
  ·
   have hLa := (hd 5 (by decide) (by kernel_rfl)).1
   obtain ⟨kb, kC, ke, kge, ksz, kno, kcl⟩ := hJ.bx (5, 2, 71) (by simp) hLa
   have x7 : aa.tmps[7]? = some (.pointer (some ⟨kb, 0, none⟩)) := (hin 5 7 rfl).trans (congrArg some ke)
   obtain ⟨q4, z4, e4, iq4⟩ := (show vnP (.num (h * 1048576)) (uu 4) ww from (hd 4 (by decide) (by kernel_rfl)).2)
   have x36 : aa.tmps[36]? = some (.agg #[.bool q4.b, .slice q4.a q4.n q4.c]) := (hin 4 36 rfl).trans (congrArg some e4)
   have hLx := (hd 4 (by decide) (by kernel_rfl)).1
   clear hd hev hin
   simp only [List.getElem_cons_succ, List.getElem_cons_zero]
   clear hl
   refine .inr ⟨rfl, fun K' hK => ?_⟩
   have HK := Lib.hid hK
   clear hK
   refine wp_store 71 (.tmp 7) (.tmp 36) rfl 0 kb 0 kC 71 2 [.bool q4.b, .slice q4.a q4.n q4.c] (hJ.em.join kge kcl) rfl (eval_tmp x7) (by rw [eval_tmp x36]; rfl) sz71 rfl (by rw [ksz]; decide) (by kernel_rfl) (fun ww2 hE hk hz => ?_)
   rw [putC_full (show kC.size = ([.bool q4.b, .slice q4.a q4.n q4.c] : List Value).length from ksz)] at hE
   exact HK.out undef _ (hJ.store (a := 5) (x := 4) (n := 2) (T := 71) (Cn := #[.bool q4.b, .slice q4.a q4.n q4.c]) hLi (by simp) (by simp) (by simp) (by simp) (by simp) (by simp) hLa hLx ke kge rfl (by kernel_rfl) (by rw [e4]; rfl) kcl kno hE hk hz) trivial (vnL_store kcl kno hk hz)
 clear hM
 intro LL uu W10 hLL hJm hd
 have e_0 : uu 0 = .pointer (some ⟨bk3, 1, none⟩) := hd 0 (by decide)
 have e_1 : uu 1 = .int .i64 h := hd 1 (by decide)
 obtain ⟨pn7, hz_pn7, e_2, hi_pn7⟩ := (show vnP (.num (h)) (uu 2) W10 from hd 2 (by decide))
 have Hz_pn7 := Lib.hid hz_pn7
 clear hz_pn7
 have e_3 : uu 3 = .agg #[.bool pn1.b, .slice pn1.a pn1.n pn1.c] := hd 3 (by decide)
 obtain ⟨pn8, hz_pn8, e_4, hi_pn8⟩ := (show vnP (.num (h * 1048576)) (uu 4) W10 from hd 4 (by decide))
 have Hz_pn8 := Lib.hid hz_pn8
 clear hz_pn8
 obtain ⟨bk6, kC5, e_5, nge5, ksz5, kno5, nB5⟩ := hJm.bx (5, 2, 71) (by simp) (hLL 5 (by decide))
 obtain ⟨_, _, kb6, ke6, kl6⟩ := hJm.st (6, 5, 4, 71) (by simp) (hLL 6 (by decide))
 have kq6 : kb6 = bk6 := by
  have hq := ke6.symm.trans e_5
  injection hq with hq
  injection hq with hq
  injection hq with hq
 subst kq6
 clear ke6
 replace kl6 : Cl W10 (kb6, #[.bool pn8.b, .slice pn8.a pn8.n pn8.c], 71) := by
  rw [show (uu (6, 5, 4, 71).2.2.1) = _ from e_4] at kl6
  exact kl6
 have g5 := hJm.em.join nge5 kl6
 clear hd hLL
 simp only [layS, Act.put, List.setIfInBounds_toArray, List.set_cons_succ, List.set_cons_zero, Nat.zero_add, Nat.reduceAdd, List.drop_succ_cons, List.drop_zero, List.drop_nil, e_0, e_1, e_2, e_3, e_4, e_5]
 have hJ10 := (((⟨g5, hJm.num⟩ : En w W10 [(kb6, #[.bool pn8.b, .slice pn8.a pn8.n pn8.c], 71), (kb11, #[.bool pn6.b, .slice pn6.a pn6.n pn6.c], 71), (bk4, #[.bool pn1.b, .slice pn1.a pn1.n pn1.c], 71), (bk3, #[.int .i64 l, .int .i64 h, .bool false], 25), (bk2, #[.int .i64 0, .int .i64 0, .bool false], 25), (bk1, #[.int .i64 l, .int .i64 h, .bool false], 25)] [pn6, pn5, pn4, pn3, pn2, pn1])).more hi_pn7).more hi_pn8
 clear hJm e_0 e_1 e_2 e_3 e_4 e_5 nge5 nB5 ksz5 kno5 g5 hi_pn7 hi_pn8
 have f0 : W10.cell? ⟨kb6, 0, none⟩ = some (.bool pn8.b) := hJ10.cell 0 rfl 0 rfl
 have f1 : W10.cell? ⟨kb6, 1, none⟩ = some (.slice pn8.a pn8.n pn8.c) := hJ10.cell 0 rfl 1 rfl
 go_wp2_with fail
 refine (H7.out pn8 _ Hz_pn8.out (hJ10.num pn8 (by simp))).mono ?_
 rintro zz W11 ⟨pn9, hz_pn9, rfl, hi_pn9, hB⟩
 have hJ11 := (hJ10.later hB).more hi_pn9
 have Hz_pn9 := Lib.hid hz_pn9
 clear hz_pn9 hi_pn9
 clear hB
 clear f0 f1
 clear hJ10
 go_wp2_with (refine stopn_alloc 71 #[.bool false, .slice none 0 0] (.agg #[.bool false, .slice none 0 0]) rfl rfl zv71 rfl hJ11 (fun bk7 W12 hJ12 => ?_))
 clear hJ11
 unfold Stop
 try simp only [Act.put, List.setIfInBounds_toArray, List.set_cons_succ, List.set_cons_zero]
 go_wp2_with (refine stopn_store 71 (.tmp 8) (.tmp 40) 0 bk7 0 #[.bool false, .slice none 0 0] 71 2 [.bool pn9.b, .slice pn9.a pn9.n pn9.c] #[.bool pn9.b, .slice pn9.a pn9.n pn9.c] [(bk7, #[.bool pn9.b, .slice pn9.a pn9.n pn9.c], 71), (kb6, #[.bool pn8.b, .slice pn8.a pn8.n pn8.c], 71), (kb11, #[.bool pn6.b, .slice pn6.a pn6.n pn6.c], 71), (bk4, #[.bool pn1.b, .slice pn1.a pn1.n pn1.c], 71), (bk3, #[.int .i64 l, .int .i64 h, .bool false], 25), (bk2, #[.int .i64 0, .int .i64 0, .bool false], 25), (bk1, #[.int .i64 l, .int .i64 h, .bool false], 25)] (by kernel_rfl) rfl rfl rfl rfl sz71 hJ12 rfl rfl (Nat.le_of_ble_eq_true (by kernel_rfl)) (by kernel_rfl) (by kernel_rfl) (by kernel_rfl) (fun W13 hJ13 => ?_))
 clear hJ12
 unfold Stop
 try simp only [Act.put, List.setIfInBounds_toArray, List.set_cons_succ, List.set_cons_zero]
 go_wp2
 obtain ⟨m8_13, hm⟩ : ∃ m, m = W13.heap.size := ⟨_, rfl⟩
 have hM : ∀ uu, Jn w m8_13 [(bk7, #[.bool pn9.b, .slice pn9.a pn9.n pn9.c], 71), (kb6, #[.bool pn8.b, .slice pn8.a pn8.n pn8.c], 71), (kb11, #[.bool pn6.b, .slice pn6.a pn6.n pn6.c], 71), (bk4, #[.bool pn1.b, .slice pn1.a pn1.n pn1.c], 71), (bk3, #[.int .i64 l, .int .i64 h, .bool false], 25), (bk2, #[.int .i64 0, .int .i64 0, .bool false], 25), (bk1, #[.int .i64 l, .int .i64 h, .bool false], 25)] [pn9, pn8, pn7, pn6, pn5, pn4, pn3, pn2, pn1] [] [] (fun _ => false) uu W13.drew := fun uu => by rw [hm]; exact Jn.start hJ13 uu
 clear hm hJ13
 refine wp_region_y 6 [some 42, some 43, some 44, some 45, some 46, some 10] (vnL [.eq (.agg #[.bool pn9.b, .slice pn9.a pn9.n pn9.c]), .eq (.agg #[.bool pn9.b, .slice pn9.a pn9.n pn9.c]), .num (rh * rh), .eq (.agg #[.bool pn8.b, .slice pn8.a pn8.n pn8.c]), .eq (.int .i64 c), .eq (.int .i64 c)]) (Jn w m8_13 [(bk7, #[.bool pn9.b, .slice pn9.a pn9.n pn9.c], 71), (kb6, #[.bool pn8.b, .slice pn8.a pn8.n pn8.c], 71), (kb11, #[.bool pn6.b, .slice pn6.a pn6.n pn6.c], 71), (bk4, #[.bool pn1.b, .slice pn1.a pn1.n pn1.c], 71), (bk3, #[.int .i64 l, .int .i64 h, .bool false], 25), (bk2, #[.int .i64 0, .int .i64 0, .bool false], 25), (bk1, #[.int .i64 l, .int .i64 h, .bool false], 25)] [pn9, pn8, pn7, pn6, pn5, pn4, pn3, pn2, pn1] [] []) (by kernel_rfl) (by kernel_rfl) (by rfl) (by decide) (by rfl) hM ?_ ?_
 ·
  intro i hl hi LL uu ww aa hLi hJ hd hev hin
  clear hM
  obtain rfl | rfl | rfl | rfl | rfl | rfl : i = 0 ∨ i = 1 ∨ i = 2 ∨ i = 3 ∨ i = 4 ∨ i = 5 := by omega
  ·
   have x8 : aa.tmps[8]? = some (.pointer (some ⟨bk7, 0, none⟩)) := (hev 8 (by decide)).trans rfl
   clear hd hev hin
   simp only [List.getElem_cons_succ, List.getElem_cons_zero]
   clear hl
   refine .inr ⟨rfl, fun K' hK => ?_⟩
   have HK := Lib.hid hK
   clear hK
   have f0 : ww.cell? ⟨bk7, 0, none⟩ = some (.bool pn9.b) := hJ.em.es.cell 0 rfl 0 rfl
   have f1 : ww.cell? ⟨bk7, 1, none⟩ = some (.slice pn9.a pn9.n pn9.c) := hJ.em.es.cell 0 rfl 1 rfl
   go_simp
   exact HK.out (.agg #[.bool pn9.b, .slice pn9.a pn9.n pn9.c]) _ (hJ.grow hLi (by simp) (by simp) (Below.refl _ _)) rfl vnL_same
  ·
   have x8 : aa.tmps[8]? = some (.pointer (some ⟨bk7, 0, none⟩)) := (hev 8 (by decide)).trans rfl
   clear hd hev hin
   simp only [List.getElem_cons_succ, List.getElem_cons_zero]
   clear hl
   refine .inr ⟨rfl, fun K' hK => ?_⟩
   have HK := Lib.hid hK
   clear hK
   have f0 : ww.cell? ⟨bk7, 0, none⟩ = some (.bool pn9.b) := hJ.em.es.cell 0 rfl 0 rfl
   have f1 : ww.cell? ⟨bk7, 1, none⟩ = some (.slice pn9.a pn9.n pn9.c) := hJ.em.es.cell 0 rfl 1 rfl
   go_simp
   exact HK.out (.agg #[.bool pn9.b, .slice pn9.a pn9.n pn9.c]) _ (hJ.grow hLi (by simp) (by simp) (Below.refl _ _)) rfl vnL_same
  ·
   have x42 : aa.tmps[42]? = some (.agg #[.bool pn9.b, .slice pn9.a pn9.n pn9.c]) := (hin 0 42 rfl).trans (congrArg some (show uu 0 = .agg #[.bool pn9.b, .slice pn9.a pn9.n pn9.c] from (hd 0 (by decide) (by kernel_rfl)).2))
   have x43 : aa.tmps[43]? = some (.agg #[.bool pn9.b, .slice pn9.a pn9.n pn9.c]) := (hin 1 43 rfl).trans (congrArg some (show uu 1 = .agg #[.bool pn9.b, .slice pn9.a pn9.n pn9.c] from (hd 1 (by decide) (by kernel_rfl)).2))
   clear hd hev hin
   simp only [List.getElem_cons_succ, List.getElem_cons_zero]
   clear hl
   refine .inr ⟨rfl, fun K' hK => ?_⟩
   have HK := Lib.hid hK
   clear hK
   go_simp
   refine (H8.out pn9 pn9 ww Hz_pn9.out Hz_pn9.out (hJ.num pn9 (by simp)) (hJ.num pn9 (by simp))).mono ?_
   rintro zz W' ⟨py0, hzy, rfl, ipy0, hB⟩
   exact HK.out (.agg #[.bool py0.b, .slice py0.a py0.n py0.c]) _ (hJ.grow hLi (by simp) (by simp) hB) ⟨py0, hzy, rfl, ipy0⟩ (vnL_later hB)
  ·
   have x7 : aa.tmps[7]? = some (.pointer (some ⟨kb6, 0, none⟩)) := (hev 7 (by decide)).trans rfl
   clear hd hev hin
   simp only [List.getElem_cons_succ, List.getElem_cons_zero]
   clear hl
   refine .inr ⟨rfl, fun K' hK => ?_⟩
   have HK := Lib.hid hK
   clear hK
   have f0 : ww.cell? ⟨kb6, 0, none⟩ = some (.bool pn8.b) := hJ.em.es.cell 1 rfl 0 rfl
   have f1 : ww.cell? ⟨kb6, 1, none⟩ = some (.slice pn8.a pn8.n pn8.c) := hJ.em.es.cell 1 rfl 1 rfl
   go_simp
   exact HK.out (.agg #[.bool pn8.b, .slice pn8.a pn8.n pn8.c]) _ (hJ.grow hLi (by simp) (by simp) (Below.refl _ _)) rfl vnL_same
  ·
   obtain ⟨q2, z2, e2, iq2⟩ := (show vnP (.num (rh * rh)) (uu 2) ww from (hd 2 (by decide) (by kernel_rfl)).2)
   have x44 : aa.tmps[44]? = some (.agg #[.bool q2.b, .slice q2.a q2.n q2.c]) := (hin 2 44 rfl).trans (congrArg some e2)
   have x45 : aa.tmps[45]? = some (.agg #[.bool pn8.b, .slice pn8.a pn8.n pn8.c]) := (hin 3 45 rfl).trans (congrArg some (show uu 3 = .agg #[.bool pn8.b, .slice pn8.a pn8.n pn8.c] from (hd 3 (by decide) (by kernel_rfl)).2))
   clear hd hev hin
   simp only [List.getElem_cons_succ, List.getElem_cons_zero]
   clear hl
   refine .inr ⟨rfl, fun K' hK => ?_⟩
   have HK := Lib.hid hK
   clear hK
   go_simp
   refine (H9.out q2 pn8 ww z2 Hz_pn8.out iq2 (hJ.num pn8 (by simp))).mono ?_
   rintro zz W' ⟨rfl, hB⟩
   exact HK.out (.int .i64 c) _ (hJ.grow hLi (by simp) (by simp) hB) rfl (vnL_later hB)
  ·
   have x46 : aa.tmps[46]? = some (.int .i64 c) := (hin 4 46 rfl).trans (congrArg some (show uu 4 = .int .i64 c from (hd 4 (by decide) (by kernel_rfl)).2))
   clear hd hev hin
   simp only [List.getElem_cons_succ, List.getElem_cons_zero]
   clear hl
   refine .inr ⟨rfl, fun K' hK => ?_⟩
   have HK := Lib.hid hK
   clear hK
   go_simp
   exact HK.out (.int .i64 c) _ (hJ.grow hLi (by simp) (by simp) (Below.refl _ _)) rfl vnL_same
 clear hM
 intro LL uu W14 hLL hJm hd
 have e_0 : uu 0 = .agg #[.bool pn9.b, .slice pn9.a pn9.n pn9.c] := hd 0 (by decide)
 have e_1 : uu 1 = .agg #[.bool pn9.b, .slice pn9.a pn9.n pn9.c] := hd 1 (by decide)
 obtain ⟨pn10, hz_pn10, e_2, hi_pn10⟩ := (show vnP (.num (rh * rh)) (uu 2) W14 from hd 2 (by decide))
 have Hz_pn10 := Lib.hid hz_pn10
 clear hz_pn10
 have e_3 : uu 3 = .agg #[.bool pn8.b, .slice pn8.a pn8.n pn8.c] := hd 3 (by decide)
 have e_4 : uu 4 = .int .i64 c := hd 4 (by decide)
 have e_5 : uu 5 = .int .i64 c := hd 5 (by decide)
 clear hd hLL
 simp only [layS, Act.put, List.setIfInBounds_toArray, List.set_cons_succ, List.set_cons_zero, Nat.zero_add, Nat.reduceAdd, List.drop_succ_cons, List.drop_zero, List.drop_nil, e_0, e_1, e_2, e_3, e_4, e_5]
 have hJ14 := ((⟨hJm.em.es, hJm.num⟩ : En w W14 [(bk7, #[.bool pn9.b, .slice pn9.a pn9.n pn9.c], 71), (kb6, #[.bool pn8.b, .slice pn8.a pn8.n pn8.c], 71), (kb11, #[.bool pn6.b, .slice pn6.a pn6.n pn6.c], 71), (bk4, #[.bool pn1.b, .slice pn1.a pn1.n pn1.c], 71), (bk3, #[.int .i64 l, .int .i64 h, .bool false], 25), (bk2, #[.int .i64 0, .int .i64 0, .bool false], 25), (bk1, #[.int .i64 l, .int .i64 h, .bool false], 25)] [pn9, pn8, pn7, pn6, pn5, pn4, pn3, pn2, pn1])).more hi_pn10
 clear hJm e_0 e_1 e_2 e_3 e_4 e_5 hi_pn10
 have f0 : W14.cell? ⟨kb11, 0, none⟩ = some (.bool pn6.b) := hJ14.cell 2 rfl 0 rfl
 have f1 : W14.cell? ⟨kb11, 1, none⟩ = some (.slice pn6.a pn6.n pn6.c) := hJ14.cell 2 rfl 1 rfl
 have f2 : W14.cell? ⟨bk7, 0, none⟩ = some (.bool pn9.b) := hJ14.cell 0 rfl 0 rfl
 have f3 : W14.cell? ⟨bk7, 1, none⟩ = some (.slice pn9.a pn9.n pn9.c) := hJ14.cell 0 rfl 1 rfl
 go_wp2_with fail
 refine (Hc.out pn6 pn9 _ Hz_pn6.out Hz_pn9.out (hJ14.num pn6 (by simp)) (hJ14.num pn9 (by simp))).mono ?_
 rintro zz W15 ⟨rfl, hB⟩
 have hJ15 := hJ14.later hB
 clear hB
 clear f0 f1 f2 f3
 clear hJ14
 replace hJ15 := hJ15.drop
 go_wp2_with (refine stopn_store 25 (.tmp 2) (.tmp 54) 5 bk2 0 #[.int .i64 0, .int .i64 0, .bool false] 25 3 [.int .i64 z.lo, .int .i64 z.hi, .bool z.all] #[.int .i64 z.lo, .int .i64 z.hi, .bool z.all] [(bk7, #[.bool pn9.b, .slice pn9.a pn9.n pn9.c], 71), (kb6, #[.bool pn8.b, .slice pn8.a pn8.n pn8.c], 71), (kb11, #[.bool pn6.b, .slice pn6.a pn6.n pn6.c], 71), (bk4, #[.bool pn1.b, .slice pn1.a pn1.n pn1.c], 71), (bk3, #[.int .i64 l, .int .i64 h, .bool false], 25), (bk2, #[.int .i64 z.lo, .int .i64 z.hi, .bool z.all], 25), (bk1, #[.int .i64 l, .int .i64 h, .bool false], 25)] (by kernel_rfl) rfl rfl rfl rfl sz25 hJ15 rfl rfl (Nat.le_of_ble_eq_true (by kernel_rfl)) (by kernel_rfl) (by kernel_rfl) (by kernel_rfl) (fun W16 hJ16 => ?_))
 clear hJ15
 unfold Stop
 try simp only [Act.put, List.setIfInBounds_toArray, List.set_cons_succ, List.set_cons_zero]
 have f0 : W16.cell? ⟨bk2, 0, none⟩ = some (.int .i64 z.lo) := hJ16.cell 5 rfl 0 rfl
 have f1 : W16.cell? ⟨bk2, 1, none⟩ = some (.int .i64 z.hi) := hJ16.cell 5 rfl 1 rfl
 have f2 : W16.cell? ⟨bk2, 2, none⟩ = some (.bool z.all) := hJ16.cell 5 rfl 2 rfl
 go_wp2
 exact bodyPost_ret (v := .agg #[.int .i64 z.lo, .int .i64 z.hi, .bool z.all]) (by simp [results, Try.results27, go_sem, f0, f1, f2]) rfl ⟨rfl, hJ16.below⟩
set_option maxRecDepth 100000 in
set_option maxHeartbeats 12800000 in
theorem rdSqrt_up (l h l0 rl rh c : Int) (z : Sp) (hHR : ∀ (W : World), Calls Try.prog 78 #[.agg #[.int .i64 l, .int .i64 h, .bool false]] W (PVal (.agg #[.int .i64 l, .int .i64 h, .bool false]) W)) (hH1 : ∀ (W : World), Calls Try.prog 80 #[.int .i64 1048576] W (PN (1048576) W)) (hH2 : ∀ (W : World), Calls Try.prog 80 #[.int .i64 l0] W (PN (l0) W)) (hH3 : ∀ (p0 p1 : NR) (W : World), p0.z = l0 → p1.z = 1048576 → p0.is W → p1.is W → Calls Try.prog 86 #[.agg #[.bool p0.b, .slice p0.a p0.n p0.c], .agg #[.bool p1.b, .slice p1.a p1.n p1.c]] W (PN (l0 * 1048576) W)) (hH4 : ∀ (p0 : NR) (W : World), p0.z = l0 * 1048576 → p0.is W → Calls Try.prog 88 #[.agg #[.bool p0.b, .slice p0.a p0.n p0.c]] W (PN1 (rl) (.int .i64 0) W)) (hH5 : ∀ (W : World), Calls Try.prog 80 #[.int .i64 h] W (PN (h) W)) (hH6 : ∀ (p0 p1 : NR) (W : World), p0.z = h → p1.z = 1048576 → p0.is W → p1.is W → Calls Try.prog 86 #[.agg #[.bool p0.b, .slice p0.a p0.n p0.c], .agg #[.bool p1.b, .slice p1.a p1.n p1.c]] W (PN (h * 1048576) W)) (hH7 : ∀ (p0 : NR) (W : World), p0.z = h * 1048576 → p0.is W → Calls Try.prog 88 #[.agg #[.bool p0.b, .slice p0.a p0.n p0.c]] W (PN1 (rh) (.int .i64 0) W)) (hH8 : ∀ (p0 p1 : NR) (W : World), p0.z = rh → p1.z = rh → p0.is W → p1.is W → Calls Try.prog 86 #[.agg #[.bool p0.b, .slice p0.a p0.n p0.c], .agg #[.bool p1.b, .slice p1.a p1.n p1.c]] W (PN (rh * rh) W)) (hH9 : ∀ (p0 p1 : NR) (W : World), p0.z = rh * rh → p1.z = h * 1048576 → p0.is W → p1.is W → Calls Try.prog 87 #[.agg #[.bool p0.b, .slice p0.a p0.n p0.c], .agg #[.bool p1.b, .slice p1.a p1.n p1.c]] W (PVal (.int .i64 c) W)) (hHa : ∀ (W : World), Calls Try.prog 80 #[.int .i64 1] W (PN (1) W)) (hHb : ∀ (p0 p1 : NR) (W : World), p0.z = rh → p1.z = 1 → p0.is W → p1.is W → Calls Try.prog 89 #[.agg #[.bool p0.b, .slice p0.a p0.n p0.c], .agg #[.bool p1.b, .slice p1.a p1.n p1.c]] W (PN (rh + 1) W)) (hHc : ∀ (p0 p1 : NR) (W : World), p0.z = rl → p1.z = rh + 1 → p0.is W → p1.is W → Calls Try.prog 79 #[.agg #[.bool p0.b, .slice p0.a p0.n p0.c], .agg #[.bool p1.b, .slice p1.a p1.n p1.c], .int .i64 1] W (PVal (.agg #[.int .i64 z.lo, .int .i64 z.hi, .bool z.all]) W)) (d1 : decide (h < 0) = false) (d0 : max 0 l = l0) (dc : decide (c < 0) = true)  (w : World) : Calls Try.prog 27 #[.agg #[.int .i64 l, .int .i64 h, .bool false]] w (PVal (.agg #[.int .i64 z.lo, .int .i64 z.hi, .bool z.all]) w) := by
 have HR := Lib.hid hHR
 have H1 := Lib.hid hH1
 have H2 := Lib.hid hH2
 have H3 := Lib.hid hH3
 have H4 := Lib.hid hH4
 have H5 := Lib.hid hH5
 have H6 := Lib.hid hH6
 have H7 := Lib.hid hH7
 have H8 := Lib.hid hH8
 have H9 := Lib.hid hH9
 have Ha := Lib.hid hHa
 have Hb := Lib.hid hHb
 have Hc := Lib.hid hHc
 clear hHR hH1 hH2 hH3 hH4 hH5 hH6 hH7 hH8 hH9 hHa hHb hHc
 have hJ0 := en_nil w
 go_enter Try.func27, Try.ntmps27
 go_wp2_with (refine stopn_box 25 (.tmp 0) #[.int .i64 l, .int .i64 h, .bool false] rfl rfl rfl hJ0 (fun bk1 W1 hJ1 => ?_))
 clear hJ0
 unfold Stop
 try simp only [Act.put, List.setIfInBounds_toArray, List.set_cons_succ, List.set_cons_zero]
 go_wp2_with (refine stopn_alloc 25 #[.int .i64 0, .int .i64 0, .bool false] (.agg #[.int .i64 0, .int .i64 0, .bool false]) rfl rfl zv25 rfl hJ1 (fun bk2 W2 hJ2 => ?_))
 clear hJ1
 unfold Stop
 try simp only [Act.put, List.setIfInBounds_toArray, List.set_cons_succ, List.set_cons_zero]
 have f0 : W2.cell? ⟨bk1, 0, none⟩ = some (.int .i64 l) := hJ2.cell 1 rfl 0 rfl
 have f1 : W2.cell? ⟨bk1, 1, none⟩ = some (.int .i64 h) := hJ2.cell 1 rfl 1 rfl
 have f2 : W2.cell? ⟨bk1, 2, none⟩ = some (.bool false) := hJ2.cell 1 rfl 2 rfl
 go_wp2_with fail
 refine (HR.out _).mono ?_
 rintro zz W3 ⟨rfl, hB⟩
 have hJ3 := hJ2.later hB
 clear hB
 clear f0 f1 f2
 clear hJ2
 go_wp2_with (refine stopn_alloc 25 #[.int .i64 0, .int .i64 0, .bool false] (.agg #[.int .i64 0, .int .i64 0, .bool false]) rfl rfl zv25 rfl hJ3 (fun bk3 W4 hJ4 => ?_))
 clear hJ3
 unfold Stop
 try simp only [Act.put, List.setIfInBounds_toArray, List.set_cons_succ, List.set_cons_zero]
 go_wp2_with (refine stopn_store 25 (.tmp 3) (.tmp 12) 0 bk3 0 #[.int .i64 0, .int .i64 0, .bool false] 25 3 [.int .i64 l, .int .i64 h, .bool false] #[.int .i64 l, .int .i64 h, .bool false] [(bk3, #[.int .i64 l, .int .i64 h, .bool false], 25), (bk2, #[.int .i64 0, .int .i64 0, .bool false], 25), (bk1, #[.int .i64 l, .int .i64 h, .bool false], 25)] (by kernel_rfl) rfl rfl rfl rfl sz25 hJ4 rfl rfl (Nat.le_of_ble_eq_true (by kernel_rfl)) (by kernel_rfl) (by kernel_rfl) (by kernel_rfl) (fun W5 hJ5 => ?_))
 clear hJ4
 unfold Stop
 try simp only [Act.put, List.setIfInBounds_toArray, List.set_cons_succ, List.set_cons_zero]
 have f0 : W5.cell? ⟨bk3, 2, none⟩ = some (.bool false) := hJ5.cell 0 rfl 2 rfl
 have f1 : W5.cell? ⟨bk3, 1, none⟩ = some (.int .i64 h) := hJ5.cell 0 rfl 1 rfl
 go_wp2_with fail
 refine (H1.out _).mono ?_
 rintro zz W6 ⟨pn1, hz_pn1, rfl, hi_pn1, hB⟩
 have hJ6 := (hJ5.later hB).more hi_pn1
 have Hz_pn1 := Lib.hid hz_pn1
 clear hz_pn1 hi_pn1
 clear hB
 clear f0 f1
 clear hJ5
 go_wp2_with (refine stopn_alloc 71 #[.bool false, .slice none 0 0] (.agg #[.bool false, .slice none 0 0]) rfl rfl zv71 rfl hJ6 (fun bk4 W7 hJ7 => ?_))
 clear hJ6
 unfold Stop
 try simp only [Act.put, List.setIfInBounds_toArray, List.set_cons_succ, List.set_cons_zero]
 go_wp2_with (refine stopn_store 71 (.tmp 4) (.tmp 21) 0 bk4 0 #[.bool false, .slice none 0 0] 71 2 [.bool pn1.b, .slice pn1.a pn1.n pn1.c] #[.bool pn1.b, .slice pn1.a pn1.n pn1.c] [(bk4, #[.bool pn1.b, .slice pn1.a pn1.n pn1.c], 71), (bk3, #[.int .i64 l, .int .i64 h, .bool false], 25), (bk2, #[.int .i64 0, .int .i64 0, .bool false], 25), (bk1, #[.int .i64 l, .int .i64 h, .bool false], 25)] (by kernel_rfl) rfl rfl rfl rfl sz71 hJ7 rfl rfl (Nat.le_of_ble_eq_true (by kernel_rfl)) (by kernel_rfl) (by kernel_rfl) (by kernel_rfl) (fun W8 hJ8 => ?_))
 clear hJ7
 unfold Stop
 try simp only [Act.put, List.setIfInBounds_toArray, List.set_cons_succ, List.set_cons_zero]
 go_wp2
 obtain ⟨m5_8, hm⟩ : ∃ m, m = W8.heap.size := ⟨_, rfl⟩
 have hM : ∀ uu, Jn w m5_8 [(bk4, #[.bool pn1.b, .slice pn1.a pn1.n pn1.c], 71), (bk3, #[.int .i64 l, .int .i64 h, .bool false], 25), (bk2, #[.int .i64 0, .int .i64 0, .bool false], 25), (bk1, #[.int .i64 l, .int .i64 h, .bool false], 25)] [pn1] [(10, 2, 71)] [(11, 10, 8, 71)] (fun _ => false) uu W8.drew := fun uu => by rw [hm]; exact Jn.start hJ8 uu
 clear hm hJ8
 refine wp_region_y 13 [some 23, some 24, some 25, some 26, some 27, some 28, some 29, some 22, some 30, some 31, some 5, none, some 6] (vnL [.eq (.pointer (some ⟨bk3, 0, none⟩)), .eq (.int .i64 l), .eq (.int .i64 l0), .num (l0), .eq (.agg #[.bool pn1.b, .slice pn1.a pn1.n pn1.c]), .num (l0 * 1048576), .num1 (rl) (.int .i64 0), .num1 (rl) (.int .i64 0), .num (rl), .eq (.int .i64 0), .any, .any, .eq (.int .i64 0)]) (Jn w m5_8 [(bk4, #[.bool pn1.b, .slice pn1.a pn1.n pn1.c], 71), (bk3, #[.int .i64 l, .int .i64 h, .bool false], 25), (bk2, #[.int .i64 0, .int .i64 0, .bool false], 25), (bk1, #[.int .i64 l, .int .i64 h, .bool false], 25)] [pn1] [(10, 2, 71)] [(11, 10, 8, 71)]) (by kernel_rfl) (by kernel_rfl) (by rfl) (by decide) (by rfl) hM ?_ ?_
 ·
  intro i hl hi LL uu ww aa hLi hJ hd hev hin
  clear hM
  obtain rfl | rfl | rfl | rfl | rfl | rfl | rfl | rfl | rfl | rfl | rfl | rfl | rfl : i = 0 ∨ i = 1 ∨ i = 2 ∨ i = 3 ∨ i = 4 ∨ i = 5 ∨ i = 6 ∨ i = 7 ∨ i = 8 ∨ i = 9 ∨ i = 10 ∨ i = 11 ∨ i = 12 := by omega
  ·
   have x3 : aa.tmps[3]? = some (.pointer (some ⟨bk3, 0, none⟩)) := (hev 3 (by decide)).trans rfl
   clear hd hev hin
   simp only [List.getElem_cons_succ, List.getElem_cons_zero]
   clear hl
   refine .inr ⟨rfl, fun K' hK => ?_⟩
   have HK := Lib.hid hK
   clear hK
   go_simp
   exact HK.out (.pointer (some ⟨bk3, 0, none⟩)) _ (hJ.grow hLi (by simp) (by simp) (Below.refl _ _)) rfl vnL_same
  ·
   have x23 : aa.tmps[23]? = some (.pointer (some ⟨bk3, 0, none⟩)) := (hin 0 23 rfl).trans (congrArg some (show uu 0 = .pointer (some ⟨bk3, 0, none⟩) from (hd 0 (by decide) (by kernel_rfl)).2))
   clear hd hev hin
   simp only [List.getElem_cons_succ, List.getElem_cons_zero]
   clear hl
   refine .inr ⟨rfl, fun K' hK => ?_⟩
   have HK := Lib.hid hK
   clear hK
   have f0 : ww.cell? ⟨bk3, 0, none⟩ = some (.int .i64 l) := hJ.em.es.cell 1 rfl 0 rfl
   go_simp
   exact HK.out (.int .i64 l) _ (hJ.grow hLi (by simp) (by simp) (Below.refl _ _)) rfl vnL_same
  ·
   have x24 : aa.tmps[24]? = some (.int .i64 l) := (hin 1 24 rfl).trans (congrArg some (show uu 1 = .int .i64 l from (hd 1 (by decide) (by kernel_rfl)).2))
   clear hd hev hin
   simp only [List.getElem_cons_succ, List.getElem_cons_zero]
   clear hl
   refine .inr ⟨rfl, fun K' hK => ?_⟩
   have HK := Lib.hid hK
   clear hK
   go_simp
   exact HK.out (.int .i64 l0) _ (hJ.grow hLi (by simp) (by simp) (Below.refl _ _)) rfl vnL_same
  ·
   have x25 : aa.tmps[25]? = some (.int .i64 l0) := (hin 2 25 rfl).trans (congrArg some (show uu 2 = .int .i64 l0 from (hd 2 (by decide) (by kernel_rfl)).2))
   clear hd hev hin
   simp only [List.getElem_cons_succ, List.getElem_cons_zero]
   clear hl
   refine .inr ⟨rfl, fun K' hK => ?_⟩
   have HK := Lib.hid hK
   clear hK
   go_simp
   refine (H2.out ww).mono ?_
   rintro zz W' ⟨py0, hzy, rfl, ipy0, hB⟩
   exact HK.out (.agg #[.bool py0.b, .slice py0.a py0.n py0.c]) _ (hJ.grow hLi (by simp) (by simp) hB) ⟨py0, hzy, rfl, ipy0⟩ (vnL_later hB)
  ·
   have x4 : aa.tmps[4]? = some (.pointer (some ⟨bk4, 0, none⟩)) := (hev 4 (by decide)).trans rfl
   clear hd hev hin
   simp only [List.getElem_cons_succ, List.getElem_cons_zero]
   clear hl
   refine .inr ⟨rfl, fun K' hK => ?_⟩
   have HK := Lib.hid hK
   clear hK
   have f0 : ww.cell? ⟨bk4, 0, none⟩ = some (.bool pn1.b) := hJ.em.es.cell 0 rfl 0 rfl
   have f1 : ww.cell? ⟨bk4, 1, none⟩ = some (.slice pn1.a pn1.n pn1.c) := hJ.em.es.cell 0 rfl 1 rfl
   go_simp
   exact HK.out (.agg #[.bool pn1.b, .slice pn1.a pn1.n pn1.c]) _ (hJ.grow hLi (by simp) (by simp) (Below.refl _ _)) rfl vnL_same
  ·
   obtain ⟨q3, z3, e3, iq3⟩ := (show vnP (.num (l0)) (uu 3) ww from (hd 3 (by decide) (by kernel_rfl)).2)
   have x26 : aa.tmps[26]? = some (.agg #[.bool q3.b, .slice q3.a q3.n q3.c]) := (hin 3 26 rfl).trans (congrArg some e3)
   have x27 : aa.tmps[27]? = some (.agg #[.bool pn1.b, .slice pn1.a pn1.n pn1.c]) := (hin 4 27 rfl).trans (congrArg some (show uu 4 = .agg #[.bool pn1.b, .slice pn1.a pn1.n pn1.c] from (hd 4 (by decide) (by kernel_rfl)).2))
   clear hd hev hin
   simp only [List.getElem_cons_succ, List.getElem_cons_zero]
   clear hl
   refine .inr ⟨rfl, fun K' hK => ?_⟩
   have HK := Lib.hid hK
   clear hK
   go_simp
   refine (H3.out q3 pn1 ww z3 Hz_pn1.out iq3 (hJ.num pn1 (by simp))).mono ?_
   rintro zz W' ⟨py0, hzy, rfl, ipy0, hB⟩
   exact HK.out (.agg #[.bool py0.b, .slice py0.a py0.n py0.c]) _ (hJ.grow hLi (by simp) (by simp) hB) ⟨py0, hzy, rfl, ipy0⟩ (vnL_later hB)
  ·
   obtain ⟨q5, z5, e5, iq5⟩ := (show vnP (.num (l0 * 1048576)) (uu 5) ww from (hd 5 (by decide) (by kernel_rfl)).2)
   have x28 : aa.tmps[28]? = some (.agg #[.bool q5.b, .slice q5.a q5.n q5.c]) := (hin 5 28 rfl).trans (congrArg some e5)
   clear hd hev hin
   simp only [List.getElem_cons_succ, List.getElem_cons_zero]
   clear hl
   refine .inr ⟨rfl, fun K' hK => ?_⟩
   have HK := Lib.hid hK
   clear hK
   go_simp
   refine (H4.out q5 ww z5 iq5).mono ?_
   rintro zz W' ⟨py0, hzy, rfl, ipy0, hB⟩
   exact HK.out (.tuple #[.agg #[.bool py0.b, .slice py0.a py0.n py0.c], .int .i64 0]) _ (hJ.grow hLi (by simp) (by simp) hB) ⟨py0, hzy, rfl, ipy0⟩ (vnL_later hB)
  ·
   obtain ⟨q6, z6, e6, iq6⟩ := (show vnP (.num1 (rl) (.int .i64 0)) (uu 6) ww from (hd 6 (by decide) (by kernel_rfl)).2)
   have x29 : aa.tmps[29]? = some (.tuple #[.agg #[.bool q6.b, .slice q6.a q6.n q6.c], .int .i64 0]) := (hin 6 29 rfl).trans (congrArg some e6)
   clear hd hev hin
   simp only [List.getElem_cons_succ, List.getElem_cons_zero]
   clear hl
   refine .inr ⟨rfl, fun K' hK => ?_⟩
   have HK := Lib.hid hK
   clear hK
   go_simp
   exact HK.out (.tuple #[.agg #[.bool q6.b, .slice q6.a q6.n q6.c], .int .i64 0]) _ (hJ.grow hLi (by simp) (by simp) (Below.refl _ _)) ⟨q6, z6, rfl, iq6⟩ vnL_same
  ·
   obtain ⟨q7, z7, e7, iq7⟩ := (show vnP (.num1 (rl) (.int .i64 0)) (uu 7) ww from (hd 7 (by decide) (by kernel_rfl)).2)
   have x22 : aa.tmps[22]? = some (.tuple #[.agg #[.bool q7.b, .slice q7.a q7.n q7.c], .int .i64 0]) := (hin 7 22 rfl).trans (congrArg some e7)
   clear hd hev hin
   simp only [List.getElem_cons_succ, List.getElem_cons_zero]
   clear hl
   refine .inr ⟨rfl, fun K' hK => ?_⟩
   have HK := Lib.hid hK
   clear hK
   go_simp
   exact HK.out (.agg #[.bool q7.b, .slice q7.a q7.n q7.c]) _ (hJ.grow hLi (by simp) (by simp) (Below.refl _ _)) ⟨q7, z7, rfl, iq7⟩ vnL_same
  ·
   obtain ⟨q7, z7, e7, iq7⟩ := (show vnP (.num1 (rl) (.int .i64 0)) (uu 7) ww from (hd 7 (by decide) (by kernel_rfl)).2)
   have x22 : aa.tmps[22]? = some (.tuple #[.agg #[.bool q7.b, .slice q7.a q7.n q7.c], .int .i64 0]) := (hin 7 22 rfl).trans (congrArg some e7)
   clear hd hev hin
   simp only [List.getElem_cons_succ, List.getElem_cons_zero]
   clear hl
   refine .inr ⟨rfl, fun K' hK => ?_⟩
   have HK := Lib.hid hK
   clear hK
   go_simp
   exact HK.out (.int .i64 0) _ (hJ.grow hLi (by simp) (by simp) (Below.refl _ _)) rfl vnL_same
  ·
   clear hd hev hin
   simp only [List.getElem_cons_succ, List.getElem_cons_zero]
   clear hl
   refine .inr ⟨rfl, fun K' hK => ?_⟩
   have HK := Lib.hid hK
   clear hK
   refine wp_alloc 71 rfl (.agg #[.bool false, .slice none 0 0]) zv71 ?_
   exact HK.out _ _ (hJ.alloc hLi (n := 2) rfl (by kernel_rfl) (by simp) (by simp)) trivial (vnL_later ((Below.refl _ _).alloc (Nat.le_refl _) _))
  ·
   have hLa := (hd 10 (by decide) (by kernel_rfl)).1
   obtain ⟨kb, kC, ke, kge, ksz, kno, kcl⟩ := hJ.bx (10, 2, 71) (by simp) hLa
   have x5 : aa.tmps[5]? = some (.pointer (some ⟨kb, 0, none⟩)) := (hin 10 5 rfl).trans (congrArg some ke)
   obtain ⟨q8, z8, e8, iq8⟩ := (show vnP (.num (rl)) (uu 8) ww from (hd 8 (by decide) (by kernel_rfl)).2)
   have x30 : aa.tmps[30]? = some (.agg #[.bool q8.b, .slice q8.a q8.n q8.c]) := (hin 8 30 rfl).trans (congrArg some e8)
   have hLx := (hd 8 (by decide) (by kernel_rfl)).1
   clear hd hev hin
   simp only [List.getElem_cons_succ, List.getElem_cons_zero]
   clear hl
   refine .inr ⟨rfl, fun K' hK => ?_⟩
   have HK := Lib.hid hK
   clear hK
   refine wp_store 71 (.tmp 5) (.tmp 30) rfl 0 kb 0 kC 71 2 [.bool q8.b, .slice q8.a q8.n q8.c] (hJ.em.join kge kcl) rfl (eval_tmp x5) (by rw [eval_tmp x30]; rfl) sz71 rfl (by rw [ksz]; decide) (by kernel_rfl) (fun ww2 hE hk hz => ?_)
   rw [putC_full (show kC.size = ([.bool q8.b, .slice q8.a q8.n q8.c] : List Value).length from ksz)] at hE
   exact HK.out undef _ (hJ.store (a := 10) (x := 8) (n := 2) (T := 71) (Cn := #[.bool q8.b, .slice q8.a q8.n q8.c]) hLi (by simp) (by simp) (by simp) (by simp) (by simp) (by simp) hLa hLx ke kge rfl (by kernel_rfl) (by rw [e8]; rfl) kcl kno hE hk hz) trivial (vnL_store kcl kno hk hz)
  ·
   have x31 : aa.tmps[31]? = some (.int .i64 0) := (hin 9 31 rfl).trans (congrArg some (show uu 9 = .int .i64 0 from (hd 9 (by decide) (by kernel_rfl)).2))
   clear hd hev hin
   simp only [List.getElem_cons_succ, List.getElem_cons_zero]
   clear hl
   refine .inr ⟨rfl, fun K' hK => ?_⟩
   have HK := Lib.hid hK
   clear hK
   go_simp
   exact HK.out (.int .i64 0) _ (hJ.grow hLi (by simp) (by simp) (Below.refl _ _)) rfl vnL_same
 clear hM
 intro LL uu W9 hLL hJm hd
 have e_0 : uu 0 = .pointer (some ⟨bk3, 0, none⟩) := hd 0 (by decide)
 have e_1 : uu 1 = .int .i64 l := hd 1 (by decide)
 have e_2 : uu 2 = .int .i64 l0 := hd 2 (by decide)
 obtain ⟨pn2, hz_pn2, e_3, hi_pn2⟩ := (show vnP (.num (l0)) (uu 3) W9 from hd 3 (by decide))
 have Hz_pn2 := Lib.hid hz_pn2
 clear hz_pn2
 have e_4 : uu 4 = .agg #[.bool pn1.b, .slice pn1.a pn1.n pn1.c] := hd 4 (by decide)
 obtain ⟨pn3, hz_pn3, e_5, hi_pn3⟩ := (show vnP (.num (l0 * 1048576)) (uu 5) W9 from hd 5 (by decide))
 have Hz_pn3 := Lib.hid hz_pn3
 clear hz_pn3
 obtain ⟨pn4, hz_pn4, e_6, hi_pn4⟩ := (show vnP (.num1 (rl) (.int .i64 0)) (uu 6) W9 from hd 6 (by decide))
 have Hz_pn4 := Lib.hid hz_pn4
 clear hz_pn4
 obtain ⟨pn5, hz_pn5, e_7, hi_pn5⟩ := (show vnP (.num1 (rl) (.int .i64 0)) (uu 7) W9 from hd 7 (by decide))
 have Hz_pn5 := Lib.hid hz_pn5
 clear hz_pn5
 obtain ⟨pn6, hz_pn6, e_8, hi_pn6⟩ := (show vnP (.num (rl)) (uu 8) W9 from hd 8 (by decide))
 have Hz_pn6 := Lib.hid hz_pn6
 clear hz_pn6
 have e_9 : uu 9 = .int .i64 0 := hd 9 (by decide)
 obtain ⟨bk5, kC10, e_10, nge10, ksz10, kno10, nB10⟩ := hJm.bx (10, 2, 71) (by simp) (hLL 10 (by decide))
 have e_12 : uu 12 = .int .i64 0 := hd 12 (by decide)
 obtain ⟨_, _, kb11, ke11, kl11⟩ := hJm.st (11, 10, 8, 71) (by simp) (hLL 11 (by decide))
 have kq11 : kb11 = bk5 := by
  have hq := ke11.symm.trans e_10
  injection hq with hq
  injection hq with hq
  injection hq with hq
 subst kq11
 clear ke11
 replace kl11 : Cl W9 (kb11, #[.bool pn6.b, .slice pn6.a pn6.n pn6.c], 71) := by
  rw [show (uu (11, 10, 8, 71).2.2.1) = _ from e_8] at kl11
  exact kl11
 have g10 := hJm.em.join nge10 kl11
 clear hd hLL
 simp only [layS, Act.put, List.setIfInBounds_toArray, List.set_cons_succ, List.set_cons_zero, Nat.zero_add, Nat.reduceAdd, List.drop_succ_cons, List.drop_zero, List.drop_nil, e_0, e_1, e_2, e_3, e_4, e_5, e_6, e_7, e_8, e_9, e_10, e_12]
 have hJ9 := ((((((⟨g10, hJm.num⟩ : En w W9 [(kb11, #[.bool pn6.b, .slice pn6.a pn6.n pn6.c], 71), (bk4, #[.bool pn1.b, .slice pn1.a pn1.n pn1.c], 71), (bk3, #[.int .i64 l, .int .i64 h, .bool false], 25), (bk2, #[.int .i64 0, .int .i64 0, .bool false], 25), (bk1, #[.int .i64 l, .int .i64 h, .bool false], 25)] [pn1])).more hi_pn2).more hi_pn3).more hi_pn4).more hi_pn5).more hi_pn6
 clear hJm e_0 e_1 e_2 e_3 e_4 e_5 e_6 e_7 e_8 e_9 e_10 e_12 nge10 nB10 ksz10 kno10 g10 hi_pn2 hi_pn3 hi_pn4 hi_pn5 hi_pn6
 go_wp2
 obtain ⟨m6_9, hm⟩ : ∃ m, m = W9.heap.size := ⟨_, rfl⟩
 have hM : ∀ uu, Jn w m6_9 [(kb11, #[.bool pn6.b, .slice pn6.a pn6.n pn6.c], 71), (bk4, #[.bool pn1.b, .slice pn1.a pn1.n pn1.c], 71), (bk3, #[.int .i64 l, .int .i64 h, .bool false], 25), (bk2, #[.int .i64 0, .int .i64 0, .bool false], 25), (bk1, #[.int .i64 l, .int .i64 h, .bool false], 25)] [pn6, pn5, pn4, pn3, pn2, pn1] [(5, 2, 71)] [(6, 5, 4, 71)] (fun _ => false) uu W9.drew := fun uu => by rw [hm]; exact Jn.start hJ9 uu
 clear hm hJ9
 refine wp_region_y 7 [some 32, some 33, some 34, some 35, some 36, some 7, none] (vnL [.eq (.pointer (some ⟨bk3, 1, none⟩)), .eq (.int .i64 h), .num (h), .eq (.agg #[.bool pn1.b, .slice pn1.a pn1.n pn1.c]), .num (h * 1048576), .any, .any]) (Jn w m6_9 [(kb11, #[.bool pn6.b, .slice pn6.a pn6.n pn6.c], 71), (bk4, #[.bool pn1.b, .slice pn1.a pn1.n pn1.c], 71), (bk3, #[.int .i64 l, .int .i64 h, .bool false], 25), (bk2, #[.int .i64 0, .int .i64 0, .bool false], 25), (bk1, #[.int .i64 l, .int .i64 h, .bool false], 25)] [pn6, pn5, pn4, pn3, pn2, pn1] [(5, 2, 71)] [(6, 5, 4, 71)]) (by kernel_rfl) (by kernel_rfl) (by rfl) (by decide) (by rfl) hM ?_ ?_
 ·
  intro i hl hi LL uu ww aa hLi hJ hd hev hin
  clear hM
  obtain rfl | rfl | rfl | rfl | rfl | rfl | rfl : i = 0 ∨ i = 1 ∨ i = 2 ∨ i = 3 ∨ i = 4 ∨ i = 5 ∨ i = 6 := by omega
  ·
   have x3 : aa.tmps[3]? = some (.pointer (some ⟨bk3, 0, none⟩)) := (hev 3 (by decide)).trans rfl
   clear hd hev hin
   simp only [List.getElem_cons_succ, List.getElem_cons_zero]
   clear hl
   refine .inr ⟨rfl, fun K' hK => ?_⟩
   have HK := Lib.hid hK
   clear hK
   go_simp
   exact HK.out (.pointer (some ⟨bk3, 1, none⟩)) _ (hJ.grow hLi (by simp) (by simp) (Below.refl _ _)) rfl vnL_same
  ·
   have x32 : aa.tmps[32]? = some (.pointer (some ⟨bk3, 1, none⟩)) := (hin 0 32 rfl).trans (congrArg some (show uu 0 = .pointer (some ⟨bk3, 1, none⟩) from (hd 0 (by decide) (by kernel_rfl)).2))
   clear hd hev hin
   simp only [List.getElem_cons_succ, List.getElem_cons_zero]
   clear hl
   refine .inr ⟨rfl, fun K' hK => ?_⟩
   have HK := Lib.hid hK
   clear hK
   have f0 : ww.cell? ⟨bk3, 1, none⟩ = some (.int .i64 h) := hJ.em.es.cell 2 rfl 1 rfl
   go_simp
   exact HK.out (.int .i64 h) _ (hJ.grow hLi (by simp) (by simp) (Below.refl _ _)) rfl vnL_same
  ·
   have x33 : aa.tmps[33]? = some (.int .i64 h) := (hin 1 33 rfl).trans (congrArg some (show uu 1 = .int .i64 h from (hd 1 (by decide) (by kernel_rfl)).2))
   clear hd hev hin
   simp only [List.getElem_cons_succ, List.getElem_cons_zero]
   clear hl
   refine .inr ⟨rfl, fun K' hK => ?_⟩
   have HK := Lib.hid hK
   clear hK
   go_simp
   refine (H5.out ww).mono ?_
   rintro zz W' ⟨py0, hzy, rfl, ipy0, hB⟩
   exact HK.out (.agg #[.bool py0.b, .slice py0.a py0.n py0.c]) _ (hJ.grow hLi (by simp) (by simp) hB) ⟨py0, hzy, rfl, ipy0⟩ (vnL_later hB)
  ·
   have x4 : aa.tmps[4]? = some (.pointer (some ⟨bk4, 0, none⟩)) := (hev 4 (by decide)).trans rfl
   clear hd hev hin
   simp only [List.getElem_cons_succ, List.getElem_cons_zero]
   clear hl
   refine .inr ⟨rfl, fun K' hK => ?_⟩
   have HK := Lib.hid hK
   clear hK
   have f0 : ww.cell? ⟨bk4, 0, none⟩ = some (.bool pn1.b) := hJ.em.es.cell 1 rfl 0 rfl
   have f1 : ww.cell? ⟨bk4, 1, none⟩ = some (.slice pn1.a pn1.n pn1.c) := hJ.em.es.cell 1 rfl 1 rfl
   go_simp
   exact HK.out (.agg #[.bool pn1.b, .slice pn1.a pn1.n pn1.c]) _ (hJ.grow hLi (by simp) (by simp) (Below.refl _ _)) rfl vnL_same
  ·
   obtain ⟨q2, z2, e2, iq2⟩ := (show vnP (.num (h)) (uu 2) ww from (hd 2 (by decide) (by kernel_rfl)).2)
   have x34 : aa.tmps[34]? = some (.agg #[.bool q2.b, .slice q2.a q2.n q2.c]) := (hin 2 34 rfl).trans (congrArg some e2)
   have x35 : aa.tmps[35]? = some (.agg #[.bool pn1.b, .slice pn1.a pn1.n pn1.c]) := (hin 3 35 rfl).trans (congrArg some (show uu 3 = .agg #[.bool pn1.b, .slice pn1.a pn1.n pn1.c] from (hd 3 (by decide) (by kernel_rfl)).2))
   clear hd hev hin
   simp only [List.getElem_cons_succ, List.getElem_cons_zero]
   clear hl
   refine .inr ⟨rfl, fun K' hK => ?_⟩
   have HK := Lib.hid hK
   clear hK
   go_simp
   refine (H6.out q2 pn1 ww z2 Hz_pn1.out iq2 (hJ.num pn1 (by simp))).mono ?_
   rintro zz W' ⟨py0, hzy, rfl, ipy0, hB⟩
   exact HK.out (.agg #[.bool py0.b, .slice py0.a py0.n py0.c]) _ (hJ.grow hLi (by simp) (by simp) hB) ⟨py0, hzy, rfl, ipy0⟩ (vnL_later hB)
  ·
   clear hd hev hin
   simp only [List.getElem_cons_succ, List.getElem_cons_zero]
   clear hl
   refine .inr ⟨rfl, fun K' hK => ?_⟩
   have HK := Lib.hid hK
   clear hK
   refine wp_alloc 71 rfl (.agg #[.bool false, .slice none 0 0]) zv71 ?_
   exact HK.out _ _ (hJ.alloc hLi (n := 2) rfl (by kernel_rfl) (by simp) (by simp)) trivial (vnL_later ((Below.refl _ _).alloc (Nat.le_refl _) _))
  ·
   have hLa := (hd 5 (by decide) (by kernel_rfl)).1
   obtain ⟨kb, kC, ke, kge, ksz, kno, kcl⟩ := hJ.bx (5, 2, 71) (by simp) hLa
   have x7 : aa.tmps[7]? = some (.pointer (some ⟨kb, 0, none⟩)) := (hin 5 7 rfl).trans (congrArg some ke)
   obtain ⟨q4, z4, e4, iq4⟩ := (show vnP (.num (h * 1048576)) (uu 4) ww from (hd 4 (by decide) (by kernel_rfl)).2)
   have x36 : aa.tmps[36]? = some (.agg #[.bool q4.b, .slice q4.a q4.n q4.c]) := (hin 4 36 rfl).trans (congrArg some e4)
   have hLx := (hd 4 (by decide) (by kernel_rfl)).1
   clear hd hev hin
   simp only [List.getElem_cons_succ, List.getElem_cons_zero]
   clear hl
   refine .inr ⟨rfl, fun K' hK => ?_⟩
   have HK := Lib.hid hK
   clear hK
   refine wp_store 71 (.tmp 7) (.tmp 36) rfl 0 kb 0 kC 71 2 [.bool q4.b, .slice q4.a q4.n q4.c] (hJ.em.join kge kcl) rfl (eval_tmp x7) (by rw [eval_tmp x36]; rfl) sz71 rfl (by rw [ksz]; decide) (by kernel_rfl) (fun ww2 hE hk hz => ?_)
   rw [putC_full (show kC.size = ([.bool q4.b, .slice q4.a q4.n q4.c] : List Value).length from ksz)] at hE
   exact HK.out undef _ (hJ.store (a := 5) (x := 4) (n := 2) (T := 71) (Cn := #[.bool q4.b, .slice q4.a q4.n q4.c]) hLi (by simp) (by simp) (by simp) (by simp) (by simp) (by simp) hLa hLx ke kge rfl (by kernel_rfl) (by rw [e4]; rfl) kcl kno hE hk hz) trivial (vnL_store kcl kno hk hz)
 clear hM
 intro LL uu W10 hLL hJm hd
 have e_0 : uu 0 = .pointer (some ⟨bk3, 1, none⟩) := hd 0 (by decide)
 have e_1 : uu 1 = .int .i64 h := hd 1 (by decide)
 obtain ⟨pn7, hz_pn7, e_2, hi_pn7⟩ := (show vnP (.num (h)) (uu 2) W10 from hd 2 (by decide))
 have Hz_pn7 := Lib.hid hz_pn7
 clear hz_pn7
 have e_3 : uu 3 = .agg #[.bool pn1.b, .slice pn1.a pn1.n pn1.c] := hd 3 (by decide)
 obtain ⟨pn8, hz_pn8, e_4, hi_pn8⟩ := (show vnP (.num (h * 1048576)) (uu 4) W10 from hd 4 (by decide))
 have Hz_pn8 := Lib.hid hz_pn8
 clear hz_pn8
 obtain ⟨bk6, kC5, e_5, nge5, ksz5, kno5, nB5⟩ := hJm.bx (5, 2, 71) (by simp) (hLL 5 (by decide))
 obtain ⟨_, _, kb6, ke6, kl6⟩ := hJm.st (6, 5, 4, 71) (by simp) (hLL 6 (by decide))
 have kq6 : kb6 = bk6 := by
  have hq := ke6.symm.trans e_5
  injection hq with hq
  injection hq with hq
  injection hq with hq
 subst kq6
 clear ke6
 replace kl6 : Cl W10 (kb6, #[.bool pn8.b, .slice pn8.a pn8.n pn8.c], 71) := by
  rw [show (uu (6, 5, 4, 71).2.2.1) = _ from e_4] at kl6
  exact kl6
 have g5 := hJm.em.join nge5 kl6
 clear hd hLL
 simp only [layS, Act.put, List.setIfInBounds_toArray, List.set_cons_succ, List.set_cons_zero, Nat.zero_add, Nat.reduceAdd, List.drop_succ_cons, List.drop_zero, List.drop_nil, e_0, e_1, e_2, e_3, e_4, e_5]
 have hJ10 := (((⟨g5, hJm.num⟩ : En w W10 [(kb6, #[.bool pn8.b, .slice pn8.a pn8.n pn8.c], 71), (kb11, #[.bool pn6.b, .slice pn6.a pn6.n pn6.c], 71), (bk4, #[.bool pn1.b, .slice pn1.a pn1.n pn1.c], 71), (bk3, #[.int .i64 l, .int .i64 h, .bool false], 25), (bk2, #[.int .i64 0, .int .i64 0, .bool false], 25), (bk1, #[.int .i64 l, .int .i64 h, .bool false], 25)] [pn6, pn5, pn4, pn3, pn2, pn1])).more hi_pn7).more hi_pn8
 clear hJm e_0 e_1 e_2 e_3 e_4 e_5 nge5 nB5 ksz5 kno5 g5 hi_pn7 hi_pn8
 have f0 : W10.cell? ⟨kb6, 0, none⟩ = some (.bool pn8.b) := hJ10.cell 0 rfl 0 rfl
 have f1 : W10.cell? ⟨kb6, 1, none⟩ = some (.slice pn8.a pn8.n pn8.c) := hJ10.cell 0 rfl 1 rfl
 go_wp2_with fail
 refine (H7.out pn8 _ Hz_pn8.out (hJ10.num pn8 (by simp))).mono ?_
 rintro zz W11 ⟨pn9, hz_pn9, rfl, hi_pn9, hB⟩
 have hJ11 := (hJ10.later hB).more hi_pn9
 have Hz_pn9 := Lib.hid hz_pn9
 clear hz_pn9 hi_pn9
 clear hB
 clear f0 f1
 clear hJ10
 go_wp2_with (refine stopn_alloc 71 #[.bool false, .slice none 0 0] (.agg #[.bool false, .slice none 0 0]) rfl rfl zv71 rfl hJ11 (fun bk7 W12 hJ12 => ?_))
 clear hJ11
 unfold Stop
 try simp only [Act.put, List.setIfInBounds_toArray, List.set_cons_succ, List.set_cons_zero]
 go_wp2_with (refine stopn_store 71 (.tmp 8) (.tmp 40) 0 bk7 0 #[.bool false, .slice none 0 0] 71 2 [.bool pn9.b, .slice pn9.a pn9.n pn9.c] #[.bool pn9.b, .slice pn9.a pn9.n pn9.c] [(bk7, #[.bool pn9.b, .slice pn9.a pn9.n pn9.c], 71), (kb6, #[.bool pn8.b, .slice pn8.a pn8.n pn8.c], 71), (kb11, #[.bool pn6.b, .slice pn6.a pn6.n pn6.c], 71), (bk4, #[.bool pn1.b, .slice pn1.a pn1.n pn1.c], 71), (bk3, #[.int .i64 l, .int .i64 h, .bool false], 25), (bk2, #[.int .i64 0, .int .i64 0, .bool false], 25), (bk1, #[.int .i64 l, .int .i64 h, .bool false], 25)] (by kernel_rfl) rfl rfl rfl rfl sz71 hJ12 rfl rfl (Nat.le_of_ble_eq_true (by kernel_rfl)) (by kernel_rfl) (by kernel_rfl) (by kernel_rfl) (fun W13 hJ13 => ?_))
 clear hJ12
 unfold Stop
 try simp only [Act.put, List.setIfInBounds_toArray, List.set_cons_succ, List.set_cons_zero]
 go_wp2
 obtain ⟨m8_13, hm⟩ : ∃ m, m = W13.heap.size := ⟨_, rfl⟩
 have hM : ∀ uu, Jn w m8_13 [(bk7, #[.bool pn9.b, .slice pn9.a pn9.n pn9.c], 71), (kb6, #[.bool pn8.b, .slice pn8.a pn8.n pn8.c], 71), (kb11, #[.bool pn6.b, .slice pn6.a pn6.n pn6.c], 71), (bk4, #[.bool pn1.b, .slice pn1.a pn1.n pn1.c], 71), (bk3, #[.int .i64 l, .int .i64 h, .bool false], 25), (bk2, #[.int .i64 0, .int .i64 0, .bool false], 25), (bk1, #[.int .i64 l, .int .i64 h, .bool false], 25)] [pn9, pn8, pn7, pn6, pn5, pn4, pn3, pn2, pn1] [] [] (fun _ => false) uu W13.drew := fun uu => by rw [hm]; exact Jn.start hJ13 uu
 clear hm hJ13
 refine wp_region_y 6 [some 42, some 43, some 44, some 45, some 46, some 10] (vnL [.eq (.agg #[.bool pn9.b, .slice pn9.a pn9.n pn9.c]), .eq (.agg #[.bool pn9.b, .slice pn9.a pn9.n pn9.c]), .num (rh * rh), .eq (.agg #[.bool pn8.b, .slice pn8.a pn8.n pn8.c]), .eq (.int .i64 c), .eq (.int .i64 c)]) (Jn w m8_13 [(bk7, #[.bool pn9.b, .slice pn9.a pn9.n pn9.c], 71), (kb6, #[.bool pn8.b, .slice pn8.a pn8.n pn8.c], 71), (kb11, #[.bool pn6.b, .slice pn6.a pn6.n pn6.c], 71), (bk4, #[.bool pn1.b, .slice pn1.a pn1.n pn1.c], 71), (bk3, #[.int .i64 l, .int .i64 h, .bool false], 25), (bk2, #[.int .i64 0, .int .i64 0, .bool false], 25), (bk1, #[.int .i64 l, .int .i64 h, .bool false], 25)] [pn9, pn8, pn7, pn6, pn5, pn4, pn3, pn2, pn1] [] []) (by kernel_rfl) (by kernel_rfl) (by rfl) (by decide) (by rfl) hM ?_ ?_
 ·
  intro i hl hi LL uu ww aa hLi hJ hd hev hin
  clear hM
  obtain rfl | rfl | rfl | rfl | rfl | rfl : i = 0 ∨ i = 1 ∨ i = 2 ∨ i = 3 ∨ i = 4 ∨ i = 5 := by omega
  ·
   have x8 : aa.tmps[8]? = some (.pointer (some ⟨bk7, 0, none⟩)) := (hev 8 (by decide)).trans rfl
   clear hd hev hin
   simp only [List.getElem_cons_succ, List.getElem_cons_zero]
   clear hl
   refine .inr ⟨rfl, fun K' hK => ?_⟩
   have HK := Lib.hid hK
   clear hK
   have f0 : ww.cell? ⟨bk7, 0, none⟩ = some (.bool pn9.b) := hJ.em.es.cell 0 rfl 0 rfl
   have f1 : ww.cell? ⟨bk7, 1, none⟩ = some (.slice pn9.a pn9.n pn9.c) := hJ.em.es.cell 0 rfl 1 rfl
   go_simp
   exact HK.out (.agg #[.bool pn9.b, .slice pn9.a pn9.n pn9.c]) _ (hJ.grow hLi (by simp) (by simp) (Below.refl _ _)) rfl vnL_same
  ·
   have x8 : aa.tmps[8]? = some (.pointer (some ⟨bk7, 0, none⟩)) := (hev 8 (by decide)).trans rfl
   clear hd hev hin
   simp only [List.getElem_cons_succ, List.getElem_cons_zero]
   clear hl
   refine .inr ⟨rfl, fun K' hK => ?_⟩
   have HK := Lib.hid hK
   clear hK
   have f0 : ww.cell? ⟨bk7, 0, none⟩ = some (.bool pn9.b) := hJ.em.es.cell 0 rfl 0 rfl
   have f1 : ww.cell? ⟨bk7, 1, none⟩ = some (.slice pn9.a pn9.n pn9.c) := hJ.em.es.cell 0 rfl 1 rfl
   go_simp
   exact HK.out (.agg #[.bool pn9.b, .slice pn9.a pn9.n pn9.c]) _ (hJ.grow hLi (by simp) (by simp) (Below.refl _ _)) rfl vnL_same
  ·
   have x42 : aa.tmps[42]? = some (.agg #[.bool pn9.b, .slice pn9.a pn9.n pn9.c]) := (hin 0 42 rfl).trans (congrArg some (show uu 0 = .agg #[.bool pn9.b, .slice pn9.a pn9.n pn9.c] from (hd 0 (by decide) (by kernel_rfl)).2))
   have x43 : aa.tmps[43]? = some (.agg #[.bool pn9.b, .slice pn9.a pn9.n pn9.c]) := (hin 1 43 rfl).trans (congrArg some (show uu 1 = .agg #[.bool pn9.b, .slice pn9.a pn9.n pn9.c] from (hd 1 (by decide) (by kernel_rfl)).2))
   clear hd hev hin
   simp only [List.getElem_cons_succ, List.getElem_cons_zero]
   clear hl
   refine .inr ⟨rfl, fun K' hK => ?_⟩
   have HK := Lib.hid hK
   clear hK
   go_simp
   refine (H8.out pn9 pn9 ww Hz_pn9.out Hz_pn9.out (hJ.num pn9 (by simp)) (hJ.num pn9 (by simp))).mono ?_
   rintro zz W' ⟨py0, hzy, rfl, ipy0, hB⟩
   exact HK.out (.agg #[.bool py0.b, .slice py0.a py0.n py0.c]) _ (hJ.grow hLi (by simp) (by simp) hB) ⟨py0, hzy, rfl, ipy0⟩ (vnL_later hB)
  ·
   have x7 : aa.tmps[7]? = some (.pointer (some ⟨kb6, 0, none⟩)) := (hev 7 (by decide)).trans rfl
   clear hd hev hin
   simp only [List.getElem_cons_succ, List.getElem_cons_zero]
   clear hl
   refine .inr ⟨rfl, fun K' hK => ?_⟩
   have HK := Lib.hid hK
   clear hK
   have f0 : ww.cell? ⟨kb6, 0, none⟩ = some (.bool pn8.b) := hJ.em.es.cell 1 rfl 0 rfl
   have f1 : ww.cell? ⟨kb6, 1, none⟩ = some (.slice pn8.a pn8.n pn8.c) := hJ.em.es.cell 1 rfl 1 rfl
   go_simp
   exact HK.out (.agg #[.bool pn8.b, .slice pn8.a pn8.n pn8.c]) _ (hJ.grow hLi (by simp) (by simp) (Below.refl _ _)) rfl vnL_same
  ·
   obtain ⟨q2, z2, e2, iq2⟩ := (show vnP (.num (rh * rh)) (uu 2) ww from (hd 2 (by decide) (by kernel_rfl)).2)
   have x44 : aa.tmps[44]? = some (.agg #[.bool q2.b, .slice q2.a q2.n q2.c]) := (hin 2 44 rfl).trans (congrArg some e2)
   have x45 : aa.tmps[45]? = some (.agg #[.bool pn8.b, .slice pn8.a pn8.n pn8.c]) := (hin 3 45 rfl).trans (congrArg some (show uu 3 = .agg #[.bool pn8.b, .slice pn8.a pn8.n pn8.c] from (hd 3 (by decide) (by kernel_rfl)).2))
   clear hd hev hin
   simp only [List.getElem_cons_succ, List.getElem_cons_zero]
   clear hl
   refine .inr ⟨rfl, fun K' hK => ?_⟩
   have HK := Lib.hid hK
   clear hK
   go_simp
   refine (H9.out q2 pn8 ww z2 Hz_pn8.out iq2 (hJ.num pn8 (by simp))).mono ?_
   rintro zz W' ⟨rfl, hB⟩
   exact HK.out (.int .i64 c) _ (hJ.grow hLi (by simp) (by simp) hB) rfl (vnL_later hB)
  ·
   have x46 : aa.tmps[46]? = some (.int .i64 c) := (hin 4 46 rfl).trans (congrArg some (show uu 4 = .int .i64 c from (hd 4 (by decide) (by kernel_rfl)).2))
   clear hd hev hin
   simp only [List.getElem_cons_succ, List.getElem_cons_zero]
   clear hl
   refine .inr ⟨rfl, fun K' hK => ?_⟩
   have HK := Lib.hid hK
   clear hK
   go_simp
   exact HK.out (.int .i64 c) _ (hJ.grow hLi (by simp) (by simp) (Below.refl _ _)) rfl vnL_same
 clear hM
 intro LL uu W14 hLL hJm hd
 have e_0 : uu 0 = .agg #[.bool pn9.b, .slice pn9.a pn9.n pn9.c] := hd 0 (by decide)
 have e_1 : uu 1 = .agg #[.bool pn9.b, .slice pn9.a pn9.n pn9.c] := hd 1 (by decide)
 obtain ⟨pn10, hz_pn10, e_2, hi_pn10⟩ := (show vnP (.num (rh * rh)) (uu 2) W14 from hd 2 (by decide))
 have Hz_pn10 := Lib.hid hz_pn10
 clear hz_pn10
 have e_3 : uu 3 = .agg #[.bool pn8.b, .slice pn8.a pn8.n pn8.c] := hd 3 (by decide)
 have e_4 : uu 4 = .int .i64 c := hd 4 (by decide)
 have e_5 : uu 5 = .int .i64 c := hd 5 (by decide)
 clear hd hLL
 simp only [layS, Act.put, List.setIfInBounds_toArray, List.set_cons_succ, List.set_cons_zero, Nat.zero_add, Nat.reduceAdd, List.drop_succ_cons, List.drop_zero, List.drop_nil, e_0, e_1, e_2, e_3, e_4, e_5]
 have hJ14 := ((⟨hJm.em.es, hJm.num⟩ : En w W14 [(bk7, #[.bool pn9.b, .slice pn9.a pn9.n pn9.c], 71), (kb6, #[.bool pn8.b, .slice pn8.a pn8.n pn8.c], 71), (kb11, #[.bool pn6.b, .slice pn6.a pn6.n pn6.c], 71), (bk4, #[.bool pn1.b, .slice pn1.a pn1.n pn1.c], 71), (bk3, #[.int .i64 l, .int .i64 h, .bool false], 25), (bk2, #[.int .i64 0, .int .i64 0, .bool false], 25), (bk1, #[.int .i64 l, .int .i64 h, .bool false], 25)] [pn9, pn8, pn7, pn6, pn5, pn4, pn3, pn2, pn1])).more hi_pn10
 clear hJm e_0 e_1 e_2 e_3 e_4 e_5 hi_pn10
 go_wp2
 obtain ⟨m10_14, hm⟩ : ∃ m, m = W14.heap.size := ⟨_, rfl⟩
 have hM : ∀ uu, Jn w m10_14 [(bk7, #[.bool pn9.b, .slice pn9.a pn9.n pn9.c], 71), (kb6, #[.bool pn8.b, .slice pn8.a pn8.n pn8.c], 71), (kb11, #[.bool pn6.b, .slice pn6.a pn6.n pn6.c], 71), (bk4, #[.bool pn1.b, .slice pn1.a pn1.n pn1.c], 71), (bk3, #[.int .i64 l, .int .i64 h, .bool false], 25), (bk2, #[.int .i64 0, .int .i64 0, .bool false], 25), (bk1, #[.int .i64 l, .int .i64 h, .bool false], 25)] [pn10, pn9, pn8, pn7, pn6, pn5, pn4, pn3, pn2, pn1] [] [] (fun _ => false) uu W14.drew := fun uu => by rw [hm]; exact Jn.start hJ14 uu
 clear hm hJ14
 refine wp_region_y 3 [some 49, some 50, some 51] (vnL [.eq (.agg #[.bool pn9.b, .slice pn9.a pn9.n pn9.c]), .num (1), .num (rh + 1)]) (Jn w m10_14 [(bk7, #[.bool pn9.b, .slice pn9.a pn9.n pn9.c], 71), (kb6, #[.bool pn8.b, .slice pn8.a pn8.n pn8.c], 71), (kb11, #[.bool pn6.b, .slice pn6.a pn6.n pn6.c], 71), (bk4, #[.bool pn1.b, .slice pn1.a pn1.n pn1.c], 71), (bk3, #[.int .i64 l, .int .i64 h, .bool false], 25), (bk2, #[.int .i64 0, .int .i64 0, .bool false], 25), (bk1, #[.int .i64 l, .int .i64 h, .bool false], 25)] [pn10, pn9, pn8, pn7, pn6, pn5, pn4, pn3, pn2, pn1] [] []) (by kernel_rfl) (by kernel_rfl) (by rfl) (by decide) (by rfl) hM ?_ ?_
 ·
  intro i hl hi LL uu ww aa hLi hJ hd hev hin
  clear hM
  obtain rfl | rfl | rfl : i = 0 ∨ i = 1 ∨ i = 2 := by omega
  ·
   have x8 : aa.tmps[8]? = some (.pointer (some ⟨bk7, 0, none⟩)) := (hev 8 (by decide)).trans rfl
   clear hd hev hin
   simp only [List.getElem_cons_succ, List.getElem_cons_zero]
   clear hl
   refine .inr ⟨rfl, fun K' hK => ?_⟩
   have HK := Lib.hid hK
   clear hK
   have f0 : ww.cell? ⟨bk7, 0, none⟩ = some (.bool pn9.b) := hJ.em.es.cell 0 rfl 0 rfl
   have f1 : ww.cell? ⟨bk7, 1, none⟩ = some (.slice pn9.a pn9.n pn9.c) := hJ.em.es.cell 0 rfl 1 rfl
   go_simp
   exact HK.out (.agg #[.bool pn9.b, .slice pn9.a pn9.n pn9.c]) _ (hJ.grow hLi (by simp) (by simp) (Below.refl _ _)) rfl vnL_same
  ·
   clear hd hev hin
   simp only [List.getElem_cons_succ, List.getElem_cons_zero]
   clear hl
   refine .inr ⟨rfl, fun K' hK => ?_⟩
   have HK := Lib.hid hK
   clear hK
   go_simp
   refine (Ha.out ww).mono ?_
   rintro zz W' ⟨py0, hzy, rfl, ipy0, hB⟩
   exact HK.out (.agg #[.bool py0.b, .slice py0.a py0.n py0.c]) _ (hJ.grow hLi (by simp) (by simp) hB) ⟨py0, hzy, rfl, ipy0⟩ (vnL_later hB)
  ·
   have x49 : aa.tmps[49]? = some (.agg #[.bool pn9.b, .slice pn9.a pn9.n pn9.c]) := (hin 0 49 rfl).trans (congrArg some (show uu 0 = .agg #[.bool pn9.b, .slice pn9.a pn9.n pn9.c] from (hd 0 (by decide) (by kernel_rfl)).2))
   obtain ⟨q1, z1, e1, iq1⟩ := (show vnP (.num (1)) (uu 1) ww from (hd 1 (by decide) (by kernel_rfl)).2)
   have x50 : aa.tmps[50]? = some (.agg #[.bool q1.b, .slice q1.a q1.n q1.c]) := (hin 1 50 rfl).trans (congrArg some e1)
   clear hd hev hin
   simp only [List.getElem_cons_succ, List.getElem_cons_zero]
   clear hl
   refine .inr ⟨rfl, fun K' hK => ?_⟩
   have HK := Lib.hid hK
   clear hK
   go_simp
   refine (Hb.out pn9 q1 ww Hz_pn9.out z1 (hJ.num pn9 (by simp)) iq1).mono ?_
   rintro zz W' ⟨py0, hzy, rfl, ipy0, hB⟩
   exact HK.out (.agg #[.bool py0.b, .slice py0.a py0.n py0.c]) _ (hJ.grow hLi (by simp) (by simp) hB) ⟨py0, hzy, rfl, ipy0⟩ (vnL_later hB)
 clear hM
 intro LL uu W15 hLL hJm hd
 have e_0 : uu 0 = .agg #[.bool pn9.b, .slice pn9.a pn9.n pn9.c] := hd 0 (by decide)
 obtain ⟨pn11, hz_pn11, e_1, hi_pn11⟩ := (show vnP (.num (1)) (uu 1) W15 from hd 1 (by decide))
 have Hz_pn11 := Lib.hid hz_pn11
 clear hz_pn11
 obtain ⟨pn12, hz_pn12, e_2, hi_pn12⟩ := (show vnP (.num (rh + 1)) (uu 2) W15 from hd 2 (by decide))
 have Hz_pn12 := Lib.hid hz_pn12
 clear hz_pn12
 clear hd hLL
 simp only [layS, Act.put, List.setIfInBounds_toArray, List.set_cons_succ, List.set_cons_zero, Nat.zero_add, Nat.reduceAdd, List.drop_succ_cons, List.drop_zero, List.drop_nil, e_0, e_1, e_2]
 have hJ15 := (((⟨hJm.em.es, hJm.num⟩ : En w W15 [(bk7, #[.bool pn9.b, .slice pn9.a pn9.n pn9.c], 71), (kb6, #[.bool pn8.b, .slice pn8.a pn8.n pn8.c], 71), (kb11, #[.bool pn6.b, .slice pn6.a pn6.n pn6.c], 71), (bk4, #[.bool pn1.b, .slice pn1.a pn1.n pn1.c], 71), (bk3, #[.int .i64 l, .int .i64 h, .bool false], 25), (bk2, #[.int .i64 0, .int .i64 0, .bool false], 25), (bk1, #[.int .i64 l, .int .i64 h, .bool false], 25)] [pn10, pn9, pn8, pn7, pn6, pn5, pn4, pn3, pn2, pn1])).more hi_pn11).more hi_pn12
 clear hJm e_0 e_1 e_2 hi_pn11 hi_pn12
 go_wp2_with (refine stopn_store 71 (.tmp 8) (.tmp 51) 0 bk7 0 #[.bool pn9.b, .slice pn9.a pn9.n pn9.c] 71 2 [.bool pn12.b, .slice pn12.a pn12.n pn12.c] #[.bool pn12.b, .slice pn12.a pn12.n pn12.c] [(bk7, #[.bool pn12.b, .slice pn12.a pn12.n pn12.c], 71), (kb6, #[.bool pn8.b, .slice pn8.a pn8.n pn8.c], 71), (kb11, #[.bool pn6.b, .slice pn6.a pn6.n pn6.c], 71), (bk4, #[.bool pn1.b, .slice pn1.a pn1.n pn1.c], 71), (bk3, #[.int .i64 l, .int .i64 h, .bool false], 25), (bk2, #[.int .i64 0, .int .i64 0, .bool false], 25), (bk1, #[.int .i64 l, .int .i64 h, .bool false], 25)] (by kernel_rfl) rfl rfl rfl rfl sz71 hJ15 rfl rfl (Nat.le_of_ble_eq_true (by kernel_rfl)) (by kernel_rfl) (by kernel_rfl) (by kernel_rfl) (fun W16 hJ16 => ?_))
 clear hJ15
 unfold Stop
 try simp only [Act.put, List.setIfInBounds_toArray, List.set_cons_succ, List.set_cons_zero]
 have f0 : W16.cell? ⟨kb11, 0, none⟩ = some (.bool pn6.b) := hJ16.cell 2 rfl 0 rfl
 have f1 : W16.cell? ⟨kb11, 1, none⟩ = some (.slice pn6.a pn6.n pn6.c) := hJ16.cell 2 rfl 1 rfl
 have f2 : W16.cell? ⟨bk7, 0, none⟩ = some (.bool pn12.b) := hJ16.cell 0 rfl 0 rfl
 have f3 : W16.cell? ⟨bk7, 1, none⟩ = some (.slice pn12.a pn12.n pn12.c) := hJ16.cell 0 rfl 1 rfl
 go_wp2_with fail
 refine (Hc.out pn6 pn12 _ Hz_pn6.out Hz_pn12.out (hJ16.num pn6 (by simp)) (hJ16.num pn12 (by simp))).mono ?_
 rintro zz W17 ⟨rfl, hB⟩
 have hJ17 := hJ16.later hB
 clear hB
 clear f0 f1 f2 f3
 clear hJ16
 replace hJ17 := hJ17.drop
 go_wp2_with (refine stopn_store 25 (.tmp 2) (.tmp 54) 5 bk2 0 #[.int .i64 0, .int .i64 0, .bool false] 25 3 [.int .i64 z.lo, .int .i64 z.hi, .bool z.all] #[.int .i64 z.lo, .int .i64 z.hi, .bool z.all] [(bk7, #[.bool pn12.b, .slice pn12.a pn12.n pn12.c], 71), (kb6, #[.bool pn8.b, .slice pn8.a pn8.n pn8.c], 71), (kb11, #[.bool pn6.b, .slice pn6.a pn6.n pn6.c], 71), (bk4, #[.bool pn1.b, .slice pn1.a pn1.n pn1.c], 71), (bk3, #[.int .i64 l, .int .i64 h, .bool false], 25), (bk2, #[.int .i64 z.lo, .int .i64 z.hi, .bool z.all], 25), (bk1, #[.int .i64 l, .int .i64 h, .bool false], 25)] (by kernel_rfl) rfl rfl rfl rfl sz25 hJ17 rfl rfl (Nat.le_of_ble_eq_true (by kernel_rfl)) (by kernel_rfl) (by kernel_rfl) (by kernel_rfl) (fun W18 hJ18 => ?_))
 clear hJ17
 unfold Stop
 try simp only [Act.put, List.setIfInBounds_toArray, List.set_cons_succ, List.set_cons_zero]
 have f0 : W18.cell? ⟨bk2, 0, none⟩ = some (.int .i64 z.lo) := hJ18.cell 5 rfl 0 rfl
 have f1 : W18.cell? ⟨bk2, 1, none⟩ = some (.int .i64 z.hi) := hJ18.cell 5 rfl 1 rfl
 have f2 : W18.cell? ⟨bk2, 2, none⟩ = some (.bool z.all) := hJ18.cell 5 rfl 2 rfl
 go_wp2
 exact bodyPost_ret (v := .agg #[.int .i64 z.lo, .int .i64 z.hi, .bool z.all]) (by simp [results, Try.results27, go_sem, f0, f1, f2]) rfl ⟨rfl, hJ18.below⟩
end Go.Proofs.Ytpahkpcoinbgcaa
