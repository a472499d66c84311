/- Parts of the proof. -/
import Derived.Test.YtpahkpcoinbgcaaGs32
import Derived.Test.YtpahkpcoinbgcaaGs18
import Derived.ChangeKeysEq
import Derived.Test.YtpahkpcoinbgcaaGs27
import Derived.Test.YtpahkpcoinbgcaaGs24
import Derived.Test.YtpahkpcoinbgcaaGs31
/- Equality of vectors, of arrays. No statement of the seat is proved here. -/
namespace Go.Proofs.Ytpahkpcoinbgcaa
open Go Go.RowKit
theorem run_sameS (d : Nat) (a b : Int) (c : Bool) (w : World) : (Op.equalIn (d + 2) 23 (.agg #[.int .i64 a, .int .i64 b, .bool c]) (.agg #[.int .i64 a, .int .i64 b, .bool c])).run Try.prog w = .ok true w := by
 have ht : Try.prog.underlying 23 = some (.struct (Try.prog.fieldsOf 23)) := by kernel_rfl
 have hp : Try.prog.stoodInHeld 23 = false := by kernel_rfl
 have u1 := Try.underlying2
 have u2 := Try.underlying4
 have a1 := Try.isAgg2
 have a2 := Try.isAgg4
 have z1 := Try.sizeOf2
 have z2 := Try.sizeOf4
 rw [run_equalIn_struct w (d + 1) 23 _ _ ht hp]
 simp only [Program.fieldsOf, Try.underlying23]
 go_simp
theorem run_sameD (d : Nat) (a b : Int) (c : Bool) (w : World) : (Op.equalIn (d + 2) 25 (.agg #[.int .i64 a, .int .i64 b, .bool c]) (.agg #[.int .i64 a, .int .i64 b, .bool c])).run Try.prog w = .ok true w := by
 have ht : Try.prog.underlying 25 = some (.struct (Try.prog.fieldsOf 25)) := by kernel_rfl
 have hp : Try.prog.stoodInHeld 25 = false := by kernel_rfl
 have u1 := Try.underlying2
 have u2 := Try.underlying4
 have a1 := Try.isAgg2
 have a2 := Try.isAgg4
 have z1 := Try.sizeOf2
 have z2 := Try.sizeOf4
 rw [run_equalIn_struct w (d + 1) 25 _ _ ht hp]
 simp only [Program.fieldsOf, Try.underlying25]
 go_simp
section
variable (a0 b0 : Int) (c0 : Bool) (a1 b1 : Int) (c1 : Bool) (a2 b2 : Int) (c2 : Bool) (w : World)
theorem run_eqlSs (a b : Int) (c : Bool) : (binOp .eql 23 (.agg #[.int .i64 a, .int .i64 b, .bool c]) (.agg #[.int .i64 a, .int .i64 b, .bool c])).run Try.prog w = .ok (.bool true) w := by
 have hs : (Op.equalIn 10000 23 (.agg #[.int .i64 a, .int .i64 b, .bool c]) (.agg #[.int .i64 a, .int .i64 b, .bool c])).run Try.prog w = .ok true w := run_sameS 9998 a b c w
 rw [run_eql_struct, hs]
 rfl
theorem run_eqlDs (a b : Int) (c : Bool) : (binOp .eql 25 (.agg #[.int .i64 a, .int .i64 b, .bool c]) (.agg #[.int .i64 a, .int .i64 b, .bool c])).run Try.prog w = .ok (.bool true) w := by
 have hs : (Op.equalIn 10000 25 (.agg #[.int .i64 a, .int .i64 b, .bool c]) (.agg #[.int .i64 a, .int .i64 b, .bool c])).run Try.prog w = .ok true w := run_sameD 9998 a b c w
 rw [run_eql_struct, hs]
 rfl
end
end Go.Proofs.Ytpahkpcoinbgcaa

/- The walk of the law SpanRoots. -/
namespace Go.Proofs.Ytpahkpcoinbgcaa
open Go Go.RowKit
attribute [local go_sem ↓] run_eqlSs run_eqlDs
set_option maxRecDepth 100000 in
set_option maxHeartbeats 12800000 in
theorem Roots_w (x zn zs zr : Sp) (hHaw : ∀ W : World, Calls Try.prog 12 #[] W (PVal (.bool true) W)) (hHdx : ∀ W : World, Calls Try.prog 13 #[.agg #[.int .i64 x.lo, .int .i64 x.hi, .bool x.all]] W (PVal (.agg #[.int .i64 x.lo, .int .i64 x.hi, .bool x.all]) W)) (hHNeg : ∀ W : World, Calls Try.prog 22 #[.agg #[.int .i64 x.lo, .int .i64 x.hi, .bool x.all]] W (PVal (.agg #[.int .i64 zn.lo, .int .i64 zn.hi, .bool zn.all]) W)) (hHdNeg : ∀ W : World, Calls Try.prog 13 #[.agg #[.int .i64 zn.lo, .int .i64 zn.hi, .bool zn.all]] W (PVal (.agg #[.int .i64 zn.lo, .int .i64 zn.hi, .bool zn.all]) W)) (hHrNeg : ∀ W : World, Calls Try.prog 25 #[.agg #[.int .i64 x.lo, .int .i64 x.hi, .bool x.all]] W (PVal (.agg #[.int .i64 zn.lo, .int .i64 zn.hi, .bool zn.all]) W)) (hHSqr : ∀ W : World, Calls Try.prog 23 #[.agg #[.int .i64 x.lo, .int .i64 x.hi, .bool x.all]] W (PVal (.agg #[.int .i64 zs.lo, .int .i64 zs.hi, .bool zs.all]) W)) (hHdSqr : ∀ W : World, Calls Try.prog 13 #[.agg #[.int .i64 zs.lo, .int .i64 zs.hi, .bool zs.all]] W (PVal (.agg #[.int .i64 zs.lo, .int .i64 zs.hi, .bool zs.all]) W)) (hHrSqr : ∀ W : World, Calls Try.prog 26 #[.agg #[.int .i64 x.lo, .int .i64 x.hi, .bool x.all]] W (PVal (.agg #[.int .i64 zs.lo, .int .i64 zs.hi, .bool zs.all]) W)) (hHSqrt : ∀ W : World, Calls Try.prog 24 #[.agg #[.int .i64 x.lo, .int .i64 x.hi, .bool x.all]] W (PVal (.agg #[.int .i64 zr.lo, .int .i64 zr.hi, .bool zr.all]) W)) (hHdSqrt : ∀ W : World, Calls Try.prog 13 #[.agg #[.int .i64 zr.lo, .int .i64 zr.hi, .bool zr.all]] W (PVal (.agg #[.int .i64 zr.lo, .int .i64 zr.hi, .bool zr.all]) W)) (hHrSqrt : ∀ W : World, Calls Try.prog 27 #[.agg #[.int .i64 x.lo, .int .i64 x.hi, .bool x.all]] W (PVal (.agg #[.int .i64 zr.lo, .int .i64 zr.hi, .bool zr.all]) W))   (w : World) : Calls Try.prog 4 #[.agg #[.int .i64 x.lo, .int .i64 x.hi, .bool x.all]] w (PVal (.bool true) w) := by
 have Haw := Lib.hid hHaw
 have Hdx := Lib.hid hHdx
 have HNeg := Lib.hid hHNeg
 have HdNeg := Lib.hid hHdNeg
 have HrNeg := Lib.hid hHrNeg
 have HSqr := Lib.hid hHSqr
 have HdSqr := Lib.hid hHdSqr
 have HrSqr := Lib.hid hHrSqr
 have HSqrt := Lib.hid hHSqrt
 have HdSqrt := Lib.hid hHdSqrt
 have HrSqrt := Lib.hid hHrSqrt
 clear hHaw hHdx hHNeg hHdNeg hHrNeg hHSqr hHdSqr hHrSqr hHSqrt hHdSqrt hHrSqrt
 have hJ0 := es_nil w
 go_enter Try.func4, Try.ntmps4
 go_wp2_with (refine stop_box 23 (.tmp 0) #[.int .i64 x.lo, .int .i64 x.hi, .bool x.all] rfl rfl rfl hJ0 (fun bk1 W1 hJ1 => ?_))
 clear hJ0
 unfold Stop
 try simp only [Act.put, List.setIfInBounds_toArray, List.set_cons_succ, List.set_cons_zero]
 go_wp2_with fail
 refine (Haw.out _).mono ?_
 rintro zz W2 ⟨rfl, hB⟩
 have hJ2 := hJ1.later hB
 clear hB
 clear hJ1
 have f0 : W2.cell? ⟨bk1, 0, none⟩ = some (.int .i64 x.lo) := hJ2.cell 0 rfl 0 rfl
 have f1 : W2.cell? ⟨bk1, 1, none⟩ = some (.int .i64 x.hi) := hJ2.cell 0 rfl 1 rfl
 have f2 : W2.cell? ⟨bk1, 2, none⟩ = some (.bool x.all) := hJ2.cell 0 rfl 2 rfl
 go_wp2_with fail
 refine (Hdx.out _).mono ?_
 rintro zz W3 ⟨rfl, hB⟩
 have hJ3 := hJ2.later hB
 clear hB
 clear f0 f1 f2
 clear hJ2
 go_wp2_with (refine stop_alloc 25 #[.int .i64 0, .int .i64 0, .bool false] (.agg #[.int .i64 0, .int .i64 0, .bool false]) rfl rfl zv25 rfl hJ3 (fun bk2 W4 hJ4 => ?_))
 clear hJ3
 unfold Stop
 try simp only [Act.put, List.setIfInBounds_toArray, List.set_cons_succ, List.set_cons_zero]
 go_wp2_with (refine stop_store 25 (.tmp 4) (.tmp 10) 0 bk2 0 #[.int .i64 0, .int .i64 0, .bool false] 25 3 [.int .i64 x.lo, .int .i64 x.hi, .bool x.all] #[.int .i64 x.lo, .int .i64 x.hi, .bool x.all] [(bk2, #[.int .i64 x.lo, .int .i64 x.hi, .bool x.all], 25), (bk1, #[.int .i64 x.lo, .int .i64 x.hi, .bool x.all], 23)] rfl rfl rfl rfl sz25 hJ4 rfl rfl (Nat.le_of_ble_eq_true (by kernel_rfl)) (by kernel_rfl) (by kernel_rfl) (by kernel_rfl) (fun W5 hJ5 => ?_))
 clear hJ4
 unfold Stop
 try simp only [Act.put, List.setIfInBounds_toArray, List.set_cons_succ, List.set_cons_zero]
 have f0 : W5.cell? ⟨bk1, 0, none⟩ = some (.int .i64 x.lo) := hJ5.cell 1 rfl 0 rfl
 have f1 : W5.cell? ⟨bk1, 1, none⟩ = some (.int .i64 x.hi) := hJ5.cell 1 rfl 1 rfl
 have f2 : W5.cell? ⟨bk1, 2, none⟩ = some (.bool x.all) := hJ5.cell 1 rfl 2 rfl
 go_wp2_with fail
 refine (HNeg.out _).mono ?_
 rintro zz W6 ⟨rfl, hB⟩
 have hJ6 := hJ5.later hB
 clear hB
 clear f0 f1 f2
 clear hJ5
 go_wp2_with fail
 refine (HdNeg.out _).mono ?_
 rintro zz W7 ⟨rfl, hB⟩
 have hJ7 := hJ6.later hB
 clear hB
 clear hJ6
 go_wp2_with (refine stop_alloc 25 #[.int .i64 0, .int .i64 0, .bool false] (.agg #[.int .i64 0, .int .i64 0, .bool false]) rfl rfl zv25 rfl hJ7 (fun bk3 W8 hJ8 => ?_))
 clear hJ7
 unfold Stop
 try simp only [Act.put, List.setIfInBounds_toArray, List.set_cons_succ, List.set_cons_zero]
 go_wp2_with (refine stop_store 25 (.tmp 5) (.tmp 13) 0 bk3 0 #[.int .i64 0, .int .i64 0, .bool false] 25 3 [.int .i64 zn.lo, .int .i64 zn.hi, .bool zn.all] #[.int .i64 zn.lo, .int .i64 zn.hi, .bool zn.all] [(bk3, #[.int .i64 zn.lo, .int .i64 zn.hi, .bool zn.all], 25), (bk2, #[.int .i64 x.lo, .int .i64 x.hi, .bool x.all], 25), (bk1, #[.int .i64 x.lo, .int .i64 x.hi, .bool x.all], 23)] rfl rfl rfl rfl sz25 hJ8 rfl rfl (Nat.le_of_ble_eq_true (by kernel_rfl)) (by kernel_rfl) (by kernel_rfl) (by kernel_rfl) (fun W9 hJ9 => ?_))
 clear hJ8
 unfold Stop
 try simp only [Act.put, List.setIfInBounds_toArray, List.set_cons_succ, List.set_cons_zero]
 have f0 : W9.cell? ⟨bk1, 0, none⟩ = some (.int .i64 x.lo) := hJ9.cell 2 rfl 0 rfl
 have f1 : W9.cell? ⟨bk1, 1, none⟩ = some (.int .i64 x.hi) := hJ9.cell 2 rfl 1 rfl
 have f2 : W9.cell? ⟨bk1, 2, none⟩ = some (.bool x.all) := hJ9.cell 2 rfl 2 rfl
 go_wp2_with fail
 refine (HSqr.out _).mono ?_
 rintro zz W10 ⟨rfl, hB⟩
 have hJ10 := hJ9.later hB
 clear hB
 clear f0 f1 f2
 clear hJ9
 go_wp2_with fail
 refine (HdSqr.out _).mono ?_
 rintro zz W11 ⟨rfl, hB⟩
 have hJ11 := hJ10.later hB
 clear hB
 clear hJ10
 go_wp2_with (refine stop_alloc 25 #[.int .i64 0, .int .i64 0, .bool false] (.agg #[.int .i64 0, .int .i64 0, .bool false]) rfl rfl zv25 rfl hJ11 (fun bk4 W12 hJ12 => ?_))
 clear hJ11
 unfold Stop
 try simp only [Act.put, List.setIfInBounds_toArray, List.set_cons_succ, List.set_cons_zero]
 go_wp2_with (refine stop_store 25 (.tmp 6) (.tmp 16) 0 bk4 0 #[.int .i64 0, .int .i64 0, .bool false] 25 3 [.int .i64 zs.lo, .int .i64 zs.hi, .bool zs.all] #[.int .i64 zs.lo, .int .i64 zs.hi, .bool zs.all] [(bk4, #[.int .i64 zs.lo, .int .i64 zs.hi, .bool zs.all], 25), (bk3, #[.int .i64 zn.lo, .int .i64 zn.hi, .bool zn.all], 25), (bk2, #[.int .i64 x.lo, .int .i64 x.hi, .bool x.all], 25), (bk1, #[.int .i64 x.lo, .int .i64 x.hi, .bool x.all], 23)] rfl rfl rfl rfl sz25 hJ12 rfl rfl (Nat.le_of_ble_eq_true (by kernel_rfl)) (by kernel_rfl) (by kernel_rfl) (by kernel_rfl) (fun W13 hJ13 => ?_))
 clear hJ12
 unfold Stop
 try simp only [Act.put, List.setIfInBounds_toArray, List.set_cons_succ, List.set_cons_zero]
 have f0 : W13.cell? ⟨bk1, 0, none⟩ = some (.int .i64 x.lo) := hJ13.cell 3 rfl 0 rfl
 have f1 : W13.cell? ⟨bk1, 1, none⟩ = some (.int .i64 x.hi) := hJ13.cell 3 rfl 1 rfl
 have f2 : W13.cell? ⟨bk1, 2, none⟩ = some (.bool x.all) := hJ13.cell 3 rfl 2 rfl
 go_wp2_with fail
 refine (HSqrt.out _).mono ?_
 rintro zz W14 ⟨rfl, hB⟩
 have hJ14 := hJ13.later hB
 clear hB
 clear f0 f1 f2
 clear hJ13
 go_wp2_with fail
 refine (HdSqrt.out _).mono ?_
 rintro zz W15 ⟨rfl, hB⟩
 have hJ15 := hJ14.later hB
 clear hB
 clear hJ14
 go_wp2_with (refine stop_alloc 25 #[.int .i64 0, .int .i64 0, .bool false] (.agg #[.int .i64 0, .int .i64 0, .bool false]) rfl rfl zv25 rfl hJ15 (fun bk5 W16 hJ16 => ?_))
 clear hJ15
 unfold Stop
 try simp only [Act.put, List.setIfInBounds_toArray, List.set_cons_succ, List.set_cons_zero]
 go_wp2_with (refine stop_store 25 (.tmp 7) (.tmp 19) 0 bk5 0 #[.int .i64 0, .int .i64 0, .bool false] 25 3 [.int .i64 zr.lo, .int .i64 zr.hi, .bool zr.all] #[.int .i64 zr.lo, .int .i64 zr.hi, .bool zr.all] [(bk5, #[.int .i64 zr.lo, .int .i64 zr.hi, .bool zr.all], 25), (bk4, #[.int .i64 zs.lo, .int .i64 zs.hi, .bool zs.all], 25), (bk3, #[.int .i64 zn.lo, .int .i64 zn.hi, .bool zn.all], 25), (bk2, #[.int .i64 x.lo, .int .i64 x.hi, .bool x.all], 25), (bk1, #[.int .i64 x.lo, .int .i64 x.hi, .bool x.all], 23)] rfl rfl rfl rfl sz25 hJ16 rfl rfl (Nat.le_of_ble_eq_true (by kernel_rfl)) (by kernel_rfl) (by kernel_rfl) (by kernel_rfl) (fun W17 hJ17 => ?_))
 clear hJ16
 unfold Stop
 try simp only [Act.put, List.setIfInBounds_toArray, List.set_cons_succ, List.set_cons_zero]
 go_wp2
 obtain ⟨m6_17, hm⟩ : ∃ m, m = W17.heap.size := ⟨_, rfl⟩
 have hM := hJ17.em
 rw [← hm] at hM
 clear hm hJ17
 refine wp_region_z 20 [some 20, some 21, some 22, some 23, some 24, some 25, some 26, some 27, some 28, some 29, some 30, some 31, some 32, some 33, some 34, some 35, some 36, some 37, some 38, some 2] (veL m6_17 [.eq (.bool true), .eq (.bool true), .eq (.agg #[.int .i64 zn.lo, .int .i64 zn.hi, .bool zn.all]), .eq (.agg #[.int .i64 x.lo, .int .i64 x.hi, .bool x.all]), .eq (.agg #[.int .i64 zn.lo, .int .i64 zn.hi, .bool zn.all]), .eq (.bool true), .eq (.bool true), .eq (.bool true), .eq (.agg #[.int .i64 zs.lo, .int .i64 zs.hi, .bool zs.all]), .eq (.agg #[.int .i64 x.lo, .int .i64 x.hi, .bool x.all]), .eq (.agg #[.int .i64 zs.lo, .int .i64 zs.hi, .bool zs.all]), .eq (.bool true), .eq (.bool true), .eq (.bool true), .eq (.agg #[.int .i64 zr.lo, .int .i64 zr.hi, .bool zr.all]), .eq (.agg #[.int .i64 x.lo, .int .i64 x.hi, .bool x.all]), .eq (.agg #[.int .i64 zr.lo, .int .i64 zr.hi, .bool zr.all]), .eq (.bool true), .eq (.bool true), .eq (.bool true)]) (Em w m6_17 [(bk5, #[.int .i64 zr.lo, .int .i64 zr.hi, .bool zr.all], 25), (bk4, #[.int .i64 zs.lo, .int .i64 zs.hi, .bool zs.all], 25), (bk3, #[.int .i64 zn.lo, .int .i64 zn.hi, .bool zn.all], 25), (bk2, #[.int .i64 x.lo, .int .i64 x.hi, .bool x.all], 25), (bk1, #[.int .i64 x.lo, .int .i64 x.hi, .bool x.all], 23)]) (by kernel_rfl) (by kernel_rfl) (by rfl) (by decide) (by rfl) hM ?_ ?_
 ·
  intro i hl hi uu ww aa hJ hd hev hin
  clear hM
  obtain rfl | rfl | rfl | rfl | rfl | rfl | rfl | rfl | rfl | rfl | rfl | rfl | rfl | rfl | rfl | rfl | rfl | rfl | rfl | rfl : i = 0 ∨ i = 1 ∨ i = 2 ∨ i = 3 ∨ i = 4 ∨ i = 5 ∨ i = 6 ∨ i = 7 ∨ i = 8 ∨ i = 9 ∨ i = 10 ∨ i = 11 ∨ i = 12 ∨ i = 13 ∨ i = 14 ∨ i = 15 ∨ i = 16 ∨ i = 17 ∨ i = 18 ∨ i = 19 := by omega
  ·
   have x3 : aa.tmps[3]? = some (.bool true) := (hev 3 (by decide)).trans rfl
   clear hd hev hin
   simp only [List.getElem_cons_succ, List.getElem_cons_zero]
   clear hl
   refine .inr ⟨rfl, fun K' hK => ?_⟩
   have HK := Lib.hid hK
   clear hK
   go_simp
   exact HK.out (.bool true) _ hJ rfl veL_same
  ·
   have x20 : aa.tmps[20]? = some (.bool true) := (hin 0 20 rfl).trans (congrArg some (show uu 0 = .bool true from hd 0 (by decide) (by kernel_rfl)))
   clear hd hev hin
   simp only [List.getElem_cons_succ, List.getElem_cons_zero]
   clear hl
   refine .inr ⟨rfl, fun K' hK => ?_⟩
   have HK := Lib.hid hK
   clear hK
   go_simp
   exact HK.out (.bool true) _ hJ rfl veL_same
  ·
   have x5 : aa.tmps[5]? = some (.pointer (some ⟨bk3, 0, none⟩)) := (hev 5 (by decide)).trans rfl
   have y1 : aa.tmps[21]? = some (.bool true) := (hin 1 21 rfl).trans (congrArg some (show uu 1 = .bool true from hd 1 (by decide) (by kernel_rfl)))
   clear hd hev hin
   simp only [List.getElem_cons_succ, List.getElem_cons_zero]
   clear hl
   refine .inr ⟨?_, fun K' hK => ?_⟩
   ·
    simp [Region.wanted, yielded, y1]
   clear y1
   have HK := Lib.hid hK
   clear hK
   have f0 : ww.cell? ⟨bk3, 0, none⟩ = some (.int .i64 zn.lo) := hJ.es.cell 2 rfl 0 rfl
   have f1 : ww.cell? ⟨bk3, 1, none⟩ = some (.int .i64 zn.hi) := hJ.es.cell 2 rfl 1 rfl
   have f2 : ww.cell? ⟨bk3, 2, none⟩ = some (.bool zn.all) := hJ.es.cell 2 rfl 2 rfl
   go_simp
   exact HK.out (.agg #[.int .i64 zn.lo, .int .i64 zn.hi, .bool zn.all]) _ hJ rfl veL_same
  ·
   have x4 : aa.tmps[4]? = some (.pointer (some ⟨bk2, 0, none⟩)) := (hev 4 (by decide)).trans rfl
   have y1 : aa.tmps[21]? = some (.bool true) := (hin 1 21 rfl).trans (congrArg some (show uu 1 = .bool true from hd 1 (by decide) (by kernel_rfl)))
   clear hd hev hin
   simp only [List.getElem_cons_succ, List.getElem_cons_zero]
   clear hl
   refine .inr ⟨?_, fun K' hK => ?_⟩
   ·
    simp [Region.wanted, yielded, y1]
   clear y1
   have HK := Lib.hid hK
   clear hK
   have f0 : ww.cell? ⟨bk2, 0, none⟩ = some (.int .i64 x.lo) := hJ.es.cell 3 rfl 0 rfl
   have f1 : ww.cell? ⟨bk2, 1, none⟩ = some (.int .i64 x.hi) := hJ.es.cell 3 rfl 1 rfl
   have f2 : ww.cell? ⟨bk2, 2, none⟩ = some (.bool x.all) := hJ.es.cell 3 rfl 2 rfl
   go_simp
   exact HK.out (.agg #[.int .i64 x.lo, .int .i64 x.hi, .bool x.all]) _ hJ rfl veL_same
  ·
   have x23 : aa.tmps[23]? = some (.agg #[.int .i64 x.lo, .int .i64 x.hi, .bool x.all]) := (hin 3 23 rfl).trans (congrArg some (show uu 3 = .agg #[.int .i64 x.lo, .int .i64 x.hi, .bool x.all] from hd 3 (by decide) (by kernel_rfl)))
   have y1 : aa.tmps[21]? = some (.bool true) := (hin 1 21 rfl).trans (congrArg some (show uu 1 = .bool true from hd 1 (by decide) (by kernel_rfl)))
   clear hd hev hin
   simp only [List.getElem_cons_succ, List.getElem_cons_zero]
   clear hl
   refine .inr ⟨?_, fun K' hK => ?_⟩
   ·
    simp [Region.wanted, yielded, y1]
   clear y1
   have HK := Lib.hid hK
   clear hK
   go_simp
   refine (HrNeg.out ww).mono ?_
   rintro zz W' ⟨rfl, hB⟩
   exact HK.out (.agg #[.int .i64 zn.lo, .int .i64 zn.hi, .bool zn.all]) _ (hJ.later hB) rfl (veL_later hB)
  ·
   have x22 : aa.tmps[22]? = some (.agg #[.int .i64 zn.lo, .int .i64 zn.hi, .bool zn.all]) := (hin 2 22 rfl).trans (congrArg some (show uu 2 = .agg #[.int .i64 zn.lo, .int .i64 zn.hi, .bool zn.all] from hd 2 (by decide) (by kernel_rfl)))
   have x24 : aa.tmps[24]? = some (.agg #[.int .i64 zn.lo, .int .i64 zn.hi, .bool zn.all]) := (hin 4 24 rfl).trans (congrArg some (show uu 4 = .agg #[.int .i64 zn.lo, .int .i64 zn.hi, .bool zn.all] from hd 4 (by decide) (by kernel_rfl)))
   have y1 : aa.tmps[21]? = some (.bool true) := (hin 1 21 rfl).trans (congrArg some (show uu 1 = .bool true from hd 1 (by decide) (by kernel_rfl)))
   clear hd hev hin
   simp only [List.getElem_cons_succ, List.getElem_cons_zero]
   clear hl
   refine .inr ⟨?_, fun K' hK => ?_⟩
   ·
    simp [Region.wanted, yielded, y1]
   clear y1
   have HK := Lib.hid hK
   clear hK
   go_simp
   exact HK.out (.bool true) _ hJ rfl veL_same
  ·
   have x21 : aa.tmps[21]? = some (.bool true) := (hin 1 21 rfl).trans (congrArg some (show uu 1 = .bool true from hd 1 (by decide) (by kernel_rfl)))
   have x25 : aa.tmps[25]? = some (.bool true) := (hin 5 25 rfl).trans (congrArg some (show uu 5 = .bool true from hd 5 (by decide) (by kernel_rfl)))
   clear hd hev hin
   simp only [List.getElem_cons_succ, List.getElem_cons_zero]
   clear hl
   refine .inr ⟨rfl, fun K' hK => ?_⟩
   have HK := Lib.hid hK
   clear hK
   go_simp
   exact HK.out (.bool true) _ hJ rfl veL_same
  ·
   have x26 : aa.tmps[26]? = some (.bool true) := (hin 6 26 rfl).trans (congrArg some (show uu 6 = .bool true from hd 6 (by decide) (by kernel_rfl)))
   clear hd hev hin
   simp only [List.getElem_cons_succ, List.getElem_cons_zero]
   clear hl
   refine .inr ⟨rfl, fun K' hK => ?_⟩
   have HK := Lib.hid hK
   clear hK
   go_simp
   exact HK.out (.bool true) _ hJ rfl veL_same
  ·
   have x6 : aa.tmps[6]? = some (.pointer (some ⟨bk4, 0, none⟩)) := (hev 6 (by decide)).trans rfl
   have y7 : aa.tmps[27]? = some (.bool true) := (hin 7 27 rfl).trans (congrArg some (show uu 7 = .bool true from hd 7 (by decide) (by kernel_rfl)))
   clear hd hev hin
   simp only [List.getElem_cons_succ, List.getElem_cons_zero]
   clear hl
   refine .inr ⟨?_, fun K' hK => ?_⟩
   ·
    simp [Region.wanted, yielded, y7]
   clear y7
   have HK := Lib.hid hK
   clear hK
   have f0 : ww.cell? ⟨bk4, 0, none⟩ = some (.int .i64 zs.lo) := hJ.es.cell 1 rfl 0 rfl
   have f1 : ww.cell? ⟨bk4, 1, none⟩ = some (.int .i64 zs.hi) := hJ.es.cell 1 rfl 1 rfl
   have f2 : ww.cell? ⟨bk4, 2, none⟩ = some (.bool zs.all) := hJ.es.cell 1 rfl 2 rfl
   go_simp
   exact HK.out (.agg #[.int .i64 zs.lo, .int .i64 zs.hi, .bool zs.all]) _ hJ rfl veL_same
  ·
   have x4 : aa.tmps[4]? = some (.pointer (some ⟨bk2, 0, none⟩)) := (hev 4 (by decide)).trans rfl
   have y7 : aa.tmps[27]? = some (.bool true) := (hin 7 27 rfl).trans (congrArg some (show uu 7 = .bool true from hd 7 (by decide) (by kernel_rfl)))
   clear hd hev hin
   simp only [List.getElem_cons_succ, List.getElem_cons_zero]
   clear hl
   refine .inr ⟨?_, fun K' hK => ?_⟩
   ·
    simp [Region.wanted, yielded, y7]
   clear y7
   have HK := Lib.hid hK
   clear hK
   have f0 : ww.cell? ⟨bk2, 0, none⟩ = some (.int .i64 x.lo) := hJ.es.cell 3 rfl 0 rfl
   have f1 : ww.cell? ⟨bk2, 1, none⟩ = some (.int .i64 x.hi) := hJ.es.cell 3 rfl 1 rfl
   have f2 : ww.cell? ⟨bk2, 2, none⟩ = some (.bool x.all) := hJ.es.cell 3 rfl 2 rfl
   go_simp
   exact HK.out (.agg #[.int .i64 x.lo, .int .i64 x.hi, .bool x.all]) _ hJ rfl veL_same
  ·
   have x29 : aa.tmps[29]? = some (.agg #[.int .i64 x.lo, .int .i64 x.hi, .bool x.all]) := (hin 9 29 rfl).trans (congrArg some (show uu 9 = .agg #[.int .i64 x.lo, .int .i64 x.hi, .bool x.all] from hd 9 (by decide) (by kernel_rfl)))
   have y7 : aa.tmps[27]? = some (.bool true) := (hin 7 27 rfl).trans (congrArg some (show uu 7 = .bool true from hd 7 (by decide) (by kernel_rfl)))
   clear hd hev hin
   simp only [List.getElem_cons_succ, List.getElem_cons_zero]
   clear hl
   refine .inr ⟨?_, fun K' hK => ?_⟩
   ·
    simp [Region.wanted, yielded, y7]
   clear y7
   have HK := Lib.hid hK
   clear hK
   go_simp
   refine (HrSqr.out ww).mono ?_
   rintro zz W' ⟨rfl, hB⟩
   exact HK.out (.agg #[.int .i64 zs.lo, .int .i64 zs.hi, .bool zs.all]) _ (hJ.later hB) rfl (veL_later hB)
  ·
   have x28 : aa.tmps[28]? = some (.agg #[.int .i64 zs.lo, .int .i64 zs.hi, .bool zs.all]) := (hin 8 28 rfl).trans (congrArg some (show uu 8 = .agg #[.int .i64 zs.lo, .int .i64 zs.hi, .bool zs.all] from hd 8 (by decide) (by kernel_rfl)))
   have x30 : aa.tmps[30]? = some (.agg #[.int .i64 zs.lo, .int .i64 zs.hi, .bool zs.all]) := (hin 10 30 rfl).trans (congrArg some (show uu 10 = .agg #[.int .i64 zs.lo, .int .i64 zs.hi, .bool zs.all] from hd 10 (by decide) (by kernel_rfl)))
   have y7 : aa.tmps[27]? = some (.bool true) := (hin 7 27 rfl).trans (congrArg some (show uu 7 = .bool true from hd 7 (by decide) (by kernel_rfl)))
   clear hd hev hin
   simp only [List.getElem_cons_succ, List.getElem_cons_zero]
   clear hl
   refine .inr ⟨?_, fun K' hK => ?_⟩
   ·
    simp [Region.wanted, yielded, y7]
   clear y7
   have HK := Lib.hid hK
   clear hK
   go_simp
   exact HK.out (.bool true) _ hJ rfl veL_same
  ·
   have x27 : aa.tmps[27]? = some (.bool true) := (hin 7 27 rfl).trans (congrArg some (show uu 7 = .bool true from hd 7 (by decide) (by kernel_rfl)))
   have x31 : aa.tmps[31]? = some (.bool true) := (hin 11 31 rfl).trans (congrArg some (show uu 11 = .bool true from hd 11 (by decide) (by kernel_rfl)))
   clear hd hev hin
   simp only [List.getElem_cons_succ, List.getElem_cons_zero]
   clear hl
   refine .inr ⟨rfl, fun K' hK => ?_⟩
   have HK := Lib.hid hK
   clear hK
   go_simp
   exact HK.out (.bool true) _ hJ rfl veL_same
  ·
   have x32 : aa.tmps[32]? = some (.bool true) := (hin 12 32 rfl).trans (congrArg some (show uu 12 = .bool true from hd 12 (by decide) (by kernel_rfl)))
   clear hd hev hin
   simp only [List.getElem_cons_succ, List.getElem_cons_zero]
   clear hl
   refine .inr ⟨rfl, fun K' hK => ?_⟩
   have HK := Lib.hid hK
   clear hK
   go_simp
   exact HK.out (.bool true) _ hJ rfl veL_same
  ·
   have x7 : aa.tmps[7]? = some (.pointer (some ⟨bk5, 0, none⟩)) := (hev 7 (by decide)).trans rfl
   have y13 : aa.tmps[33]? = some (.bool true) := (hin 13 33 rfl).trans (congrArg some (show uu 13 = .bool true from hd 13 (by decide) (by kernel_rfl)))
   clear hd hev hin
   simp only [List.getElem_cons_succ, List.getElem_cons_zero]
   clear hl
   refine .inr ⟨?_, fun K' hK => ?_⟩
   ·
    simp [Region.wanted, yielded, y13]
   clear y13
   have HK := Lib.hid hK
   clear hK
   have f0 : ww.cell? ⟨bk5, 0, none⟩ = some (.int .i64 zr.lo) := hJ.es.cell 0 rfl 0 rfl
   have f1 : ww.cell? ⟨bk5, 1, none⟩ = some (.int .i64 zr.hi) := hJ.es.cell 0 rfl 1 rfl
   have f2 : ww.cell? ⟨bk5, 2, none⟩ = some (.bool zr.all) := hJ.es.cell 0 rfl 2 rfl
   go_simp
   exact HK.out (.agg #[.int .i64 zr.lo, .int .i64 zr.hi, .bool zr.all]) _ hJ rfl veL_same
  ·
   have x4 : aa.tmps[4]? = some (.pointer (some ⟨bk2, 0, none⟩)) := (hev 4 (by decide)).trans rfl
   have y13 : aa.tmps[33]? = some (.bool true) := (hin 13 33 rfl).trans (congrArg some (show uu 13 = .bool true from hd 13 (by decide) (by kernel_rfl)))
   clear hd hev hin
   simp only [List.getElem_cons_succ, List.getElem_cons_zero]
   clear hl
   refine .inr ⟨?_, fun K' hK => ?_⟩
   ·
    simp [Region.wanted, yielded, y13]
   clear y13
   have HK := Lib.hid hK
   clear hK
   have f0 : ww.cell? ⟨bk2, 0, none⟩ = some (.int .i64 x.lo) := hJ.es.cell 3 rfl 0 rfl
   have f1 : ww.cell? ⟨bk2, 1, none⟩ = some (.int .i64 x.hi) := hJ.es.cell 3 rfl 1 rfl
   have f2 : ww.cell? ⟨bk2, 2, none⟩ = some (.bool x.all) := hJ.es.cell 3 rfl 2 rfl
   go_simp
   exact HK.out (.agg #[.int .i64 x.lo, .int .i64 x.hi, .bool x.all]) _ hJ rfl veL_same
  ·
   have x35 : aa.tmps[35]? = some (.agg #[.int .i64 x.lo, .int .i64 x.hi, .bool x.all]) := (hin 15 35 rfl).trans (congrArg some (show uu 15 = .agg #[.int .i64 x.lo, .int .i64 x.hi, .bool x.all] from hd 15 (by decide) (by kernel_rfl)))
   have y13 : aa.tmps[33]? = some (.bool true) := (hin 13 33 rfl).trans (congrArg some (show uu 13 = .bool true from hd 13 (by decide) (by kernel_rfl)))
   clear hd hev hin
   simp only [List.getElem_cons_succ, List.getElem_cons_zero]
   clear hl
   refine .inr ⟨?_, fun K' hK => ?_⟩
   ·
    simp [Region.wanted, yielded, y13]
   clear y13
   have HK := Lib.hid hK
   clear hK
   go_simp
   refine (HrSqrt.out ww).mono ?_
   rintro zz W' ⟨rfl, hB⟩
   exact HK.out (.agg #[.int .i64 zr.lo, .int .i64 zr.hi, .bool zr.all]) _ (hJ.later hB) rfl (veL_later hB)
  ·
   have x34 : aa.tmps[34]? = some (.agg #[.int .i64 zr.lo, .int .i64 zr.hi, .bool zr.all]) := (hin 14 34 rfl).trans (congrArg some (show uu 14 = .agg #[.int .i64 zr.lo, .int .i64 zr.hi, .bool zr.all] from hd 14 (by decide) (by kernel_rfl)))
   have x36 : aa.tmps[36]? = some (.agg #[.int .i64 zr.lo, .int .i64 zr.hi, .bool zr.all]) := (hin 16 36 rfl).trans (congrArg some (show uu 16 = .agg #[.int .i64 zr.lo, .int .i64 zr.hi, .bool zr.all] from hd 16 (by decide) (by kernel_rfl)))
   have y13 : aa.tmps[33]? = some (.bool true) := (hin 13 33 rfl).trans (congrArg some (show uu 13 = .bool true from hd 13 (by decide) (by kernel_rfl)))
   clear hd hev hin
   simp only [List.getElem_cons_succ, List.getElem_cons_zero]
   clear hl
   refine .inr ⟨?_, fun K' hK => ?_⟩
   ·
    simp [Region.wanted, yielded, y13]
   clear y13
   have HK := Lib.hid hK
   clear hK
   go_simp
   exact HK.out (.bool true) _ hJ rfl veL_same
  ·
   have x33 : aa.tmps[33]? = some (.bool true) := (hin 13 33 rfl).trans (congrArg some (show uu 13 = .bool true from hd 13 (by decide) (by kernel_rfl)))
   have x37 : aa.tmps[37]? = some (.bool true) := (hin 17 37 rfl).trans (congrArg some (show uu 17 = .bool true from hd 17 (by decide) (by kernel_rfl)))
   clear hd hev hin
   simp only [List.getElem_cons_succ, List.getElem_cons_zero]
   clear hl
   refine .inr ⟨rfl, fun K' hK => ?_⟩
   have HK := Lib.hid hK
   clear hK
   go_simp
   exact HK.out (.bool true) _ hJ rfl veL_same
  ·
   have x38 : aa.tmps[38]? = some (.bool true) := (hin 18 38 rfl).trans (congrArg some (show uu 18 = .bool true from hd 18 (by decide) (by kernel_rfl)))
   clear hd hev hin
   simp only [List.getElem_cons_succ, List.getElem_cons_zero]
   clear hl
   refine .inr ⟨rfl, fun K' hK => ?_⟩
   have HK := Lib.hid hK
   clear hK
   go_simp
   exact HK.out (.bool true) _ hJ rfl veL_same
 clear hM
 intro uu W18 hJm hd
 have e_0 : uu 0 = .bool true := hd 0 (by decide)
 have e_1 : uu 1 = .bool true := hd 1 (by decide)
 have e_2 : uu 2 = .agg #[.int .i64 zn.lo, .int .i64 zn.hi, .bool zn.all] := hd 2 (by decide)
 have e_3 : uu 3 = .agg #[.int .i64 x.lo, .int .i64 x.hi, .bool x.all] := hd 3 (by decide)
 have e_4 : uu 4 = .agg #[.int .i64 zn.lo, .int .i64 zn.hi, .bool zn.all] := hd 4 (by decide)
 have e_5 : uu 5 = .bool true := hd 5 (by decide)
 have e_6 : uu 6 = .bool true := hd 6 (by decide)
 have e_7 : uu 7 = .bool true := hd 7 (by decide)
 have e_8 : uu 8 = .agg #[.int .i64 zs.lo, .int .i64 zs.hi, .bool zs.all] := hd 8 (by decide)
 have e_9 : uu 9 = .agg #[.int .i64 x.lo, .int .i64 x.hi, .bool x.all] := hd 9 (by decide)
 have e_10 : uu 10 = .agg #[.int .i64 zs.lo, .int .i64 zs.hi, .bool zs.all] := hd 10 (by decide)
 have e_11 : uu 11 = .bool true := hd 11 (by decide)
 have e_12 : uu 12 = .bool true := hd 12 (by decide)
 have e_13 : uu 13 = .bool true := hd 13 (by decide)
 have e_14 : uu 14 = .agg #[.int .i64 zr.lo, .int .i64 zr.hi, .bool zr.all] := hd 14 (by decide)
 have e_15 : uu 15 = .agg #[.int .i64 x.lo, .int .i64 x.hi, .bool x.all] := hd 15 (by decide)
 have e_16 : uu 16 = .agg #[.int .i64 zr.lo, .int .i64 zr.hi, .bool zr.all] := hd 16 (by decide)
 have e_17 : uu 17 = .bool true := hd 17 (by decide)
 have e_18 : uu 18 = .bool true := hd 18 (by decide)
 have e_19 : uu 19 = .bool true := hd 19 (by decide)
 clear hd
 simp only [layS, Act.put, List.setIfInBounds_toArray, List.set_cons_succ, List.set_cons_zero, Nat.zero_add, Nat.reduceAdd, List.drop_succ_cons, List.drop_zero, List.drop_nil, e_0, e_1, e_2, e_3, e_4, e_5, e_6, e_7, e_8, e_9, e_10, e_11, e_12, e_13, e_14, e_15, e_16, e_17, e_18, e_19]
 clear e_0 e_1 e_2 e_3 e_4 e_5 e_6 e_7 e_8 e_9 e_10 e_11 e_12 e_13 e_14 e_15 e_16 e_17 e_18 e_19
 have hJ18 := hJm.es
 clear hJm
 go_wp2
 go_ret
 exact ⟨rfl, hJ18.below⟩
theorem SpanRoots_any (x : Sp) (w : World) : Calls Try.prog 4 #[.agg #[.int .i64 x.lo, .int .i64 x.hi, .bool x.all]] w (PVal (.bool true) w) :=
 Roots_w x (negS x) (sqrS x) (sqrtS x) sawake_any (doc_any x) (sNeg_any x) (doc_any _) (rdNeg_any x) (sSqr_any x) (doc_any _) (rdSqr_any x) (sSqrt_any x) (doc_any _) (rdSqrt_any x) w
end Go.Proofs.Ytpahkpcoinbgcaa
