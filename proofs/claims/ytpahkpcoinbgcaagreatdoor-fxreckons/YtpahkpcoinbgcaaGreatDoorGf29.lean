/- Parts of the proof. -/
import Derived.Test.YtpahkpcoinbgcaaGreatDoorGf27
import Derived.Test.YtpahkpcoinbgcaaGreatDoorGf28
/- The walk of the law FxReckons. -/
namespace Go.Proofs.YtpahkpcoinbgcaaGreatDoor
open Go Go.RowKit
set_option maxRecDepth 100000 in
set_option maxHeartbeats 12800000 in
theorem FReckons_w (a b n1 n2 n3 n4 n5 e4 e5 : Int) (p1 p2 p3 p4 p5 : Bool) (hHaw : ∀ W : World, Glob W → Calls Tryz.prog 6 #[] W (PVal (.bool true) W)) (hHx1 : ∀ W : World, Calls Tryz.prog 7 #[.int .i64 a, .int .i64 b] W (PVal (.tuple #[.int .i64 n1, .bool p1]) W)) (hHr1 : ∀ W : World, Calls Tryz.prog 8 #[.int .i64 a, .int .i64 b] W (PVal (.tuple #[.int .i64 n1, .bool p1]) W)) (hHx2 : ∀ W : World, Calls Tryz.prog 9 #[.int .i64 a, .int .i64 b] W (PVal (.tuple #[.int .i64 n2, .bool p2]) W)) (hHr2 : ∀ W : World, Calls Tryz.prog 10 #[.int .i64 a, .int .i64 b] W (PVal (.tuple #[.int .i64 n2, .bool p2]) W)) (hHx3 : ∀ W : World, Calls Tryz.prog 11 #[.int .i64 a, .int .i64 b] W (PVal (.tuple #[.int .i64 n3, .bool p3]) W)) (hHr3 : ∀ W : World, Calls Tryz.prog 12 #[.int .i64 a, .int .i64 b] W (PVal (.tuple #[.int .i64 n3, .bool p3]) W)) (hHx4 : ∀ W : World, Calls Tryz.prog 13 #[.int .i64 a, .int .i64 b] W (PVal (.tuple #[.int .i64 n4, .bool p4, .int .i64 e4]) W)) (hHr4 : ∀ W : World, Calls Tryz.prog 14 #[.int .i64 a, .int .i64 b] W (PVal (.tuple #[.int .i64 n4, .bool p4, .int .i64 e4]) W)) (hHx5 : ∀ W : World, Calls Tryz.prog 15 #[.int .i64 a] W (PVal (.tuple #[.int .i64 n5, .bool p5, .int .i64 e5]) W)) (hHr5 : ∀ W : World, Calls Tryz.prog 16 #[.int .i64 a] W (PVal (.tuple #[.int .i64 n5, .bool p5, .int .i64 e5]) W))   (w : World) (hG : Glob w) : Calls Tryz.prog 3 #[.int .i64 a, .int .i64 b] w (PVal (.bool true) w) := by
 have Haw := Lib.hid hHaw
 have Hx1 := Lib.hid hHx1
 have Hr1 := Lib.hid hHr1
 have Hx2 := Lib.hid hHx2
 have Hr2 := Lib.hid hHr2
 have Hx3 := Lib.hid hHx3
 have Hr3 := Lib.hid hHr3
 have Hx4 := Lib.hid hHx4
 have Hr4 := Lib.hid hHr4
 have Hx5 := Lib.hid hHx5
 have Hr5 := Lib.hid hHr5
 clear hHaw hHx1 hHr1 hHx2 hHr2 hHx3 hHr3 hHx4 hHr4 hHx5 hHr5
 have hJ0 := es_nil w
 go_enter Tryz.func3, Tryz.ntmps3
 go_wp2_with fail
 refine (Haw.out _ hG).mono ?_
 rintro zz W1 ⟨rfl, hB⟩
 have hJ1 := hJ0.later hB
 clear hB
 clear hJ0
 go_wp2_with fail
 refine (Hx1.out _).mono ?_
 rintro zz W2 ⟨rfl, hB⟩
 have hJ2 := hJ1.later hB
 clear hB
 clear hJ1
 go_wp2_with fail
 refine (Hr1.out _).mono ?_
 rintro zz W3 ⟨rfl, hB⟩
 have hJ3 := hJ2.later hB
 clear hB
 clear hJ2
 go_wp2_with fail
 refine (Hx2.out _).mono ?_
 rintro zz W4 ⟨rfl, hB⟩
 have hJ4 := hJ3.later hB
 clear hB
 clear hJ3
 go_wp2_with fail
 refine (Hr2.out _).mono ?_
 rintro zz W5 ⟨rfl, hB⟩
 have hJ5 := hJ4.later hB
 clear hB
 clear hJ4
 go_wp2_with fail
 refine (Hx3.out _).mono ?_
 rintro zz W6 ⟨rfl, hB⟩
 have hJ6 := hJ5.later hB
 clear hB
 clear hJ5
 go_wp2_with fail
 refine (Hr3.out _).mono ?_
 rintro zz W7 ⟨rfl, hB⟩
 have hJ7 := hJ6.later hB
 clear hB
 clear hJ6
 go_wp2_with fail
 refine (Hx4.out _).mono ?_
 rintro zz W8 ⟨rfl, hB⟩
 have hJ8 := hJ7.later hB
 clear hB
 clear hJ7
 go_wp2_with fail
 refine (Hr4.out _).mono ?_
 rintro zz W9 ⟨rfl, hB⟩
 have hJ9 := hJ8.later hB
 clear hB
 clear hJ8
 go_wp2_with fail
 refine (Hx5.out _).mono ?_
 rintro zz W10 ⟨rfl, hB⟩
 have hJ10 := hJ9.later hB
 clear hB
 clear hJ9
 go_wp2_with fail
 refine (Hr5.out _).mono ?_
 rintro zz W11 ⟨rfl, hB⟩
 have hJ11 := hJ10.later hB
 clear hB
 clear hJ10
 go_wp2
 go_ret
 exact ⟨rfl, hJ11.below⟩
theorem FxReckons_any (a b : Int) (w : World) (a1 : -9223372036854775808 ≤ a) (a2 : a ≤ 9223372036854775807) (b1 : -9223372036854775808 ≤ b) (b2 : b ≤ 9223372036854775807) (hG : Glob w) : Calls Tryz.prog 3 #[.int .i64 a, .int .i64 b] w (PVal (.bool true) w) := by
 have hA : ∀ W : World, Glob W → Calls Tryz.prog 6 #[] W (PVal (.bool true) W) := fun W h => fawake_any W h
 by_cases hb : b = 0
 ·
  subst hb
  by_cases ha : a < 0
  ·
   exact FReckons_w a 0 _ _ _ _ _ _ _ _ _ _ _ _ hA (fxAdd_any a 0) (fun W => rfAdd_any a 0 W a1 a2 b1 b2) (fxSub_any a 0) (fun W => rfSub_any a 0 W a1 a2 b1 b2) (fxMul_any a 0) (fun W => rfMul_any a 0 W a1 a2 b1 b2) (fxDiv_zero a) (rfDiv_zero a1 a2) (fun W => fxSqrt_neg a W ha) (rfSqrt_neg a1 ha) w hG
  ·
   exact FReckons_w a 0 _ _ _ _ _ _ _ _ _ _ _ _ hA (fxAdd_any a 0) (fun W => rfAdd_any a 0 W a1 a2 b1 b2) (fxSub_any a 0) (fun W => rfSub_any a 0 W a1 a2 b1 b2) (fxMul_any a 0) (fun W => rfMul_any a 0 W a1 a2 b1 b2) (fxDiv_zero a) (rfDiv_zero a1 a2) (fxSqrt_at (by omega)) (rfSqrt_pos (by omega) a2) w hG
 ·
  by_cases ha : a < 0
  ·
   exact FReckons_w a b _ _ _ _ _ _ _ _ _ _ _ _ hA (fxAdd_any a b) (fun W => rfAdd_any a b W a1 a2 b1 b2) (fxSub_any a b) (fun W => rfSub_any a b W a1 a2 b1 b2) (fxMul_any a b) (fun W => rfMul_any a b W a1 a2 b1 b2) (fun W => fxDiv_any a b W hb) (rfDiv_any a1 a2 b1 b2 hb) (fun W => fxSqrt_neg a W ha) (rfSqrt_neg a1 ha) w hG
  ·
   exact FReckons_w a b _ _ _ _ _ _ _ _ _ _ _ _ hA (fxAdd_any a b) (fun W => rfAdd_any a b W a1 a2 b1 b2) (fxSub_any a b) (fun W => rfSub_any a b W a1 a2 b1 b2) (fxMul_any a b) (fun W => rfMul_any a b W a1 a2 b1 b2) (fun W => fxDiv_any a b W hb) (rfDiv_any a1 a2 b1 b2 hb) (fxSqrt_at (by omega)) (rfSqrt_pos (by omega) a2) w hG
end Go.Proofs.YtpahkpcoinbgcaaGreatDoor
