/- Parts of the proof. -/
import Derived.Test.YtpahkpcoinbgcaaGreatDoorGf22
import Derived.Test.YtpahkpcoinbgcaaGreatDoorGf18
import Derived.Test.YtpahkpcoinbgcaaGreatDoorGf24
/- The document's fixed numbers: the walks of Add, Sub, Mul. -/
namespace Go.Proofs.YtpahkpcoinbgcaaGreatDoor
open Go.RowKit
theorem two_boxes {w w1 : World} (hB : Below w.heap.size w w1) (bl : Bool) (a : Option Addr) (n c : Nat) (b2 : Bool) (a2 : Option Addr) (n2 c2 : Nat) : TwoV w ((w1.alloc (.cells #[.bool bl, .slice a n c] 42)).alloc (.cells #[.bool b2, .slice a2 n2 c2] 42)) w1.heap.size (w1.heap.size + 1) bl a n c b2 a2 n2 c2 := by
 have h1 := bx_new w1 42 (.bool bl) (.slice a n c)
 have h2 := bx_new (w1.alloc (.cells #[.bool bl, .slice a n c] 42)) 42 (.bool b2) (.slice a2 n2 c2)
 rw [show (w1.alloc (.cells #[.bool bl, .slice a n c] 42)).heap.size = w1.heap.size + 1 by simp] at h2
 have hal : Below w1.heap.size w1 ((w1.alloc (.cells #[.bool bl, .slice a n c] 42)).alloc (.cells #[.bool b2, .slice a2 n2 c2] 42)) := ((Below.refl _ _).alloc (Nat.le_refl _) _).alloc (by simp) _
 exact ⟨hB.trans (hal.mono hB.size), h1.below ((Below.refl _ _).alloc (Nat.le_refl _) _), h2⟩
theorem below_two (w1 : World) (o o' : Obj) : Below w1.heap.size w1 ((w1.alloc o).alloc o') := ((Below.refl _ _).alloc (Nat.le_refl _) _).alloc (by simp) _
theorem p10_of {z : Int} (k : Nat) (h : z.natAbs < 1000000000000000000000) (hk : 1000000000000000000000 ≤ 10 ^ k) : z.natAbs < 10 ^ k := by omega
set_option maxRecDepth 100000 in
set_option maxHeartbeats 1600000 in
theorem rfAdd_any (a b : Int) (w : World) (a1 : -9223372036854775808 ≤ a) (a2 : a ≤ 9223372036854775807) (b1 : -9223372036854775808 ≤ b) (b2 : b ≤ 9223372036854775807) : Calls Tryz.prog 8 #[.int .i64 a, .int .i64 b] w (PVal2 (.int .i64 (cutI (cutI a + cutI b))) (.bool (cutB a || cutB b || cutB (cutI a + cutI b))) w) := by
 have H2 := Lib.hid (fun W => rtwo_any a b W a1 a2 b1 b2)
 clear a1 a2 b1 b2
 have HA := Lib.hid (cut_p10 a)
 have HB := Lib.hid (cut_p10 b)
 have ka := cut_bd a
 have kb := cut_bd b
 generalize cutI a = X at *
 generalize cutI b = Y at *
 generalize (cutB a || cutB b) = p at *
 go_enter Tryz.func8, Tryz.ntmps8
 go_wp2_with fail
 refine (H2.out _).mono ?_
 rintro e w1 ⟨x1, x2, x3, x4, y1, y2, y3, y4, rfl, hX, hY, hB⟩
 have hT := two_boxes hB x1 x2 x3 x4 y1 y2 y3 y4
 have hal := below_two w1 (.cells #[.bool x1, .slice x2 x3 x4] 42) (.cells #[.bool y1, .slice y2 y3 y4] 42)
 replace hX := hX.below hal
 replace hY := hY.below hal
 have lx := rlen hX HA.out
 have ly := rlen hY HB.out
 clear hal hB
 go_wp2_with fail
 generalize (w1.alloc (.cells #[.bool x1, .slice x2 x3 x4] 42)).alloc (.cells #[.bool y1, .slice y2 y3 y4] 42) = w2 at *
 refine (rAdd_any x1 x2 x3 x4 X y1 y2 y3 y4 Y _ hX hY (by omega) (by omega)).mono ?_
 rintro e w3 ⟨z1, z2, z3, z4, rfl, hZ, _, hB3⟩
 have hz := p10_of (z := X + Y) 21 (by omega) (by decide)
 have lz := rlen hZ hz
 replace hT := hT.later hB3
 have HL : Hid (z3 ≤ 1000000) := show z3 ≤ 1000000 by omega
 clear hX hY hB3 hz lz lx ly ka kb
 generalize X + Y = Z at *
 go_wp2_with fail
 refine (rCut_any z1 z2 z3 z4 Z _ hZ HL.out).mono ?_
 rintro e w4 ⟨rfl, hB4⟩
 have hfin := (hT.later hB4).below
 clear hT hB4 hZ
 cases p
 all_goals
  go_wp2
  go_ret2
  exact ⟨rfl, hfin⟩
set_option maxRecDepth 100000 in
set_option maxHeartbeats 1600000 in
theorem rfSub_any (a b : Int) (w : World) (a1 : -9223372036854775808 ≤ a) (a2 : a ≤ 9223372036854775807) (b1 : -9223372036854775808 ≤ b) (b2 : b ≤ 9223372036854775807) : Calls Tryz.prog 10 #[.int .i64 a, .int .i64 b] w (PVal2 (.int .i64 (cutI (cutI a - cutI b))) (.bool (cutB a || cutB b || cutB (cutI a - cutI b))) w) := by
 have H2 := Lib.hid (fun W => rtwo_any a b W a1 a2 b1 b2)
 clear a1 a2 b1 b2
 have HA := Lib.hid (cut_p10 a)
 have HB := Lib.hid (cut_p10 b)
 have ka := cut_bd a
 have kb := cut_bd b
 generalize cutI a = X at *
 generalize cutI b = Y at *
 generalize (cutB a || cutB b) = p at *
 go_enter Tryz.func10, Tryz.ntmps10
 go_wp2_with fail
 refine (H2.out _).mono ?_
 rintro e w1 ⟨x1, x2, x3, x4, y1, y2, y3, y4, rfl, hX, hY, hB⟩
 have hT := two_boxes hB x1 x2 x3 x4 y1 y2 y3 y4
 have hal := below_two w1 (.cells #[.bool x1, .slice x2 x3 x4] 42) (.cells #[.bool y1, .slice y2 y3 y4] 42)
 replace hX := hX.below hal
 replace hY := hY.below hal
 have lx := rlen hX HA.out
 have ly := rlen hY HB.out
 clear hal hB
 go_wp2_with fail
 generalize (w1.alloc (.cells #[.bool x1, .slice x2 x3 x4] 42)).alloc (.cells #[.bool y1, .slice y2 y3 y4] 42) = w2 at *
 refine (rSub_any x1 x2 x3 x4 X y1 y2 y3 y4 Y _ hX hY (by omega) (by omega)).mono ?_
 rintro e w3 ⟨z1, z2, z3, z4, rfl, hZ, _, hB3⟩
 have hz := p10_of (z := X - Y) 21 (by omega) (by decide)
 have lz := rlen hZ hz
 replace hT := hT.later hB3
 have HL : Hid (z3 ≤ 1000000) := show z3 ≤ 1000000 by omega
 clear hX hY hB3 hz lz lx ly ka kb
 generalize X - Y = Z at *
 go_wp2_with fail
 refine (rCut_any z1 z2 z3 z4 Z _ hZ HL.out).mono ?_
 rintro e w4 ⟨rfl, hB4⟩
 have hfin := (hT.later hB4).below
 clear hT hB4 hZ
 cases p
 all_goals
  go_wp2
  go_ret2
  exact ⟨rfl, hfin⟩
set_option maxRecDepth 100000 in
set_option maxHeartbeats 1600000 in
theorem rfMul_any (a b : Int) (w : World) (a1 : -9223372036854775808 ≤ a) (a2 : a ≤ 9223372036854775807) (b1 : -9223372036854775808 ≤ b) (b2 : b ≤ 9223372036854775807) : Calls Tryz.prog 12 #[.int .i64 a, .int .i64 b] w (PVal2 (.int .i64 (cutI (flo (cutI a * cutI b) 1048576))) (.bool (cutB a || cutB b || cutB (flo (cutI a * cutI b) 1048576))) w) := by
 have H2 := Lib.hid (fun W => rtwo_any a b W a1 a2 b1 b2)
 clear a1 a2 b1 b2
 have HA := Lib.hid (cut_p10 a)
 have HB := Lib.hid (cut_p10 b)
 have ka := cut_bd a
 have kb := cut_bd b
 generalize cutI a = X at *
 generalize cutI b = Y at *
 generalize (cutB a || cutB b) = p at *
 go_enter Tryz.func12, Tryz.ntmps12
 go_wp2_with fail
 refine (H2.out _).mono ?_
 rintro e w1 ⟨x1, x2, x3, x4, y1, y2, y3, y4, rfl, hX, hY, hB⟩
 have hT := two_boxes hB x1 x2 x3 x4 y1 y2 y3 y4
 have hal := below_two w1 (.cells #[.bool x1, .slice x2 x3 x4] 42) (.cells #[.bool y1, .slice y2 y3 y4] 42)
 replace hX := hX.below hal
 replace hY := hY.below hal
 have lx := rlen hX HA.out
 have ly := rlen hY HB.out
 clear hal hB
 go_wp2_with fail
 generalize (w1.alloc (.cells #[.bool x1, .slice x2 x3 x4] 42)).alloc (.cells #[.bool y1, .slice y2 y3 y4] 42) = w2 at *
 have hm := mul_bd ka.1 ka.2 kb.1 kb.2
 refine (rMul_any x1 x2 x3 x4 X y1 y2 y3 y4 Y _ hX hY (by omega) (by omega)).mono ?_
 rintro e w3 ⟨z1, z2, z3, z4, rfl, hZ, _, hB3⟩
 have hz := p10_of (z := X * Y) 21 (by omega) (by decide)
 have lz := rlen hZ hz
 replace hT := hT.later hB3
 clear hX hY hB3 hz lx ly ka kb
 generalize X * Y = Z at *
 go_wp2_with fail
 refine (rone_any _).mono ?_
 rintro e w4 ⟨o1, o2, o3, o4, rfl, hO, _, hB4⟩
 have lo := rlen hO (show (1048576 : Int).natAbs < 10 ^ 7 by decide)
 replace hT := hT.later hB4
 replace hZ := hZ.below hB4
 clear hB4
 go_wp2_with fail
 refine (rQuo_any z1 z2 z3 z4 Z o1 o2 o3 o4 1048576 _ hZ hO (by omega) (by omega) (by decide)).mono ?_
 rintro e w5 ⟨q, r, hq, u1, u2, u3, u4, v1, v2, v3, v4, rfl, hQ, _, hB5⟩
 obtain ⟨rfl, _⟩ := quo_flo hq (by decide)
 have hal := below_two w5 (.cells #[.bool u1, .slice u2 u3 u4] 42) (.cells #[.bool v1, .slice v2 v3 v4] 42)
 have hTq := two_boxes (hT.later hB5).below u1 u2 u3 u4 v1 v2 v3 v4
 replace hQ := hQ.below hal
 have hfb : (flo Z 1048576).natAbs < 1000000000000000000000 := by unfold flo; rw [if_pos (by decide)]; omega
 have lq := rlen hQ (p10_of (z := flo Z 1048576) 21 hfb (by decide))
 have HL : Hid (u3 ≤ 1000000) := show u3 ≤ 1000000 by omega
 clear hT hZ hO hB5 hq hal hfb lq lz lo hm
 generalize flo Z 1048576 = F at *
 go_wp2_with fail
 generalize (w5.alloc (.cells #[.bool u1, .slice u2 u3 u4] 42)).alloc (.cells #[.bool v1, .slice v2 v3 v4] 42) = w6 at *
 refine (rCut_any u1 u2 u3 u4 F _ hQ HL.out).mono ?_
 rintro e w7 ⟨rfl, hB7⟩
 have hfin := (hTq.later hB7).below
 clear hTq hB7 hQ
 cases p
 all_goals
  go_wp2
  go_ret2
  exact ⟨rfl, hfin⟩
end Go.Proofs.YtpahkpcoinbgcaaGreatDoor
