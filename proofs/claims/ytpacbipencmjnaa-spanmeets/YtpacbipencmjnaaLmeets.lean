/- The walk of the law SpanMeets. -/
import Derived.Test.YtpacbipencmjnaaSh
namespace Go.Proofs.Ytpacbipencmjnaa
open Go.RowKit
attribute [local go_sem ↓] run_eqlS run_neqS

theorem Meet_at {x y z : Sp} {b : Bool} (h : meetS x y = z) (h' : meetB x y = b) (w : World) : Calls Try.prog 16 #[.agg #[.int .i64 x.lo, .int .i64 x.hi, .bool x.all], .agg #[.int .i64 y.lo, .int .i64 y.hi, .bool y.all]] w (PSp2 z b w) := h ▸ h' ▸ Meet_any x y w
theorem Join_at {x y z : Sp} (h : joinS x y = z) (w : World) : Calls Try.prog 15 #[.agg #[.int .i64 x.lo, .int .i64 x.hi, .bool x.all], .agg #[.int .i64 y.lo, .int .i64 y.hi, .bool y.all]] w (PSp z w) := h ▸ Join_any x y w
set_option maxRecDepth 100000 in
set_option maxHeartbeats 6400000 in
theorem Meets_A (x y m j o : Sp) (n d r : Int) (wide : Bool) (one two : Bool) (p2 : Bool) (p3 : Bool) (HM : ∀ W : World, Calls Try.prog 16 #[.agg #[.int .i64 x.lo, .int .i64 x.hi, .bool x.all], .agg #[.int .i64 y.lo, .int .i64 y.hi, .bool y.all]] W (PSp2 m false W)) (HI1 : ∀ W : World, Calls Try.prog 14 #[.agg #[.int .i64 m.lo, .int .i64 m.hi, .bool m.all], .agg #[.int .i64 x.lo, .int .i64 x.hi, .bool x.all]] W (PVal (.bool one) W)) (HI2 : ∀ W : World, Calls Try.prog 14 #[.agg #[.int .i64 m.lo, .int .i64 m.hi, .bool m.all], .agg #[.int .i64 y.lo, .int .i64 y.hi, .bool y.all]] W (PVal (.bool two) W)) (HP1 : ∀ W : World, Calls Try.prog 13 #[.agg #[.int .i64 x.lo, .int .i64 x.hi, .bool x.all], .int .i64 n] W (PVal (.bool false) W)) (HP2 : ∀ W : World, Calls Try.prog 13 #[.agg #[.int .i64 y.lo, .int .i64 y.hi, .bool y.all], .int .i64 n] W (PVal (.bool p2) W)) (HP3 : ∀ W : World, Calls Try.prog 13 #[.agg #[.int .i64 m.lo, .int .i64 m.hi, .bool m.all], .int .i64 n] W (PVal (.bool p3) W)) (HJ : ∀ W : World, Calls Try.prog 15 #[.agg #[.int .i64 x.lo, .int .i64 x.hi, .bool x.all], .agg #[.int .i64 y.lo, .int .i64 y.hi, .bool y.all]] W (PSp j W)) (HI3 : ∀ W : World, Calls Try.prog 14 #[.agg #[.int .i64 x.lo, .int .i64 x.hi, .bool x.all], .agg #[.int .i64 j.lo, .int .i64 j.hi, .bool j.all]] W (PVal (.bool true) W)) (HI4 : ∀ W : World, Calls Try.prog 14 #[.agg #[.int .i64 y.lo, .int .i64 y.hi, .bool y.all], .agg #[.int .i64 j.lo, .int .i64 j.hi, .bool j.all]] W (PVal (.bool true) W)) (HD : ∀ W : World, Calls Try.prog 18 #[.agg #[.int .i64 x.lo, .int .i64 x.hi, .bool x.all]] W (PVal (.int .i64 d) W)) (HR : ∀ W : World, Calls Try.prog 19 #[.agg #[.int .i64 x.lo, .int .i64 x.hi, .bool x.all]] W (PVal (.int .i64 r) W)) (HP5 : ∀ W : World, Calls Try.prog 13 #[.agg #[.int .i64 x.lo, .int .i64 x.hi, .bool x.all], .int .i64 d] W (PVal (.bool true) W)) (HO : ∀ W : World, Calls Try.prog 12 #[.int .i64 (d - r), .int .i64 (d + r)] W (PSp o W)) (HI6 : ∀ W : World, Calls Try.prog 14 #[.agg #[.int .i64 x.lo, .int .i64 x.hi, .bool x.all], .agg #[.int .i64 o.lo, .int .i64 o.hi, .bool o.all]] W (PVal (.bool wide) W)) (HI7 : ∀ W : World, Calls Try.prog 14 #[.agg #[.int .i64 x.lo, .int .i64 x.hi, .bool x.all], .agg #[.int .i64 lineS.lo, .int .i64 lineS.hi, .bool lineS.all]] W (PVal (.bool true) W))
    (d1 : -2147483647 ≤ d) (d2 : d ≤ 2147483647) (r1 : 0 ≤ r) (r2 : r ≤ 4294967294) (hw : wide = true ∨ (wide = false ∧ r = 2147483647) ∨ (wide = false ∧ (r == 2147483647) = false ∧ d - r < -2147483647)) (w : World) :
    Calls Try.prog 9 #[.agg #[.int .i64 x.lo, .int .i64 x.hi, .bool x.all], .agg #[.int .i64 y.lo, .int .i64 y.hi, .bool y.all], .int .i64 n] w (PVal (.bool true) w) := by
  have KM := Lib.hid HM
  clear HM
  have KI1 := Lib.hid HI1
  clear HI1
  have KI2 := Lib.hid HI2
  clear HI2
  have KP1 := Lib.hid HP1
  clear HP1
  have KP2 := Lib.hid HP2
  clear HP2
  have KP3 := Lib.hid HP3
  clear HP3
  have KJ := Lib.hid HJ
  clear HJ
  have KI3 := Lib.hid HI3
  clear HI3
  have KI4 := Lib.hid HI4
  clear HI4
  have KD := Lib.hid HD
  clear HD
  have KR := Lib.hid HR
  clear HR
  have KP5 := Lib.hid HP5
  clear HP5
  have KO := Lib.hid HO
  clear HO
  have KI6 := Lib.hid HI6
  clear HI6
  have KI7 := Lib.hid HI7
  clear HI7
  have HW := Lib.hid hw
  clear hw
  go_enter Try.func9, Try.ntmps9
  go_wp2_with fail
  have hJ := bs2 w x.lo x.hi x.all y.lo y.hi y.all
  generalize (w.alloc (.cells #[.int .i64 x.lo, .int .i64 x.hi, .bool x.all] 23)).alloc (.cells #[.int .i64 y.lo, .int .i64 y.hi, .bool y.all] 23) = w1 at *
  refine (sawake_any _).mono ?_
  rintro e W1 ⟨rfl, hB⟩
  replace hJ := hJ.later hB
  clear hB
  have f00 := hJ.c0.1
  have f01 := hJ.c0.2.1
  have f02 := hJ.c0.2.2.1
  have f10 := hJ.c1.1
  have f11 := hJ.c1.2.1
  have f12 := hJ.c1.2.2.1
  have fz0 : w.heap.size < W1.heap.size := by have := hJ.sz; simp only [List.length_cons, List.length_nil] at this; omega
  have fz1 : w.heap.size + 1 < W1.heap.size := by have := hJ.sz; simp only [List.length_cons, List.length_nil] at this; omega
  go_wp2_with fail
  refine (KM.out _).mono ?_
  rintro e W2 ⟨rfl, hB⟩
  replace hJ := hJ.later hB
  clear f00 f01 f02 f10 f11 f12 fz0 fz1
  clear hB
  have f00 := hJ.c0.1
  have f01 := hJ.c0.2.1
  have f02 := hJ.c0.2.2.1
  have f10 := hJ.c1.1
  have f11 := hJ.c1.2.1
  have f12 := hJ.c1.2.2.1
  have fz0 : w.heap.size < W2.heap.size := by have := hJ.sz; simp only [List.length_cons, List.length_nil] at this; omega
  have fz1 : w.heap.size + 1 < W2.heap.size := by have := hJ.sz; simp only [List.length_cons, List.length_nil] at this; omega
  go_wp2_with fail
  refine (KI1.out _).mono ?_
  rintro e W3 ⟨rfl, hB⟩
  have km := (b3_new W2 m).below hB
  have hx : Below W2.heap.size W2 W3 := ((Below.refl _ _).alloc (Nat.le_refl _) _).trans (hB.mono (by simp))
  replace hJ := hJ.later hx
  clear f00 f01 f02 f10 f11 f12 fz0 fz1
  clear hB hx
  generalize W2.heap.size = bm at *
  have f10 := hJ.c1.1
  have f11 := hJ.c1.2.1
  have f12 := hJ.c1.2.2.1
  have fz1 : w.heap.size + 1 < W3.heap.size := by have := hJ.sz; simp only [List.length_cons, List.length_nil] at this; omega
  have flm : bm < W3.heap.size := (Array.getElem?_eq_some_iff.1 km).1
  have fm0 := km.cells.1
  have fm1 := km.cells.2.1
  have fm2 := km.cells.2.2.1
  go_wp2_with fail
  refine (KI2.out _).mono ?_
  rintro e W4 ⟨rfl, hB⟩
  replace hJ := hJ.later hB
  replace km := km.below hB
  clear f10 f11 f12 fz1 flm fm0 fm1 fm2
  clear hB
  have f00 := hJ.c0.1
  have f01 := hJ.c0.2.1
  have f02 := hJ.c0.2.2.1
  have fz0 : w.heap.size < W4.heap.size := by have := hJ.sz; simp only [List.length_cons, List.length_nil] at this; omega
  go_wp2_with fail
  refine (KP1.out _).mono ?_
  rintro e W5 ⟨rfl, hB⟩
  replace hJ := hJ.later hB
  replace km := km.below hB
  clear f00 f01 f02 fz0
  clear hB
  have f00 := hJ.c0.1
  have f01 := hJ.c0.2.1
  have f02 := hJ.c0.2.2.1
  have f10 := hJ.c1.1
  have f11 := hJ.c1.2.1
  have f12 := hJ.c1.2.2.1
  have fz0 : w.heap.size < W5.heap.size := by have := hJ.sz; simp only [List.length_cons, List.length_nil] at this; omega
  have fz1 : w.heap.size + 1 < W5.heap.size := by have := hJ.sz; simp only [List.length_cons, List.length_nil] at this; omega
  go_wp2_with fail
  refine (KJ.out _).mono ?_
  rintro e W6 ⟨rfl, hB⟩
  replace hJ := hJ.later hB
  replace km := km.below hB
  clear f00 f01 f02 f10 f11 f12 fz0 fz1
  clear hB
  have f00 := hJ.c0.1
  have f01 := hJ.c0.2.1
  have f02 := hJ.c0.2.2.1
  have fz0 : w.heap.size < W6.heap.size := by have := hJ.sz; simp only [List.length_cons, List.length_nil] at this; omega
  go_wp2_with fail
  refine (KI3.out _).mono ?_
  rintro e W7 ⟨rfl, hB⟩
  have kj := (b3_new W6 j).below hB
  have hx : Below W6.heap.size W6 W7 := ((Below.refl _ _).alloc (Nat.le_refl _) _).trans (hB.mono (by simp))
  replace hJ := hJ.later hx
  replace km := km.below hx
  clear f00 f01 f02 fz0
  clear hB hx
  generalize W6.heap.size = bj at *
  have f10 := hJ.c1.1
  have f11 := hJ.c1.2.1
  have f12 := hJ.c1.2.2.1
  have fz1 : w.heap.size + 1 < W7.heap.size := by have := hJ.sz; simp only [List.length_cons, List.length_nil] at this; omega
  have flj : bj < W7.heap.size := (Array.getElem?_eq_some_iff.1 kj).1
  have fj0 := kj.cells.1
  have fj1 := kj.cells.2.1
  have fj2 := kj.cells.2.2.1
  go_wp2_with fail
  refine (KI4.out _).mono ?_
  rintro e W8 ⟨rfl, hB⟩
  replace hJ := hJ.later hB
  replace km := km.below hB
  replace kj := kj.below hB
  clear f10 f11 f12 fz1 flj fj0 fj1 fj2
  clear hB
  have f00 := hJ.c0.1
  have f01 := hJ.c0.2.1
  have f02 := hJ.c0.2.2.1
  have fz0 : w.heap.size < W8.heap.size := by have := hJ.sz; simp only [List.length_cons, List.length_nil] at this; omega
  go_wp2_with fail
  refine (KD.out _).mono ?_
  rintro e W9 ⟨rfl, hB⟩
  replace hJ := hJ.later hB
  replace km := km.below hB
  replace kj := kj.below hB
  clear f00 f01 f02 fz0
  clear hB
  have f00 := hJ.c0.1
  have f01 := hJ.c0.2.1
  have f02 := hJ.c0.2.2.1
  have fz0 : w.heap.size < W9.heap.size := by have := hJ.sz; simp only [List.length_cons, List.length_nil] at this; omega
  go_wp2_with fail
  refine (KR.out _).mono ?_
  rintro e W10 ⟨rfl, hB⟩
  replace hJ := hJ.later hB
  replace km := km.below hB
  replace kj := kj.below hB
  clear f00 f01 f02 fz0
  clear hB
  have f00 := hJ.c0.1
  have f01 := hJ.c0.2.1
  have f02 := hJ.c0.2.2.1
  have fz0 : w.heap.size < W10.heap.size := by have := hJ.sz; simp only [List.length_cons, List.length_nil] at this; omega
  go_wp2_with fail
  refine (KP5.out _).mono ?_
  rintro e W11 ⟨rfl, hB⟩
  replace hJ := hJ.later hB
  replace km := km.below hB
  replace kj := kj.below hB
  clear f00 f01 f02 fz0
  clear hB
  clear km kj
  have hw1 : IntKind.i64.wrap (d - r) = d - r := IntWalk.i64_in _ (by omega)
  have hw2 : IntKind.i64.wrap (d + r) = d + r := IntWalk.i64_in _ (by omega)
  go_wp2
  refine wp_region_vals 10 [some 65, some 66, some 67, some 68, some 69, some 70, some 71, some 72, some 73, some 20] (lstV [.agg #[.int .i64 x.lo, .int .i64 x.hi, .bool x.all], .int .i64 d, .int .i64 r, .int .i64 (d - r), .int .i64 d, .int .i64 r, .int .i64 (d + r), .agg #[.int .i64 o.lo, .int .i64 o.hi, .bool o.all], .bool wide, .bool wide]) (fun W => Bs w W [x, y]) (by kernel_rfl) (by kernel_rfl) (by decide) (hJ.drew) ?_ ?_
  · intro i hl hi u W hJ hd
    obtain rfl | rfl | rfl | rfl | rfl | rfl | rfl | rfl | rfl | rfl : i = 0 ∨ i = 1 ∨ i = 2 ∨ i = 3 ∨ i = 4 ∨ i = 5 ∨ i = 6 ∨ i = 7 ∨ i = 8 ∨ i = 9 := by omega
    · skip
      clear hd
      simp only [List.getElem_cons_succ, List.getElem_cons_zero]
      clear hl
      refine .inr ⟨rfl, fun K' hK => ?_⟩
      have HK := Lib.hid hK
      clear hK
      simp only [layS, Act.put, List.setIfInBounds_toArray, List.set_cons_succ, List.set_cons_zero, Nat.zero_add, Nat.reduceAdd]
      have c00 := hJ.c0.1
      have c01 := hJ.c0.2.1
      have c02 := hJ.c0.2.2.1
      go_simp
      exact HK.out _ _ (by simp [layS, updV, lstV, Act.put]) hJ
    · skip
      clear hd
      simp only [List.getElem_cons_succ, List.getElem_cons_zero]
      clear hl
      refine .inr ⟨rfl, fun K' hK => ?_⟩
      have HK := Lib.hid hK
      clear hK
      simp only [layS, Act.put, List.setIfInBounds_toArray, List.set_cons_succ, List.set_cons_zero, Nat.zero_add, Nat.reduceAdd]
      go_simp
      exact HK.out _ _ (by simp [layS, updV, lstV, Act.put]) hJ
    · skip
      clear hd
      simp only [List.getElem_cons_succ, List.getElem_cons_zero]
      clear hl
      refine .inr ⟨rfl, fun K' hK => ?_⟩
      have HK := Lib.hid hK
      clear hK
      simp only [layS, Act.put, List.setIfInBounds_toArray, List.set_cons_succ, List.set_cons_zero, Nat.zero_add, Nat.reduceAdd]
      go_simp
      exact HK.out _ _ (by simp [layS, updV, lstV, Act.put]) hJ
    · have e1 : u 1 = .int .i64 d := hd 1 (by kernel_rfl)
      have e2 : u 2 = .int .i64 r := hd 2 (by kernel_rfl)
      clear hd
      simp only [List.getElem_cons_succ, List.getElem_cons_zero]
      clear hl
      refine .inr ⟨rfl, fun K' hK => ?_⟩
      have HK := Lib.hid hK
      clear hK
      simp only [layS, Act.put, List.setIfInBounds_toArray, List.set_cons_succ, List.set_cons_zero, Nat.zero_add, Nat.reduceAdd, e1, e2]
      have E1 := Lib.hid e1
      have E2 := Lib.hid e2
      clear e1 e2
      go_simp
      exact HK.out _ _ (by simp [layS, updV, lstV, Act.put, E1.out, E2.out]) hJ
    · skip
      clear hd
      simp only [List.getElem_cons_succ, List.getElem_cons_zero]
      clear hl
      refine .inr ⟨rfl, fun K' hK => ?_⟩
      have HK := Lib.hid hK
      clear hK
      simp only [layS, Act.put, List.setIfInBounds_toArray, List.set_cons_succ, List.set_cons_zero, Nat.zero_add, Nat.reduceAdd]
      go_simp
      exact HK.out _ _ (by simp [layS, updV, lstV, Act.put]) hJ
    · skip
      clear hd
      simp only [List.getElem_cons_succ, List.getElem_cons_zero]
      clear hl
      refine .inr ⟨rfl, fun K' hK => ?_⟩
      have HK := Lib.hid hK
      clear hK
      simp only [layS, Act.put, List.setIfInBounds_toArray, List.set_cons_succ, List.set_cons_zero, Nat.zero_add, Nat.reduceAdd]
      go_simp
      exact HK.out _ _ (by simp [layS, updV, lstV, Act.put]) hJ
    · have e4 : u 4 = .int .i64 d := hd 4 (by kernel_rfl)
      have e5 : u 5 = .int .i64 r := hd 5 (by kernel_rfl)
      clear hd
      simp only [List.getElem_cons_succ, List.getElem_cons_zero]
      clear hl
      refine .inr ⟨rfl, fun K' hK => ?_⟩
      have HK := Lib.hid hK
      clear hK
      simp only [layS, Act.put, List.setIfInBounds_toArray, List.set_cons_succ, List.set_cons_zero, Nat.zero_add, Nat.reduceAdd, e4, e5]
      have E4 := Lib.hid e4
      have E5 := Lib.hid e5
      clear e4 e5
      go_simp
      exact HK.out _ _ (by simp [layS, updV, lstV, Act.put, E4.out, E5.out]) hJ
    · have e3 : u 3 = .int .i64 (d - r) := hd 3 (by kernel_rfl)
      have e6 : u 6 = .int .i64 (d + r) := hd 6 (by kernel_rfl)
      clear hd
      simp only [List.getElem_cons_succ, List.getElem_cons_zero]
      clear hl
      refine .inr ⟨rfl, fun K' hK => ?_⟩
      have HK := Lib.hid hK
      clear hK
      simp only [layS, Act.put, List.setIfInBounds_toArray, List.set_cons_succ, List.set_cons_zero, Nat.zero_add, Nat.reduceAdd, e3, e6]
      have E3 := Lib.hid e3
      have E6 := Lib.hid e6
      clear e3 e6
      go_simp
      refine (KO.out W).mono ?_
      rintro e W' ⟨rfl, hB⟩
      exact HK.out _ _ (by simp [layS, updV, lstV, Act.put, E3.out, E6.out]) (hJ.later hB)
    · have e0 : u 0 = .agg #[.int .i64 x.lo, .int .i64 x.hi, .bool x.all] := hd 0 (by kernel_rfl)
      have e7 : u 7 = .agg #[.int .i64 o.lo, .int .i64 o.hi, .bool o.all] := hd 7 (by kernel_rfl)
      clear hd
      simp only [List.getElem_cons_succ, List.getElem_cons_zero]
      clear hl
      refine .inr ⟨rfl, fun K' hK => ?_⟩
      have HK := Lib.hid hK
      clear hK
      simp only [layS, Act.put, List.setIfInBounds_toArray, List.set_cons_succ, List.set_cons_zero, Nat.zero_add, Nat.reduceAdd, e0, e7]
      have E0 := Lib.hid e0
      have E7 := Lib.hid e7
      clear e0 e7
      go_simp
      refine (KI6.out W).mono ?_
      rintro e W' ⟨rfl, hB⟩
      exact HK.out _ _ (by simp [layS, updV, lstV, Act.put, E0.out, E7.out]) (hJ.later hB)
    · have e8 : u 8 = .bool wide := hd 8 (by kernel_rfl)
      clear hd
      simp only [List.getElem_cons_succ, List.getElem_cons_zero]
      clear hl
      refine .inr ⟨rfl, fun K' hK => ?_⟩
      have HK := Lib.hid hK
      clear hK
      simp only [layS, Act.put, List.setIfInBounds_toArray, List.set_cons_succ, List.set_cons_zero, Nat.zero_add, Nat.reduceAdd, e8]
      have E8 := Lib.hid e8
      clear e8
      go_simp
      exact HK.out _ _ (by simp [layS, updV, lstV, Act.put, E8.out]) hJ
  intro W hJ
  simp only [layS, lstV, Act.put, List.setIfInBounds_toArray, List.set_cons_succ, List.set_cons_zero, Nat.zero_add, Nat.reduceAdd, List.getD_cons_zero, List.getD_cons_succ, List.drop_succ_cons, List.drop_zero, List.drop_nil]
  go_wp2
  refine wp_region_vals 6 [some 74, some 75, some 76, some 77, some 78, some 21] (lstV [.agg #[.int .i64 x.lo, .int .i64 x.hi, .bool x.all], .agg #[.int .i64 0, .int .i64 0, .bool false], .agg #[.int .i64 0, .int .i64 0, .bool false], .agg #[.int .i64 lineS.lo, .int .i64 lineS.hi, .bool lineS.all], .bool true, .bool true]) (fun W => Bs w W [x, y]) (by kernel_rfl) (by kernel_rfl) (by decide) (hJ.drew) ?_ ?_
  · intro i hl hi u W hJ hd
    obtain rfl | rfl | rfl | rfl | rfl | rfl : i = 0 ∨ i = 1 ∨ i = 2 ∨ i = 3 ∨ i = 4 ∨ i = 5 := by omega
    · skip
      clear hd
      simp only [List.getElem_cons_succ, List.getElem_cons_zero]
      clear hl
      refine .inr ⟨rfl, fun K' hK => ?_⟩
      have HK := Lib.hid hK
      clear hK
      simp only [layS, Act.put, List.setIfInBounds_toArray, List.set_cons_succ, List.set_cons_zero, Nat.zero_add, Nat.reduceAdd]
      have c00 := hJ.c0.1
      have c01 := hJ.c0.2.1
      have c02 := hJ.c0.2.2.1
      go_simp
      exact HK.out _ _ (by simp [layS, updV, lstV, Act.put]) hJ
    · skip
      clear hd
      simp only [List.getElem_cons_succ, List.getElem_cons_zero]
      clear hl
      refine .inr ⟨rfl, fun K' hK => ?_⟩
      have HK := Lib.hid hK
      clear hK
      simp only [layS, Act.put, List.setIfInBounds_toArray, List.set_cons_succ, List.set_cons_zero, Nat.zero_add, Nat.reduceAdd]
      go_simp
      refine (sOf_at (a := 0) (b := 0) (z := ⟨0, 0, false⟩) rfl W).mono ?_
      rintro e W' ⟨rfl, hB⟩
      exact HK.out _ _ (by simp [layS, updV, lstV, Act.put]) (hJ.later hB)
    · skip
      clear hd
      simp only [List.getElem_cons_succ, List.getElem_cons_zero]
      clear hl
      refine .inr ⟨rfl, fun K' hK => ?_⟩
      have HK := Lib.hid hK
      clear hK
      simp only [layS, Act.put, List.setIfInBounds_toArray, List.set_cons_succ, List.set_cons_zero, Nat.zero_add, Nat.reduceAdd]
      go_simp
      refine (sOf_at (a := 0) (b := 0) (z := ⟨0, 0, false⟩) rfl W).mono ?_
      rintro e W' ⟨rfl, hB⟩
      exact HK.out _ _ (by simp [layS, updV, lstV, Act.put]) (hJ.later hB)
    · have e1 : u 1 = .agg #[.int .i64 0, .int .i64 0, .bool false] := hd 1 (by kernel_rfl)
      have e2 : u 2 = .agg #[.int .i64 0, .int .i64 0, .bool false] := hd 2 (by kernel_rfl)
      clear hd
      simp only [List.getElem_cons_succ, List.getElem_cons_zero]
      clear hl
      refine .inr ⟨rfl, fun K' hK => ?_⟩
      have HK := Lib.hid hK
      clear hK
      simp only [layS, Act.put, List.setIfInBounds_toArray, List.set_cons_succ, List.set_cons_zero, Nat.zero_add, Nat.reduceAdd, e1, e2]
      have E1 := Lib.hid e1
      have E2 := Lib.hid e2
      clear e1 e2
      go_simp
      refine (sDiv_at (x := ⟨0, 0, false⟩) (y := ⟨0, 0, false⟩) (z := lineS) rfl W).mono ?_
      rintro e W' ⟨rfl, hB⟩
      exact HK.out _ _ (by simp [layS, updV, lstV, Act.put, E1.out, E2.out]) (hJ.later hB)
    · have e0 : u 0 = .agg #[.int .i64 x.lo, .int .i64 x.hi, .bool x.all] := hd 0 (by kernel_rfl)
      have e3 : u 3 = .agg #[.int .i64 lineS.lo, .int .i64 lineS.hi, .bool lineS.all] := hd 3 (by kernel_rfl)
      clear hd
      simp only [List.getElem_cons_succ, List.getElem_cons_zero]
      clear hl
      refine .inr ⟨rfl, fun K' hK => ?_⟩
      have HK := Lib.hid hK
      clear hK
      simp only [layS, Act.put, List.setIfInBounds_toArray, List.set_cons_succ, List.set_cons_zero, Nat.zero_add, Nat.reduceAdd, e0, e3]
      have E0 := Lib.hid e0
      have E3 := Lib.hid e3
      clear e0 e3
      go_simp
      refine (KI7.out W).mono ?_
      rintro e W' ⟨rfl, hB⟩
      exact HK.out _ _ (by simp [layS, updV, lstV, Act.put, E0.out, E3.out]) (hJ.later hB)
    · have e4 : u 4 = .bool true := hd 4 (by kernel_rfl)
      clear hd
      simp only [List.getElem_cons_succ, List.getElem_cons_zero]
      clear hl
      refine .inr ⟨rfl, fun K' hK => ?_⟩
      have HK := Lib.hid hK
      clear hK
      simp only [layS, Act.put, List.setIfInBounds_toArray, List.set_cons_succ, List.set_cons_zero, Nat.zero_add, Nat.reduceAdd, e4]
      have E4 := Lib.hid e4
      clear e4
      go_simp
      exact HK.out _ _ (by simp [layS, updV, lstV, Act.put, E4.out]) hJ
  intro W hJ
  simp only [layS, lstV, Act.put, List.setIfInBounds_toArray, List.set_cons_succ, List.set_cons_zero, Nat.zero_add, Nat.reduceAdd, List.getD_cons_zero, List.getD_cons_succ, List.drop_succ_cons, List.drop_zero, List.drop_nil]
  rcases HW.out with rfl | ⟨rfl, rfl⟩ | ⟨rfl, hr, hl⟩
  · go_wp2
    go_ret
    exact ⟨rfl, hJ.below⟩
  · go_wp2
    go_ret
    exact ⟨rfl, hJ.below⟩
  · have hl' : decide (d - r < -2147483647) = true := decide_eq_true hl
    go_wp2
    go_ret
    exact ⟨rfl, hJ.below⟩
set_option maxRecDepth 100000 in
set_option maxHeartbeats 6400000 in
theorem Meets_B (x y m j o : Sp) (n d r : Int) (wide : Bool) (p2 : Bool) (HM : ∀ W : World, Calls Try.prog 16 #[.agg #[.int .i64 x.lo, .int .i64 x.hi, .bool x.all], .agg #[.int .i64 y.lo, .int .i64 y.hi, .bool y.all]] W (PSp2 m true W)) (HI1 : ∀ W : World, Calls Try.prog 14 #[.agg #[.int .i64 m.lo, .int .i64 m.hi, .bool m.all], .agg #[.int .i64 x.lo, .int .i64 x.hi, .bool x.all]] W (PVal (.bool true) W)) (HI2 : ∀ W : World, Calls Try.prog 14 #[.agg #[.int .i64 m.lo, .int .i64 m.hi, .bool m.all], .agg #[.int .i64 y.lo, .int .i64 y.hi, .bool y.all]] W (PVal (.bool true) W)) (HP1 : ∀ W : World, Calls Try.prog 13 #[.agg #[.int .i64 x.lo, .int .i64 x.hi, .bool x.all], .int .i64 n] W (PVal (.bool false) W)) (HP2 : ∀ W : World, Calls Try.prog 13 #[.agg #[.int .i64 y.lo, .int .i64 y.hi, .bool y.all], .int .i64 n] W (PVal (.bool p2) W)) (HP3 : ∀ W : World, Calls Try.prog 13 #[.agg #[.int .i64 m.lo, .int .i64 m.hi, .bool m.all], .int .i64 n] W (PVal (.bool false) W)) (HJ : ∀ W : World, Calls Try.prog 15 #[.agg #[.int .i64 x.lo, .int .i64 x.hi, .bool x.all], .agg #[.int .i64 y.lo, .int .i64 y.hi, .bool y.all]] W (PSp j W)) (HI3 : ∀ W : World, Calls Try.prog 14 #[.agg #[.int .i64 x.lo, .int .i64 x.hi, .bool x.all], .agg #[.int .i64 j.lo, .int .i64 j.hi, .bool j.all]] W (PVal (.bool true) W)) (HI4 : ∀ W : World, Calls Try.prog 14 #[.agg #[.int .i64 y.lo, .int .i64 y.hi, .bool y.all], .agg #[.int .i64 j.lo, .int .i64 j.hi, .bool j.all]] W (PVal (.bool true) W)) (HD : ∀ W : World, Calls Try.prog 18 #[.agg #[.int .i64 x.lo, .int .i64 x.hi, .bool x.all]] W (PVal (.int .i64 d) W)) (HR : ∀ W : World, Calls Try.prog 19 #[.agg #[.int .i64 x.lo, .int .i64 x.hi, .bool x.all]] W (PVal (.int .i64 r) W)) (HP5 : ∀ W : World, Calls Try.prog 13 #[.agg #[.int .i64 x.lo, .int .i64 x.hi, .bool x.all], .int .i64 d] W (PVal (.bool true) W)) (HO : ∀ W : World, Calls Try.prog 12 #[.int .i64 (d - r), .int .i64 (d + r)] W (PSp o W)) (HI6 : ∀ W : World, Calls Try.prog 14 #[.agg #[.int .i64 x.lo, .int .i64 x.hi, .bool x.all], .agg #[.int .i64 o.lo, .int .i64 o.hi, .bool o.all]] W (PVal (.bool wide) W)) (HI7 : ∀ W : World, Calls Try.prog 14 #[.agg #[.int .i64 x.lo, .int .i64 x.hi, .bool x.all], .agg #[.int .i64 lineS.lo, .int .i64 lineS.hi, .bool lineS.all]] W (PVal (.bool true) W))
    (d1 : -2147483647 ≤ d) (d2 : d ≤ 2147483647) (r1 : 0 ≤ r) (r2 : r ≤ 4294967294) (hw : wide = true ∨ (wide = false ∧ r = 2147483647) ∨ (wide = false ∧ (r == 2147483647) = false ∧ d - r < -2147483647)) (w : World) :
    Calls Try.prog 9 #[.agg #[.int .i64 x.lo, .int .i64 x.hi, .bool x.all], .agg #[.int .i64 y.lo, .int .i64 y.hi, .bool y.all], .int .i64 n] w (PVal (.bool true) w) := by
  have KM := Lib.hid HM
  clear HM
  have KI1 := Lib.hid HI1
  clear HI1
  have KI2 := Lib.hid HI2
  clear HI2
  have KP1 := Lib.hid HP1
  clear HP1
  have KP2 := Lib.hid HP2
  clear HP2
  have KP3 := Lib.hid HP3
  clear HP3
  have KJ := Lib.hid HJ
  clear HJ
  have KI3 := Lib.hid HI3
  clear HI3
  have KI4 := Lib.hid HI4
  clear HI4
  have KD := Lib.hid HD
  clear HD
  have KR := Lib.hid HR
  clear HR
  have KP5 := Lib.hid HP5
  clear HP5
  have KO := Lib.hid HO
  clear HO
  have KI6 := Lib.hid HI6
  clear HI6
  have KI7 := Lib.hid HI7
  clear HI7
  have HW := Lib.hid hw
  clear hw
  go_enter Try.func9, Try.ntmps9
  go_wp2_with fail
  have hJ := bs2 w x.lo x.hi x.all y.lo y.hi y.all
  generalize (w.alloc (.cells #[.int .i64 x.lo, .int .i64 x.hi, .bool x.all] 23)).alloc (.cells #[.int .i64 y.lo, .int .i64 y.hi, .bool y.all] 23) = w1 at *
  refine (sawake_any _).mono ?_
  rintro e W1 ⟨rfl, hB⟩
  replace hJ := hJ.later hB
  clear hB
  have f00 := hJ.c0.1
  have f01 := hJ.c0.2.1
  have f02 := hJ.c0.2.2.1
  have f10 := hJ.c1.1
  have f11 := hJ.c1.2.1
  have f12 := hJ.c1.2.2.1
  have fz0 : w.heap.size < W1.heap.size := by have := hJ.sz; simp only [List.length_cons, List.length_nil] at this; omega
  have fz1 : w.heap.size + 1 < W1.heap.size := by have := hJ.sz; simp only [List.length_cons, List.length_nil] at this; omega
  go_wp2_with fail
  refine (KM.out _).mono ?_
  rintro e W2 ⟨rfl, hB⟩
  replace hJ := hJ.later hB
  clear f00 f01 f02 f10 f11 f12 fz0 fz1
  clear hB
  have f00 := hJ.c0.1
  have f01 := hJ.c0.2.1
  have f02 := hJ.c0.2.2.1
  have f10 := hJ.c1.1
  have f11 := hJ.c1.2.1
  have f12 := hJ.c1.2.2.1
  have fz0 : w.heap.size < W2.heap.size := by have := hJ.sz; simp only [List.length_cons, List.length_nil] at this; omega
  have fz1 : w.heap.size + 1 < W2.heap.size := by have := hJ.sz; simp only [List.length_cons, List.length_nil] at this; omega
  go_wp2_with fail
  refine (KI1.out _).mono ?_
  rintro e W3 ⟨rfl, hB⟩
  have km := (b3_new W2 m).below hB
  have hx : Below W2.heap.size W2 W3 := ((Below.refl _ _).alloc (Nat.le_refl _) _).trans (hB.mono (by simp))
  replace hJ := hJ.later hx
  clear f00 f01 f02 f10 f11 f12 fz0 fz1
  clear hB hx
  generalize W2.heap.size = bm at *
  have f10 := hJ.c1.1
  have f11 := hJ.c1.2.1
  have f12 := hJ.c1.2.2.1
  have fz1 : w.heap.size + 1 < W3.heap.size := by have := hJ.sz; simp only [List.length_cons, List.length_nil] at this; omega
  have flm : bm < W3.heap.size := (Array.getElem?_eq_some_iff.1 km).1
  have fm0 := km.cells.1
  have fm1 := km.cells.2.1
  have fm2 := km.cells.2.2.1
  go_wp2_with fail
  refine (KI2.out _).mono ?_
  rintro e W4 ⟨rfl, hB⟩
  replace hJ := hJ.later hB
  replace km := km.below hB
  clear f10 f11 f12 fz1 flm fm0 fm1 fm2
  clear hB
  have f00 := hJ.c0.1
  have f01 := hJ.c0.2.1
  have f02 := hJ.c0.2.2.1
  have fz0 : w.heap.size < W4.heap.size := by have := hJ.sz; simp only [List.length_cons, List.length_nil] at this; omega
  go_wp2_with fail
  refine (KP1.out _).mono ?_
  rintro e W5 ⟨rfl, hB⟩
  replace hJ := hJ.later hB
  replace km := km.below hB
  clear f00 f01 f02 fz0
  clear hB
  have flm : bm < W5.heap.size := (Array.getElem?_eq_some_iff.1 km).1
  have fm0 := km.cells.1
  have fm1 := km.cells.2.1
  have fm2 := km.cells.2.2.1
  go_wp2_with fail
  refine (KP3.out _).mono ?_
  rintro e W6 ⟨rfl, hB⟩
  replace hJ := hJ.later hB
  replace km := km.below hB
  clear flm fm0 fm1 fm2
  clear hB
  have f00 := hJ.c0.1
  have f01 := hJ.c0.2.1
  have f02 := hJ.c0.2.2.1
  have f10 := hJ.c1.1
  have f11 := hJ.c1.2.1
  have f12 := hJ.c1.2.2.1
  have fz0 : w.heap.size < W6.heap.size := by have := hJ.sz; simp only [List.length_cons, List.length_nil] at this; omega
  have fz1 : w.heap.size + 1 < W6.heap.size := by have := hJ.sz; simp only [List.length_cons, List.length_nil] at this; omega
  go_wp2_with fail
  refine (KJ.out _).mono ?_
  rintro e W7 ⟨rfl, hB⟩
  replace hJ := hJ.later hB
  replace km := km.below hB
  clear f00 f01 f02 f10 f11 f12 fz0 fz1
  clear hB
  have f00 := hJ.c0.1
  have f01 := hJ.c0.2.1
  have f02 := hJ.c0.2.2.1
  have fz0 : w.heap.size < W7.heap.size := by have := hJ.sz; simp only [List.length_cons, List.length_nil] at this; omega
  go_wp2_with fail
  refine (KI3.out _).mono ?_
  rintro e W8 ⟨rfl, hB⟩
  have kj := (b3_new W7 j).below hB
  have hx : Below W7.heap.size W7 W8 := ((Below.refl _ _).alloc (Nat.le_refl _) _).trans (hB.mono (by simp))
  replace hJ := hJ.later hx
  replace km := km.below hx
  clear f00 f01 f02 fz0
  clear hB hx
  generalize W7.heap.size = bj at *
  have f10 := hJ.c1.1
  have f11 := hJ.c1.2.1
  have f12 := hJ.c1.2.2.1
  have fz1 : w.heap.size + 1 < W8.heap.size := by have := hJ.sz; simp only [List.length_cons, List.length_nil] at this; omega
  have flj : bj < W8.heap.size := (Array.getElem?_eq_some_iff.1 kj).1
  have fj0 := kj.cells.1
  have fj1 := kj.cells.2.1
  have fj2 := kj.cells.2.2.1
  go_wp2_with fail
  refine (KI4.out _).mono ?_
  rintro e W9 ⟨rfl, hB⟩
  replace hJ := hJ.later hB
  replace km := km.below hB
  replace kj := kj.below hB
  clear f10 f11 f12 fz1 flj fj0 fj1 fj2
  clear hB
  have f00 := hJ.c0.1
  have f01 := hJ.c0.2.1
  have f02 := hJ.c0.2.2.1
  have fz0 : w.heap.size < W9.heap.size := by have := hJ.sz; simp only [List.length_cons, List.length_nil] at this; omega
  go_wp2_with fail
  refine (KD.out _).mono ?_
  rintro e W10 ⟨rfl, hB⟩
  replace hJ := hJ.later hB
  replace km := km.below hB
  replace kj := kj.below hB
  clear f00 f01 f02 fz0
  clear hB
  have f00 := hJ.c0.1
  have f01 := hJ.c0.2.1
  have f02 := hJ.c0.2.2.1
  have fz0 : w.heap.size < W10.heap.size := by have := hJ.sz; simp only [List.length_cons, List.length_nil] at this; omega
  go_wp2_with fail
  refine (KR.out _).mono ?_
  rintro e W11 ⟨rfl, hB⟩
  replace hJ := hJ.later hB
  replace km := km.below hB
  replace kj := kj.below hB
  clear f00 f01 f02 fz0
  clear hB
  have f00 := hJ.c0.1
  have f01 := hJ.c0.2.1
  have f02 := hJ.c0.2.2.1
  have fz0 : w.heap.size < W11.heap.size := by have := hJ.sz; simp only [List.length_cons, List.length_nil] at this; omega
  go_wp2_with fail
  refine (KP5.out _).mono ?_
  rintro e W12 ⟨rfl, hB⟩
  replace hJ := hJ.later hB
  replace km := km.below hB
  replace kj := kj.below hB
  clear f00 f01 f02 fz0
  clear hB
  clear km kj
  have hw1 : IntKind.i64.wrap (d - r) = d - r := IntWalk.i64_in _ (by omega)
  have hw2 : IntKind.i64.wrap (d + r) = d + r := IntWalk.i64_in _ (by omega)
  go_wp2
  refine wp_region_vals 10 [some 65, some 66, some 67, some 68, some 69, some 70, some 71, some 72, some 73, some 20] (lstV [.agg #[.int .i64 x.lo, .int .i64 x.hi, .bool x.all], .int .i64 d, .int .i64 r, .int .i64 (d - r), .int .i64 d, .int .i64 r, .int .i64 (d + r), .agg #[.int .i64 o.lo, .int .i64 o.hi, .bool o.all], .bool wide, .bool wide]) (fun W => Bs w W [x, y]) (by kernel_rfl) (by kernel_rfl) (by decide) (hJ.drew) ?_ ?_
  · intro i hl hi u W hJ hd
    obtain rfl | rfl | rfl | rfl | rfl | rfl | rfl | rfl | rfl | rfl : i = 0 ∨ i = 1 ∨ i = 2 ∨ i = 3 ∨ i = 4 ∨ i = 5 ∨ i = 6 ∨ i = 7 ∨ i = 8 ∨ i = 9 := by omega
    · skip
      clear hd
      simp only [List.getElem_cons_succ, List.getElem_cons_zero]
      clear hl
      refine .inr ⟨rfl, fun K' hK => ?_⟩
      have HK := Lib.hid hK
      clear hK
      simp only [layS, Act.put, List.setIfInBounds_toArray, List.set_cons_succ, List.set_cons_zero, Nat.zero_add, Nat.reduceAdd]
      have c00 := hJ.c0.1
      have c01 := hJ.c0.2.1
      have c02 := hJ.c0.2.2.1
      go_simp
      exact HK.out _ _ (by simp [layS, updV, lstV, Act.put]) hJ
    · skip
      clear hd
      simp only [List.getElem_cons_succ, List.getElem_cons_zero]
      clear hl
      refine .inr ⟨rfl, fun K' hK => ?_⟩
      have HK := Lib.hid hK
      clear hK
      simp only [layS, Act.put, List.setIfInBounds_toArray, List.set_cons_succ, List.set_cons_zero, Nat.zero_add, Nat.reduceAdd]
      go_simp
      exact HK.out _ _ (by simp [layS, updV, lstV, Act.put]) hJ
    · skip
      clear hd
      simp only [List.getElem_cons_succ, List.getElem_cons_zero]
      clear hl
      refine .inr ⟨rfl, fun K' hK => ?_⟩
      have HK := Lib.hid hK
      clear hK
      simp only [layS, Act.put, List.setIfInBounds_toArray, List.set_cons_succ, List.set_cons_zero, Nat.zero_add, Nat.reduceAdd]
      go_simp
      exact HK.out _ _ (by simp [layS, updV, lstV, Act.put]) hJ
    · have e1 : u 1 = .int .i64 d := hd 1 (by kernel_rfl)
      have e2 : u 2 = .int .i64 r := hd 2 (by kernel_rfl)
      clear hd
      simp only [List.getElem_cons_succ, List.getElem_cons_zero]
      clear hl
      refine .inr ⟨rfl, fun K' hK => ?_⟩
      have HK := Lib.hid hK
      clear hK
      simp only [layS, Act.put, List.setIfInBounds_toArray, List.set_cons_succ, List.set_cons_zero, Nat.zero_add, Nat.reduceAdd, e1, e2]
      have E1 := Lib.hid e1
      have E2 := Lib.hid e2
      clear e1 e2
      go_simp
      exact HK.out _ _ (by simp [layS, updV, lstV, Act.put, E1.out, E2.out]) hJ
    · skip
      clear hd
      simp only [List.getElem_cons_succ, List.getElem_cons_zero]
      clear hl
      refine .inr ⟨rfl, fun K' hK => ?_⟩
      have HK := Lib.hid hK
      clear hK
      simp only [layS, Act.put, List.setIfInBounds_toArray, List.set_cons_succ, List.set_cons_zero, Nat.zero_add, Nat.reduceAdd]
      go_simp
      exact HK.out _ _ (by simp [layS, updV, lstV, Act.put]) hJ
    · skip
      clear hd
      simp only [List.getElem_cons_succ, List.getElem_cons_zero]
      clear hl
      refine .inr ⟨rfl, fun K' hK => ?_⟩
      have HK := Lib.hid hK
      clear hK
      simp only [layS, Act.put, List.setIfInBounds_toArray, List.set_cons_succ, List.set_cons_zero, Nat.zero_add, Nat.reduceAdd]
      go_simp
      exact HK.out _ _ (by simp [layS, updV, lstV, Act.put]) hJ
    · have e4 : u 4 = .int .i64 d := hd 4 (by kernel_rfl)
      have e5 : u 5 = .int .i64 r := hd 5 (by kernel_rfl)
      clear hd
      simp only [List.getElem_cons_succ, List.getElem_cons_zero]
      clear hl
      refine .inr ⟨rfl, fun K' hK => ?_⟩
      have HK := Lib.hid hK
      clear hK
      simp only [layS, Act.put, List.setIfInBounds_toArray, List.set_cons_succ, List.set_cons_zero, Nat.zero_add, Nat.reduceAdd, e4, e5]
      have E4 := Lib.hid e4
      have E5 := Lib.hid e5
      clear e4 e5
      go_simp
      exact HK.out _ _ (by simp [layS, updV, lstV, Act.put, E4.out, E5.out]) hJ
    · have e3 : u 3 = .int .i64 (d - r) := hd 3 (by kernel_rfl)
      have e6 : u 6 = .int .i64 (d + r) := hd 6 (by kernel_rfl)
      clear hd
      simp only [List.getElem_cons_succ, List.getElem_cons_zero]
      clear hl
      refine .inr ⟨rfl, fun K' hK => ?_⟩
      have HK := Lib.hid hK
      clear hK
      simp only [layS, Act.put, List.setIfInBounds_toArray, List.set_cons_succ, List.set_cons_zero, Nat.zero_add, Nat.reduceAdd, e3, e6]
      have E3 := Lib.hid e3
      have E6 := Lib.hid e6
      clear e3 e6
      go_simp
      refine (KO.out W).mono ?_
      rintro e W' ⟨rfl, hB⟩
      exact HK.out _ _ (by simp [layS, updV, lstV, Act.put, E3.out, E6.out]) (hJ.later hB)
    · have e0 : u 0 = .agg #[.int .i64 x.lo, .int .i64 x.hi, .bool x.all] := hd 0 (by kernel_rfl)
      have e7 : u 7 = .agg #[.int .i64 o.lo, .int .i64 o.hi, .bool o.all] := hd 7 (by kernel_rfl)
      clear hd
      simp only [List.getElem_cons_succ, List.getElem_cons_zero]
      clear hl
      refine .inr ⟨rfl, fun K' hK => ?_⟩
      have HK := Lib.hid hK
      clear hK
      simp only [layS, Act.put, List.setIfInBounds_toArray, List.set_cons_succ, List.set_cons_zero, Nat.zero_add, Nat.reduceAdd, e0, e7]
      have E0 := Lib.hid e0
      have E7 := Lib.hid e7
      clear e0 e7
      go_simp
      refine (KI6.out W).mono ?_
      rintro e W' ⟨rfl, hB⟩
      exact HK.out _ _ (by simp [layS, updV, lstV, Act.put, E0.out, E7.out]) (hJ.later hB)
    · have e8 : u 8 = .bool wide := hd 8 (by kernel_rfl)
      clear hd
      simp only [List.getElem_cons_succ, List.getElem_cons_zero]
      clear hl
      refine .inr ⟨rfl, fun K' hK => ?_⟩
      have HK := Lib.hid hK
      clear hK
      simp only [layS, Act.put, List.setIfInBounds_toArray, List.set_cons_succ, List.set_cons_zero, Nat.zero_add, Nat.reduceAdd, e8]
      have E8 := Lib.hid e8
      clear e8
      go_simp
      exact HK.out _ _ (by simp [layS, updV, lstV, Act.put, E8.out]) hJ
  intro W hJ
  simp only [layS, lstV, Act.put, List.setIfInBounds_toArray, List.set_cons_succ, List.set_cons_zero, Nat.zero_add, Nat.reduceAdd, List.getD_cons_zero, List.getD_cons_succ, List.drop_succ_cons, List.drop_zero, List.drop_nil]
  go_wp2
  refine wp_region_vals 6 [some 74, some 75, some 76, some 77, some 78, some 21] (lstV [.agg #[.int .i64 x.lo, .int .i64 x.hi, .bool x.all], .agg #[.int .i64 0, .int .i64 0, .bool false], .agg #[.int .i64 0, .int .i64 0, .bool false], .agg #[.int .i64 lineS.lo, .int .i64 lineS.hi, .bool lineS.all], .bool true, .bool true]) (fun W => Bs w W [x, y]) (by kernel_rfl) (by kernel_rfl) (by decide) (hJ.drew) ?_ ?_
  · intro i hl hi u W hJ hd
    obtain rfl | rfl | rfl | rfl | rfl | rfl : i = 0 ∨ i = 1 ∨ i = 2 ∨ i = 3 ∨ i = 4 ∨ i = 5 := by omega
    · skip
      clear hd
      simp only [List.getElem_cons_succ, List.getElem_cons_zero]
      clear hl
      refine .inr ⟨rfl, fun K' hK => ?_⟩
      have HK := Lib.hid hK
      clear hK
      simp only [layS, Act.put, List.setIfInBounds_toArray, List.set_cons_succ, List.set_cons_zero, Nat.zero_add, Nat.reduceAdd]
      have c00 := hJ.c0.1
      have c01 := hJ.c0.2.1
      have c02 := hJ.c0.2.2.1
      go_simp
      exact HK.out _ _ (by simp [layS, updV, lstV, Act.put]) hJ
    · skip
      clear hd
      simp only [List.getElem_cons_succ, List.getElem_cons_zero]
      clear hl
      refine .inr ⟨rfl, fun K' hK => ?_⟩
      have HK := Lib.hid hK
      clear hK
      simp only [layS, Act.put, List.setIfInBounds_toArray, List.set_cons_succ, List.set_cons_zero, Nat.zero_add, Nat.reduceAdd]
      go_simp
      refine (sOf_at (a := 0) (b := 0) (z := ⟨0, 0, false⟩) rfl W).mono ?_
      rintro e W' ⟨rfl, hB⟩
      exact HK.out _ _ (by simp [layS, updV, lstV, Act.put]) (hJ.later hB)
    · skip
      clear hd
      simp only [List.getElem_cons_succ, List.getElem_cons_zero]
      clear hl
      refine .inr ⟨rfl, fun K' hK => ?_⟩
      have HK := Lib.hid hK
      clear hK
      simp only [layS, Act.put, List.setIfInBounds_toArray, List.set_cons_succ, List.set_cons_zero, Nat.zero_add, Nat.reduceAdd]
      go_simp
      refine (sOf_at (a := 0) (b := 0) (z := ⟨0, 0, false⟩) rfl W).mono ?_
      rintro e W' ⟨rfl, hB⟩
      exact HK.out _ _ (by simp [layS, updV, lstV, Act.put]) (hJ.later hB)
    · have e1 : u 1 = .agg #[.int .i64 0, .int .i64 0, .bool false] := hd 1 (by kernel_rfl)
      have e2 : u 2 = .agg #[.int .i64 0, .int .i64 0, .bool false] := hd 2 (by kernel_rfl)
      clear hd
      simp only [List.getElem_cons_succ, List.getElem_cons_zero]
      clear hl
      refine .inr ⟨rfl, fun K' hK => ?_⟩
      have HK := Lib.hid hK
      clear hK
      simp only [layS, Act.put, List.setIfInBounds_toArray, List.set_cons_succ, List.set_cons_zero, Nat.zero_add, Nat.reduceAdd, e1, e2]
      have E1 := Lib.hid e1
      have E2 := Lib.hid e2
      clear e1 e2
      go_simp
      refine (sDiv_at (x := ⟨0, 0, false⟩) (y := ⟨0, 0, false⟩) (z := lineS) rfl W).mono ?_
      rintro e W' ⟨rfl, hB⟩
      exact HK.out _ _ (by simp [layS, updV, lstV, Act.put, E1.out, E2.out]) (hJ.later hB)
    · have e0 : u 0 = .agg #[.int .i64 x.lo, .int .i64 x.hi, .bool x.all] := hd 0 (by kernel_rfl)
      have e3 : u 3 = .agg #[.int .i64 lineS.lo, .int .i64 lineS.hi, .bool lineS.all] := hd 3 (by kernel_rfl)
      clear hd
      simp only [List.getElem_cons_succ, List.getElem_cons_zero]
      clear hl
      refine .inr ⟨rfl, fun K' hK => ?_⟩
      have HK := Lib.hid hK
      clear hK
      simp only [layS, Act.put, List.setIfInBounds_toArray, List.set_cons_succ, List.set_cons_zero, Nat.zero_add, Nat.reduceAdd, e0, e3]
      have E0 := Lib.hid e0
      have E3 := Lib.hid e3
      clear e0 e3
      go_simp
      refine (KI7.out W).mono ?_
      rintro e W' ⟨rfl, hB⟩
      exact HK.out _ _ (by simp [layS, updV, lstV, Act.put, E0.out, E3.out]) (hJ.later hB)
    · have e4 : u 4 = .bool true := hd 4 (by kernel_rfl)
      clear hd
      simp only [List.getElem_cons_succ, List.getElem_cons_zero]
      clear hl
      refine .inr ⟨rfl, fun K' hK => ?_⟩
      have HK := Lib.hid hK
      clear hK
      simp only [layS, Act.put, List.setIfInBounds_toArray, List.set_cons_succ, List.set_cons_zero, Nat.zero_add, Nat.reduceAdd, e4]
      have E4 := Lib.hid e4
      clear e4
      go_simp
      exact HK.out _ _ (by simp [layS, updV, lstV, Act.put, E4.out]) hJ
  intro W hJ
  simp only [layS, lstV, Act.put, List.setIfInBounds_toArray, List.set_cons_succ, List.set_cons_zero, Nat.zero_add, Nat.reduceAdd, List.getD_cons_zero, List.getD_cons_succ, List.drop_succ_cons, List.drop_zero, List.drop_nil]
  rcases HW.out with rfl | ⟨rfl, rfl⟩ | ⟨rfl, hr, hl⟩
  · go_wp2
    go_ret
    exact ⟨rfl, hJ.below⟩
  · go_wp2
    go_ret
    exact ⟨rfl, hJ.below⟩
  · have hl' : decide (d - r < -2147483647) = true := decide_eq_true hl
    go_wp2
    go_ret
    exact ⟨rfl, hJ.below⟩
set_option maxRecDepth 100000 in
set_option maxHeartbeats 6400000 in
theorem Meets_C (x y m j o : Sp) (n d r : Int) (wide : Bool) (one two : Bool) (p3 : Bool) (HM : ∀ W : World, Calls Try.prog 16 #[.agg #[.int .i64 x.lo, .int .i64 x.hi, .bool x.all], .agg #[.int .i64 y.lo, .int .i64 y.hi, .bool y.all]] W (PSp2 m false W)) (HI1 : ∀ W : World, Calls Try.prog 14 #[.agg #[.int .i64 m.lo, .int .i64 m.hi, .bool m.all], .agg #[.int .i64 x.lo, .int .i64 x.hi, .bool x.all]] W (PVal (.bool one) W)) (HI2 : ∀ W : World, Calls Try.prog 14 #[.agg #[.int .i64 m.lo, .int .i64 m.hi, .bool m.all], .agg #[.int .i64 y.lo, .int .i64 y.hi, .bool y.all]] W (PVal (.bool two) W)) (HP1 : ∀ W : World, Calls Try.prog 13 #[.agg #[.int .i64 x.lo, .int .i64 x.hi, .bool x.all], .int .i64 n] W (PVal (.bool true) W)) (HP2 : ∀ W : World, Calls Try.prog 13 #[.agg #[.int .i64 y.lo, .int .i64 y.hi, .bool y.all], .int .i64 n] W (PVal (.bool false) W)) (HP3 : ∀ W : World, Calls Try.prog 13 #[.agg #[.int .i64 m.lo, .int .i64 m.hi, .bool m.all], .int .i64 n] W (PVal (.bool p3) W)) (HJ : ∀ W : World, Calls Try.prog 15 #[.agg #[.int .i64 x.lo, .int .i64 x.hi, .bool x.all], .agg #[.int .i64 y.lo, .int .i64 y.hi, .bool y.all]] W (PSp j W)) (HI3 : ∀ W : World, Calls Try.prog 14 #[.agg #[.int .i64 x.lo, .int .i64 x.hi, .bool x.all], .agg #[.int .i64 j.lo, .int .i64 j.hi, .bool j.all]] W (PVal (.bool true) W)) (HI4 : ∀ W : World, Calls Try.prog 14 #[.agg #[.int .i64 y.lo, .int .i64 y.hi, .bool y.all], .agg #[.int .i64 j.lo, .int .i64 j.hi, .bool j.all]] W (PVal (.bool true) W)) (HD : ∀ W : World, Calls Try.prog 18 #[.agg #[.int .i64 x.lo, .int .i64 x.hi, .bool x.all]] W (PVal (.int .i64 d) W)) (HR : ∀ W : World, Calls Try.prog 19 #[.agg #[.int .i64 x.lo, .int .i64 x.hi, .bool x.all]] W (PVal (.int .i64 r) W)) (HP5 : ∀ W : World, Calls Try.prog 13 #[.agg #[.int .i64 x.lo, .int .i64 x.hi, .bool x.all], .int .i64 d] W (PVal (.bool true) W)) (HO : ∀ W : World, Calls Try.prog 12 #[.int .i64 (d - r), .int .i64 (d + r)] W (PSp o W)) (HI6 : ∀ W : World, Calls Try.prog 14 #[.agg #[.int .i64 x.lo, .int .i64 x.hi, .bool x.all], .agg #[.int .i64 o.lo, .int .i64 o.hi, .bool o.all]] W (PVal (.bool wide) W)) (HI7 : ∀ W : World, Calls Try.prog 14 #[.agg #[.int .i64 x.lo, .int .i64 x.hi, .bool x.all], .agg #[.int .i64 lineS.lo, .int .i64 lineS.hi, .bool lineS.all]] W (PVal (.bool true) W))
    (d1 : -2147483647 ≤ d) (d2 : d ≤ 2147483647) (r1 : 0 ≤ r) (r2 : r ≤ 4294967294) (hw : wide = true ∨ (wide = false ∧ r = 2147483647) ∨ (wide = false ∧ (r == 2147483647) = false ∧ d - r < -2147483647)) (w : World) :
    Calls Try.prog 9 #[.agg #[.int .i64 x.lo, .int .i64 x.hi, .bool x.all], .agg #[.int .i64 y.lo, .int .i64 y.hi, .bool y.all], .int .i64 n] w (PVal (.bool true) w) := by
  have KM := Lib.hid HM
  clear HM
  have KI1 := Lib.hid HI1
  clear HI1
  have KI2 := Lib.hid HI2
  clear HI2
  have KP1 := Lib.hid HP1
  clear HP1
  have KP2 := Lib.hid HP2
  clear HP2
  have KP3 := Lib.hid HP3
  clear HP3
  have KJ := Lib.hid HJ
  clear HJ
  have KI3 := Lib.hid HI3
  clear HI3
  have KI4 := Lib.hid HI4
  clear HI4
  have KD := Lib.hid HD
  clear HD
  have KR := Lib.hid HR
  clear HR
  have KP5 := Lib.hid HP5
  clear HP5
  have KO := Lib.hid HO
  clear HO
  have KI6 := Lib.hid HI6
  clear HI6
  have KI7 := Lib.hid HI7
  clear HI7
  have HW := Lib.hid hw
  clear hw
  go_enter Try.func9, Try.ntmps9
  go_wp2_with fail
  have hJ := bs2 w x.lo x.hi x.all y.lo y.hi y.all
  generalize (w.alloc (.cells #[.int .i64 x.lo, .int .i64 x.hi, .bool x.all] 23)).alloc (.cells #[.int .i64 y.lo, .int .i64 y.hi, .bool y.all] 23) = w1 at *
  refine (sawake_any _).mono ?_
  rintro e W1 ⟨rfl, hB⟩
  replace hJ := hJ.later hB
  clear hB
  have f00 := hJ.c0.1
  have f01 := hJ.c0.2.1
  have f02 := hJ.c0.2.2.1
  have f10 := hJ.c1.1
  have f11 := hJ.c1.2.1
  have f12 := hJ.c1.2.2.1
  have fz0 : w.heap.size < W1.heap.size := by have := hJ.sz; simp only [List.length_cons, List.length_nil] at this; omega
  have fz1 : w.heap.size + 1 < W1.heap.size := by have := hJ.sz; simp only [List.length_cons, List.length_nil] at this; omega
  go_wp2_with fail
  refine (KM.out _).mono ?_
  rintro e W2 ⟨rfl, hB⟩
  replace hJ := hJ.later hB
  clear f00 f01 f02 f10 f11 f12 fz0 fz1
  clear hB
  have f00 := hJ.c0.1
  have f01 := hJ.c0.2.1
  have f02 := hJ.c0.2.2.1
  have f10 := hJ.c1.1
  have f11 := hJ.c1.2.1
  have f12 := hJ.c1.2.2.1
  have fz0 : w.heap.size < W2.heap.size := by have := hJ.sz; simp only [List.length_cons, List.length_nil] at this; omega
  have fz1 : w.heap.size + 1 < W2.heap.size := by have := hJ.sz; simp only [List.length_cons, List.length_nil] at this; omega
  go_wp2_with fail
  refine (KI1.out _).mono ?_
  rintro e W3 ⟨rfl, hB⟩
  have km := (b3_new W2 m).below hB
  have hx : Below W2.heap.size W2 W3 := ((Below.refl _ _).alloc (Nat.le_refl _) _).trans (hB.mono (by simp))
  replace hJ := hJ.later hx
  clear f00 f01 f02 f10 f11 f12 fz0 fz1
  clear hB hx
  generalize W2.heap.size = bm at *
  have f10 := hJ.c1.1
  have f11 := hJ.c1.2.1
  have f12 := hJ.c1.2.2.1
  have fz1 : w.heap.size + 1 < W3.heap.size := by have := hJ.sz; simp only [List.length_cons, List.length_nil] at this; omega
  have flm : bm < W3.heap.size := (Array.getElem?_eq_some_iff.1 km).1
  have fm0 := km.cells.1
  have fm1 := km.cells.2.1
  have fm2 := km.cells.2.2.1
  go_wp2_with fail
  refine (KI2.out _).mono ?_
  rintro e W4 ⟨rfl, hB⟩
  replace hJ := hJ.later hB
  replace km := km.below hB
  clear f10 f11 f12 fz1 flm fm0 fm1 fm2
  clear hB
  have f00 := hJ.c0.1
  have f01 := hJ.c0.2.1
  have f02 := hJ.c0.2.2.1
  have fz0 : w.heap.size < W4.heap.size := by have := hJ.sz; simp only [List.length_cons, List.length_nil] at this; omega
  go_wp2_with fail
  refine (KP1.out _).mono ?_
  rintro e W5 ⟨rfl, hB⟩
  replace hJ := hJ.later hB
  replace km := km.below hB
  clear f00 f01 f02 fz0
  clear hB
  have f10 := hJ.c1.1
  have f11 := hJ.c1.2.1
  have f12 := hJ.c1.2.2.1
  have fz1 : w.heap.size + 1 < W5.heap.size := by have := hJ.sz; simp only [List.length_cons, List.length_nil] at this; omega
  go_wp2_with fail
  refine (KP2.out _).mono ?_
  rintro e W6 ⟨rfl, hB⟩
  replace hJ := hJ.later hB
  replace km := km.below hB
  clear f10 f11 f12 fz1
  clear hB
  have f00 := hJ.c0.1
  have f01 := hJ.c0.2.1
  have f02 := hJ.c0.2.2.1
  have f10 := hJ.c1.1
  have f11 := hJ.c1.2.1
  have f12 := hJ.c1.2.2.1
  have fz0 : w.heap.size < W6.heap.size := by have := hJ.sz; simp only [List.length_cons, List.length_nil] at this; omega
  have fz1 : w.heap.size + 1 < W6.heap.size := by have := hJ.sz; simp only [List.length_cons, List.length_nil] at this; omega
  go_wp2_with fail
  refine (KJ.out _).mono ?_
  rintro e W7 ⟨rfl, hB⟩
  replace hJ := hJ.later hB
  replace km := km.below hB
  clear f00 f01 f02 f10 f11 f12 fz0 fz1
  clear hB
  have f00 := hJ.c0.1
  have f01 := hJ.c0.2.1
  have f02 := hJ.c0.2.2.1
  have fz0 : w.heap.size < W7.heap.size := by have := hJ.sz; simp only [List.length_cons, List.length_nil] at this; omega
  go_wp2_with fail
  refine (KI3.out _).mono ?_
  rintro e W8 ⟨rfl, hB⟩
  have kj := (b3_new W7 j).below hB
  have hx : Below W7.heap.size W7 W8 := ((Below.refl _ _).alloc (Nat.le_refl _) _).trans (hB.mono (by simp))
  replace hJ := hJ.later hx
  replace km := km.below hx
  clear f00 f01 f02 fz0
  clear hB hx
  generalize W7.heap.size = bj at *
  have f10 := hJ.c1.1
  have f11 := hJ.c1.2.1
  have f12 := hJ.c1.2.2.1
  have fz1 : w.heap.size + 1 < W8.heap.size := by have := hJ.sz; simp only [List.length_cons, List.length_nil] at this; omega
  have flj : bj < W8.heap.size := (Array.getElem?_eq_some_iff.1 kj).1
  have fj0 := kj.cells.1
  have fj1 := kj.cells.2.1
  have fj2 := kj.cells.2.2.1
  go_wp2_with fail
  refine (KI4.out _).mono ?_
  rintro e W9 ⟨rfl, hB⟩
  replace hJ := hJ.later hB
  replace km := km.below hB
  replace kj := kj.below hB
  clear f10 f11 f12 fz1 flj fj0 fj1 fj2
  clear hB
  have f00 := hJ.c0.1
  have f01 := hJ.c0.2.1
  have f02 := hJ.c0.2.2.1
  have fz0 : w.heap.size < W9.heap.size := by have := hJ.sz; simp only [List.length_cons, List.length_nil] at this; omega
  go_wp2_with fail
  refine (KD.out _).mono ?_
  rintro e W10 ⟨rfl, hB⟩
  replace hJ := hJ.later hB
  replace km := km.below hB
  replace kj := kj.below hB
  clear f00 f01 f02 fz0
  clear hB
  have f00 := hJ.c0.1
  have f01 := hJ.c0.2.1
  have f02 := hJ.c0.2.2.1
  have fz0 : w.heap.size < W10.heap.size := by have := hJ.sz; simp only [List.length_cons, List.length_nil] at this; omega
  go_wp2_with fail
  refine (KR.out _).mono ?_
  rintro e W11 ⟨rfl, hB⟩
  replace hJ := hJ.later hB
  replace km := km.below hB
  replace kj := kj.below hB
  clear f00 f01 f02 fz0
  clear hB
  have f00 := hJ.c0.1
  have f01 := hJ.c0.2.1
  have f02 := hJ.c0.2.2.1
  have fz0 : w.heap.size < W11.heap.size := by have := hJ.sz; simp only [List.length_cons, List.length_nil] at this; omega
  go_wp2_with fail
  refine (KP5.out _).mono ?_
  rintro e W12 ⟨rfl, hB⟩
  replace hJ := hJ.later hB
  replace km := km.below hB
  replace kj := kj.below hB
  clear f00 f01 f02 fz0
  clear hB
  clear km kj
  have hw1 : IntKind.i64.wrap (d - r) = d - r := IntWalk.i64_in _ (by omega)
  have hw2 : IntKind.i64.wrap (d + r) = d + r := IntWalk.i64_in _ (by omega)
  go_wp2
  refine wp_region_vals 10 [some 65, some 66, some 67, some 68, some 69, some 70, some 71, some 72, some 73, some 20] (lstV [.agg #[.int .i64 x.lo, .int .i64 x.hi, .bool x.all], .int .i64 d, .int .i64 r, .int .i64 (d - r), .int .i64 d, .int .i64 r, .int .i64 (d + r), .agg #[.int .i64 o.lo, .int .i64 o.hi, .bool o.all], .bool wide, .bool wide]) (fun W => Bs w W [x, y]) (by kernel_rfl) (by kernel_rfl) (by decide) (hJ.drew) ?_ ?_
  · intro i hl hi u W hJ hd
    obtain rfl | rfl | rfl | rfl | rfl | rfl | rfl | rfl | rfl | rfl : i = 0 ∨ i = 1 ∨ i = 2 ∨ i = 3 ∨ i = 4 ∨ i = 5 ∨ i = 6 ∨ i = 7 ∨ i = 8 ∨ i = 9 := by omega
    · skip
      clear hd
      simp only [List.getElem_cons_succ, List.getElem_cons_zero]
      clear hl
      refine .inr ⟨rfl, fun K' hK => ?_⟩
      have HK := Lib.hid hK
      clear hK
      simp only [layS, Act.put, List.setIfInBounds_toArray, List.set_cons_succ, List.set_cons_zero, Nat.zero_add, Nat.reduceAdd]
      have c00 := hJ.c0.1
      have c01 := hJ.c0.2.1
      have c02 := hJ.c0.2.2.1
      go_simp
      exact HK.out _ _ (by simp [layS, updV, lstV, Act.put]) hJ
    · skip
      clear hd
      simp only [List.getElem_cons_succ, List.getElem_cons_zero]
      clear hl
      refine .inr ⟨rfl, fun K' hK => ?_⟩
      have HK := Lib.hid hK
      clear hK
      simp only [layS, Act.put, List.setIfInBounds_toArray, List.set_cons_succ, List.set_cons_zero, Nat.zero_add, Nat.reduceAdd]
      go_simp
      exact HK.out _ _ (by simp [layS, updV, lstV, Act.put]) hJ
    · skip
      clear hd
      simp only [List.getElem_cons_succ, List.getElem_cons_zero]
      clear hl
      refine .inr ⟨rfl, fun K' hK => ?_⟩
      have HK := Lib.hid hK
      clear hK
      simp only [layS, Act.put, List.setIfInBounds_toArray, List.set_cons_succ, List.set_cons_zero, Nat.zero_add, Nat.reduceAdd]
      go_simp
      exact HK.out _ _ (by simp [layS, updV, lstV, Act.put]) hJ
    · have e1 : u 1 = .int .i64 d := hd 1 (by kernel_rfl)
      have e2 : u 2 = .int .i64 r := hd 2 (by kernel_rfl)
      clear hd
      simp only [List.getElem_cons_succ, List.getElem_cons_zero]
      clear hl
      refine .inr ⟨rfl, fun K' hK => ?_⟩
      have HK := Lib.hid hK
      clear hK
      simp only [layS, Act.put, List.setIfInBounds_toArray, List.set_cons_succ, List.set_cons_zero, Nat.zero_add, Nat.reduceAdd, e1, e2]
      have E1 := Lib.hid e1
      have E2 := Lib.hid e2
      clear e1 e2
      go_simp
      exact HK.out _ _ (by simp [layS, updV, lstV, Act.put, E1.out, E2.out]) hJ
    · skip
      clear hd
      simp only [List.getElem_cons_succ, List.getElem_cons_zero]
      clear hl
      refine .inr ⟨rfl, fun K' hK => ?_⟩
      have HK := Lib.hid hK
      clear hK
      simp only [layS, Act.put, List.setIfInBounds_toArray, List.set_cons_succ, List.set_cons_zero, Nat.zero_add, Nat.reduceAdd]
      go_simp
      exact HK.out _ _ (by simp [layS, updV, lstV, Act.put]) hJ
    · skip
      clear hd
      simp only [List.getElem_cons_succ, List.getElem_cons_zero]
      clear hl
      refine .inr ⟨rfl, fun K' hK => ?_⟩
      have HK := Lib.hid hK
      clear hK
      simp only [layS, Act.put, List.setIfInBounds_toArray, List.set_cons_succ, List.set_cons_zero, Nat.zero_add, Nat.reduceAdd]
      go_simp
      exact HK.out _ _ (by simp [layS, updV, lstV, Act.put]) hJ
    · have e4 : u 4 = .int .i64 d := hd 4 (by kernel_rfl)
      have e5 : u 5 = .int .i64 r := hd 5 (by kernel_rfl)
      clear hd
      simp only [List.getElem_cons_succ, List.getElem_cons_zero]
      clear hl
      refine .inr ⟨rfl, fun K' hK => ?_⟩
      have HK := Lib.hid hK
      clear hK
      simp only [layS, Act.put, List.setIfInBounds_toArray, List.set_cons_succ, List.set_cons_zero, Nat.zero_add, Nat.reduceAdd, e4, e5]
      have E4 := Lib.hid e4
      have E5 := Lib.hid e5
      clear e4 e5
      go_simp
      exact HK.out _ _ (by simp [layS, updV, lstV, Act.put, E4.out, E5.out]) hJ
    · have e3 : u 3 = .int .i64 (d - r) := hd 3 (by kernel_rfl)
      have e6 : u 6 = .int .i64 (d + r) := hd 6 (by kernel_rfl)
      clear hd
      simp only [List.getElem_cons_succ, List.getElem_cons_zero]
      clear hl
      refine .inr ⟨rfl, fun K' hK => ?_⟩
      have HK := Lib.hid hK
      clear hK
      simp only [layS, Act.put, List.setIfInBounds_toArray, List.set_cons_succ, List.set_cons_zero, Nat.zero_add, Nat.reduceAdd, e3, e6]
      have E3 := Lib.hid e3
      have E6 := Lib.hid e6
      clear e3 e6
      go_simp
      refine (KO.out W).mono ?_
      rintro e W' ⟨rfl, hB⟩
      exact HK.out _ _ (by simp [layS, updV, lstV, Act.put, E3.out, E6.out]) (hJ.later hB)
    · have e0 : u 0 = .agg #[.int .i64 x.lo, .int .i64 x.hi, .bool x.all] := hd 0 (by kernel_rfl)
      have e7 : u 7 = .agg #[.int .i64 o.lo, .int .i64 o.hi, .bool o.all] := hd 7 (by kernel_rfl)
      clear hd
      simp only [List.getElem_cons_succ, List.getElem_cons_zero]
      clear hl
      refine .inr ⟨rfl, fun K' hK => ?_⟩
      have HK := Lib.hid hK
      clear hK
      simp only [layS, Act.put, List.setIfInBounds_toArray, List.set_cons_succ, List.set_cons_zero, Nat.zero_add, Nat.reduceAdd, e0, e7]
      have E0 := Lib.hid e0
      have E7 := Lib.hid e7
      clear e0 e7
      go_simp
      refine (KI6.out W).mono ?_
      rintro e W' ⟨rfl, hB⟩
      exact HK.out _ _ (by simp [layS, updV, lstV, Act.put, E0.out, E7.out]) (hJ.later hB)
    · have e8 : u 8 = .bool wide := hd 8 (by kernel_rfl)
      clear hd
      simp only [List.getElem_cons_succ, List.getElem_cons_zero]
      clear hl
      refine .inr ⟨rfl, fun K' hK => ?_⟩
      have HK := Lib.hid hK
      clear hK
      simp only [layS, Act.put, List.setIfInBounds_toArray, List.set_cons_succ, List.set_cons_zero, Nat.zero_add, Nat.reduceAdd, e8]
      have E8 := Lib.hid e8
      clear e8
      go_simp
      exact HK.out _ _ (by simp [layS, updV, lstV, Act.put, E8.out]) hJ
  intro W hJ
  simp only [layS, lstV, Act.put, List.setIfInBounds_toArray, List.set_cons_succ, List.set_cons_zero, Nat.zero_add, Nat.reduceAdd, List.getD_cons_zero, List.getD_cons_succ, List.drop_succ_cons, List.drop_zero, List.drop_nil]
  go_wp2
  refine wp_region_vals 6 [some 74, some 75, some 76, some 77, some 78, some 21] (lstV [.agg #[.int .i64 x.lo, .int .i64 x.hi, .bool x.all], .agg #[.int .i64 0, .int .i64 0, .bool false], .agg #[.int .i64 0, .int .i64 0, .bool false], .agg #[.int .i64 lineS.lo, .int .i64 lineS.hi, .bool lineS.all], .bool true, .bool true]) (fun W => Bs w W [x, y]) (by kernel_rfl) (by kernel_rfl) (by decide) (hJ.drew) ?_ ?_
  · intro i hl hi u W hJ hd
    obtain rfl | rfl | rfl | rfl | rfl | rfl : i = 0 ∨ i = 1 ∨ i = 2 ∨ i = 3 ∨ i = 4 ∨ i = 5 := by omega
    · skip
      clear hd
      simp only [List.getElem_cons_succ, List.getElem_cons_zero]
      clear hl
      refine .inr ⟨rfl, fun K' hK => ?_⟩
      have HK := Lib.hid hK
      clear hK
      simp only [layS, Act.put, List.setIfInBounds_toArray, List.set_cons_succ, List.set_cons_zero, Nat.zero_add, Nat.reduceAdd]
      have c00 := hJ.c0.1
      have c01 := hJ.c0.2.1
      have c02 := hJ.c0.2.2.1
      go_simp
      exact HK.out _ _ (by simp [layS, updV, lstV, Act.put]) hJ
    · skip
      clear hd
      simp only [List.getElem_cons_succ, List.getElem_cons_zero]
      clear hl
      refine .inr ⟨rfl, fun K' hK => ?_⟩
      have HK := Lib.hid hK
      clear hK
      simp only [layS, Act.put, List.setIfInBounds_toArray, List.set_cons_succ, List.set_cons_zero, Nat.zero_add, Nat.reduceAdd]
      go_simp
      refine (sOf_at (a := 0) (b := 0) (z := ⟨0, 0, false⟩) rfl W).mono ?_
      rintro e W' ⟨rfl, hB⟩
      exact HK.out _ _ (by simp [layS, updV, lstV, Act.put]) (hJ.later hB)
    · skip
      clear hd
      simp only [List.getElem_cons_succ, List.getElem_cons_zero]
      clear hl
      refine .inr ⟨rfl, fun K' hK => ?_⟩
      have HK := Lib.hid hK
      clear hK
      simp only [layS, Act.put, List.setIfInBounds_toArray, List.set_cons_succ, List.set_cons_zero, Nat.zero_add, Nat.reduceAdd]
      go_simp
      refine (sOf_at (a := 0) (b := 0) (z := ⟨0, 0, false⟩) rfl W).mono ?_
      rintro e W' ⟨rfl, hB⟩
      exact HK.out _ _ (by simp [layS, updV, lstV, Act.put]) (hJ.later hB)
    · have e1 : u 1 = .agg #[.int .i64 0, .int .i64 0, .bool false] := hd 1 (by kernel_rfl)
      have e2 : u 2 = .agg #[.int .i64 0, .int .i64 0, .bool false] := hd 2 (by kernel_rfl)
      clear hd
      simp only [List.getElem_cons_succ, List.getElem_cons_zero]
      clear hl
      refine .inr ⟨rfl, fun K' hK => ?_⟩
      have HK := Lib.hid hK
      clear hK
      simp only [layS, Act.put, List.setIfInBounds_toArray, List.set_cons_succ, List.set_cons_zero, Nat.zero_add, Nat.reduceAdd, e1, e2]
      have E1 := Lib.hid e1
      have E2 := Lib.hid e2
      clear e1 e2
      go_simp
      refine (sDiv_at (x := ⟨0, 0, false⟩) (y := ⟨0, 0, false⟩) (z := lineS) rfl W).mono ?_
      rintro e W' ⟨rfl, hB⟩
      exact HK.out _ _ (by simp [layS, updV, lstV, Act.put, E1.out, E2.out]) (hJ.later hB)
    · have e0 : u 0 = .agg #[.int .i64 x.lo, .int .i64 x.hi, .bool x.all] := hd 0 (by kernel_rfl)
      have e3 : u 3 = .agg #[.int .i64 lineS.lo, .int .i64 lineS.hi, .bool lineS.all] := hd 3 (by kernel_rfl)
      clear hd
      simp only [List.getElem_cons_succ, List.getElem_cons_zero]
      clear hl
      refine .inr ⟨rfl, fun K' hK => ?_⟩
      have HK := Lib.hid hK
      clear hK
      simp only [layS, Act.put, List.setIfInBounds_toArray, List.set_cons_succ, List.set_cons_zero, Nat.zero_add, Nat.reduceAdd, e0, e3]
      have E0 := Lib.hid e0
      have E3 := Lib.hid e3
      clear e0 e3
      go_simp
      refine (KI7.out W).mono ?_
      rintro e W' ⟨rfl, hB⟩
      exact HK.out _ _ (by simp [layS, updV, lstV, Act.put, E0.out, E3.out]) (hJ.later hB)
    · have e4 : u 4 = .bool true := hd 4 (by kernel_rfl)
      clear hd
      simp only [List.getElem_cons_succ, List.getElem_cons_zero]
      clear hl
      refine .inr ⟨rfl, fun K' hK => ?_⟩
      have HK := Lib.hid hK
      clear hK
      simp only [layS, Act.put, List.setIfInBounds_toArray, List.set_cons_succ, List.set_cons_zero, Nat.zero_add, Nat.reduceAdd, e4]
      have E4 := Lib.hid e4
      clear e4
      go_simp
      exact HK.out _ _ (by simp [layS, updV, lstV, Act.put, E4.out]) hJ
  intro W hJ
  simp only [layS, lstV, Act.put, List.setIfInBounds_toArray, List.set_cons_succ, List.set_cons_zero, Nat.zero_add, Nat.reduceAdd, List.getD_cons_zero, List.getD_cons_succ, List.drop_succ_cons, List.drop_zero, List.drop_nil]
  rcases HW.out with rfl | ⟨rfl, rfl⟩ | ⟨rfl, hr, hl⟩
  · go_wp2
    go_ret
    exact ⟨rfl, hJ.below⟩
  · go_wp2
    go_ret
    exact ⟨rfl, hJ.below⟩
  · have hl' : decide (d - r < -2147483647) = true := decide_eq_true hl
    go_wp2
    go_ret
    exact ⟨rfl, hJ.below⟩
set_option maxRecDepth 100000 in
set_option maxHeartbeats 6400000 in
theorem Meets_D (x y m j o : Sp) (n d r : Int) (wide : Bool) (p2 : Bool) (HM : ∀ W : World, Calls Try.prog 16 #[.agg #[.int .i64 x.lo, .int .i64 x.hi, .bool x.all], .agg #[.int .i64 y.lo, .int .i64 y.hi, .bool y.all]] W (PSp2 m true W)) (HI1 : ∀ W : World, Calls Try.prog 14 #[.agg #[.int .i64 m.lo, .int .i64 m.hi, .bool m.all], .agg #[.int .i64 x.lo, .int .i64 x.hi, .bool x.all]] W (PVal (.bool true) W)) (HI2 : ∀ W : World, Calls Try.prog 14 #[.agg #[.int .i64 m.lo, .int .i64 m.hi, .bool m.all], .agg #[.int .i64 y.lo, .int .i64 y.hi, .bool y.all]] W (PVal (.bool true) W)) (HP1 : ∀ W : World, Calls Try.prog 13 #[.agg #[.int .i64 x.lo, .int .i64 x.hi, .bool x.all], .int .i64 n] W (PVal (.bool true) W)) (HP2 : ∀ W : World, Calls Try.prog 13 #[.agg #[.int .i64 y.lo, .int .i64 y.hi, .bool y.all], .int .i64 n] W (PVal (.bool p2) W)) (HP3 : ∀ W : World, Calls Try.prog 13 #[.agg #[.int .i64 m.lo, .int .i64 m.hi, .bool m.all], .int .i64 n] W (PVal (.bool p2) W)) (HJ : ∀ W : World, Calls Try.prog 15 #[.agg #[.int .i64 x.lo, .int .i64 x.hi, .bool x.all], .agg #[.int .i64 y.lo, .int .i64 y.hi, .bool y.all]] W (PSp j W)) (HI3 : ∀ W : World, Calls Try.prog 14 #[.agg #[.int .i64 x.lo, .int .i64 x.hi, .bool x.all], .agg #[.int .i64 j.lo, .int .i64 j.hi, .bool j.all]] W (PVal (.bool true) W)) (HI4 : ∀ W : World, Calls Try.prog 14 #[.agg #[.int .i64 y.lo, .int .i64 y.hi, .bool y.all], .agg #[.int .i64 j.lo, .int .i64 j.hi, .bool j.all]] W (PVal (.bool true) W)) (HD : ∀ W : World, Calls Try.prog 18 #[.agg #[.int .i64 x.lo, .int .i64 x.hi, .bool x.all]] W (PVal (.int .i64 d) W)) (HR : ∀ W : World, Calls Try.prog 19 #[.agg #[.int .i64 x.lo, .int .i64 x.hi, .bool x.all]] W (PVal (.int .i64 r) W)) (HP5 : ∀ W : World, Calls Try.prog 13 #[.agg #[.int .i64 x.lo, .int .i64 x.hi, .bool x.all], .int .i64 d] W (PVal (.bool true) W)) (HO : ∀ W : World, Calls Try.prog 12 #[.int .i64 (d - r), .int .i64 (d + r)] W (PSp o W)) (HI6 : ∀ W : World, Calls Try.prog 14 #[.agg #[.int .i64 x.lo, .int .i64 x.hi, .bool x.all], .agg #[.int .i64 o.lo, .int .i64 o.hi, .bool o.all]] W (PVal (.bool wide) W)) (HI7 : ∀ W : World, Calls Try.prog 14 #[.agg #[.int .i64 x.lo, .int .i64 x.hi, .bool x.all], .agg #[.int .i64 lineS.lo, .int .i64 lineS.hi, .bool lineS.all]] W (PVal (.bool true) W))
    (d1 : -2147483647 ≤ d) (d2 : d ≤ 2147483647) (r1 : 0 ≤ r) (r2 : r ≤ 4294967294) (hw : wide = true ∨ (wide = false ∧ r = 2147483647) ∨ (wide = false ∧ (r == 2147483647) = false ∧ d - r < -2147483647)) (w : World) :
    Calls Try.prog 9 #[.agg #[.int .i64 x.lo, .int .i64 x.hi, .bool x.all], .agg #[.int .i64 y.lo, .int .i64 y.hi, .bool y.all], .int .i64 n] w (PVal (.bool true) w) := by
  have KM := Lib.hid HM
  clear HM
  have KI1 := Lib.hid HI1
  clear HI1
  have KI2 := Lib.hid HI2
  clear HI2
  have KP1 := Lib.hid HP1
  clear HP1
  have KP2 := Lib.hid HP2
  clear HP2
  have KP3 := Lib.hid HP3
  clear HP3
  have KJ := Lib.hid HJ
  clear HJ
  have KI3 := Lib.hid HI3
  clear HI3
  have KI4 := Lib.hid HI4
  clear HI4
  have KD := Lib.hid HD
  clear HD
  have KR := Lib.hid HR
  clear HR
  have KP5 := Lib.hid HP5
  clear HP5
  have KO := Lib.hid HO
  clear HO
  have KI6 := Lib.hid HI6
  clear HI6
  have KI7 := Lib.hid HI7
  clear HI7
  have HW := Lib.hid hw
  clear hw
  go_enter Try.func9, Try.ntmps9
  go_wp2_with fail
  have hJ := bs2 w x.lo x.hi x.all y.lo y.hi y.all
  generalize (w.alloc (.cells #[.int .i64 x.lo, .int .i64 x.hi, .bool x.all] 23)).alloc (.cells #[.int .i64 y.lo, .int .i64 y.hi, .bool y.all] 23) = w1 at *
  refine (sawake_any _).mono ?_
  rintro e W1 ⟨rfl, hB⟩
  replace hJ := hJ.later hB
  clear hB
  have f00 := hJ.c0.1
  have f01 := hJ.c0.2.1
  have f02 := hJ.c0.2.2.1
  have f10 := hJ.c1.1
  have f11 := hJ.c1.2.1
  have f12 := hJ.c1.2.2.1
  have fz0 : w.heap.size < W1.heap.size := by have := hJ.sz; simp only [List.length_cons, List.length_nil] at this; omega
  have fz1 : w.heap.size + 1 < W1.heap.size := by have := hJ.sz; simp only [List.length_cons, List.length_nil] at this; omega
  go_wp2_with fail
  refine (KM.out _).mono ?_
  rintro e W2 ⟨rfl, hB⟩
  replace hJ := hJ.later hB
  clear f00 f01 f02 f10 f11 f12 fz0 fz1
  clear hB
  have f00 := hJ.c0.1
  have f01 := hJ.c0.2.1
  have f02 := hJ.c0.2.2.1
  have f10 := hJ.c1.1
  have f11 := hJ.c1.2.1
  have f12 := hJ.c1.2.2.1
  have fz0 : w.heap.size < W2.heap.size := by have := hJ.sz; simp only [List.length_cons, List.length_nil] at this; omega
  have fz1 : w.heap.size + 1 < W2.heap.size := by have := hJ.sz; simp only [List.length_cons, List.length_nil] at this; omega
  go_wp2_with fail
  refine (KI1.out _).mono ?_
  rintro e W3 ⟨rfl, hB⟩
  have km := (b3_new W2 m).below hB
  have hx : Below W2.heap.size W2 W3 := ((Below.refl _ _).alloc (Nat.le_refl _) _).trans (hB.mono (by simp))
  replace hJ := hJ.later hx
  clear f00 f01 f02 f10 f11 f12 fz0 fz1
  clear hB hx
  generalize W2.heap.size = bm at *
  have f10 := hJ.c1.1
  have f11 := hJ.c1.2.1
  have f12 := hJ.c1.2.2.1
  have fz1 : w.heap.size + 1 < W3.heap.size := by have := hJ.sz; simp only [List.length_cons, List.length_nil] at this; omega
  have flm : bm < W3.heap.size := (Array.getElem?_eq_some_iff.1 km).1
  have fm0 := km.cells.1
  have fm1 := km.cells.2.1
  have fm2 := km.cells.2.2.1
  go_wp2_with fail
  refine (KI2.out _).mono ?_
  rintro e W4 ⟨rfl, hB⟩
  replace hJ := hJ.later hB
  replace km := km.below hB
  clear f10 f11 f12 fz1 flm fm0 fm1 fm2
  clear hB
  have f00 := hJ.c0.1
  have f01 := hJ.c0.2.1
  have f02 := hJ.c0.2.2.1
  have fz0 : w.heap.size < W4.heap.size := by have := hJ.sz; simp only [List.length_cons, List.length_nil] at this; omega
  go_wp2_with fail
  refine (KP1.out _).mono ?_
  rintro e W5 ⟨rfl, hB⟩
  replace hJ := hJ.later hB
  replace km := km.below hB
  clear f00 f01 f02 fz0
  clear hB
  have f10 := hJ.c1.1
  have f11 := hJ.c1.2.1
  have f12 := hJ.c1.2.2.1
  have fz1 : w.heap.size + 1 < W5.heap.size := by have := hJ.sz; simp only [List.length_cons, List.length_nil] at this; omega
  go_wp2_with fail
  refine (KP2.out _).mono ?_
  rintro e W6 ⟨rfl, hB⟩
  replace hJ := hJ.later hB
  replace km := km.below hB
  clear f10 f11 f12 fz1
  clear hB
  have flm : bm < W6.heap.size := (Array.getElem?_eq_some_iff.1 km).1
  have fm0 := km.cells.1
  have fm1 := km.cells.2.1
  have fm2 := km.cells.2.2.1
  go_wp2_with fail
  refine (KP3.out _).mono ?_
  rintro e W7 ⟨rfl, hB⟩
  replace hJ := hJ.later hB
  replace km := km.below hB
  clear flm fm0 fm1 fm2
  clear hB
  have f00 := hJ.c0.1
  have f01 := hJ.c0.2.1
  have f02 := hJ.c0.2.2.1
  have f10 := hJ.c1.1
  have f11 := hJ.c1.2.1
  have f12 := hJ.c1.2.2.1
  have fz0 : w.heap.size < W7.heap.size := by have := hJ.sz; simp only [List.length_cons, List.length_nil] at this; omega
  have fz1 : w.heap.size + 1 < W7.heap.size := by have := hJ.sz; simp only [List.length_cons, List.length_nil] at this; omega
  go_wp2_with fail
  refine (KJ.out _).mono ?_
  rintro e W8 ⟨rfl, hB⟩
  replace hJ := hJ.later hB
  replace km := km.below hB
  clear f00 f01 f02 f10 f11 f12 fz0 fz1
  clear hB
  have f00 := hJ.c0.1
  have f01 := hJ.c0.2.1
  have f02 := hJ.c0.2.2.1
  have fz0 : w.heap.size < W8.heap.size := by have := hJ.sz; simp only [List.length_cons, List.length_nil] at this; omega
  go_wp2_with fail
  refine (KI3.out _).mono ?_
  rintro e W9 ⟨rfl, hB⟩
  have kj := (b3_new W8 j).below hB
  have hx : Below W8.heap.size W8 W9 := ((Below.refl _ _).alloc (Nat.le_refl _) _).trans (hB.mono (by simp))
  replace hJ := hJ.later hx
  replace km := km.below hx
  clear f00 f01 f02 fz0
  clear hB hx
  generalize W8.heap.size = bj at *
  have f10 := hJ.c1.1
  have f11 := hJ.c1.2.1
  have f12 := hJ.c1.2.2.1
  have fz1 : w.heap.size + 1 < W9.heap.size := by have := hJ.sz; simp only [List.length_cons, List.length_nil] at this; omega
  have flj : bj < W9.heap.size := (Array.getElem?_eq_some_iff.1 kj).1
  have fj0 := kj.cells.1
  have fj1 := kj.cells.2.1
  have fj2 := kj.cells.2.2.1
  go_wp2_with fail
  refine (KI4.out _).mono ?_
  rintro e W10 ⟨rfl, hB⟩
  replace hJ := hJ.later hB
  replace km := km.below hB
  replace kj := kj.below hB
  clear f10 f11 f12 fz1 flj fj0 fj1 fj2
  clear hB
  have f00 := hJ.c0.1
  have f01 := hJ.c0.2.1
  have f02 := hJ.c0.2.2.1
  have fz0 : w.heap.size < W10.heap.size := by have := hJ.sz; simp only [List.length_cons, List.length_nil] at this; omega
  go_wp2_with fail
  refine (KD.out _).mono ?_
  rintro e W11 ⟨rfl, hB⟩
  replace hJ := hJ.later hB
  replace km := km.below hB
  replace kj := kj.below hB
  clear f00 f01 f02 fz0
  clear hB
  have f00 := hJ.c0.1
  have f01 := hJ.c0.2.1
  have f02 := hJ.c0.2.2.1
  have fz0 : w.heap.size < W11.heap.size := by have := hJ.sz; simp only [List.length_cons, List.length_nil] at this; omega
  go_wp2_with fail
  refine (KR.out _).mono ?_
  rintro e W12 ⟨rfl, hB⟩
  replace hJ := hJ.later hB
  replace km := km.below hB
  replace kj := kj.below hB
  clear f00 f01 f02 fz0
  clear hB
  have f00 := hJ.c0.1
  have f01 := hJ.c0.2.1
  have f02 := hJ.c0.2.2.1
  have fz0 : w.heap.size < W12.heap.size := by have := hJ.sz; simp only [List.length_cons, List.length_nil] at this; omega
  go_wp2_with fail
  refine (KP5.out _).mono ?_
  rintro e W13 ⟨rfl, hB⟩
  replace hJ := hJ.later hB
  replace km := km.below hB
  replace kj := kj.below hB
  clear f00 f01 f02 fz0
  clear hB
  clear km kj
  have hw1 : IntKind.i64.wrap (d - r) = d - r := IntWalk.i64_in _ (by omega)
  have hw2 : IntKind.i64.wrap (d + r) = d + r := IntWalk.i64_in _ (by omega)
  go_wp2
  refine wp_region_vals 10 [some 65, some 66, some 67, some 68, some 69, some 70, some 71, some 72, some 73, some 20] (lstV [.agg #[.int .i64 x.lo, .int .i64 x.hi, .bool x.all], .int .i64 d, .int .i64 r, .int .i64 (d - r), .int .i64 d, .int .i64 r, .int .i64 (d + r), .agg #[.int .i64 o.lo, .int .i64 o.hi, .bool o.all], .bool wide, .bool wide]) (fun W => Bs w W [x, y]) (by kernel_rfl) (by kernel_rfl) (by decide) (hJ.drew) ?_ ?_
  · intro i hl hi u W hJ hd
    obtain rfl | rfl | rfl | rfl | rfl | rfl | rfl | rfl | rfl | rfl : i = 0 ∨ i = 1 ∨ i = 2 ∨ i = 3 ∨ i = 4 ∨ i = 5 ∨ i = 6 ∨ i = 7 ∨ i = 8 ∨ i = 9 := by omega
    · skip
      clear hd
      simp only [List.getElem_cons_succ, List.getElem_cons_zero]
      clear hl
      refine .inr ⟨rfl, fun K' hK => ?_⟩
      have HK := Lib.hid hK
      clear hK
      simp only [layS, Act.put, List.setIfInBounds_toArray, List.set_cons_succ, List.set_cons_zero, Nat.zero_add, Nat.reduceAdd]
      have c00 := hJ.c0.1
      have c01 := hJ.c0.2.1
      have c02 := hJ.c0.2.2.1
      go_simp
      exact HK.out _ _ (by simp [layS, updV, lstV, Act.put]) hJ
    · skip
      clear hd
      simp only [List.getElem_cons_succ, List.getElem_cons_zero]
      clear hl
      refine .inr ⟨rfl, fun K' hK => ?_⟩
      have HK := Lib.hid hK
      clear hK
      simp only [layS, Act.put, List.setIfInBounds_toArray, List.set_cons_succ, List.set_cons_zero, Nat.zero_add, Nat.reduceAdd]
      go_simp
      exact HK.out _ _ (by simp [layS, updV, lstV, Act.put]) hJ
    · skip
      clear hd
      simp only [List.getElem_cons_succ, List.getElem_cons_zero]
      clear hl
      refine .inr ⟨rfl, fun K' hK => ?_⟩
      have HK := Lib.hid hK
      clear hK
      simp only [layS, Act.put, List.setIfInBounds_toArray, List.set_cons_succ, List.set_cons_zero, Nat.zero_add, Nat.reduceAdd]
      go_simp
      exact HK.out _ _ (by simp [layS, updV, lstV, Act.put]) hJ
    · have e1 : u 1 = .int .i64 d := hd 1 (by kernel_rfl)
      have e2 : u 2 = .int .i64 r := hd 2 (by kernel_rfl)
      clear hd
      simp only [List.getElem_cons_succ, List.getElem_cons_zero]
      clear hl
      refine .inr ⟨rfl, fun K' hK => ?_⟩
      have HK := Lib.hid hK
      clear hK
      simp only [layS, Act.put, List.setIfInBounds_toArray, List.set_cons_succ, List.set_cons_zero, Nat.zero_add, Nat.reduceAdd, e1, e2]
      have E1 := Lib.hid e1
      have E2 := Lib.hid e2
      clear e1 e2
      go_simp
      exact HK.out _ _ (by simp [layS, updV, lstV, Act.put, E1.out, E2.out]) hJ
    · skip
      clear hd
      simp only [List.getElem_cons_succ, List.getElem_cons_zero]
      clear hl
      refine .inr ⟨rfl, fun K' hK => ?_⟩
      have HK := Lib.hid hK
      clear hK
      simp only [layS, Act.put, List.setIfInBounds_toArray, List.set_cons_succ, List.set_cons_zero, Nat.zero_add, Nat.reduceAdd]
      go_simp
      exact HK.out _ _ (by simp [layS, updV, lstV, Act.put]) hJ
    · skip
      clear hd
      simp only [List.getElem_cons_succ, List.getElem_cons_zero]
      clear hl
      refine .inr ⟨rfl, fun K' hK => ?_⟩
      have HK := Lib.hid hK
      clear hK
      simp only [layS, Act.put, List.setIfInBounds_toArray, List.set_cons_succ, List.set_cons_zero, Nat.zero_add, Nat.reduceAdd]
      go_simp
      exact HK.out _ _ (by simp [layS, updV, lstV, Act.put]) hJ
    · have e4 : u 4 = .int .i64 d := hd 4 (by kernel_rfl)
      have e5 : u 5 = .int .i64 r := hd 5 (by kernel_rfl)
      clear hd
      simp only [List.getElem_cons_succ, List.getElem_cons_zero]
      clear hl
      refine .inr ⟨rfl, fun K' hK => ?_⟩
      have HK := Lib.hid hK
      clear hK
      simp only [layS, Act.put, List.setIfInBounds_toArray, List.set_cons_succ, List.set_cons_zero, Nat.zero_add, Nat.reduceAdd, e4, e5]
      have E4 := Lib.hid e4
      have E5 := Lib.hid e5
      clear e4 e5
      go_simp
      exact HK.out _ _ (by simp [layS, updV, lstV, Act.put, E4.out, E5.out]) hJ
    · have e3 : u 3 = .int .i64 (d - r) := hd 3 (by kernel_rfl)
      have e6 : u 6 = .int .i64 (d + r) := hd 6 (by kernel_rfl)
      clear hd
      simp only [List.getElem_cons_succ, List.getElem_cons_zero]
      clear hl
      refine .inr ⟨rfl, fun K' hK => ?_⟩
      have HK := Lib.hid hK
      clear hK
      simp only [layS, Act.put, List.setIfInBounds_toArray, List.set_cons_succ, List.set_cons_zero, Nat.zero_add, Nat.reduceAdd, e3, e6]
      have E3 := Lib.hid e3
      have E6 := Lib.hid e6
      clear e3 e6
      go_simp
      refine (KO.out W).mono ?_
      rintro e W' ⟨rfl, hB⟩
      exact HK.out _ _ (by simp [layS, updV, lstV, Act.put, E3.out, E6.out]) (hJ.later hB)
    · have e0 : u 0 = .agg #[.int .i64 x.lo, .int .i64 x.hi, .bool x.all] := hd 0 (by kernel_rfl)
      have e7 : u 7 = .agg #[.int .i64 o.lo, .int .i64 o.hi, .bool o.all] := hd 7 (by kernel_rfl)
      clear hd
      simp only [List.getElem_cons_succ, List.getElem_cons_zero]
      clear hl
      refine .inr ⟨rfl, fun K' hK => ?_⟩
      have HK := Lib.hid hK
      clear hK
      simp only [layS, Act.put, List.setIfInBounds_toArray, List.set_cons_succ, List.set_cons_zero, Nat.zero_add, Nat.reduceAdd, e0, e7]
      have E0 := Lib.hid e0
      have E7 := Lib.hid e7
      clear e0 e7
      go_simp
      refine (KI6.out W).mono ?_
      rintro e W' ⟨rfl, hB⟩
      exact HK.out _ _ (by simp [layS, updV, lstV, Act.put, E0.out, E7.out]) (hJ.later hB)
    · have e8 : u 8 = .bool wide := hd 8 (by kernel_rfl)
      clear hd
      simp only [List.getElem_cons_succ, List.getElem_cons_zero]
      clear hl
      refine .inr ⟨rfl, fun K' hK => ?_⟩
      have HK := Lib.hid hK
      clear hK
      simp only [layS, Act.put, List.setIfInBounds_toArray, List.set_cons_succ, List.set_cons_zero, Nat.zero_add, Nat.reduceAdd, e8]
      have E8 := Lib.hid e8
      clear e8
      go_simp
      exact HK.out _ _ (by simp [layS, updV, lstV, Act.put, E8.out]) hJ
  intro W hJ
  simp only [layS, lstV, Act.put, List.setIfInBounds_toArray, List.set_cons_succ, List.set_cons_zero, Nat.zero_add, Nat.reduceAdd, List.getD_cons_zero, List.getD_cons_succ, List.drop_succ_cons, List.drop_zero, List.drop_nil]
  go_wp2
  refine wp_region_vals 6 [some 74, some 75, some 76, some 77, some 78, some 21] (lstV [.agg #[.int .i64 x.lo, .int .i64 x.hi, .bool x.all], .agg #[.int .i64 0, .int .i64 0, .bool false], .agg #[.int .i64 0, .int .i64 0, .bool false], .agg #[.int .i64 lineS.lo, .int .i64 lineS.hi, .bool lineS.all], .bool true, .bool true]) (fun W => Bs w W [x, y]) (by kernel_rfl) (by kernel_rfl) (by decide) (hJ.drew) ?_ ?_
  · intro i hl hi u W hJ hd
    obtain rfl | rfl | rfl | rfl | rfl | rfl : i = 0 ∨ i = 1 ∨ i = 2 ∨ i = 3 ∨ i = 4 ∨ i = 5 := by omega
    · skip
      clear hd
      simp only [List.getElem_cons_succ, List.getElem_cons_zero]
      clear hl
      refine .inr ⟨rfl, fun K' hK => ?_⟩
      have HK := Lib.hid hK
      clear hK
      simp only [layS, Act.put, List.setIfInBounds_toArray, List.set_cons_succ, List.set_cons_zero, Nat.zero_add, Nat.reduceAdd]
      have c00 := hJ.c0.1
      have c01 := hJ.c0.2.1
      have c02 := hJ.c0.2.2.1
      go_simp
      exact HK.out _ _ (by simp [layS, updV, lstV, Act.put]) hJ
    · skip
      clear hd
      simp only [List.getElem_cons_succ, List.getElem_cons_zero]
      clear hl
      refine .inr ⟨rfl, fun K' hK => ?_⟩
      have HK := Lib.hid hK
      clear hK
      simp only [layS, Act.put, List.setIfInBounds_toArray, List.set_cons_succ, List.set_cons_zero, Nat.zero_add, Nat.reduceAdd]
      go_simp
      refine (sOf_at (a := 0) (b := 0) (z := ⟨0, 0, false⟩) rfl W).mono ?_
      rintro e W' ⟨rfl, hB⟩
      exact HK.out _ _ (by simp [layS, updV, lstV, Act.put]) (hJ.later hB)
    · skip
      clear hd
      simp only [List.getElem_cons_succ, List.getElem_cons_zero]
      clear hl
      refine .inr ⟨rfl, fun K' hK => ?_⟩
      have HK := Lib.hid hK
      clear hK
      simp only [layS, Act.put, List.setIfInBounds_toArray, List.set_cons_succ, List.set_cons_zero, Nat.zero_add, Nat.reduceAdd]
      go_simp
      refine (sOf_at (a := 0) (b := 0) (z := ⟨0, 0, false⟩) rfl W).mono ?_
      rintro e W' ⟨rfl, hB⟩
      exact HK.out _ _ (by simp [layS, updV, lstV, Act.put]) (hJ.later hB)
    · have e1 : u 1 = .agg #[.int .i64 0, .int .i64 0, .bool false] := hd 1 (by kernel_rfl)
      have e2 : u 2 = .agg #[.int .i64 0, .int .i64 0, .bool false] := hd 2 (by kernel_rfl)
      clear hd
      simp only [List.getElem_cons_succ, List.getElem_cons_zero]
      clear hl
      refine .inr ⟨rfl, fun K' hK => ?_⟩
      have HK := Lib.hid hK
      clear hK
      simp only [layS, Act.put, List.setIfInBounds_toArray, List.set_cons_succ, List.set_cons_zero, Nat.zero_add, Nat.reduceAdd, e1, e2]
      have E1 := Lib.hid e1
      have E2 := Lib.hid e2
      clear e1 e2
      go_simp
      refine (sDiv_at (x := ⟨0, 0, false⟩) (y := ⟨0, 0, false⟩) (z := lineS) rfl W).mono ?_
      rintro e W' ⟨rfl, hB⟩
      exact HK.out _ _ (by simp [layS, updV, lstV, Act.put, E1.out, E2.out]) (hJ.later hB)
    · have e0 : u 0 = .agg #[.int .i64 x.lo, .int .i64 x.hi, .bool x.all] := hd 0 (by kernel_rfl)
      have e3 : u 3 = .agg #[.int .i64 lineS.lo, .int .i64 lineS.hi, .bool lineS.all] := hd 3 (by kernel_rfl)
      clear hd
      simp only [List.getElem_cons_succ, List.getElem_cons_zero]
      clear hl
      refine .inr ⟨rfl, fun K' hK => ?_⟩
      have HK := Lib.hid hK
      clear hK
      simp only [layS, Act.put, List.setIfInBounds_toArray, List.set_cons_succ, List.set_cons_zero, Nat.zero_add, Nat.reduceAdd, e0, e3]
      have E0 := Lib.hid e0
      have E3 := Lib.hid e3
      clear e0 e3
      go_simp
      refine (KI7.out W).mono ?_
      rintro e W' ⟨rfl, hB⟩
      exact HK.out _ _ (by simp [layS, updV, lstV, Act.put, E0.out, E3.out]) (hJ.later hB)
    · have e4 : u 4 = .bool true := hd 4 (by kernel_rfl)
      clear hd
      simp only [List.getElem_cons_succ, List.getElem_cons_zero]
      clear hl
      refine .inr ⟨rfl, fun K' hK => ?_⟩
      have HK := Lib.hid hK
      clear hK
      simp only [layS, Act.put, List.setIfInBounds_toArray, List.set_cons_succ, List.set_cons_zero, Nat.zero_add, Nat.reduceAdd, e4]
      have E4 := Lib.hid e4
      clear e4
      go_simp
      exact HK.out _ _ (by simp [layS, updV, lstV, Act.put, E4.out]) hJ
  intro W hJ
  simp only [layS, lstV, Act.put, List.setIfInBounds_toArray, List.set_cons_succ, List.set_cons_zero, Nat.zero_add, Nat.reduceAdd, List.getD_cons_zero, List.getD_cons_succ, List.drop_succ_cons, List.drop_zero, List.drop_nil]
  rcases HW.out with rfl | ⟨rfl, rfl⟩ | ⟨rfl, hr, hl⟩
  · cases p2
    all_goals
      go_wp2
      go_ret
      exact ⟨rfl, hJ.below⟩
  · cases p2
    all_goals
      go_wp2
      go_ret
      exact ⟨rfl, hJ.below⟩
  · have hl' : decide (d - r < -2147483647) = true := decide_eq_true hl
    cases p2
    all_goals
      go_wp2
      go_ret
      exact ⟨rfl, hJ.below⟩
theorem meet_in {x y : Sp} (h : meetB x y = true) : inB (meetS x y) x = true ∧ inB (meetS x y) y = true := by
  unfold meetB at h
  cases hx : okB x
  · have e : meetS x y = mkS y := by unfold meetS; rw [hx]; rfl
    have e1 : ∀ z, inB z x = true := fun z => by unfold inB; rw [hx]; rfl
    refine ⟨e1 _, ?_⟩
    rw [e]
    cases hy : okB y
    · unfold inB; rw [hy]; rfl
    · rw [mkS_ok hy, in_ok hy]; exact ⟨hy, Int.le_refl _, Int.le_refl _⟩
  · cases hy : okB y
    · have e : meetS x y = x := by unfold meetS; rw [hx, hy]; rfl
      rw [e]
      refine ⟨(in_ok hx).2 ⟨hx, Int.le_refl _, Int.le_refl _⟩, ?_⟩
      unfold inB; rw [hy]; rfl
    · rw [hx, hy] at h
      simp only [Bool.not_true, Bool.false_or, decide_eq_true_eq] at h
      have kx := ok_of hx
      have ky := ok_of hy
      have e : meetS x y = ⟨max x.lo y.lo, min x.hi y.hi, false⟩ := by unfold meetS; rw [hx, hy]; simp only [if_true]; rw [if_pos h]
      have hk : okB ⟨max x.lo y.lo, min x.hi y.hi, false⟩ = true := ok_mk (by show _ ≤ max x.lo y.lo; omega) h (by show min x.hi y.hi ≤ _; omega) rfl
      rw [e, in_ok hx, in_ok hy]
      exact ⟨⟨hk, by show _ ≤ max x.lo y.lo; omega, by show min x.hi y.hi ≤ _; omega⟩, ⟨hk, by show _ ≤ max x.lo y.lo; omega, by show min x.hi y.hi ≤ _; omega⟩⟩
theorem meet_has (x y : Sp) (n : Int) : (hasB x n && hasB y n) = (meetB x y && hasB (meetS x y) n) := by
  cases hx : okB x
  · have e : meetS x y = mkS y := by unfold meetS; rw [hx]; rfl
    have e1 : hasB x n = true := by unfold hasB; rw [hx]; rfl
    have e2 : meetB x y = true := by unfold meetB; rw [hx]; rfl
    rw [e, e1, e2]
    cases hy : okB y
    · have e3 : hasB y n = true := by unfold hasB; rw [hy]; rfl
      rw [e3, mkS_no hy]; rfl
    · rw [mkS_ok hy]
  · cases hy : okB y
    · have e : meetS x y = x := by unfold meetS; rw [hx, hy]; rfl
      have e1 : hasB y n = true := by unfold hasB; rw [hy]; rfl
      have e2 : meetB x y = true := by unfold meetB; rw [hx, hy]; rfl
      rw [e, e1, e2, Bool.and_true, Bool.true_and]
    · have kx := ok_of hx
      have ky := ok_of hy
      have e1 : hasB x n = (decide (x.lo ≤ n) && decide (n ≤ x.hi)) := by unfold hasB; rw [hx]; rfl
      have e2 : hasB y n = (decide (y.lo ≤ n) && decide (n ≤ y.hi)) := by unfold hasB; rw [hy]; rfl
      have e3 : meetB x y = decide (max x.lo y.lo ≤ min x.hi y.hi) := by unfold meetB; rw [hx, hy]; rfl
      rw [e1, e2, e3]
      by_cases h : max x.lo y.lo ≤ min x.hi y.hi
      · have e : meetS x y = ⟨max x.lo y.lo, min x.hi y.hi, false⟩ := by unfold meetS; rw [hx, hy]; simp only [if_true]; rw [if_pos h]
        have hk : okB ⟨max x.lo y.lo, min x.hi y.hi, false⟩ = true := ok_mk (by show _ ≤ max x.lo y.lo; omega) h (by show min x.hi y.hi ≤ _; omega) rfl
        rw [e]
        unfold hasB
        rw [hk]
        rw [Bool.eq_iff_iff]
        simp only [Bool.not_true, Bool.false_or, Bool.and_eq_true, decide_eq_true_eq]
        omega
      · rw [decide_eq_false h, Bool.false_and]
        rw [← Bool.not_eq_true]
        simp only [Bool.and_eq_true, decide_eq_true_eq]
        omega
theorem join_left (x y : Sp) : inB x (joinS x y) = true ∧ inB y (joinS x y) = true := by
  cases h : (okB x && okB y)
  · rw [join_no h]; exact ⟨in_line _, in_line _⟩
  · have hD : okB (joinS x y) = true := by rw [okB_join, h]
    rw [Bool.and_eq_true] at h
    rw [in_ok hD, in_ok hD, join_ok h.1 h.2]
    exact ⟨⟨h.1, by show min x.lo y.lo ≤ _; omega, by show _ ≤ max x.hi y.hi; omega⟩, ⟨h.2, by show min x.lo y.lo ≤ _; omega, by show _ ≤ max x.hi y.hi; omega⟩⟩
theorem mid_has (x : Sp) : hasB x (midS x) = true := by
  unfold hasB midS
  cases hx : okB x
  · rfl
  · have kx := ok_of hx
    simp only [Bool.not_true, Bool.false_or, if_true, Bool.and_eq_true, decide_eq_true_eq]
    omega
theorem rad_bd (x : Sp) : 0 ≤ radS x ∧ radS x ≤ 4294967294 := by
  unfold radS
  cases hx : okB x
  · simp
  · have kx := ok_of hx
    simp only [if_true]
    omega
theorem wide_or (x : Sp) : inB x (ofS (midS x - radS x) (midS x + radS x)) = true ∨ (inB x (ofS (midS x - radS x) (midS x + radS x)) = false ∧ radS x = 2147483647) ∨ (inB x (ofS (midS x - radS x) (midS x + radS x)) = false ∧ (radS x == 2147483647) = false ∧ midS x - radS x < -2147483647) := by
  cases hi : inB x (ofS (midS x - radS x) (midS x + radS x))
  · right
    by_cases hr : radS x = 2147483647
    · exact .inl ⟨rfl, hr⟩
    · refine .inr ⟨rfl, by simpa using hr, ?_⟩
      cases hx : okB x
      · exact absurd (by unfold radS; rw [hx]; rfl) hr
      · have kx := ok_of hx
        have em : midS x = (x.lo + x.hi) / 2 := by unfold midS; rw [hx]; rfl
        have er : radS x = x.hi - (x.lo + x.hi) / 2 := by unfold radS; rw [hx]; rfl
        have hb := rad_bd x
        refine Int.lt_of_not_ge fun hc => ?_
        rw [ofS_le (by omega)] at hi
        have hk : okB ⟨midS x - radS x, midS x + radS x, false⟩ = true := ok_mk hc (by show midS x - radS x ≤ midS x + radS x; omega) (by show midS x + radS x ≤ _; omega) rfl
        rw [mkS_ok hk] at hi
        rw [(in_ok hk).2 ⟨hx, by show midS x - radS x ≤ _; omega, by show _ ≤ midS x + radS x; omega⟩] at hi
        cases hi
  · exact .inl rfl
theorem SpanMeets_any (x y : Sp) (n : Int) (w : World) : Calls Try.prog 9 #[.agg #[.int .i64 x.lo, .int .i64 x.hi, .bool x.all], .agg #[.int .i64 y.lo, .int .i64 y.hi, .bool y.all], .int .i64 n] w (PVal (.bool true) w) := by
  have hj := join_left x y
  have hm := mid_bd x
  have hr := rad_bd x
  have hh := meet_has x y n
  have hl : inB x lineS = true := in_line x
  cases h1 : hasB x n <;> cases h2 : meetB x y
  · exact Meets_A x y _ _ _ n _ _ _ _ _ _ _ (Meet_at rfl h2) (In_any _ _) (In_any _ _) (Has_at h1) (Has_any _ _) (Has_any _ _) (Join_any _ _) (In_at hj.1) (In_at hj.2) (Mid_any _) (Rad_any _) (Has_at (mid_has x)) (sOf_any _ _) (In_any _ _) (In_at hl) hm.1 hm.2 hr.1 hr.2 (wide_or x) w
  · have hi := meet_in h2
    rw [h1, h2, Bool.false_and, Bool.true_and] at hh
    exact Meets_B x y _ _ _ n _ _ _ _ (Meet_at rfl h2) (In_at hi.1) (In_at hi.2) (Has_at h1) (Has_any _ _) (Has_at hh.symm) (Join_any _ _) (In_at hj.1) (In_at hj.2) (Mid_any _) (Rad_any _) (Has_at (mid_has x)) (sOf_any _ _) (In_any _ _) (In_at hl) hm.1 hm.2 hr.1 hr.2 (wide_or x) w
  · rw [h1, h2, Bool.true_and, Bool.false_and] at hh
    exact Meets_C x y _ _ _ n _ _ _ _ _ _ (Meet_at rfl h2) (In_any _ _) (In_any _ _) (Has_at h1) (Has_at hh) (Has_any _ _) (Join_any _ _) (In_at hj.1) (In_at hj.2) (Mid_any _) (Rad_any _) (Has_at (mid_has x)) (sOf_any _ _) (In_any _ _) (In_at hl) hm.1 hm.2 hr.1 hr.2 (wide_or x) w
  · have hi := meet_in h2
    rw [h1, h2, Bool.true_and, Bool.true_and] at hh
    exact Meets_D x y _ _ _ n _ _ _ _ (Meet_at rfl h2) (In_at hi.1) (In_at hi.2) (Has_at h1) (Has_any _ _) (Has_at hh.symm) (Join_any _ _) (In_at hj.1) (In_at hj.2) (Mid_any _) (Rad_any _) (Has_at (mid_has x)) (sOf_any _ _) (In_any _ _) (In_at hl) hm.1 hm.2 hr.1 hr.2 (wide_or x) w
end Go.Proofs.Ytpacbipencmjnaa
