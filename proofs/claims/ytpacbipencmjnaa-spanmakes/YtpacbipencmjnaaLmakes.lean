/- The walk of the law SpanMakes. -/
import Derived.Test.YtpacbipencmjnaaSh
import Derived.Test.YtpacbipencmjnaaSr
import Derived.Test.YtpacbipencmjnaaRegx
namespace Go.Proofs.Ytpacbipencmjnaa
open Go.RowKit
attribute [local go_sem ↓] run_eqlS run_neqS run_eqlD run_neqD

set_option maxRecDepth 100000 in
set_option maxHeartbeats 12800000 in
theorem Makes_w (x y o j m : Sp) (n d r : Int) (h i is : Bool) (HDX : ∀ W : World, Calls Try.prog 11 #[.agg #[.int .i64 x.lo, .int .i64 x.hi, .bool x.all]] W (PDp x W)) (HDY : ∀ W : World, Calls Try.prog 11 #[.agg #[.int .i64 y.lo, .int .i64 y.hi, .bool y.all]] W (PDp y W)) (HOF : ∀ W : World, Calls Try.prog 12 #[.int .i64 x.lo, .int .i64 y.hi] W (PSp o W)) (HDO : ∀ W : World, Calls Try.prog 11 #[.agg #[.int .i64 o.lo, .int .i64 o.hi, .bool o.all]] W (PDp o W)) (HHA : ∀ W : World, Calls Try.prog 13 #[.agg #[.int .i64 x.lo, .int .i64 x.hi, .bool x.all], .int .i64 n] W (PVal (.bool h) W)) (HIN : ∀ W : World, Calls Try.prog 14 #[.agg #[.int .i64 x.lo, .int .i64 x.hi, .bool x.all], .agg #[.int .i64 y.lo, .int .i64 y.hi, .bool y.all]] W (PVal (.bool i) W)) (HJO : ∀ W : World, Calls Try.prog 15 #[.agg #[.int .i64 x.lo, .int .i64 x.hi, .bool x.all], .agg #[.int .i64 y.lo, .int .i64 y.hi, .bool y.all]] W (PSp j W)) (HDJ : ∀ W : World, Calls Try.prog 11 #[.agg #[.int .i64 j.lo, .int .i64 j.hi, .bool j.all]] W (PDp j W)) (HME : ∀ W : World, Calls Try.prog 16 #[.agg #[.int .i64 x.lo, .int .i64 x.hi, .bool x.all], .agg #[.int .i64 y.lo, .int .i64 y.hi, .bool y.all]] W (PSp2 m is W)) (HRM : ∀ W : World, Calls Try.prog 17 #[.agg #[.int .i64 x.lo, .int .i64 x.hi, .bool x.all], .agg #[.int .i64 y.lo, .int .i64 y.hi, .bool y.all]] W (PDp2 m is W)) (HMI : ∀ W : World, Calls Try.prog 18 #[.agg #[.int .i64 x.lo, .int .i64 x.hi, .bool x.all]] W (PVal (.int .i64 d) W)) (HRA : ∀ W : World, Calls Try.prog 19 #[.agg #[.int .i64 x.lo, .int .i64 x.hi, .bool x.all]] W (PVal (.int .i64 r) W)) (HRO : ∀ W : World, Calls Try.prog 20 #[.int .i64 x.lo, .int .i64 y.hi] W (PDp o W)) (HRH : ∀ W : World, Calls Try.prog 21 #[.agg #[.int .i64 x.lo, .int .i64 x.hi, .bool x.all], .int .i64 n] W (PVal (.bool h) W)) (HRI : ∀ W : World, Calls Try.prog 22 #[.agg #[.int .i64 x.lo, .int .i64 x.hi, .bool x.all], .agg #[.int .i64 y.lo, .int .i64 y.hi, .bool y.all]] W (PVal (.bool i) W)) (HRJ : ∀ W : World, Calls Try.prog 23 #[.agg #[.int .i64 x.lo, .int .i64 x.hi, .bool x.all], .agg #[.int .i64 y.lo, .int .i64 y.hi, .bool y.all]] W (PDp j W)) (HDM : ∀ W : World, Calls Try.prog 11 #[.agg #[.int .i64 m.lo, .int .i64 m.hi, .bool m.all]] W (PDp m W)) (HRD : ∀ W : World, Calls Try.prog 24 #[.agg #[.int .i64 x.lo, .int .i64 x.hi, .bool x.all]] W (PVal (.int .i64 d) W)) (HRR : ∀ W : World, Calls Try.prog 25 #[.agg #[.int .i64 x.lo, .int .i64 x.hi, .bool x.all]] W (PVal (.int .i64 r) W)) (w : World) :
    Calls Try.prog 3 #[.agg #[.int .i64 x.lo, .int .i64 x.hi, .bool x.all], .agg #[.int .i64 y.lo, .int .i64 y.hi, .bool y.all], .int .i64 n] w (PVal (.bool true) w) := by
  have KDX := Lib.hid HDX
  clear HDX
  have KDY := Lib.hid HDY
  clear HDY
  have KOF := Lib.hid HOF
  clear HOF
  have KDO := Lib.hid HDO
  clear HDO
  have KHA := Lib.hid HHA
  clear HHA
  have KIN := Lib.hid HIN
  clear HIN
  have KJO := Lib.hid HJO
  clear HJO
  have KDJ := Lib.hid HDJ
  clear HDJ
  have KME := Lib.hid HME
  clear HME
  have KRM := Lib.hid HRM
  clear HRM
  have KMI := Lib.hid HMI
  clear HMI
  have KRA := Lib.hid HRA
  clear HRA
  have KRO := Lib.hid HRO
  clear HRO
  have KRH := Lib.hid HRH
  clear HRH
  have KRI := Lib.hid HRI
  clear HRI
  have KRJ := Lib.hid HRJ
  clear HRJ
  have KDM := Lib.hid HDM
  clear HDM
  have KRD := Lib.hid HRD
  clear HRD
  have KRR := Lib.hid HRR
  clear HRR
  go_enter Try.func3, Try.ntmps3
  go_wp2_with fail
  have hJ := bs2 w x.lo x.hi x.all y.lo y.hi y.all
  generalize (w.alloc (.cells #[.int .i64 x.lo, .int .i64 x.hi, .bool x.all] 23)).alloc (.cells #[.int .i64 y.lo, .int .i64 y.hi, .bool y.all] 23) = w1 at *
  refine (sawake_any _).mono ?_
  rintro e W1 ⟨rfl, hB⟩
  replace hJ := hJ.later hB
  clear hB
  have f00 := hJ.c0.1
  have f01 := hJ.c0.2.1
  have f02 := hJ.c0.2.2.1
  have fz0 : w.heap.size < W1.heap.size := by have := hJ.sz; simp only [List.length_cons, List.length_nil] at this; omega
  go_wp2_with fail
  refine (KDX.out _).mono ?_
  rintro e W2 ⟨rfl, hB⟩
  replace hJ := hJ.later hB
  clear f00 f01 f02 fz0
  clear hB
  have f10 := hJ.c1.1
  have f11 := hJ.c1.2.1
  have f12 := hJ.c1.2.2.1
  have fz1 : w.heap.size + 1 < W2.heap.size := by have := hJ.sz; simp only [List.length_cons, List.length_nil] at this; omega
  go_wp2_with fail
  refine (KDY.out _).mono ?_
  rintro e W3 ⟨rfl, hB⟩
  have ka := (d3_new W2 x).below hB
  have hx : Below W2.heap.size W2 W3 := ((Below.refl _ _).alloc (Nat.le_refl _) _).trans (hB.mono (by simp))
  replace hJ := hJ.later hx
  clear f10 f11 f12 fz1
  clear hB hx
  generalize W2.heap.size = ba at *
  have f00 := hJ.c0.1
  have f01 := hJ.c0.2.1
  have f02 := hJ.c0.2.2.1
  have f10 := hJ.c1.1
  have f11 := hJ.c1.2.1
  have f12 := hJ.c1.2.2.1
  have fz0 : w.heap.size < W3.heap.size := by have := hJ.sz; simp only [List.length_cons, List.length_nil] at this; omega
  have fz1 : w.heap.size + 1 < W3.heap.size := by have := hJ.sz; simp only [List.length_cons, List.length_nil] at this; omega
  go_wp2_with fail
  refine (KOF.out _).mono ?_
  rintro e W4 ⟨rfl, hB⟩
  have kb := (d3_new W3 y).below hB
  have hx : Below W3.heap.size W3 W4 := ((Below.refl _ _).alloc (Nat.le_refl _) _).trans (hB.mono (by simp))
  replace hJ := hJ.later hx
  replace ka := ka.below hx
  clear f00 f01 f02 f10 f11 f12 fz0 fz1
  clear hB hx
  generalize W3.heap.size = bb at *
  go_wp2_with fail
  refine (KDO.out _).mono ?_
  rintro e W5 ⟨rfl, hB⟩
  replace hJ := hJ.later hB
  replace ka := ka.below hB
  replace kb := kb.below hB
  clear hB
  have f00 := hJ.c0.1
  have f01 := hJ.c0.2.1
  have f02 := hJ.c0.2.2.1
  have fz0 : w.heap.size < W5.heap.size := by have := hJ.sz; simp only [List.length_cons, List.length_nil] at this; omega
  go_wp2_with fail
  refine (KHA.out _).mono ?_
  rintro e W6 ⟨rfl, hB⟩
  have ko := (d3_new W5 o).below hB
  have hx : Below W5.heap.size W5 W6 := ((Below.refl _ _).alloc (Nat.le_refl _) _).trans (hB.mono (by simp))
  replace hJ := hJ.later hx
  replace ka := ka.below hx
  replace kb := kb.below hx
  clear f00 f01 f02 fz0
  clear hB hx
  generalize W5.heap.size = bo at *
  have f00 := hJ.c0.1
  have f01 := hJ.c0.2.1
  have f02 := hJ.c0.2.2.1
  have f10 := hJ.c1.1
  have f11 := hJ.c1.2.1
  have f12 := hJ.c1.2.2.1
  have fz0 : w.heap.size < W6.heap.size := by have := hJ.sz; simp only [List.length_cons, List.length_nil] at this; omega
  have fz1 : w.heap.size + 1 < W6.heap.size := by have := hJ.sz; simp only [List.length_cons, List.length_nil] at this; omega
  go_wp2_with fail
  refine (KIN.out _).mono ?_
  rintro e W7 ⟨rfl, hB⟩
  replace hJ := hJ.later hB
  replace ka := ka.below hB
  replace kb := kb.below hB
  replace ko := ko.below hB
  clear f00 f01 f02 f10 f11 f12 fz0 fz1
  clear hB
  have f00 := hJ.c0.1
  have f01 := hJ.c0.2.1
  have f02 := hJ.c0.2.2.1
  have f10 := hJ.c1.1
  have f11 := hJ.c1.2.1
  have f12 := hJ.c1.2.2.1
  have fz0 : w.heap.size < W7.heap.size := by have := hJ.sz; simp only [List.length_cons, List.length_nil] at this; omega
  have fz1 : w.heap.size + 1 < W7.heap.size := by have := hJ.sz; simp only [List.length_cons, List.length_nil] at this; omega
  go_wp2_with fail
  refine (KJO.out _).mono ?_
  rintro e W8 ⟨rfl, hB⟩
  replace hJ := hJ.later hB
  replace ka := ka.below hB
  replace kb := kb.below hB
  replace ko := ko.below hB
  clear f00 f01 f02 f10 f11 f12 fz0 fz1
  clear hB
  go_wp2_with fail
  refine (KDJ.out _).mono ?_
  rintro e W9 ⟨rfl, hB⟩
  replace hJ := hJ.later hB
  replace ka := ka.below hB
  replace kb := kb.below hB
  replace ko := ko.below hB
  clear hB
  have f00 := hJ.c0.1
  have f01 := hJ.c0.2.1
  have f02 := hJ.c0.2.2.1
  have f10 := hJ.c1.1
  have f11 := hJ.c1.2.1
  have f12 := hJ.c1.2.2.1
  have fz0 : w.heap.size < W9.heap.size := by have := hJ.sz; simp only [List.length_cons, List.length_nil] at this; omega
  have fz1 : w.heap.size + 1 < W9.heap.size := by have := hJ.sz; simp only [List.length_cons, List.length_nil] at this; omega
  go_wp2_with fail
  refine (KME.out _).mono ?_
  rintro e W10 ⟨rfl, hB⟩
  have kj := (d3_new W9 j).below hB
  have hx : Below W9.heap.size W9 W10 := ((Below.refl _ _).alloc (Nat.le_refl _) _).trans (hB.mono (by simp))
  replace hJ := hJ.later hx
  replace ka := ka.below hx
  replace kb := kb.below hx
  replace ko := ko.below hx
  clear f00 f01 f02 f10 f11 f12 fz0 fz1
  clear hB hx
  generalize W9.heap.size = bj at *
  have fla : ba < W10.heap.size := (Array.getElem?_eq_some_iff.1 ka).1
  have fa0 := ka.cells.1
  have fa1 := ka.cells.2.1
  have fa2 := ka.cells.2.2.1
  have flb : bb < W10.heap.size := (Array.getElem?_eq_some_iff.1 kb).1
  have fb0 := kb.cells.1
  have fb1 := kb.cells.2.1
  have fb2 := kb.cells.2.2.1
  go_wp2_with fail
  refine (KRM.out _).mono ?_
  rintro e W11 ⟨rfl, hB⟩
  have km := (b3_new W10 m).below hB
  have hx : Below W10.heap.size W10 W11 := ((Below.refl _ _).alloc (Nat.le_refl _) _).trans (hB.mono (by simp))
  replace hJ := hJ.later hx
  replace ka := ka.below hx
  replace kb := kb.below hx
  replace ko := ko.below hx
  replace kj := kj.below hx
  clear fla fa0 fa1 fa2 flb fb0 fb1 fb2
  clear hB hx
  generalize W10.heap.size = bm at *
  have f00 := hJ.c0.1
  have f01 := hJ.c0.2.1
  have f02 := hJ.c0.2.2.1
  have fz0 : w.heap.size < W11.heap.size := by have := hJ.sz; simp only [List.length_cons, List.length_nil] at this; omega
  go_wp2_with fail
  refine (KMI.out _).mono ?_
  rintro e W12 ⟨rfl, hB⟩
  have kz := (d3_new W11 m).below hB
  have hx : Below W11.heap.size W11 W12 := ((Below.refl _ _).alloc (Nat.le_refl _) _).trans (hB.mono (by simp))
  replace hJ := hJ.later hx
  replace ka := ka.below hx
  replace kb := kb.below hx
  replace ko := ko.below hx
  replace kj := kj.below hx
  replace km := km.below hx
  clear f00 f01 f02 fz0
  clear hB hx
  generalize W11.heap.size = bz at *
  have f00 := hJ.c0.1
  have f01 := hJ.c0.2.1
  have f02 := hJ.c0.2.2.1
  have fz0 : w.heap.size < W12.heap.size := by have := hJ.sz; simp only [List.length_cons, List.length_nil] at this; omega
  go_wp2_with fail
  refine (KRA.out _).mono ?_
  rintro e W13 ⟨rfl, hB⟩
  replace hJ := hJ.later hB
  replace ka := ka.below hB
  replace kb := kb.below hB
  replace ko := ko.below hB
  replace kj := kj.below hB
  replace km := km.below hB
  replace kz := kz.below hB
  clear f00 f01 f02 fz0
  clear hB
  go_wp2
  have hqo : eqS o.lo o.hi o.all o.lo o.hi o.all = true := eqS_same _ _ _
  have hqj : eqS j.lo j.hi j.all j.lo j.hi j.all = true := eqS_same _ _ _
  have hqm : eqS m.lo m.hi m.all m.lo m.hi m.all = true := eqS_same _ _ _
  refine wp_region_valsX 55 [some 57, some 58, some 59, some 60, some 61, some 62, some 63, some 64, some 65, some 66, some 67, some 68, some 69, some 70, some 71, some 72, some 73, some 74, some 75, some 76, some 77, some 78, some 79, some 80, some 81, some 82, some 83, some 84, some 85, some 86, some 87, some 88, some 89, some 90, some 91, some 92, some 93, some 94, some 95, some 96, some 97, some 98, some 99, some 100, some 101, some 102, some 103, some 104, some 105, some 106, some 107, some 108, some 109, some 110, some 6] (lstV [.bool true, .bool true, .agg #[.int .i64 o.lo, .int .i64 o.hi, .bool o.all], .pointer (some ⟨w.heap.size, 0, none⟩), .int .i64 x.lo, .pointer (some ⟨w.heap.size + 1, 1, none⟩), .int .i64 y.hi, .agg #[.int .i64 o.lo, .int .i64 o.hi, .bool o.all], .bool true, .bool true, .bool true, .bool h, .agg #[.int .i64 x.lo, .int .i64 x.hi, .bool x.all], .int .i64 n, .bool h, .bool true, .bool true, .bool true, .bool i, .agg #[.int .i64 x.lo, .int .i64 x.hi, .bool x.all], .agg #[.int .i64 y.lo, .int .i64 y.hi, .bool y.all], .bool i, .bool true, .bool true, .bool true, .agg #[.int .i64 j.lo, .int .i64 j.hi, .bool j.all], .agg #[.int .i64 x.lo, .int .i64 x.hi, .bool x.all], .agg #[.int .i64 y.lo, .int .i64 y.hi, .bool y.all], .agg #[.int .i64 j.lo, .int .i64 j.hi, .bool j.all], .bool true, .bool true, .bool true, .agg #[.int .i64 m.lo, .int .i64 m.hi, .bool m.all], .agg #[.int .i64 m.lo, .int .i64 m.hi, .bool m.all], .agg #[.int .i64 m.lo, .int .i64 m.hi, .bool m.all], .bool true, .bool true, .bool true, .bool is, .bool is, .bool true, .bool true, .bool true, .int .i64 d, .agg #[.int .i64 x.lo, .int .i64 x.hi, .bool x.all], .int .i64 d, .bool true, .bool true, .bool true, .int .i64 r, .agg #[.int .i64 x.lo, .int .i64 x.hi, .bool x.all], .int .i64 r, .bool true, .bool true, .bool true]) (fun W => Bs w W [x, y] ∧ D3 W ba x ∧ D3 W bb y ∧ D3 W bo o ∧ D3 W bj j ∧ B3 W bm m ∧ D3 W bz m) (by kernel_rfl) (by kernel_rfl) (by rfl) (by decide) (by rfl) (⟨hJ.drew, ka, kb, ko, kj, km, kz⟩) ?_ ?_
  · intro i hl hi u W A hJ hd hev hin
    obtain rfl | rfl | rfl | rfl | rfl | rfl | rfl | rfl | rfl | rfl | rfl | rfl | rfl | rfl | rfl | rfl | rfl | rfl | rfl | rfl | rfl | rfl | rfl | rfl | rfl | rfl | rfl | rfl | rfl | rfl | rfl | rfl | rfl | rfl | rfl | rfl | rfl | rfl | rfl | rfl | rfl | rfl | rfl | rfl | rfl | rfl | rfl | rfl | rfl | rfl | rfl | rfl | rfl | rfl | rfl : i = 0 ∨ i = 1 ∨ i = 2 ∨ i = 3 ∨ i = 4 ∨ i = 5 ∨ i = 6 ∨ i = 7 ∨ i = 8 ∨ i = 9 ∨ i = 10 ∨ i = 11 ∨ i = 12 ∨ i = 13 ∨ i = 14 ∨ i = 15 ∨ i = 16 ∨ i = 17 ∨ i = 18 ∨ i = 19 ∨ i = 20 ∨ i = 21 ∨ i = 22 ∨ i = 23 ∨ i = 24 ∨ i = 25 ∨ i = 26 ∨ i = 27 ∨ i = 28 ∨ i = 29 ∨ i = 30 ∨ i = 31 ∨ i = 32 ∨ i = 33 ∨ i = 34 ∨ i = 35 ∨ i = 36 ∨ i = 37 ∨ i = 38 ∨ i = 39 ∨ i = 40 ∨ i = 41 ∨ i = 42 ∨ i = 43 ∨ i = 44 ∨ i = 45 ∨ i = 46 ∨ i = 47 ∨ i = 48 ∨ i = 49 ∨ i = 50 ∨ i = 51 ∨ i = 52 ∨ i = 53 ∨ i = 54 := by omega
    · skip
      have x7 : A.tmps[7]? = some (.bool true) := (hev 7 (by decide)).trans rfl
      clear hd hev hin
      simp only [List.getElem_cons_succ, List.getElem_cons_zero]
      clear hl
      refine .inr ⟨rfl, fun K' hK => ?_⟩
      have HK := Lib.hid hK
      clear hK
      go_simp
      exact HK.out _ hJ
    · skip
      have x57 : A.tmps[57]? = some (.bool true) := (hin 0 57 rfl).2.trans (congrArg some (hd 0 (by kernel_rfl)))
      clear hd hev hin
      simp only [List.getElem_cons_succ, List.getElem_cons_zero]
      clear hl
      refine .inr ⟨rfl, fun K' hK => ?_⟩
      have HK := Lib.hid hK
      clear hK
      go_simp
      exact HK.out _ hJ
    · skip
      have x10 : A.tmps[10]? = some (.pointer (some ⟨bo, 0, none⟩)) := (hev 10 (by decide)).trans rfl
      have y1 : A.tmps[58]? = some (.bool true) := (hin 1 58 rfl).2.trans (congrArg some (hd 1 (by kernel_rfl)))
      clear hd hev hin
      simp only [List.getElem_cons_succ, List.getElem_cons_zero]
      clear hl
      refine .inr ⟨?_, fun K' hK => ?_⟩
      · simp [Region.wanted, yielded, y1]
      clear y1
      have HK := Lib.hid hK
      clear hK
      have c0 := hJ.2.2.2.1.cells.1
      have c1 := hJ.2.2.2.1.cells.2.1
      have c2 := hJ.2.2.2.1.cells.2.2.1
      go_simp
      exact HK.out _ hJ
    · skip
      have x3 : A.tmps[3]? = some (.pointer (some ⟨w.heap.size, 0, none⟩)) := (hev 3 (by decide)).trans rfl
      have y1 : A.tmps[58]? = some (.bool true) := (hin 1 58 rfl).2.trans (congrArg some (hd 1 (by kernel_rfl)))
      clear hd hev hin
      simp only [List.getElem_cons_succ, List.getElem_cons_zero]
      clear hl
      refine .inr ⟨?_, fun K' hK => ?_⟩
      · simp [Region.wanted, yielded, y1]
      clear y1
      have HK := Lib.hid hK
      clear hK
      go_simp
      exact HK.out _ hJ
    · skip
      have x60 : A.tmps[60]? = some (.pointer (some ⟨w.heap.size, 0, none⟩)) := (hin 3 60 rfl).2.trans (congrArg some (hd 3 (by kernel_rfl)))
      have y1 : A.tmps[58]? = some (.bool true) := (hin 1 58 rfl).2.trans (congrArg some (hd 1 (by kernel_rfl)))
      clear hd hev hin
      simp only [List.getElem_cons_succ, List.getElem_cons_zero]
      clear hl
      refine .inr ⟨?_, fun K' hK => ?_⟩
      · simp [Region.wanted, yielded, y1]
      clear y1
      have HK := Lib.hid hK
      clear hK
      have c0 := hJ.1.c0.1
      go_simp
      exact HK.out _ hJ
    · skip
      have x4 : A.tmps[4]? = some (.pointer (some ⟨w.heap.size + 1, 0, none⟩)) := (hev 4 (by decide)).trans rfl
      have y1 : A.tmps[58]? = some (.bool true) := (hin 1 58 rfl).2.trans (congrArg some (hd 1 (by kernel_rfl)))
      clear hd hev hin
      simp only [List.getElem_cons_succ, List.getElem_cons_zero]
      clear hl
      refine .inr ⟨?_, fun K' hK => ?_⟩
      · simp [Region.wanted, yielded, y1]
      clear y1
      have HK := Lib.hid hK
      clear hK
      go_simp
      exact HK.out _ hJ
    · skip
      have x62 : A.tmps[62]? = some (.pointer (some ⟨w.heap.size + 1, 1, none⟩)) := (hin 5 62 rfl).2.trans (congrArg some (hd 5 (by kernel_rfl)))
      have y1 : A.tmps[58]? = some (.bool true) := (hin 1 58 rfl).2.trans (congrArg some (hd 1 (by kernel_rfl)))
      clear hd hev hin
      simp only [List.getElem_cons_succ, List.getElem_cons_zero]
      clear hl
      refine .inr ⟨?_, fun K' hK => ?_⟩
      · simp [Region.wanted, yielded, y1]
      clear y1
      have HK := Lib.hid hK
      clear hK
      have c0 := hJ.1.c1.2.1
      go_simp
      exact HK.out _ hJ
    · skip
      have x61 : A.tmps[61]? = some (.int .i64 x.lo) := (hin 4 61 rfl).2.trans (congrArg some (hd 4 (by kernel_rfl)))
      have x63 : A.tmps[63]? = some (.int .i64 y.hi) := (hin 6 63 rfl).2.trans (congrArg some (hd 6 (by kernel_rfl)))
      have y1 : A.tmps[58]? = some (.bool true) := (hin 1 58 rfl).2.trans (congrArg some (hd 1 (by kernel_rfl)))
      clear hd hev hin
      simp only [List.getElem_cons_succ, List.getElem_cons_zero]
      clear hl
      refine .inr ⟨?_, fun K' hK => ?_⟩
      · simp [Region.wanted, yielded, y1]
      clear y1
      have HK := Lib.hid hK
      clear hK
      go_simp
      refine (KRO.out W).mono ?_
      rintro e W' ⟨rfl, hB⟩
      exact HK.out _ (⟨hJ.1.later hB, hJ.2.1.below hB, hJ.2.2.1.below hB, hJ.2.2.2.1.below hB, hJ.2.2.2.2.1.below hB, hJ.2.2.2.2.2.1.below hB, hJ.2.2.2.2.2.2.below hB⟩)
    · skip
      have x59 : A.tmps[59]? = some (.agg #[.int .i64 o.lo, .int .i64 o.hi, .bool o.all]) := (hin 2 59 rfl).2.trans (congrArg some (hd 2 (by kernel_rfl)))
      have x64 : A.tmps[64]? = some (.agg #[.int .i64 o.lo, .int .i64 o.hi, .bool o.all]) := (hin 7 64 rfl).2.trans (congrArg some (hd 7 (by kernel_rfl)))
      have y1 : A.tmps[58]? = some (.bool true) := (hin 1 58 rfl).2.trans (congrArg some (hd 1 (by kernel_rfl)))
      clear hd hev hin
      simp only [List.getElem_cons_succ, List.getElem_cons_zero]
      clear hl
      refine .inr ⟨?_, fun K' hK => ?_⟩
      · simp [Region.wanted, yielded, y1]
      clear y1
      have HK := Lib.hid hK
      clear hK
      go_simp
      exact HK.out _ hJ
    · skip
      have x58 : A.tmps[58]? = some (.bool true) := (hin 1 58 rfl).2.trans (congrArg some (hd 1 (by kernel_rfl)))
      have x65 : A.tmps[65]? = some (.bool true) := (hin 8 65 rfl).2.trans (congrArg some (hd 8 (by kernel_rfl)))
      clear hd hev hin
      simp only [List.getElem_cons_succ, List.getElem_cons_zero]
      clear hl
      refine .inr ⟨rfl, fun K' hK => ?_⟩
      have HK := Lib.hid hK
      clear hK
      go_simp
      exact HK.out _ hJ
    · skip
      have x66 : A.tmps[66]? = some (.bool true) := (hin 9 66 rfl).2.trans (congrArg some (hd 9 (by kernel_rfl)))
      clear hd hev hin
      simp only [List.getElem_cons_succ, List.getElem_cons_zero]
      clear hl
      refine .inr ⟨rfl, fun K' hK => ?_⟩
      have HK := Lib.hid hK
      clear hK
      go_simp
      exact HK.out _ hJ
    · skip
      have x11 : A.tmps[11]? = some (.bool h) := (hev 11 (by decide)).trans rfl
      have y10 : A.tmps[67]? = some (.bool true) := (hin 10 67 rfl).2.trans (congrArg some (hd 10 (by kernel_rfl)))
      clear hd hev hin
      simp only [List.getElem_cons_succ, List.getElem_cons_zero]
      clear hl
      refine .inr ⟨?_, fun K' hK => ?_⟩
      · simp [Region.wanted, yielded, y10]
      clear y10
      have HK := Lib.hid hK
      clear hK
      go_simp
      exact HK.out _ hJ
    · skip
      have x8 : A.tmps[8]? = some (.pointer (some ⟨ba, 0, none⟩)) := (hev 8 (by decide)).trans rfl
      have y10 : A.tmps[67]? = some (.bool true) := (hin 10 67 rfl).2.trans (congrArg some (hd 10 (by kernel_rfl)))
      clear hd hev hin
      simp only [List.getElem_cons_succ, List.getElem_cons_zero]
      clear hl
      refine .inr ⟨?_, fun K' hK => ?_⟩
      · simp [Region.wanted, yielded, y10]
      clear y10
      have HK := Lib.hid hK
      clear hK
      have c0 := hJ.2.1.cells.1
      have c1 := hJ.2.1.cells.2.1
      have c2 := hJ.2.1.cells.2.2.1
      go_simp
      exact HK.out _ hJ
    · skip
      have x2 : A.tmps[2]? = some (.int .i64 n) := (hev 2 (by decide)).trans rfl
      have y10 : A.tmps[67]? = some (.bool true) := (hin 10 67 rfl).2.trans (congrArg some (hd 10 (by kernel_rfl)))
      clear hd hev hin
      simp only [List.getElem_cons_succ, List.getElem_cons_zero]
      clear hl
      refine .inr ⟨?_, fun K' hK => ?_⟩
      · simp [Region.wanted, yielded, y10]
      clear y10
      have HK := Lib.hid hK
      clear hK
      go_simp
      exact HK.out _ hJ
    · skip
      have x69 : A.tmps[69]? = some (.agg #[.int .i64 x.lo, .int .i64 x.hi, .bool x.all]) := (hin 12 69 rfl).2.trans (congrArg some (hd 12 (by kernel_rfl)))
      have x70 : A.tmps[70]? = some (.int .i64 n) := (hin 13 70 rfl).2.trans (congrArg some (hd 13 (by kernel_rfl)))
      have y10 : A.tmps[67]? = some (.bool true) := (hin 10 67 rfl).2.trans (congrArg some (hd 10 (by kernel_rfl)))
      clear hd hev hin
      simp only [List.getElem_cons_succ, List.getElem_cons_zero]
      clear hl
      refine .inr ⟨?_, fun K' hK => ?_⟩
      · simp [Region.wanted, yielded, y10]
      clear y10
      have HK := Lib.hid hK
      clear hK
      go_simp
      refine (KRH.out W).mono ?_
      rintro e W' ⟨rfl, hB⟩
      exact HK.out _ (⟨hJ.1.later hB, hJ.2.1.below hB, hJ.2.2.1.below hB, hJ.2.2.2.1.below hB, hJ.2.2.2.2.1.below hB, hJ.2.2.2.2.2.1.below hB, hJ.2.2.2.2.2.2.below hB⟩)
    · skip
      have x68 : A.tmps[68]? = some (.bool h) := (hin 11 68 rfl).2.trans (congrArg some (hd 11 (by kernel_rfl)))
      have x71 : A.tmps[71]? = some (.bool h) := (hin 14 71 rfl).2.trans (congrArg some (hd 14 (by kernel_rfl)))
      have y10 : A.tmps[67]? = some (.bool true) := (hin 10 67 rfl).2.trans (congrArg some (hd 10 (by kernel_rfl)))
      clear hd hev hin
      simp only [List.getElem_cons_succ, List.getElem_cons_zero]
      clear hl
      refine .inr ⟨?_, fun K' hK => ?_⟩
      · simp [Region.wanted, yielded, y10]
      clear y10
      have HK := Lib.hid hK
      clear hK
      go_simp
      exact HK.out _ hJ
    · skip
      have x67 : A.tmps[67]? = some (.bool true) := (hin 10 67 rfl).2.trans (congrArg some (hd 10 (by kernel_rfl)))
      have x72 : A.tmps[72]? = some (.bool true) := (hin 15 72 rfl).2.trans (congrArg some (hd 15 (by kernel_rfl)))
      clear hd hev hin
      simp only [List.getElem_cons_succ, List.getElem_cons_zero]
      clear hl
      refine .inr ⟨rfl, fun K' hK => ?_⟩
      have HK := Lib.hid hK
      clear hK
      go_simp
      exact HK.out _ hJ
    · skip
      have x73 : A.tmps[73]? = some (.bool true) := (hin 16 73 rfl).2.trans (congrArg some (hd 16 (by kernel_rfl)))
      clear hd hev hin
      simp only [List.getElem_cons_succ, List.getElem_cons_zero]
      clear hl
      refine .inr ⟨rfl, fun K' hK => ?_⟩
      have HK := Lib.hid hK
      clear hK
      go_simp
      exact HK.out _ hJ
    · skip
      have x12 : A.tmps[12]? = some (.bool i) := (hev 12 (by decide)).trans rfl
      have y17 : A.tmps[74]? = some (.bool true) := (hin 17 74 rfl).2.trans (congrArg some (hd 17 (by kernel_rfl)))
      clear hd hev hin
      simp only [List.getElem_cons_succ, List.getElem_cons_zero]
      clear hl
      refine .inr ⟨?_, fun K' hK => ?_⟩
      · simp [Region.wanted, yielded, y17]
      clear y17
      have HK := Lib.hid hK
      clear hK
      go_simp
      exact HK.out _ hJ
    · skip
      have x8 : A.tmps[8]? = some (.pointer (some ⟨ba, 0, none⟩)) := (hev 8 (by decide)).trans rfl
      have y17 : A.tmps[74]? = some (.bool true) := (hin 17 74 rfl).2.trans (congrArg some (hd 17 (by kernel_rfl)))
      clear hd hev hin
      simp only [List.getElem_cons_succ, List.getElem_cons_zero]
      clear hl
      refine .inr ⟨?_, fun K' hK => ?_⟩
      · simp [Region.wanted, yielded, y17]
      clear y17
      have HK := Lib.hid hK
      clear hK
      have c0 := hJ.2.1.cells.1
      have c1 := hJ.2.1.cells.2.1
      have c2 := hJ.2.1.cells.2.2.1
      go_simp
      exact HK.out _ hJ
    · skip
      have x9 : A.tmps[9]? = some (.pointer (some ⟨bb, 0, none⟩)) := (hev 9 (by decide)).trans rfl
      have y17 : A.tmps[74]? = some (.bool true) := (hin 17 74 rfl).2.trans (congrArg some (hd 17 (by kernel_rfl)))
      clear hd hev hin
      simp only [List.getElem_cons_succ, List.getElem_cons_zero]
      clear hl
      refine .inr ⟨?_, fun K' hK => ?_⟩
      · simp [Region.wanted, yielded, y17]
      clear y17
      have HK := Lib.hid hK
      clear hK
      have c0 := hJ.2.2.1.cells.1
      have c1 := hJ.2.2.1.cells.2.1
      have c2 := hJ.2.2.1.cells.2.2.1
      go_simp
      exact HK.out _ hJ
    · skip
      have x76 : A.tmps[76]? = some (.agg #[.int .i64 x.lo, .int .i64 x.hi, .bool x.all]) := (hin 19 76 rfl).2.trans (congrArg some (hd 19 (by kernel_rfl)))
      have x77 : A.tmps[77]? = some (.agg #[.int .i64 y.lo, .int .i64 y.hi, .bool y.all]) := (hin 20 77 rfl).2.trans (congrArg some (hd 20 (by kernel_rfl)))
      have y17 : A.tmps[74]? = some (.bool true) := (hin 17 74 rfl).2.trans (congrArg some (hd 17 (by kernel_rfl)))
      clear hd hev hin
      simp only [List.getElem_cons_succ, List.getElem_cons_zero]
      clear hl
      refine .inr ⟨?_, fun K' hK => ?_⟩
      · simp [Region.wanted, yielded, y17]
      clear y17
      have HK := Lib.hid hK
      clear hK
      go_simp
      refine (KRI.out W).mono ?_
      rintro e W' ⟨rfl, hB⟩
      exact HK.out _ (⟨hJ.1.later hB, hJ.2.1.below hB, hJ.2.2.1.below hB, hJ.2.2.2.1.below hB, hJ.2.2.2.2.1.below hB, hJ.2.2.2.2.2.1.below hB, hJ.2.2.2.2.2.2.below hB⟩)
    · skip
      have x75 : A.tmps[75]? = some (.bool i) := (hin 18 75 rfl).2.trans (congrArg some (hd 18 (by kernel_rfl)))
      have x78 : A.tmps[78]? = some (.bool i) := (hin 21 78 rfl).2.trans (congrArg some (hd 21 (by kernel_rfl)))
      have y17 : A.tmps[74]? = some (.bool true) := (hin 17 74 rfl).2.trans (congrArg some (hd 17 (by kernel_rfl)))
      clear hd hev hin
      simp only [List.getElem_cons_succ, List.getElem_cons_zero]
      clear hl
      refine .inr ⟨?_, fun K' hK => ?_⟩
      · simp [Region.wanted, yielded, y17]
      clear y17
      have HK := Lib.hid hK
      clear hK
      go_simp
      exact HK.out _ hJ
    · skip
      have x74 : A.tmps[74]? = some (.bool true) := (hin 17 74 rfl).2.trans (congrArg some (hd 17 (by kernel_rfl)))
      have x79 : A.tmps[79]? = some (.bool true) := (hin 22 79 rfl).2.trans (congrArg some (hd 22 (by kernel_rfl)))
      clear hd hev hin
      simp only [List.getElem_cons_succ, List.getElem_cons_zero]
      clear hl
      refine .inr ⟨rfl, fun K' hK => ?_⟩
      have HK := Lib.hid hK
      clear hK
      go_simp
      exact HK.out _ hJ
    · skip
      have x80 : A.tmps[80]? = some (.bool true) := (hin 23 80 rfl).2.trans (congrArg some (hd 23 (by kernel_rfl)))
      clear hd hev hin
      simp only [List.getElem_cons_succ, List.getElem_cons_zero]
      clear hl
      refine .inr ⟨rfl, fun K' hK => ?_⟩
      have HK := Lib.hid hK
      clear hK
      go_simp
      exact HK.out _ hJ
    · skip
      have x13 : A.tmps[13]? = some (.pointer (some ⟨bj, 0, none⟩)) := (hev 13 (by decide)).trans rfl
      have y24 : A.tmps[81]? = some (.bool true) := (hin 24 81 rfl).2.trans (congrArg some (hd 24 (by kernel_rfl)))
      clear hd hev hin
      simp only [List.getElem_cons_succ, List.getElem_cons_zero]
      clear hl
      refine .inr ⟨?_, fun K' hK => ?_⟩
      · simp [Region.wanted, yielded, y24]
      clear y24
      have HK := Lib.hid hK
      clear hK
      have c0 := hJ.2.2.2.2.1.cells.1
      have c1 := hJ.2.2.2.2.1.cells.2.1
      have c2 := hJ.2.2.2.2.1.cells.2.2.1
      go_simp
      exact HK.out _ hJ
    · skip
      have x8 : A.tmps[8]? = some (.pointer (some ⟨ba, 0, none⟩)) := (hev 8 (by decide)).trans rfl
      have y24 : A.tmps[81]? = some (.bool true) := (hin 24 81 rfl).2.trans (congrArg some (hd 24 (by kernel_rfl)))
      clear hd hev hin
      simp only [List.getElem_cons_succ, List.getElem_cons_zero]
      clear hl
      refine .inr ⟨?_, fun K' hK => ?_⟩
      · simp [Region.wanted, yielded, y24]
      clear y24
      have HK := Lib.hid hK
      clear hK
      have c0 := hJ.2.1.cells.1
      have c1 := hJ.2.1.cells.2.1
      have c2 := hJ.2.1.cells.2.2.1
      go_simp
      exact HK.out _ hJ
    · skip
      have x9 : A.tmps[9]? = some (.pointer (some ⟨bb, 0, none⟩)) := (hev 9 (by decide)).trans rfl
      have y24 : A.tmps[81]? = some (.bool true) := (hin 24 81 rfl).2.trans (congrArg some (hd 24 (by kernel_rfl)))
      clear hd hev hin
      simp only [List.getElem_cons_succ, List.getElem_cons_zero]
      clear hl
      refine .inr ⟨?_, fun K' hK => ?_⟩
      · simp [Region.wanted, yielded, y24]
      clear y24
      have HK := Lib.hid hK
      clear hK
      have c0 := hJ.2.2.1.cells.1
      have c1 := hJ.2.2.1.cells.2.1
      have c2 := hJ.2.2.1.cells.2.2.1
      go_simp
      exact HK.out _ hJ
    · skip
      have x83 : A.tmps[83]? = some (.agg #[.int .i64 x.lo, .int .i64 x.hi, .bool x.all]) := (hin 26 83 rfl).2.trans (congrArg some (hd 26 (by kernel_rfl)))
      have x84 : A.tmps[84]? = some (.agg #[.int .i64 y.lo, .int .i64 y.hi, .bool y.all]) := (hin 27 84 rfl).2.trans (congrArg some (hd 27 (by kernel_rfl)))
      have y24 : A.tmps[81]? = some (.bool true) := (hin 24 81 rfl).2.trans (congrArg some (hd 24 (by kernel_rfl)))
      clear hd hev hin
      simp only [List.getElem_cons_succ, List.getElem_cons_zero]
      clear hl
      refine .inr ⟨?_, fun K' hK => ?_⟩
      · simp [Region.wanted, yielded, y24]
      clear y24
      have HK := Lib.hid hK
      clear hK
      go_simp
      refine (KRJ.out W).mono ?_
      rintro e W' ⟨rfl, hB⟩
      exact HK.out _ (⟨hJ.1.later hB, hJ.2.1.below hB, hJ.2.2.1.below hB, hJ.2.2.2.1.below hB, hJ.2.2.2.2.1.below hB, hJ.2.2.2.2.2.1.below hB, hJ.2.2.2.2.2.2.below hB⟩)
    · skip
      have x82 : A.tmps[82]? = some (.agg #[.int .i64 j.lo, .int .i64 j.hi, .bool j.all]) := (hin 25 82 rfl).2.trans (congrArg some (hd 25 (by kernel_rfl)))
      have x85 : A.tmps[85]? = some (.agg #[.int .i64 j.lo, .int .i64 j.hi, .bool j.all]) := (hin 28 85 rfl).2.trans (congrArg some (hd 28 (by kernel_rfl)))
      have y24 : A.tmps[81]? = some (.bool true) := (hin 24 81 rfl).2.trans (congrArg some (hd 24 (by kernel_rfl)))
      clear hd hev hin
      simp only [List.getElem_cons_succ, List.getElem_cons_zero]
      clear hl
      refine .inr ⟨?_, fun K' hK => ?_⟩
      · simp [Region.wanted, yielded, y24]
      clear y24
      have HK := Lib.hid hK
      clear hK
      go_simp
      exact HK.out _ hJ
    · skip
      have x81 : A.tmps[81]? = some (.bool true) := (hin 24 81 rfl).2.trans (congrArg some (hd 24 (by kernel_rfl)))
      have x86 : A.tmps[86]? = some (.bool true) := (hin 29 86 rfl).2.trans (congrArg some (hd 29 (by kernel_rfl)))
      clear hd hev hin
      simp only [List.getElem_cons_succ, List.getElem_cons_zero]
      clear hl
      refine .inr ⟨rfl, fun K' hK => ?_⟩
      have HK := Lib.hid hK
      clear hK
      go_simp
      exact HK.out _ hJ
    · skip
      have x87 : A.tmps[87]? = some (.bool true) := (hin 30 87 rfl).2.trans (congrArg some (hd 30 (by kernel_rfl)))
      clear hd hev hin
      simp only [List.getElem_cons_succ, List.getElem_cons_zero]
      clear hl
      refine .inr ⟨rfl, fun K' hK => ?_⟩
      have HK := Lib.hid hK
      clear hK
      go_simp
      exact HK.out _ hJ
    · skip
      have x14 : A.tmps[14]? = some (.pointer (some ⟨bm, 0, none⟩)) := (hev 14 (by decide)).trans rfl
      have y31 : A.tmps[88]? = some (.bool true) := (hin 31 88 rfl).2.trans (congrArg some (hd 31 (by kernel_rfl)))
      clear hd hev hin
      simp only [List.getElem_cons_succ, List.getElem_cons_zero]
      clear hl
      refine .inr ⟨?_, fun K' hK => ?_⟩
      · simp [Region.wanted, yielded, y31]
      clear y31
      have HK := Lib.hid hK
      clear hK
      have c0 := hJ.2.2.2.2.2.1.cells.1
      have c1 := hJ.2.2.2.2.2.1.cells.2.1
      have c2 := hJ.2.2.2.2.2.1.cells.2.2.1
      go_simp
      exact HK.out _ hJ
    · skip
      have x89 : A.tmps[89]? = some (.agg #[.int .i64 m.lo, .int .i64 m.hi, .bool m.all]) := (hin 32 89 rfl).2.trans (congrArg some (hd 32 (by kernel_rfl)))
      have y31 : A.tmps[88]? = some (.bool true) := (hin 31 88 rfl).2.trans (congrArg some (hd 31 (by kernel_rfl)))
      clear hd hev hin
      simp only [List.getElem_cons_succ, List.getElem_cons_zero]
      clear hl
      refine .inr ⟨?_, fun K' hK => ?_⟩
      · simp [Region.wanted, yielded, y31]
      clear y31
      have HK := Lib.hid hK
      clear hK
      go_simp
      refine (KDM.out W).mono ?_
      rintro e W' ⟨rfl, hB⟩
      exact HK.out _ (⟨hJ.1.later hB, hJ.2.1.below hB, hJ.2.2.1.below hB, hJ.2.2.2.1.below hB, hJ.2.2.2.2.1.below hB, hJ.2.2.2.2.2.1.below hB, hJ.2.2.2.2.2.2.below hB⟩)
    · skip
      have x16 : A.tmps[16]? = some (.pointer (some ⟨bz, 0, none⟩)) := (hev 16 (by decide)).trans rfl
      have y31 : A.tmps[88]? = some (.bool true) := (hin 31 88 rfl).2.trans (congrArg some (hd 31 (by kernel_rfl)))
      clear hd hev hin
      simp only [List.getElem_cons_succ, List.getElem_cons_zero]
      clear hl
      refine .inr ⟨?_, fun K' hK => ?_⟩
      · simp [Region.wanted, yielded, y31]
      clear y31
      have HK := Lib.hid hK
      clear hK
      have c0 := hJ.2.2.2.2.2.2.cells.1
      have c1 := hJ.2.2.2.2.2.2.cells.2.1
      have c2 := hJ.2.2.2.2.2.2.cells.2.2.1
      go_simp
      exact HK.out _ hJ
    · skip
      have x90 : A.tmps[90]? = some (.agg #[.int .i64 m.lo, .int .i64 m.hi, .bool m.all]) := (hin 33 90 rfl).2.trans (congrArg some (hd 33 (by kernel_rfl)))
      have x91 : A.tmps[91]? = some (.agg #[.int .i64 m.lo, .int .i64 m.hi, .bool m.all]) := (hin 34 91 rfl).2.trans (congrArg some (hd 34 (by kernel_rfl)))
      have y31 : A.tmps[88]? = some (.bool true) := (hin 31 88 rfl).2.trans (congrArg some (hd 31 (by kernel_rfl)))
      clear hd hev hin
      simp only [List.getElem_cons_succ, List.getElem_cons_zero]
      clear hl
      refine .inr ⟨?_, fun K' hK => ?_⟩
      · simp [Region.wanted, yielded, y31]
      clear y31
      have HK := Lib.hid hK
      clear hK
      go_simp
      exact HK.out _ hJ
    · skip
      have x88 : A.tmps[88]? = some (.bool true) := (hin 31 88 rfl).2.trans (congrArg some (hd 31 (by kernel_rfl)))
      have x92 : A.tmps[92]? = some (.bool true) := (hin 35 92 rfl).2.trans (congrArg some (hd 35 (by kernel_rfl)))
      clear hd hev hin
      simp only [List.getElem_cons_succ, List.getElem_cons_zero]
      clear hl
      refine .inr ⟨rfl, fun K' hK => ?_⟩
      have HK := Lib.hid hK
      clear hK
      go_simp
      exact HK.out _ hJ
    · skip
      have x93 : A.tmps[93]? = some (.bool true) := (hin 36 93 rfl).2.trans (congrArg some (hd 36 (by kernel_rfl)))
      clear hd hev hin
      simp only [List.getElem_cons_succ, List.getElem_cons_zero]
      clear hl
      refine .inr ⟨rfl, fun K' hK => ?_⟩
      have HK := Lib.hid hK
      clear hK
      go_simp
      exact HK.out _ hJ
    · skip
      have x15 : A.tmps[15]? = some (.bool is) := (hev 15 (by decide)).trans rfl
      have y37 : A.tmps[94]? = some (.bool true) := (hin 37 94 rfl).2.trans (congrArg some (hd 37 (by kernel_rfl)))
      clear hd hev hin
      simp only [List.getElem_cons_succ, List.getElem_cons_zero]
      clear hl
      refine .inr ⟨?_, fun K' hK => ?_⟩
      · simp [Region.wanted, yielded, y37]
      clear y37
      have HK := Lib.hid hK
      clear hK
      go_simp
      exact HK.out _ hJ
    · skip
      have x17 : A.tmps[17]? = some (.bool is) := (hev 17 (by decide)).trans rfl
      have y37 : A.tmps[94]? = some (.bool true) := (hin 37 94 rfl).2.trans (congrArg some (hd 37 (by kernel_rfl)))
      clear hd hev hin
      simp only [List.getElem_cons_succ, List.getElem_cons_zero]
      clear hl
      refine .inr ⟨?_, fun K' hK => ?_⟩
      · simp [Region.wanted, yielded, y37]
      clear y37
      have HK := Lib.hid hK
      clear hK
      go_simp
      exact HK.out _ hJ
    · skip
      have x95 : A.tmps[95]? = some (.bool is) := (hin 38 95 rfl).2.trans (congrArg some (hd 38 (by kernel_rfl)))
      have x96 : A.tmps[96]? = some (.bool is) := (hin 39 96 rfl).2.trans (congrArg some (hd 39 (by kernel_rfl)))
      have y37 : A.tmps[94]? = some (.bool true) := (hin 37 94 rfl).2.trans (congrArg some (hd 37 (by kernel_rfl)))
      clear hd hev hin
      simp only [List.getElem_cons_succ, List.getElem_cons_zero]
      clear hl
      refine .inr ⟨?_, fun K' hK => ?_⟩
      · simp [Region.wanted, yielded, y37]
      clear y37
      have HK := Lib.hid hK
      clear hK
      go_simp
      exact HK.out _ hJ
    · skip
      have x94 : A.tmps[94]? = some (.bool true) := (hin 37 94 rfl).2.trans (congrArg some (hd 37 (by kernel_rfl)))
      have x97 : A.tmps[97]? = some (.bool true) := (hin 40 97 rfl).2.trans (congrArg some (hd 40 (by kernel_rfl)))
      clear hd hev hin
      simp only [List.getElem_cons_succ, List.getElem_cons_zero]
      clear hl
      refine .inr ⟨rfl, fun K' hK => ?_⟩
      have HK := Lib.hid hK
      clear hK
      go_simp
      exact HK.out _ hJ
    · skip
      have x98 : A.tmps[98]? = some (.bool true) := (hin 41 98 rfl).2.trans (congrArg some (hd 41 (by kernel_rfl)))
      clear hd hev hin
      simp only [List.getElem_cons_succ, List.getElem_cons_zero]
      clear hl
      refine .inr ⟨rfl, fun K' hK => ?_⟩
      have HK := Lib.hid hK
      clear hK
      go_simp
      exact HK.out _ hJ
    · skip
      have x18 : A.tmps[18]? = some (.int .i64 d) := (hev 18 (by decide)).trans rfl
      have y42 : A.tmps[99]? = some (.bool true) := (hin 42 99 rfl).2.trans (congrArg some (hd 42 (by kernel_rfl)))
      clear hd hev hin
      simp only [List.getElem_cons_succ, List.getElem_cons_zero]
      clear hl
      refine .inr ⟨?_, fun K' hK => ?_⟩
      · simp [Region.wanted, yielded, y42]
      clear y42
      have HK := Lib.hid hK
      clear hK
      go_simp
      exact HK.out _ hJ
    · skip
      have x8 : A.tmps[8]? = some (.pointer (some ⟨ba, 0, none⟩)) := (hev 8 (by decide)).trans rfl
      have y42 : A.tmps[99]? = some (.bool true) := (hin 42 99 rfl).2.trans (congrArg some (hd 42 (by kernel_rfl)))
      clear hd hev hin
      simp only [List.getElem_cons_succ, List.getElem_cons_zero]
      clear hl
      refine .inr ⟨?_, fun K' hK => ?_⟩
      · simp [Region.wanted, yielded, y42]
      clear y42
      have HK := Lib.hid hK
      clear hK
      have c0 := hJ.2.1.cells.1
      have c1 := hJ.2.1.cells.2.1
      have c2 := hJ.2.1.cells.2.2.1
      go_simp
      exact HK.out _ hJ
    · skip
      have x101 : A.tmps[101]? = some (.agg #[.int .i64 x.lo, .int .i64 x.hi, .bool x.all]) := (hin 44 101 rfl).2.trans (congrArg some (hd 44 (by kernel_rfl)))
      have y42 : A.tmps[99]? = some (.bool true) := (hin 42 99 rfl).2.trans (congrArg some (hd 42 (by kernel_rfl)))
      clear hd hev hin
      simp only [List.getElem_cons_succ, List.getElem_cons_zero]
      clear hl
      refine .inr ⟨?_, fun K' hK => ?_⟩
      · simp [Region.wanted, yielded, y42]
      clear y42
      have HK := Lib.hid hK
      clear hK
      go_simp
      refine (KRD.out W).mono ?_
      rintro e W' ⟨rfl, hB⟩
      exact HK.out _ (⟨hJ.1.later hB, hJ.2.1.below hB, hJ.2.2.1.below hB, hJ.2.2.2.1.below hB, hJ.2.2.2.2.1.below hB, hJ.2.2.2.2.2.1.below hB, hJ.2.2.2.2.2.2.below hB⟩)
    · skip
      have x100 : A.tmps[100]? = some (.int .i64 d) := (hin 43 100 rfl).2.trans (congrArg some (hd 43 (by kernel_rfl)))
      have x102 : A.tmps[102]? = some (.int .i64 d) := (hin 45 102 rfl).2.trans (congrArg some (hd 45 (by kernel_rfl)))
      have y42 : A.tmps[99]? = some (.bool true) := (hin 42 99 rfl).2.trans (congrArg some (hd 42 (by kernel_rfl)))
      clear hd hev hin
      simp only [List.getElem_cons_succ, List.getElem_cons_zero]
      clear hl
      refine .inr ⟨?_, fun K' hK => ?_⟩
      · simp [Region.wanted, yielded, y42]
      clear y42
      have HK := Lib.hid hK
      clear hK
      go_simp
      exact HK.out _ hJ
    · skip
      have x99 : A.tmps[99]? = some (.bool true) := (hin 42 99 rfl).2.trans (congrArg some (hd 42 (by kernel_rfl)))
      have x103 : A.tmps[103]? = some (.bool true) := (hin 46 103 rfl).2.trans (congrArg some (hd 46 (by kernel_rfl)))
      clear hd hev hin
      simp only [List.getElem_cons_succ, List.getElem_cons_zero]
      clear hl
      refine .inr ⟨rfl, fun K' hK => ?_⟩
      have HK := Lib.hid hK
      clear hK
      go_simp
      exact HK.out _ hJ
    · skip
      have x104 : A.tmps[104]? = some (.bool true) := (hin 47 104 rfl).2.trans (congrArg some (hd 47 (by kernel_rfl)))
      clear hd hev hin
      simp only [List.getElem_cons_succ, List.getElem_cons_zero]
      clear hl
      refine .inr ⟨rfl, fun K' hK => ?_⟩
      have HK := Lib.hid hK
      clear hK
      go_simp
      exact HK.out _ hJ
    · skip
      have x19 : A.tmps[19]? = some (.int .i64 r) := (hev 19 (by decide)).trans rfl
      have y48 : A.tmps[105]? = some (.bool true) := (hin 48 105 rfl).2.trans (congrArg some (hd 48 (by kernel_rfl)))
      clear hd hev hin
      simp only [List.getElem_cons_succ, List.getElem_cons_zero]
      clear hl
      refine .inr ⟨?_, fun K' hK => ?_⟩
      · simp [Region.wanted, yielded, y48]
      clear y48
      have HK := Lib.hid hK
      clear hK
      go_simp
      exact HK.out _ hJ
    · skip
      have x8 : A.tmps[8]? = some (.pointer (some ⟨ba, 0, none⟩)) := (hev 8 (by decide)).trans rfl
      have y48 : A.tmps[105]? = some (.bool true) := (hin 48 105 rfl).2.trans (congrArg some (hd 48 (by kernel_rfl)))
      clear hd hev hin
      simp only [List.getElem_cons_succ, List.getElem_cons_zero]
      clear hl
      refine .inr ⟨?_, fun K' hK => ?_⟩
      · simp [Region.wanted, yielded, y48]
      clear y48
      have HK := Lib.hid hK
      clear hK
      have c0 := hJ.2.1.cells.1
      have c1 := hJ.2.1.cells.2.1
      have c2 := hJ.2.1.cells.2.2.1
      go_simp
      exact HK.out _ hJ
    · skip
      have x107 : A.tmps[107]? = some (.agg #[.int .i64 x.lo, .int .i64 x.hi, .bool x.all]) := (hin 50 107 rfl).2.trans (congrArg some (hd 50 (by kernel_rfl)))
      have y48 : A.tmps[105]? = some (.bool true) := (hin 48 105 rfl).2.trans (congrArg some (hd 48 (by kernel_rfl)))
      clear hd hev hin
      simp only [List.getElem_cons_succ, List.getElem_cons_zero]
      clear hl
      refine .inr ⟨?_, fun K' hK => ?_⟩
      · simp [Region.wanted, yielded, y48]
      clear y48
      have HK := Lib.hid hK
      clear hK
      go_simp
      refine (KRR.out W).mono ?_
      rintro e W' ⟨rfl, hB⟩
      exact HK.out _ (⟨hJ.1.later hB, hJ.2.1.below hB, hJ.2.2.1.below hB, hJ.2.2.2.1.below hB, hJ.2.2.2.2.1.below hB, hJ.2.2.2.2.2.1.below hB, hJ.2.2.2.2.2.2.below hB⟩)
    · skip
      have x106 : A.tmps[106]? = some (.int .i64 r) := (hin 49 106 rfl).2.trans (congrArg some (hd 49 (by kernel_rfl)))
      have x108 : A.tmps[108]? = some (.int .i64 r) := (hin 51 108 rfl).2.trans (congrArg some (hd 51 (by kernel_rfl)))
      have y48 : A.tmps[105]? = some (.bool true) := (hin 48 105 rfl).2.trans (congrArg some (hd 48 (by kernel_rfl)))
      clear hd hev hin
      simp only [List.getElem_cons_succ, List.getElem_cons_zero]
      clear hl
      refine .inr ⟨?_, fun K' hK => ?_⟩
      · simp [Region.wanted, yielded, y48]
      clear y48
      have HK := Lib.hid hK
      clear hK
      go_simp
      exact HK.out _ hJ
    · skip
      have x105 : A.tmps[105]? = some (.bool true) := (hin 48 105 rfl).2.trans (congrArg some (hd 48 (by kernel_rfl)))
      have x109 : A.tmps[109]? = some (.bool true) := (hin 52 109 rfl).2.trans (congrArg some (hd 52 (by kernel_rfl)))
      clear hd hev hin
      simp only [List.getElem_cons_succ, List.getElem_cons_zero]
      clear hl
      refine .inr ⟨rfl, fun K' hK => ?_⟩
      have HK := Lib.hid hK
      clear hK
      go_simp
      exact HK.out _ hJ
    · skip
      have x110 : A.tmps[110]? = some (.bool true) := (hin 53 110 rfl).2.trans (congrArg some (hd 53 (by kernel_rfl)))
      clear hd hev hin
      simp only [List.getElem_cons_succ, List.getElem_cons_zero]
      clear hl
      refine .inr ⟨rfl, fun K' hK => ?_⟩
      have HK := Lib.hid hK
      clear hK
      go_simp
      exact HK.out _ hJ
  intro W hJ
  simp only [layS, lstV, Act.put, List.setIfInBounds_toArray, List.set_cons_succ, List.set_cons_zero, Nat.zero_add, Nat.reduceAdd, List.getD_cons_zero, List.getD_cons_succ, List.drop_succ_cons, List.drop_zero, List.drop_nil]
  go_wp2
  go_ret
  exact ⟨rfl, hJ.1.below⟩
theorem SpanMakes_any (x y : Sp) (n : Int) (w : World) : Calls Try.prog 3 #[.agg #[.int .i64 x.lo, .int .i64 x.hi, .bool x.all], .agg #[.int .i64 y.lo, .int .i64 y.hi, .bool y.all], .int .i64 n] w (PVal (.bool true) w) :=
  Makes_w x y _ _ _ n _ _ _ _ _ (doc_any x) (doc_any y) (sOf_any _ _) (doc_any _) (Has_any x n) (In_any x y) (Join_any x y) (doc_any _) (Meet_any x y) (rdMeet_any x y) (Mid_any x) (Rad_any x) (rdOf_any _ _) (rdHas_any x n) (rdIn_any x y) (rdJoin_any x y) (doc_any _) (rdMid_any x) (rdRad_any x) w
end Go.Proofs.Ytpacbipencmjnaa
