/- The document's spans: the walks of Right, Of, Has, In, Join, Meet, Mid, Rad. -/
import Derived.Test.YtpacbipencmjnaaSb2
import Derived.Test.YtpacbipencmjnaaSc
import Derived.Test.YtpacbipencmjnaaSd3
namespace Go.Proofs.Ytpacbipencmjnaa
open Go.RowKit

theorem bel1 (w : World) (o : Obj) : Below w.heap.size w (w.alloc o) := (Below.refl _ _).alloc (Nat.le_refl _) _
theorem bel2 (w : World) (o o' : Obj) : Below w.heap.size w ((w.alloc o).alloc o') := ((Below.refl _ _).alloc (Nat.le_refl _) _).alloc (by simp) _
theorem bel3 (w : World) (o o' o2 : Obj) : Below w.heap.size w (((w.alloc o).alloc o').alloc o2) := (((Below.refl _ _).alloc (Nat.le_refl _) _).alloc (by simp) _).alloc (by simp; omega) _
theorem bel_on {w w1 W : World} (h : Below w.heap.size w w1) (hB : Below w1.heap.size w1 W) : Below w.heap.size w W := h.trans (hB.mono h.size)
theorem bel_al {w W : World} (h : Below w.heap.size w W) (o : Obj) : Below w.heap.size w (W.alloc o) := h.alloc h.size _
set_option maxHeartbeats 800000 in
theorem rRight_any (x : Sp) (w : World) : Calls Try.prog 44 #[.agg #[.int .i64 x.lo, .int .i64 x.hi, .bool x.all]] w (PDp (mkS x) w) := by
  obtain ⟨l, h, a⟩ := x
  cases a
  case true =>
    rw [mkS_no (by unfold okB; simp)]
    go_enter Try.func44, Try.ntmps44
    go_wp2
    exact bodyPost_ret (v := .agg #[.int .i64 0, .int .i64 0, .bool true]) (by simp [results, Try.results44, go_sem]) rfl ⟨rfl, bel2 _ _ _⟩
  by_cases h1 : l < -2147483647
  · rw [mkS_no (by unfold okB; simp; omega)]
    have d1 : decide (l < -2147483647) = true := decide_eq_true h1
    go_enter Try.func44, Try.ntmps44
    go_wp2
    exact bodyPost_ret (v := .agg #[.int .i64 0, .int .i64 0, .bool true]) (by simp [results, Try.results44, go_sem]) rfl ⟨rfl, bel2 _ _ _⟩
  have d1 : decide (l < -2147483647) = false := decide_eq_false h1
  by_cases h2 : 2147483647 < h
  · rw [mkS_no (by unfold okB; simp; omega)]
    have d2 : decide (2147483647 < h) = true := decide_eq_true h2
    go_enter Try.func44, Try.ntmps44
    go_wp2
    exact bodyPost_ret (v := .agg #[.int .i64 0, .int .i64 0, .bool true]) (by simp [results, Try.results44, go_sem]) rfl ⟨rfl, bel2 _ _ _⟩
  have d2 : decide (2147483647 < h) = false := decide_eq_false h2
  by_cases h3 : h < l
  · rw [mkS_no (by unfold okB; simp; omega)]
    have d3 : decide (h < l) = true := decide_eq_true h3
    go_enter Try.func44, Try.ntmps44
    go_wp2
    exact bodyPost_ret (v := .agg #[.int .i64 0, .int .i64 0, .bool true]) (by simp [results, Try.results44, go_sem]) rfl ⟨rfl, bel2 _ _ _⟩
  have d3 : decide (h < l) = false := decide_eq_false h3
  rw [mkS_ok (ok_mk (by show -2147483647 ≤ l; omega) (by show l ≤ h; omega) (by show h ≤ 2147483647; omega) rfl)]
  go_enter Try.func44, Try.ntmps44
  go_wp2
  exact bodyPost_ret (v := .agg #[.int .i64 l, .int .i64 h, .bool false]) (by simp [results, Try.results44, go_sem]) rfl ⟨rfl, bel2 _ _ _⟩
set_option maxHeartbeats 800000 in
theorem rdOf_any (a b : Int) (w : World) : Calls Try.prog 20 #[.int .i64 a, .int .i64 b] w (PDp (ofS a b) w) := by
  have hR : ∀ W : World, Calls Try.prog 44 #[.agg #[.int .i64 (min a b), .int .i64 (max a b), .bool false]] W (PDp (ofS a b) W) := rRight_any ⟨min a b, max a b, false⟩
  generalize ofS a b = z at *
  have HR := Lib.hid hR
  clear hR
  go_enter Try.func20, Try.ntmps20
  go_wp2_with fail
  refine (HR.out _).mono ?_
  rintro e W ⟨rfl, hB⟩
  have hX := (ds1 w 0 0 false).later hB
  obtain ⟨c0, c1, c2, f0, f1, f2⟩ := hX.c0
  go_wp2
  have h := hX.put 0 (by simp) z
  rw [Nat.add_zero] at h
  exact bodyPost_ret (v := .agg #[.int .i64 z.lo, .int .i64 z.hi, .bool z.all]) (by simp [results, Try.results20, go_sem, c0, c1, c2]) rfl ⟨rfl, h.below⟩
set_option maxHeartbeats 800000 in
theorem rdHas_any (x : Sp) (n : Int) (w : World) : Calls Try.prog 21 #[.agg #[.int .i64 x.lo, .int .i64 x.hi, .bool x.all], .int .i64 n] w (PVal (.bool (hasB x n)) w) := by
  have hR := rRight_any x
  cases hk : okB x
  · rw [mkS_no hk] at hR
    have HE : Hid (hasB x n = true) := show hasB x n = true by unfold hasB; rw [hk]; rfl
    have HR := Lib.hid hR
    clear hR hk
    go_enter Try.func21, Try.ntmps21
    go_wp2_with fail
    refine (HR.out _).mono ?_
    rintro e W ⟨rfl, hB⟩
    have hb := bel_al (bel_on (bel1 w _) hB) (.cells #[.int .i64 0, .int .i64 0, .bool true] 25)
    unfold lineS
    go_wp2
    go_ret
    exact ⟨by rw [HE.out]; rfl, hb⟩
  · rw [mkS_ok hk] at hR
    have ha := (ok_of hk).2.2.2
    have he : hasB x n = (decide (x.lo ≤ n) && decide (n ≤ x.hi)) := by unfold hasB; rw [hk]; rfl
    have HR := Lib.hid hR
    have HA := Lib.hid ha
    clear hR hk ha
    go_enter Try.func21, Try.ntmps21
    go_wp2_with fail
    refine (HR.out _).mono ?_
    rintro e W ⟨rfl, hB⟩
    rw [HA.out]
    have hb := bel_al (bel_on (bel1 w _) hB) (.cells #[.int .i64 x.lo, .int .i64 x.hi, .bool false] 25)
    cases hd : decide (x.lo ≤ n)
    · rw [hd, Bool.false_and] at he
      have HE := Lib.hid he
      clear he
      go_wp2
      go_ret
      exact ⟨by rw [HE.out]; rfl, hb⟩
    · rw [hd, Bool.true_and] at he
      have HE := Lib.hid he
      clear he
      go_wp2
      go_ret
      exact ⟨by rw [HE.out]; rfl, hb⟩
set_option maxHeartbeats 1600000 in
theorem rdIn_qall (x y p q : Sp) (HPx : ∀ W : World, Calls Try.prog 44 #[.agg #[.int .i64 x.lo, .int .i64 x.hi, .bool x.all]] W (PDp p W)) (HQx : ∀ W : World, Calls Try.prog 44 #[.agg #[.int .i64 y.lo, .int .i64 y.hi, .bool y.all]] W (PDp q W)) (haq : q.all = true) (w : World) : Calls Try.prog 22 #[.agg #[.int .i64 x.lo, .int .i64 x.hi, .bool x.all], .agg #[.int .i64 y.lo, .int .i64 y.hi, .bool y.all]] w (PVal (.bool true) w) := by
  have HP := Lib.hid HPx
  have HQ := Lib.hid HQx
  clear HPx HQx
  have HAq := Lib.hid haq
  clear haq
  go_enter Try.func22, Try.ntmps22
  go_wp2_with fail
  have hJ := ds2 w x.lo x.hi x.all y.lo y.hi y.all
  generalize (w.alloc (.cells #[.int .i64 x.lo, .int .i64 x.hi, .bool x.all] 25)).alloc (.cells #[.int .i64 y.lo, .int .i64 y.hi, .bool y.all] 25) = w1 at *
  refine (HP.out _).mono ?_
  rintro e W1 ⟨rfl, hB⟩
  replace hJ := hJ.later hB
  clear hB
  have f10 := hJ.c1.1
  have f11 := hJ.c1.2.1
  have f12 := hJ.c1.2.2.1
  have fz1 : w.heap.size + 1 < W1.heap.size := (Array.getElem?_eq_some_iff.1 (hJ.at' 1 y rfl)).1
  have hal := bel1 W1 (.cells #[.int .i64 p.lo, .int .i64 p.hi, .bool p.all] 25)
  replace hJ := hJ.later hal
  have kp := d3_new W1 p
  go_wp2_with fail
  clear f10 f11 f12 fz1 hal
  generalize W1.alloc (.cells #[.int .i64 p.lo, .int .i64 p.hi, .bool p.all] 25) = W2 at *
  generalize W1.heap.size = bp at *
  refine (HQ.out _).mono ?_
  rintro e W3 ⟨rfl, hB⟩
  replace hJ := hJ.later hB
  replace kp := kp.below hB
  clear hB
  have hlp : bp < W3.heap.size := (Array.getElem?_eq_some_iff.1 kp).1
  have p0 := kp.cells.1
  have p1 := kp.cells.2.1
  have p2 := kp.cells.2.2.1
  have hal := bel1 W3 (.cells #[.int .i64 q.lo, .int .i64 q.hi, .bool q.all] 25)
  have hb := bel_al hJ.below (.cells #[.int .i64 q.lo, .int .i64 q.hi, .bool q.all] 25)
  have haq := HAq.out
  rw [haq] at hb
  go_wp2
  go_ret
  exact ⟨rfl, hb⟩
set_option maxHeartbeats 1600000 in
theorem rdIn_pall (x y p q : Sp) (HPx : ∀ W : World, Calls Try.prog 44 #[.agg #[.int .i64 x.lo, .int .i64 x.hi, .bool x.all]] W (PDp p W)) (HQx : ∀ W : World, Calls Try.prog 44 #[.agg #[.int .i64 y.lo, .int .i64 y.hi, .bool y.all]] W (PDp q W)) (haq : q.all = false) (hap : p.all = true) (w : World) : Calls Try.prog 22 #[.agg #[.int .i64 x.lo, .int .i64 x.hi, .bool x.all], .agg #[.int .i64 y.lo, .int .i64 y.hi, .bool y.all]] w (PVal (.bool false) w) := by
  have HP := Lib.hid HPx
  have HQ := Lib.hid HQx
  clear HPx HQx
  have HAq := Lib.hid haq
  clear haq
  have HAp := Lib.hid hap
  clear hap
  go_enter Try.func22, Try.ntmps22
  go_wp2_with fail
  have hJ := ds2 w x.lo x.hi x.all y.lo y.hi y.all
  generalize (w.alloc (.cells #[.int .i64 x.lo, .int .i64 x.hi, .bool x.all] 25)).alloc (.cells #[.int .i64 y.lo, .int .i64 y.hi, .bool y.all] 25) = w1 at *
  refine (HP.out _).mono ?_
  rintro e W1 ⟨rfl, hB⟩
  replace hJ := hJ.later hB
  clear hB
  have f10 := hJ.c1.1
  have f11 := hJ.c1.2.1
  have f12 := hJ.c1.2.2.1
  have fz1 : w.heap.size + 1 < W1.heap.size := (Array.getElem?_eq_some_iff.1 (hJ.at' 1 y rfl)).1
  have hal := bel1 W1 (.cells #[.int .i64 p.lo, .int .i64 p.hi, .bool p.all] 25)
  replace hJ := hJ.later hal
  have kp := d3_new W1 p
  go_wp2_with fail
  clear f10 f11 f12 fz1 hal
  generalize W1.alloc (.cells #[.int .i64 p.lo, .int .i64 p.hi, .bool p.all] 25) = W2 at *
  generalize W1.heap.size = bp at *
  refine (HQ.out _).mono ?_
  rintro e W3 ⟨rfl, hB⟩
  replace hJ := hJ.later hB
  replace kp := kp.below hB
  clear hB
  have hlp : bp < W3.heap.size := (Array.getElem?_eq_some_iff.1 kp).1
  have p0 := kp.cells.1
  have p1 := kp.cells.2.1
  have p2 := kp.cells.2.2.1
  have hal := bel1 W3 (.cells #[.int .i64 q.lo, .int .i64 q.hi, .bool q.all] 25)
  have hb := bel_al hJ.below (.cells #[.int .i64 q.lo, .int .i64 q.hi, .bool q.all] 25)
  have hap := HAp.out
  rw [hap] at p2
  have haq := HAq.out
  rw [haq] at hb
  go_wp2
  go_ret
  exact ⟨rfl, hb⟩
set_option maxHeartbeats 1600000 in
theorem rdIn_lo (x y p q : Sp) (HPx : ∀ W : World, Calls Try.prog 44 #[.agg #[.int .i64 x.lo, .int .i64 x.hi, .bool x.all]] W (PDp p W)) (HQx : ∀ W : World, Calls Try.prog 44 #[.agg #[.int .i64 y.lo, .int .i64 y.hi, .bool y.all]] W (PDp q W)) (haq : q.all = false) (hap : p.all = false) (d1 : decide (q.lo ≤ p.lo) = false) (w : World) : Calls Try.prog 22 #[.agg #[.int .i64 x.lo, .int .i64 x.hi, .bool x.all], .agg #[.int .i64 y.lo, .int .i64 y.hi, .bool y.all]] w (PVal (.bool false) w) := by
  have HP := Lib.hid HPx
  have HQ := Lib.hid HQx
  clear HPx HQx
  have HAq := Lib.hid haq
  clear haq
  have HAp := Lib.hid hap
  clear hap
  go_enter Try.func22, Try.ntmps22
  go_wp2_with fail
  have hJ := ds2 w x.lo x.hi x.all y.lo y.hi y.all
  generalize (w.alloc (.cells #[.int .i64 x.lo, .int .i64 x.hi, .bool x.all] 25)).alloc (.cells #[.int .i64 y.lo, .int .i64 y.hi, .bool y.all] 25) = w1 at *
  refine (HP.out _).mono ?_
  rintro e W1 ⟨rfl, hB⟩
  replace hJ := hJ.later hB
  clear hB
  have f10 := hJ.c1.1
  have f11 := hJ.c1.2.1
  have f12 := hJ.c1.2.2.1
  have fz1 : w.heap.size + 1 < W1.heap.size := (Array.getElem?_eq_some_iff.1 (hJ.at' 1 y rfl)).1
  have hal := bel1 W1 (.cells #[.int .i64 p.lo, .int .i64 p.hi, .bool p.all] 25)
  replace hJ := hJ.later hal
  have kp := d3_new W1 p
  go_wp2_with fail
  clear f10 f11 f12 fz1 hal
  generalize W1.alloc (.cells #[.int .i64 p.lo, .int .i64 p.hi, .bool p.all] 25) = W2 at *
  generalize W1.heap.size = bp at *
  refine (HQ.out _).mono ?_
  rintro e W3 ⟨rfl, hB⟩
  replace hJ := hJ.later hB
  replace kp := kp.below hB
  clear hB
  have hlp : bp < W3.heap.size := (Array.getElem?_eq_some_iff.1 kp).1
  have p0 := kp.cells.1
  have p1 := kp.cells.2.1
  have p2 := kp.cells.2.2.1
  have hal := bel1 W3 (.cells #[.int .i64 q.lo, .int .i64 q.hi, .bool q.all] 25)
  have hb := bel_al hJ.below (.cells #[.int .i64 q.lo, .int .i64 q.hi, .bool q.all] 25)
  have hap := HAp.out
  rw [hap] at p2
  have haq := HAq.out
  rw [haq] at hb
  go_wp2
  go_ret
  exact ⟨rfl, hb⟩
set_option maxHeartbeats 1600000 in
theorem rdIn_hi (x y p q : Sp) (HPx : ∀ W : World, Calls Try.prog 44 #[.agg #[.int .i64 x.lo, .int .i64 x.hi, .bool x.all]] W (PDp p W)) (HQx : ∀ W : World, Calls Try.prog 44 #[.agg #[.int .i64 y.lo, .int .i64 y.hi, .bool y.all]] W (PDp q W)) (haq : q.all = false) (hap : p.all = false) (d1 : decide (q.lo ≤ p.lo) = true) (w : World) : Calls Try.prog 22 #[.agg #[.int .i64 x.lo, .int .i64 x.hi, .bool x.all], .agg #[.int .i64 y.lo, .int .i64 y.hi, .bool y.all]] w (PVal (.bool (decide (p.hi ≤ q.hi))) w) := by
  have HP := Lib.hid HPx
  have HQ := Lib.hid HQx
  clear HPx HQx
  have HAq := Lib.hid haq
  clear haq
  have HAp := Lib.hid hap
  clear hap
  go_enter Try.func22, Try.ntmps22
  go_wp2_with fail
  have hJ := ds2 w x.lo x.hi x.all y.lo y.hi y.all
  generalize (w.alloc (.cells #[.int .i64 x.lo, .int .i64 x.hi, .bool x.all] 25)).alloc (.cells #[.int .i64 y.lo, .int .i64 y.hi, .bool y.all] 25) = w1 at *
  refine (HP.out _).mono ?_
  rintro e W1 ⟨rfl, hB⟩
  replace hJ := hJ.later hB
  clear hB
  have f10 := hJ.c1.1
  have f11 := hJ.c1.2.1
  have f12 := hJ.c1.2.2.1
  have fz1 : w.heap.size + 1 < W1.heap.size := (Array.getElem?_eq_some_iff.1 (hJ.at' 1 y rfl)).1
  have hal := bel1 W1 (.cells #[.int .i64 p.lo, .int .i64 p.hi, .bool p.all] 25)
  replace hJ := hJ.later hal
  have kp := d3_new W1 p
  go_wp2_with fail
  clear f10 f11 f12 fz1 hal
  generalize W1.alloc (.cells #[.int .i64 p.lo, .int .i64 p.hi, .bool p.all] 25) = W2 at *
  generalize W1.heap.size = bp at *
  refine (HQ.out _).mono ?_
  rintro e W3 ⟨rfl, hB⟩
  replace hJ := hJ.later hB
  replace kp := kp.below hB
  clear hB
  have hlp : bp < W3.heap.size := (Array.getElem?_eq_some_iff.1 kp).1
  have p0 := kp.cells.1
  have p1 := kp.cells.2.1
  have p2 := kp.cells.2.2.1
  have hal := bel1 W3 (.cells #[.int .i64 q.lo, .int .i64 q.hi, .bool q.all] 25)
  have hb := bel_al hJ.below (.cells #[.int .i64 q.lo, .int .i64 q.hi, .bool q.all] 25)
  have hap := HAp.out
  rw [hap] at p2
  have haq := HAq.out
  rw [haq] at hb
  go_wp2
  go_ret
  exact ⟨rfl, hb⟩
theorem rdIn_any (x y : Sp) (w : World) : Calls Try.prog 22 #[.agg #[.int .i64 x.lo, .int .i64 x.hi, .bool x.all], .agg #[.int .i64 y.lo, .int .i64 y.hi, .bool y.all]] w (PVal (.bool (inB x y)) w) := by
  have hp := rRight_any x
  have hq := rRight_any y
  unfold inB
  cases hy : okB y
  · rw [mkS_no hy] at hq
    exact rdIn_qall x y _ _ hp hq rfl w
  · rw [mkS_ok hy] at hq
    have ky := (ok_of hy).2.2.2
    cases hx : okB x
    · rw [mkS_no hx] at hp
      exact rdIn_pall x y _ _ hp hq ky rfl w
    · rw [mkS_ok hx] at hp
      have kx := (ok_of hx).2.2.2
      cases hd : decide (y.lo ≤ x.lo)
      · exact rdIn_lo x y _ _ hp hq ky kx hd w
      · have := rdIn_hi x y _ _ hp hq ky kx hd w
        simpa using this
set_option maxHeartbeats 1600000 in
theorem rdJoin_pall (x y p q : Sp) (HPx : ∀ W : World, Calls Try.prog 44 #[.agg #[.int .i64 x.lo, .int .i64 x.hi, .bool x.all]] W (PDp p W)) (HQx : ∀ W : World, Calls Try.prog 44 #[.agg #[.int .i64 y.lo, .int .i64 y.hi, .bool y.all]] W (PDp q W)) (hap : p.all = true) (w : World) : Calls Try.prog 23 #[.agg #[.int .i64 x.lo, .int .i64 x.hi, .bool x.all], .agg #[.int .i64 y.lo, .int .i64 y.hi, .bool y.all]] w (PDp lineS w) := by
  have HP := Lib.hid HPx
  have HQ := Lib.hid HQx
  clear HPx HQx
  have HAp := Lib.hid hap
  clear hap
  go_enter Try.func23, Try.ntmps23
  go_wp2_with fail
  have hJ := ds3 w x.lo x.hi x.all y.lo y.hi y.all 0 0 false
  generalize ((w.alloc (.cells #[.int .i64 x.lo, .int .i64 x.hi, .bool x.all] 25)).alloc (.cells #[.int .i64 y.lo, .int .i64 y.hi, .bool y.all] 25)).alloc (.cells #[.int .i64 0, .int .i64 0, .bool false] 25) = w1 at *
  refine (HP.out _).mono ?_
  rintro e W1 ⟨rfl, hB⟩
  replace hJ := hJ.later hB
  clear hB
  have f10 := hJ.c1.1
  have f11 := hJ.c1.2.1
  have f12 := hJ.c1.2.2.1
  have fz1 : w.heap.size + 1 < W1.heap.size := (Array.getElem?_eq_some_iff.1 (hJ.at' 1 y rfl)).1
  have hal := bel1 W1 (.cells #[.int .i64 p.lo, .int .i64 p.hi, .bool p.all] 25)
  replace hJ := hJ.later hal
  have kp := d3_new W1 p
  go_wp2_with fail
  clear f10 f11 f12 fz1 hal
  generalize W1.alloc (.cells #[.int .i64 p.lo, .int .i64 p.hi, .bool p.all] 25) = W2 at *
  generalize W1.heap.size = bp at *
  refine (HQ.out _).mono ?_
  rintro e W3 ⟨rfl, hB⟩
  replace hJ := hJ.later hB
  replace kp := kp.below hB
  clear hB
  have hlp : bp < W3.heap.size := (Array.getElem?_eq_some_iff.1 kp).1
  have p0 := kp.cells.1
  have p1 := kp.cells.2.1
  have p2 := kp.cells.2.2.1
  have hal := bel1 W3 (.cells #[.int .i64 q.lo, .int .i64 q.hi, .bool q.all] 25)
  have hb := bel_al hJ.below (.cells #[.int .i64 q.lo, .int .i64 q.hi, .bool q.all] 25)
  have g0 := hJ.c2.1
  have g1 := hJ.c2.2.1
  have g2 := hJ.c2.2.2.1
  have g3 := hJ.c2.2.2.2.1
  have g4 := hJ.c2.2.2.2.2.1
  have g5 := hJ.c2.2.2.2.2.2
  have fz2 : w.heap.size + 2 < W3.heap.size := (Array.getElem?_eq_some_iff.1 (hJ.at' 2 _ rfl)).1
  have fz3 : w.heap.size + 2 < W3.heap.size + 1 := by omega
  have hlp3 : bp < W3.heap.size + 1 := by omega
  have hap := HAp.out
  rw [hap] at p2
  go_wp2
  have hp := hJ.put 2 (by simp) ⟨0, 0, true⟩
  refine bodyPost_ret (v := .agg #[.int .i64 0, .int .i64 0, .bool true]) (by simp [results, Try.results23, go_sem, g0, g1, g2, fz2, fz3]) rfl ⟨rfl, ?_⟩
  first | exact bel_al hp.below _ | exact hp.below | exact bel_al (bel_al hp.below _) _
set_option maxHeartbeats 1600000 in
theorem rdJoin_qall (x y p q : Sp) (HPx : ∀ W : World, Calls Try.prog 44 #[.agg #[.int .i64 x.lo, .int .i64 x.hi, .bool x.all]] W (PDp p W)) (HQx : ∀ W : World, Calls Try.prog 44 #[.agg #[.int .i64 y.lo, .int .i64 y.hi, .bool y.all]] W (PDp q W)) (hap : p.all = false) (haq : q.all = true) (w : World) : Calls Try.prog 23 #[.agg #[.int .i64 x.lo, .int .i64 x.hi, .bool x.all], .agg #[.int .i64 y.lo, .int .i64 y.hi, .bool y.all]] w (PDp lineS w) := by
  have HP := Lib.hid HPx
  have HQ := Lib.hid HQx
  clear HPx HQx
  have HAq := Lib.hid haq
  clear haq
  have HAp := Lib.hid hap
  clear hap
  go_enter Try.func23, Try.ntmps23
  go_wp2_with fail
  have hJ := ds3 w x.lo x.hi x.all y.lo y.hi y.all 0 0 false
  generalize ((w.alloc (.cells #[.int .i64 x.lo, .int .i64 x.hi, .bool x.all] 25)).alloc (.cells #[.int .i64 y.lo, .int .i64 y.hi, .bool y.all] 25)).alloc (.cells #[.int .i64 0, .int .i64 0, .bool false] 25) = w1 at *
  refine (HP.out _).mono ?_
  rintro e W1 ⟨rfl, hB⟩
  replace hJ := hJ.later hB
  clear hB
  have f10 := hJ.c1.1
  have f11 := hJ.c1.2.1
  have f12 := hJ.c1.2.2.1
  have fz1 : w.heap.size + 1 < W1.heap.size := (Array.getElem?_eq_some_iff.1 (hJ.at' 1 y rfl)).1
  have hal := bel1 W1 (.cells #[.int .i64 p.lo, .int .i64 p.hi, .bool p.all] 25)
  replace hJ := hJ.later hal
  have kp := d3_new W1 p
  go_wp2_with fail
  clear f10 f11 f12 fz1 hal
  generalize W1.alloc (.cells #[.int .i64 p.lo, .int .i64 p.hi, .bool p.all] 25) = W2 at *
  generalize W1.heap.size = bp at *
  refine (HQ.out _).mono ?_
  rintro e W3 ⟨rfl, hB⟩
  replace hJ := hJ.later hB
  replace kp := kp.below hB
  clear hB
  have hlp : bp < W3.heap.size := (Array.getElem?_eq_some_iff.1 kp).1
  have p0 := kp.cells.1
  have p1 := kp.cells.2.1
  have p2 := kp.cells.2.2.1
  have hal := bel1 W3 (.cells #[.int .i64 q.lo, .int .i64 q.hi, .bool q.all] 25)
  have hb := bel_al hJ.below (.cells #[.int .i64 q.lo, .int .i64 q.hi, .bool q.all] 25)
  have g0 := hJ.c2.1
  have g1 := hJ.c2.2.1
  have g2 := hJ.c2.2.2.1
  have g3 := hJ.c2.2.2.2.1
  have g4 := hJ.c2.2.2.2.2.1
  have g5 := hJ.c2.2.2.2.2.2
  have fz2 : w.heap.size + 2 < W3.heap.size := (Array.getElem?_eq_some_iff.1 (hJ.at' 2 _ rfl)).1
  have fz3 : w.heap.size + 2 < W3.heap.size + 1 := by omega
  have hlp3 : bp < W3.heap.size + 1 := by omega
  have hap := HAp.out
  rw [hap] at p2
  have haq := HAq.out
  rw [haq] at hb
  go_wp2
  have hp := hJ.put 2 (by simp) ⟨0, 0, true⟩
  refine bodyPost_ret (v := .agg #[.int .i64 0, .int .i64 0, .bool true]) (by simp [results, Try.results23, go_sem, g0, g1, g2, fz2, fz3]) rfl ⟨rfl, ?_⟩
  first | exact bel_al hp.below _ | exact hp.below | exact bel_al (bel_al hp.below _) _
set_option maxHeartbeats 1600000 in
theorem rdJoin_ok (x y p q : Sp) (HPx : ∀ W : World, Calls Try.prog 44 #[.agg #[.int .i64 x.lo, .int .i64 x.hi, .bool x.all]] W (PDp p W)) (HQx : ∀ W : World, Calls Try.prog 44 #[.agg #[.int .i64 y.lo, .int .i64 y.hi, .bool y.all]] W (PDp q W)) (hap : p.all = false) (haq : q.all = false) (w : World) : Calls Try.prog 23 #[.agg #[.int .i64 x.lo, .int .i64 x.hi, .bool x.all], .agg #[.int .i64 y.lo, .int .i64 y.hi, .bool y.all]] w (PDp ⟨min p.lo q.lo, max p.hi q.hi, false⟩ w) := by
  have HP := Lib.hid HPx
  have HQ := Lib.hid HQx
  clear HPx HQx
  have HAq := Lib.hid haq
  clear haq
  have HAp := Lib.hid hap
  clear hap
  go_enter Try.func23, Try.ntmps23
  go_wp2_with fail
  have hJ := ds3 w x.lo x.hi x.all y.lo y.hi y.all 0 0 false
  generalize ((w.alloc (.cells #[.int .i64 x.lo, .int .i64 x.hi, .bool x.all] 25)).alloc (.cells #[.int .i64 y.lo, .int .i64 y.hi, .bool y.all] 25)).alloc (.cells #[.int .i64 0, .int .i64 0, .bool false] 25) = w1 at *
  refine (HP.out _).mono ?_
  rintro e W1 ⟨rfl, hB⟩
  replace hJ := hJ.later hB
  clear hB
  have f10 := hJ.c1.1
  have f11 := hJ.c1.2.1
  have f12 := hJ.c1.2.2.1
  have fz1 : w.heap.size + 1 < W1.heap.size := (Array.getElem?_eq_some_iff.1 (hJ.at' 1 y rfl)).1
  have hal := bel1 W1 (.cells #[.int .i64 p.lo, .int .i64 p.hi, .bool p.all] 25)
  replace hJ := hJ.later hal
  have kp := d3_new W1 p
  go_wp2_with fail
  clear f10 f11 f12 fz1 hal
  generalize W1.alloc (.cells #[.int .i64 p.lo, .int .i64 p.hi, .bool p.all] 25) = W2 at *
  generalize W1.heap.size = bp at *
  refine (HQ.out _).mono ?_
  rintro e W3 ⟨rfl, hB⟩
  replace hJ := hJ.later hB
  replace kp := kp.below hB
  clear hB
  have hlp : bp < W3.heap.size := (Array.getElem?_eq_some_iff.1 kp).1
  have p0 := kp.cells.1
  have p1 := kp.cells.2.1
  have p2 := kp.cells.2.2.1
  have hal := bel1 W3 (.cells #[.int .i64 q.lo, .int .i64 q.hi, .bool q.all] 25)
  have hb := bel_al hJ.below (.cells #[.int .i64 q.lo, .int .i64 q.hi, .bool q.all] 25)
  have g0 := hJ.c2.1
  have g1 := hJ.c2.2.1
  have g2 := hJ.c2.2.2.1
  have g3 := hJ.c2.2.2.2.1
  have g4 := hJ.c2.2.2.2.2.1
  have g5 := hJ.c2.2.2.2.2.2
  have fz2 : w.heap.size + 2 < W3.heap.size := (Array.getElem?_eq_some_iff.1 (hJ.at' 2 _ rfl)).1
  have fz3 : w.heap.size + 2 < W3.heap.size + 1 := by omega
  have hlp3 : bp < W3.heap.size + 1 := by omega
  have hap := HAp.out
  rw [hap] at p2
  have haq := HAq.out
  rw [haq] at hb
  go_wp2
  have hp := hJ.put 2 (by simp) ⟨min p.lo q.lo, max p.hi q.hi, false⟩
  refine bodyPost_ret (v := .agg #[.int .i64 (min p.lo q.lo), .int .i64 (max p.hi q.hi), .bool false]) (by simp [results, Try.results23, go_sem, g0, g1, g2, fz2, fz3]) rfl ⟨rfl, ?_⟩
  first | exact bel_al hp.below _ | exact hp.below | exact bel_al (bel_al hp.below _) _
theorem rdJoin_any (x y : Sp) (w : World) : Calls Try.prog 23 #[.agg #[.int .i64 x.lo, .int .i64 x.hi, .bool x.all], .agg #[.int .i64 y.lo, .int .i64 y.hi, .bool y.all]] w (PDp (joinS x y) w) := by
  have hp := rRight_any x
  have hq := rRight_any y
  cases hx : okB x
  · rw [mkS_no hx] at hp
    rw [join_no (by rw [hx]; rfl)]
    exact rdJoin_pall x y _ _ hp hq rfl w
  · rw [mkS_ok hx] at hp
    have kx := (ok_of hx).2.2.2
    cases hy : okB y
    · rw [mkS_no hy] at hq
      rw [join_no (by rw [hx, hy]; rfl)]
      exact rdJoin_qall x y _ _ hp hq kx rfl w
    · rw [mkS_ok hy] at hq
      rw [join_ok hx hy]
      exact rdJoin_ok x y _ _ hp hq kx (ok_of hy).2.2.2 w
/-- A span of the document's and whether there is one are handed back. -/
def PDp2 (x : Sp) (b : Bool) (w : World) (e : Ending) (w' : World) : Prop := e = .returned (.tuple #[.agg #[.int .i64 x.lo, .int .i64 x.hi, .bool x.all], .bool b]) ∧ Below w.heap.size w w'
set_option maxRecDepth 100000 in
set_option maxHeartbeats 1600000 in
theorem rdMeet_pall (x y p q : Sp) (HPx : ∀ W : World, Calls Try.prog 44 #[.agg #[.int .i64 x.lo, .int .i64 x.hi, .bool x.all]] W (PDp p W)) (HQx : ∀ W : World, Calls Try.prog 44 #[.agg #[.int .i64 y.lo, .int .i64 y.hi, .bool y.all]] W (PDp q W)) (hap : p.all = true) (w : World) : Calls Try.prog 17 #[.agg #[.int .i64 x.lo, .int .i64 x.hi, .bool x.all], .agg #[.int .i64 y.lo, .int .i64 y.hi, .bool y.all]] w (PDp2 q true w) := by
  have HP := Lib.hid HPx
  have HQ := Lib.hid HQx
  clear HPx HQx
  have HAp := Lib.hid hap
  clear hap
  go_enter Try.func17, Try.ntmps17
  go_wp2_with fail
  have hJ := ds3 w x.lo x.hi x.all y.lo y.hi y.all 0 0 false
  generalize ((w.alloc (.cells #[.int .i64 x.lo, .int .i64 x.hi, .bool x.all] 25)).alloc (.cells #[.int .i64 y.lo, .int .i64 y.hi, .bool y.all] 25)).alloc (.cells #[.int .i64 0, .int .i64 0, .bool false] 25) = w1 at *
  refine (HP.out _).mono ?_
  rintro e W1 ⟨rfl, hB⟩
  replace hJ := hJ.later hB
  clear hB
  have f10 := hJ.c1.1
  have f11 := hJ.c1.2.1
  have f12 := hJ.c1.2.2.1
  have fz1 : w.heap.size + 1 < W1.heap.size := (Array.getElem?_eq_some_iff.1 (hJ.at' 1 y rfl)).1
  have hal := bel1 W1 (.cells #[.int .i64 p.lo, .int .i64 p.hi, .bool p.all] 25)
  replace hJ := hJ.later hal
  have kp := d3_new W1 p
  go_wp2_with fail
  clear f10 f11 f12 fz1 hal
  generalize W1.alloc (.cells #[.int .i64 p.lo, .int .i64 p.hi, .bool p.all] 25) = W2 at *
  generalize W1.heap.size = bp at *
  refine (HQ.out _).mono ?_
  rintro e W3 ⟨rfl, hB⟩
  replace hJ := hJ.later hB
  replace kp := kp.below hB
  clear hB
  have hlp : bp < W3.heap.size := (Array.getElem?_eq_some_iff.1 kp).1
  have p0 := kp.cells.1
  have p1 := kp.cells.2.1
  have p2 := kp.cells.2.2.1
  have hal := bel1 W3 (.cells #[.int .i64 q.lo, .int .i64 q.hi, .bool q.all] 25)
  have hb := bel_al hJ.below (.cells #[.int .i64 q.lo, .int .i64 q.hi, .bool q.all] 25)
  have g0 := hJ.c2.1
  have g1 := hJ.c2.2.1
  have g2 := hJ.c2.2.2.1
  have g3 := hJ.c2.2.2.2.1
  have g4 := hJ.c2.2.2.2.2.1
  have g5 := hJ.c2.2.2.2.2.2
  have fz2 : w.heap.size + 2 < W3.heap.size := (Array.getElem?_eq_some_iff.1 (hJ.at' 2 _ rfl)).1
  have fz3 : w.heap.size + 2 < W3.heap.size + 1 := by omega
  have hlp3 : bp < W3.heap.size + 1 := by omega
  have hap := HAp.out
  rw [hap] at p2
  go_wp2
  have hp := hJ.put 2 (by simp) q
  refine bodyPost_ret (v := .tuple #[.agg #[.int .i64 q.lo, .int .i64 q.hi, .bool q.all], .bool true]) (by simp [results, Try.results17, go_sem, g0, g1, g2, fz2, fz3]) rfl ⟨rfl, ?_⟩
  first | exact bel_al hp.below _ | exact hp.below | exact bel_al (bel_al hp.below _) _
set_option maxRecDepth 100000 in
set_option maxHeartbeats 1600000 in
theorem rdMeet_qall (x y p q : Sp) (HPx : ∀ W : World, Calls Try.prog 44 #[.agg #[.int .i64 x.lo, .int .i64 x.hi, .bool x.all]] W (PDp p W)) (HQx : ∀ W : World, Calls Try.prog 44 #[.agg #[.int .i64 y.lo, .int .i64 y.hi, .bool y.all]] W (PDp q W)) (hap : p.all = false) (haq : q.all = true) (w : World) : Calls Try.prog 17 #[.agg #[.int .i64 x.lo, .int .i64 x.hi, .bool x.all], .agg #[.int .i64 y.lo, .int .i64 y.hi, .bool y.all]] w (PDp2 ⟨p.lo, p.hi, false⟩ true w) := by
  have HP := Lib.hid HPx
  have HQ := Lib.hid HQx
  clear HPx HQx
  have HAq := Lib.hid haq
  clear haq
  have HAp := Lib.hid hap
  clear hap
  go_enter Try.func17, Try.ntmps17
  go_wp2_with fail
  have hJ := ds3 w x.lo x.hi x.all y.lo y.hi y.all 0 0 false
  generalize ((w.alloc (.cells #[.int .i64 x.lo, .int .i64 x.hi, .bool x.all] 25)).alloc (.cells #[.int .i64 y.lo, .int .i64 y.hi, .bool y.all] 25)).alloc (.cells #[.int .i64 0, .int .i64 0, .bool false] 25) = w1 at *
  refine (HP.out _).mono ?_
  rintro e W1 ⟨rfl, hB⟩
  replace hJ := hJ.later hB
  clear hB
  have f10 := hJ.c1.1
  have f11 := hJ.c1.2.1
  have f12 := hJ.c1.2.2.1
  have fz1 : w.heap.size + 1 < W1.heap.size := (Array.getElem?_eq_some_iff.1 (hJ.at' 1 y rfl)).1
  have hal := bel1 W1 (.cells #[.int .i64 p.lo, .int .i64 p.hi, .bool p.all] 25)
  replace hJ := hJ.later hal
  have kp := d3_new W1 p
  go_wp2_with fail
  clear f10 f11 f12 fz1 hal
  generalize W1.alloc (.cells #[.int .i64 p.lo, .int .i64 p.hi, .bool p.all] 25) = W2 at *
  generalize W1.heap.size = bp at *
  refine (HQ.out _).mono ?_
  rintro e W3 ⟨rfl, hB⟩
  replace hJ := hJ.later hB
  replace kp := kp.below hB
  clear hB
  have hlp : bp < W3.heap.size := (Array.getElem?_eq_some_iff.1 kp).1
  have p0 := kp.cells.1
  have p1 := kp.cells.2.1
  have p2 := kp.cells.2.2.1
  have hal := bel1 W3 (.cells #[.int .i64 q.lo, .int .i64 q.hi, .bool q.all] 25)
  have hb := bel_al hJ.below (.cells #[.int .i64 q.lo, .int .i64 q.hi, .bool q.all] 25)
  have g0 := hJ.c2.1
  have g1 := hJ.c2.2.1
  have g2 := hJ.c2.2.2.1
  have g3 := hJ.c2.2.2.2.1
  have g4 := hJ.c2.2.2.2.2.1
  have g5 := hJ.c2.2.2.2.2.2
  have fz2 : w.heap.size + 2 < W3.heap.size := (Array.getElem?_eq_some_iff.1 (hJ.at' 2 _ rfl)).1
  have fz3 : w.heap.size + 2 < W3.heap.size + 1 := by omega
  have hlp3 : bp < W3.heap.size + 1 := by omega
  have hap := HAp.out
  rw [hap] at p2
  have haq := HAq.out
  rw [haq] at hb
  go_wp2
  have hp := hJ.put 2 (by simp) ⟨p.lo, p.hi, false⟩
  refine bodyPost_ret (v := .tuple #[.agg #[.int .i64 p.lo, .int .i64 p.hi, .bool false], .bool true]) (by simp [results, Try.results17, go_sem, g0, g1, g2, fz2, fz3]) rfl ⟨rfl, ?_⟩
  first | exact bel_al hp.below _ | exact hp.below | exact bel_al (bel_al hp.below _) _
set_option maxRecDepth 100000 in
set_option maxHeartbeats 1600000 in
theorem rdMeet_none (x y p q : Sp) (HPx : ∀ W : World, Calls Try.prog 44 #[.agg #[.int .i64 x.lo, .int .i64 x.hi, .bool x.all]] W (PDp p W)) (HQx : ∀ W : World, Calls Try.prog 44 #[.agg #[.int .i64 y.lo, .int .i64 y.hi, .bool y.all]] W (PDp q W)) (hap : p.all = false) (haq : q.all = false) (P Q : Int) (hP : max p.lo q.lo = P) (hQ : min p.hi q.hi = Q) (d2 : Q < P) (w : World) : Calls Try.prog 17 #[.agg #[.int .i64 x.lo, .int .i64 x.hi, .bool x.all], .agg #[.int .i64 y.lo, .int .i64 y.hi, .bool y.all]] w (PDp2 ⟨0, 0, false⟩ false w) := by
  have HP := Lib.hid HPx
  have HQ := Lib.hid HQx
  clear HPx HQx
  have HAq := Lib.hid haq
  clear haq
  have HAp := Lib.hid hap
  clear hap
  have HPQ := Lib.hid (And.intro hP hQ)
  clear hP hQ
  go_enter Try.func17, Try.ntmps17
  go_wp2_with fail
  have hJ := ds3 w x.lo x.hi x.all y.lo y.hi y.all 0 0 false
  generalize ((w.alloc (.cells #[.int .i64 x.lo, .int .i64 x.hi, .bool x.all] 25)).alloc (.cells #[.int .i64 y.lo, .int .i64 y.hi, .bool y.all] 25)).alloc (.cells #[.int .i64 0, .int .i64 0, .bool false] 25) = w1 at *
  refine (HP.out _).mono ?_
  rintro e W1 ⟨rfl, hB⟩
  replace hJ := hJ.later hB
  clear hB
  have f10 := hJ.c1.1
  have f11 := hJ.c1.2.1
  have f12 := hJ.c1.2.2.1
  have fz1 : w.heap.size + 1 < W1.heap.size := (Array.getElem?_eq_some_iff.1 (hJ.at' 1 y rfl)).1
  have hal := bel1 W1 (.cells #[.int .i64 p.lo, .int .i64 p.hi, .bool p.all] 25)
  replace hJ := hJ.later hal
  have kp := d3_new W1 p
  go_wp2_with fail
  clear f10 f11 f12 fz1 hal
  generalize W1.alloc (.cells #[.int .i64 p.lo, .int .i64 p.hi, .bool p.all] 25) = W2 at *
  generalize W1.heap.size = bp at *
  refine (HQ.out _).mono ?_
  rintro e W3 ⟨rfl, hB⟩
  replace hJ := hJ.later hB
  replace kp := kp.below hB
  clear hB
  have hlp : bp < W3.heap.size := (Array.getElem?_eq_some_iff.1 kp).1
  have p0 := kp.cells.1
  have p1 := kp.cells.2.1
  have p2 := kp.cells.2.2.1
  have hal := bel1 W3 (.cells #[.int .i64 q.lo, .int .i64 q.hi, .bool q.all] 25)
  have hb := bel_al hJ.below (.cells #[.int .i64 q.lo, .int .i64 q.hi, .bool q.all] 25)
  have g0 := hJ.c2.1
  have g1 := hJ.c2.2.1
  have g2 := hJ.c2.2.2.1
  have g3 := hJ.c2.2.2.2.1
  have g4 := hJ.c2.2.2.2.2.1
  have g5 := hJ.c2.2.2.2.2.2
  have fz2 : w.heap.size + 2 < W3.heap.size := (Array.getElem?_eq_some_iff.1 (hJ.at' 2 _ rfl)).1
  have fz3 : w.heap.size + 2 < W3.heap.size + 1 := by omega
  have hlp3 : bp < W3.heap.size + 1 := by omega
  have hap := HAp.out
  rw [hap] at p2
  have haq := HAq.out
  rw [haq] at hb
  have hP := HPQ.out.1
  have hQ := HPQ.out.2
  have d1 : decide (Q < P) = true := decide_eq_true d2
  go_wp2
  have hp := hJ.put 2 (by simp) ⟨0, 0, false⟩
  refine bodyPost_ret (v := .tuple #[.agg #[.int .i64 0, .int .i64 0, .bool false], .bool false]) (by simp [results, Try.results17, go_sem, g0, g1, g2, fz2, fz3]) rfl ⟨rfl, ?_⟩
  first | exact bel_al hp.below _ | exact hp.below | exact bel_al (bel_al hp.below _) _
set_option maxRecDepth 100000 in
set_option maxHeartbeats 1600000 in
theorem rdMeet_ok (x y p q : Sp) (HPx : ∀ W : World, Calls Try.prog 44 #[.agg #[.int .i64 x.lo, .int .i64 x.hi, .bool x.all]] W (PDp p W)) (HQx : ∀ W : World, Calls Try.prog 44 #[.agg #[.int .i64 y.lo, .int .i64 y.hi, .bool y.all]] W (PDp q W)) (hap : p.all = false) (haq : q.all = false) (P Q : Int) (hP : max p.lo q.lo = P) (hQ : min p.hi q.hi = Q) (d2 : ¬ Q < P) (w : World) : Calls Try.prog 17 #[.agg #[.int .i64 x.lo, .int .i64 x.hi, .bool x.all], .agg #[.int .i64 y.lo, .int .i64 y.hi, .bool y.all]] w (PDp2 ⟨P, Q, false⟩ true w) := by
  have HP := Lib.hid HPx
  have HQ := Lib.hid HQx
  clear HPx HQx
  have HAq := Lib.hid haq
  clear haq
  have HAp := Lib.hid hap
  clear hap
  have HPQ := Lib.hid (And.intro hP hQ)
  clear hP hQ
  go_enter Try.func17, Try.ntmps17
  go_wp2_with fail
  have hJ := ds3 w x.lo x.hi x.all y.lo y.hi y.all 0 0 false
  generalize ((w.alloc (.cells #[.int .i64 x.lo, .int .i64 x.hi, .bool x.all] 25)).alloc (.cells #[.int .i64 y.lo, .int .i64 y.hi, .bool y.all] 25)).alloc (.cells #[.int .i64 0, .int .i64 0, .bool false] 25) = w1 at *
  refine (HP.out _).mono ?_
  rintro e W1 ⟨rfl, hB⟩
  replace hJ := hJ.later hB
  clear hB
  have f10 := hJ.c1.1
  have f11 := hJ.c1.2.1
  have f12 := hJ.c1.2.2.1
  have fz1 : w.heap.size + 1 < W1.heap.size := (Array.getElem?_eq_some_iff.1 (hJ.at' 1 y rfl)).1
  have hal := bel1 W1 (.cells #[.int .i64 p.lo, .int .i64 p.hi, .bool p.all] 25)
  replace hJ := hJ.later hal
  have kp := d3_new W1 p
  go_wp2_with fail
  clear f10 f11 f12 fz1 hal
  generalize W1.alloc (.cells #[.int .i64 p.lo, .int .i64 p.hi, .bool p.all] 25) = W2 at *
  generalize W1.heap.size = bp at *
  refine (HQ.out _).mono ?_
  rintro e W3 ⟨rfl, hB⟩
  replace hJ := hJ.later hB
  replace kp := kp.below hB
  clear hB
  have hlp : bp < W3.heap.size := (Array.getElem?_eq_some_iff.1 kp).1
  have p0 := kp.cells.1
  have p1 := kp.cells.2.1
  have p2 := kp.cells.2.2.1
  have hal := bel1 W3 (.cells #[.int .i64 q.lo, .int .i64 q.hi, .bool q.all] 25)
  have hb := bel_al hJ.below (.cells #[.int .i64 q.lo, .int .i64 q.hi, .bool q.all] 25)
  have g0 := hJ.c2.1
  have g1 := hJ.c2.2.1
  have g2 := hJ.c2.2.2.1
  have g3 := hJ.c2.2.2.2.1
  have g4 := hJ.c2.2.2.2.2.1
  have g5 := hJ.c2.2.2.2.2.2
  have fz2 : w.heap.size + 2 < W3.heap.size := (Array.getElem?_eq_some_iff.1 (hJ.at' 2 _ rfl)).1
  have fz3 : w.heap.size + 2 < W3.heap.size + 1 := by omega
  have hlp3 : bp < W3.heap.size + 1 := by omega
  have hap := HAp.out
  rw [hap] at p2
  have haq := HAq.out
  rw [haq] at hb
  have hP := HPQ.out.1
  have hQ := HPQ.out.2
  have d1 : decide (Q < P) = false := decide_eq_false (by omega)
  go_wp2
  have hp := hJ.put 2 (by simp) ⟨P, Q, false⟩
  refine bodyPost_ret (v := .tuple #[.agg #[.int .i64 P, .int .i64 Q, .bool false], .bool true]) (by simp [results, Try.results17, go_sem, g0, g1, g2, fz2, fz3]) rfl ⟨rfl, ?_⟩
  first | exact bel_al hp.below _ | exact hp.below | exact bel_al (bel_al hp.below _) _
theorem rdMeet_any (x y : Sp) (w : World) : Calls Try.prog 17 #[.agg #[.int .i64 x.lo, .int .i64 x.hi, .bool x.all], .agg #[.int .i64 y.lo, .int .i64 y.hi, .bool y.all]] w (PDp2 (meetS x y) (meetB x y) w) := by
  have hp := rRight_any x
  have hq := rRight_any y
  unfold meetS meetB
  cases hx : okB x
  · rw [mkS_no hx] at hp
    exact rdMeet_pall x y _ _ hp hq rfl w
  · rw [mkS_ok hx] at hp
    have kx := (ok_of hx).2.2.2
    cases hy : okB y
    · rw [mkS_no hy] at hq
      have := rdMeet_qall x y _ _ hp hq kx rfl w
      have e : (⟨x.lo, x.hi, false⟩ : Sp) = x := by rw [← kx]
      rw [e] at this
      exact this
    · rw [mkS_ok hy] at hq
      by_cases hl : max x.lo y.lo ≤ min x.hi y.hi
      · have := rdMeet_ok x y _ _ hp hq kx (ok_of hy).2.2.2 _ _ rfl rfl (by omega) w
        simpa [hl] using this
      · have := rdMeet_none x y _ _ hp hq kx (ok_of hy).2.2.2 _ _ rfl rfl (by omega) w
        simpa [hl] using this
set_option maxHeartbeats 1600000 in
theorem rdMid_w (x p : Sp) (HPx : ∀ W : World, Calls Try.prog 44 #[.agg #[.int .i64 x.lo, .int .i64 x.hi, .bool x.all]] W (PDp p W)) (k1 : -2147483647 ≤ p.lo) (k2 : p.lo ≤ p.hi) (k3 : p.hi ≤ 2147483647) (w : World) : Calls Try.prog 24 #[.agg #[.int .i64 x.lo, .int .i64 x.hi, .bool x.all]] w (PVal (.int .i64 ((p.lo + p.hi) / 2)) w) := by
  have HP := Lib.hid HPx
  clear HPx
  go_enter Try.func24, Try.ntmps24
  go_wp2_with fail
  refine (HP.out _).mono ?_
  rintro e W1 ⟨rfl, hB⟩
  have hb := bel_al (bel_on (bel1 w _) hB) (.cells #[.int .i64 p.lo, .int .i64 p.hi, .bool p.all] 25)
  have kp := d3_new W1 p
  clear hB
  have hq := tq (p.lo + p.hi) 2
  have ha := tr_abs (p.lo + p.hi) 2 (by decide)
  have hps := tr_pos (p.lo + p.hi) 2
  have hng := tr_neg (p.lo + p.hi) 2
  rcases Int.lt_or_le (p.lo + p.hi) 0 with hs | hs
  · have d1 : decide (p.lo + p.hi < 0) = true := decide_eq_true hs
    have hn := hng (by omega)
    obtain ⟨r, hr⟩ : ∃ r, (p.lo + p.hi).tmod 2 = r := ⟨_, rfl⟩
    obtain ⟨q, hqq⟩ : ∃ r, (p.lo + p.hi).tdiv 2 = r := ⟨_, rfl⟩
    rw [hr] at ha hn hq
    rw [hqq] at hq
    clear hps hng
    by_cases h0 : r = 0
    · have e0 : (r != 0) = false := by simpa using h0
      have HE : Hid (q = (p.lo + p.hi) / 2) := show q = _ by omega
      have q1 : -2147483648 ≤ q := by omega
      have q2 : q ≤ 2147483648 := by omega
      clear hq ha hn h0
      go_wp2
      go_ret
      exact ⟨ret_int (by rw [← HE.out]), hb⟩
    · have e0 : (r != 0) = true := by simpa using h0
      have HE : Hid (q - 1 = (p.lo + p.hi) / 2) := show q - 1 = _ by omega
      have q1 : -2147483648 ≤ q := by omega
      have q2 : q ≤ 2147483648 := by omega
      clear hq ha hn h0
      go_wp2
      go_ret
      exact ⟨ret_int (by rw [← HE.out]), hb⟩
  · have d1 : decide (p.lo + p.hi < 0) = false := decide_eq_false (by omega)
    clear hq ha hps hng
    go_wp2
    go_ret
    exact ⟨rfl, hb⟩
theorem rdMid_any (x : Sp) (w : World) : Calls Try.prog 24 #[.agg #[.int .i64 x.lo, .int .i64 x.hi, .bool x.all]] w (PVal (.int .i64 (midS x)) w) := by
  unfold midS
  have h := rdMid_w x _ (rRight_any x)
  cases hx : okB x
  · rw [mkS_no hx] at h
    exact h (by decide) (by decide) (by decide) w
  · obtain ⟨k1, k2, k3, k4⟩ := ok_of hx
    rw [mkS_ok hx] at h
    exact h k1 k2 k3 w
set_option maxHeartbeats 1600000 in
theorem rdRad_no (x p : Sp) (HPx : ∀ W : World, Calls Try.prog 44 #[.agg #[.int .i64 x.lo, .int .i64 x.hi, .bool x.all]] W (PDp p W)) (hap : p.all = true) (w : World) : Calls Try.prog 25 #[.agg #[.int .i64 x.lo, .int .i64 x.hi, .bool x.all]] w (PVal (.int .i64 2147483647) w) := by
  have HA := Lib.hid hap
  clear hap
  have HP := Lib.hid HPx
  clear HPx
  go_enter Try.func25, Try.ntmps25
  go_wp2_with fail
  refine (HP.out _).mono ?_
  rintro e W1 ⟨rfl, hB⟩
  have hb := bel_al (bel_on (bel1 w _) hB) (.cells #[.int .i64 p.lo, .int .i64 p.hi, .bool p.all] 25)
  have kp := d3_new W1 p
  clear hB
  have hap := HA.out
  rw [hap] at hb
  go_wp2
  go_ret
  exact ⟨rfl, hb⟩
set_option maxHeartbeats 1600000 in
theorem rdRad_ok (x p : Sp) (m : Int) (HPx : ∀ W : World, Calls Try.prog 44 #[.agg #[.int .i64 x.lo, .int .i64 x.hi, .bool x.all]] W (PDp p W)) (HMx : ∀ W : World, Calls Try.prog 24 #[.agg #[.int .i64 p.lo, .int .i64 p.hi, .bool false]] W (PVal (.int .i64 m) W)) (hap : p.all = false) (k1 : -2147483647 ≤ p.hi) (k2 : p.hi ≤ 2147483647) (k3 : -2147483647 ≤ m) (k4 : m ≤ 2147483647) (w : World) : Calls Try.prog 25 #[.agg #[.int .i64 x.lo, .int .i64 x.hi, .bool x.all]] w (PVal (.int .i64 (p.hi - m)) w) := by
  have HA := Lib.hid hap
  have HM := Lib.hid HMx
  clear hap HMx
  have HP := Lib.hid HPx
  clear HPx
  go_enter Try.func25, Try.ntmps25
  go_wp2_with fail
  refine (HP.out _).mono ?_
  rintro e W1 ⟨rfl, hB⟩
  have hb := bel_al (bel_on (bel1 w _) hB) (.cells #[.int .i64 p.lo, .int .i64 p.hi, .bool p.all] 25)
  have kp := d3_new W1 p
  clear hB
  have hap := HA.out
  rw [hap] at hb
  clear kp
  have kp := d3_new W1 ⟨p.lo, p.hi, false⟩
  go_wp2
  generalize W1.alloc (.cells #[.int .i64 p.lo, .int .i64 p.hi, .bool false] 25) = W2 at *
  generalize W1.heap.size = bp at *
  clear hap
  refine wp_region_vals 6 [some 8, some 9, some 10, some 11, some 12, some 2] (lstV [.pointer (some ⟨bp, 1, none⟩), .int .i64 p.hi, .agg #[.int .i64 p.lo, .int .i64 p.hi, .bool false], .int .i64 m, .int .i64 (p.hi - m), .int .i64 (p.hi - m)]) (fun W => Below w.heap.size w W ∧ D3 W bp ⟨p.lo, p.hi, false⟩) (by kernel_rfl) (by kernel_rfl) (by decide) (⟨hb.drew, kp⟩) ?_ ?_
  · intro i hl hi u W hJ hd
    obtain rfl | rfl | rfl | rfl | rfl | rfl : i = 0 ∨ i = 1 ∨ i = 2 ∨ i = 3 ∨ i = 4 ∨ i = 5 := by omega
    · skip
      clear hd
      simp only [List.getElem_cons_succ, List.getElem_cons_zero]
      clear hl
      refine .inr ⟨rfl, fun K' hK => ?_⟩
      have HK := Lib.hid hK
      clear hK
      simp only [layS, Act.put, List.setIfInBounds_toArray, List.set_cons_succ, List.set_cons_zero, Nat.zero_add, Nat.reduceAdd]
      have hw : IntKind.i64.wrap (p.hi - m) = p.hi - m := IntWalk.i64_in _ (by omega)
      have c0 := hJ.2.cells.1
      have c1 := hJ.2.cells.2.1
      have c2 := hJ.2.cells.2.2.1
      go_simp
      exact HK.out _ _ (by simp [layS, updV, lstV, Act.put]) hJ
    · have e0 : u 0 = .pointer (some ⟨bp, 1, none⟩) := hd 0 (by kernel_rfl)
      clear hd
      simp only [List.getElem_cons_succ, List.getElem_cons_zero]
      clear hl
      refine .inr ⟨rfl, fun K' hK => ?_⟩
      have HK := Lib.hid hK
      clear hK
      simp only [layS, Act.put, List.setIfInBounds_toArray, List.set_cons_succ, List.set_cons_zero, Nat.zero_add, Nat.reduceAdd, e0]
      have E0 := Lib.hid e0
      clear e0
      have hw : IntKind.i64.wrap (p.hi - m) = p.hi - m := IntWalk.i64_in _ (by omega)
      have c0 := hJ.2.cells.1
      have c1 := hJ.2.cells.2.1
      have c2 := hJ.2.cells.2.2.1
      go_simp
      exact HK.out _ _ (by simp [layS, updV, lstV, Act.put, E0.out]) hJ
    · skip
      clear hd
      simp only [List.getElem_cons_succ, List.getElem_cons_zero]
      clear hl
      refine .inr ⟨rfl, fun K' hK => ?_⟩
      have HK := Lib.hid hK
      clear hK
      simp only [layS, Act.put, List.setIfInBounds_toArray, List.set_cons_succ, List.set_cons_zero, Nat.zero_add, Nat.reduceAdd]
      have hw : IntKind.i64.wrap (p.hi - m) = p.hi - m := IntWalk.i64_in _ (by omega)
      have c0 := hJ.2.cells.1
      have c1 := hJ.2.cells.2.1
      have c2 := hJ.2.cells.2.2.1
      go_simp
      exact HK.out _ _ (by simp [layS, updV, lstV, Act.put]) hJ
    · have e2 : u 2 = .agg #[.int .i64 p.lo, .int .i64 p.hi, .bool false] := hd 2 (by kernel_rfl)
      clear hd
      simp only [List.getElem_cons_succ, List.getElem_cons_zero]
      clear hl
      refine .inr ⟨rfl, fun K' hK => ?_⟩
      have HK := Lib.hid hK
      clear hK
      simp only [layS, Act.put, List.setIfInBounds_toArray, List.set_cons_succ, List.set_cons_zero, Nat.zero_add, Nat.reduceAdd, e2]
      have E2 := Lib.hid e2
      clear e2
      have hw : IntKind.i64.wrap (p.hi - m) = p.hi - m := IntWalk.i64_in _ (by omega)
      have c0 := hJ.2.cells.1
      have c1 := hJ.2.cells.2.1
      have c2 := hJ.2.cells.2.2.1
      go_simp
      refine (HM.out W).mono ?_
      rintro e W' ⟨rfl, hB⟩
      exact HK.out _ _ (by simp [layS, updV, lstV, Act.put, E2.out]) (⟨bel_on hJ.1 hB, hJ.2.below hB⟩)
    · have e1 : u 1 = .int .i64 p.hi := hd 1 (by kernel_rfl)
      have e3 : u 3 = .int .i64 m := hd 3 (by kernel_rfl)
      clear hd
      simp only [List.getElem_cons_succ, List.getElem_cons_zero]
      clear hl
      refine .inr ⟨rfl, fun K' hK => ?_⟩
      have HK := Lib.hid hK
      clear hK
      simp only [layS, Act.put, List.setIfInBounds_toArray, List.set_cons_succ, List.set_cons_zero, Nat.zero_add, Nat.reduceAdd, e1, e3]
      have E1 := Lib.hid e1
      have E3 := Lib.hid e3
      clear e1 e3
      have hw : IntKind.i64.wrap (p.hi - m) = p.hi - m := IntWalk.i64_in _ (by omega)
      have c0 := hJ.2.cells.1
      have c1 := hJ.2.cells.2.1
      have c2 := hJ.2.cells.2.2.1
      go_simp
      exact HK.out _ _ (by simp [layS, updV, lstV, Act.put, E1.out, E3.out]) hJ
    · have e4 : u 4 = .int .i64 (p.hi - m) := hd 4 (by kernel_rfl)
      clear hd
      simp only [List.getElem_cons_succ, List.getElem_cons_zero]
      clear hl
      refine .inr ⟨rfl, fun K' hK => ?_⟩
      have HK := Lib.hid hK
      clear hK
      simp only [layS, Act.put, List.setIfInBounds_toArray, List.set_cons_succ, List.set_cons_zero, Nat.zero_add, Nat.reduceAdd, e4]
      have E4 := Lib.hid e4
      clear e4
      have hw : IntKind.i64.wrap (p.hi - m) = p.hi - m := IntWalk.i64_in _ (by omega)
      have c0 := hJ.2.cells.1
      have c1 := hJ.2.cells.2.1
      have c2 := hJ.2.cells.2.2.1
      go_simp
      exact HK.out _ _ (by simp [layS, updV, lstV, Act.put, E4.out]) hJ
  intro W hJ
  simp only [layS, lstV, Act.put, List.setIfInBounds_toArray, List.set_cons_succ, List.set_cons_zero, Nat.zero_add, Nat.reduceAdd, List.getD_cons_zero, List.getD_cons_succ, List.drop_succ_cons, List.drop_zero, List.drop_nil]
  go_wp2
  go_ret
  exact ⟨rfl, hJ.1⟩
theorem rdRad_any (x : Sp) (w : World) : Calls Try.prog 25 #[.agg #[.int .i64 x.lo, .int .i64 x.hi, .bool x.all]] w (PVal (.int .i64 (radS x)) w) := by
  unfold radS
  cases hx : okB x
  · have h := rRight_any x
    rw [mkS_no hx] at h
    exact rdRad_no x _ h rfl w
  · obtain ⟨k1, k2, k3, k4⟩ := ok_of hx
    have h := rRight_any x
    rw [mkS_ok hx] at h
    have hm := rdMid_any x
    rw [k4] at hm
    have hb := mid_bd x
    have := rdRad_ok x x (midS x) h hm k4 (by omega) k3 hb.1 hb.2 w
    unfold midS at this
    rw [hx] at this
    exact this
set_option maxHeartbeats 400000 in
theorem doc_any (x : Sp) (w : World) : Calls Try.prog 11 #[.agg #[.int .i64 x.lo, .int .i64 x.hi, .bool x.all]] w (PDp x w) := by
  go_enter Try.func11, Try.ntmps11
  go_wp2
  exact bodyPost_ret (v := .agg #[.int .i64 x.lo, .int .i64 x.hi, .bool x.all]) (by simp [results, Try.results11, go_sem]) rfl ⟨rfl, bel2 _ _ _⟩
end Go.Proofs.Ytpacbipencmjnaa
