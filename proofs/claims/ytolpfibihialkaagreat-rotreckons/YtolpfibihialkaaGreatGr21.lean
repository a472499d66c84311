/- Parts of the proof. -/
import Derived.Test.YtolpfibihialkaaGreatGr0
import Derived.Test.YtolpfibihialkaaGreatGr20
import Derived.Test.YtolpfibihialkaaGreatGr18
/- Spans: the walks of Mid, Rad, Meet. -/
namespace Go.Proofs.YtolpfibihialkaaGreat
open Go.RowKit
attribute [local go_sem ↓] run_eqlS run_neqS
theorem Mid_any (x : Sp) (w : World) : Calls Tryz.prog 73 #[.agg #[.int .i64 x.lo, .int .i64 x.hi, .bool x.all]] w (PVal (.int .i64 (midS x)) w) := by
 unfold midS
 cases hx : okB x
 ·
  have h := Mid_w x _ (counted_any x)
  rw [mkS_no hx] at h
  exact h (by decide) (by decide) (by decide) w
 ·
  obtain ⟨k1, k2, k3, k4⟩ := ok_of hx
  have h := Mid_w x _ (counted_any x)
  rw [mkS_ok hx] at h
  exact h k1 k2 k3 w
theorem mid_bd (x : Sp) : -2147483647 ≤ midS x ∧ midS x ≤ 2147483647 := by
 unfold midS
 cases hx : okB x
 ·
  simp
 ·
  obtain ⟨k1, k2, k3, k4⟩ := ok_of hx
  simp only [if_true]
  omega
set_option maxHeartbeats 1600000 in
theorem Rad_no (x x1 : Sp) (hcx : ∀ W : World, Calls Tryz.prog 72 #[.agg #[.int .i64 x.lo, .int .i64 x.hi, .bool x.all]] W (PSp x1 W)) (hqx : eqS x1.lo x1.hi x1.all lineS.lo lineS.hi lineS.all = true) (w : World) : Calls Tryz.prog 53 #[.agg #[.int .i64 x.lo, .int .i64 x.hi, .bool x.all]] w (PVal (.int .i64 2147483647) w) := by
 have HCX := Lib.hid hcx
 clear hcx
 go_enter Tryz.func53, Tryz.ntmps53
 go_wp2_with fail
 have hX := bs1 w x.lo x.hi x.all
 generalize w.alloc (.cells #[.int .i64 x.lo, .int .i64 x.hi, .bool x.all] 23) = w1 at *
 refine (HCX.out _).mono ?_
 rintro e w2 ⟨rfl, hB⟩
 have hX2 := hX.later hB
 have c00 := hX2.c0.1
 have c01 := hX2.c0.2.1
 have c02 := hX2.c0.2.2.1
 have c03 := hX2.c0.2.2.2.1
 have c04 := hX2.c0.2.2.2.2.1
 have c05 := hX2.c0.2.2.2.2.2
 go_wp2
 have hJ1 : Bs w _ [x1] := hX2.put 0 (by simp) x1
 simp only [Nat.add_zero] at hJ1
 clear c00 c01 c02 c03 c04 c05 hX hX2 hB
 refine wp_region_vals 3 [some 5, some 6, some 7] (lstV [.agg #[.int .i64 x1.lo, .int .i64 x1.hi, .bool x1.all], .agg #[.int .i64 lineS.lo, .int .i64 lineS.hi, .bool lineS.all], .bool true]) (fun W => Bs w W [x1]) (by kernel_rfl) (by kernel_rfl) (by decide) (hJ1.drew) ?_ ?_
 ·
  intro i hl hi u W hJ hd
  obtain rfl | rfl | rfl : i = 0 ∨ i = 1 ∨ i = 2 := by omega
  ·
   clear hd
   simp only [zzA, zzB]
   clear hl
   refine .inr ⟨rfl, fun K' hK => ?_⟩
   have HK := Lib.hid hK
   clear hK
   simp only [layS, Act.put, zzC, zzD, zzE, Nat.zero_add, Nat.reduceAdd]
   have c00 := hJ.c0.1
   have c01 := hJ.c0.2.1
   have c02 := hJ.c0.2.2.1
   have c03 := hJ.c0.2.2.2.1
   have c04 := hJ.c0.2.2.2.2.1
   have c05 := hJ.c0.2.2.2.2.2
   go_simp
   exact HK.out _ _ (by simp [layS, updV, lstV, Act.put]) hJ
  ·
   clear hd
   simp only [zzA, zzB]
   clear hl
   refine .inr ⟨rfl, fun K' hK => ?_⟩
   have HK := Lib.hid hK
   clear hK
   simp only [layS, Act.put, zzC, zzD, zzE, Nat.zero_add, Nat.reduceAdd]
   have c00 := hJ.c0.1
   have c01 := hJ.c0.2.1
   have c02 := hJ.c0.2.2.1
   have c03 := hJ.c0.2.2.2.1
   have c04 := hJ.c0.2.2.2.2.1
   have c05 := hJ.c0.2.2.2.2.2
   go_simp
   refine (whole_any W).mono ?_
   rintro e W' ⟨rfl, hB⟩
   exact HK.out _ _ (by simp [layS, updV, lstV, Act.put]) (hJ.later hB)
  ·
   have e0 : u 0 = .agg #[.int .i64 x1.lo, .int .i64 x1.hi, .bool x1.all] := hd 0 (by kernel_rfl)
   have e1 : u 1 = .agg #[.int .i64 lineS.lo, .int .i64 lineS.hi, .bool lineS.all] := hd 1 (by kernel_rfl)
   clear hd
   simp only [zzA, zzB]
   clear hl
   refine .inr ⟨rfl, fun K' hK => ?_⟩
   have HK := Lib.hid hK
   clear hK
   simp only [layS, Act.put, zzC, zzD, zzE, Nat.zero_add, Nat.reduceAdd, e0, e1]
   have E0 := Lib.hid e0
   have E1 := Lib.hid e1
   clear e0 e1
   have c00 := hJ.c0.1
   have c01 := hJ.c0.2.1
   have c02 := hJ.c0.2.2.1
   have c03 := hJ.c0.2.2.2.1
   have c04 := hJ.c0.2.2.2.2.1
   have c05 := hJ.c0.2.2.2.2.2
   go_simp
   exact HK.out _ _ (by simp [layS, updV, lstV, Act.put, E0.out, E1.out]) hJ
 intro W hJ
 simp only [layS, lstV, Act.put, zzC, zzD, zzE, Nat.zero_add, Nat.reduceAdd, List.getD_cons_zero, List.getD_cons_succ, List.drop_succ_cons, List.drop_zero, List.drop_nil]
 go_wp2
 go_ret
 exact ⟨rfl, hJ.below⟩
set_option maxHeartbeats 1600000 in
theorem Rad_ok (x x1 : Sp) (m : Int) (hcx : ∀ W : World, Calls Tryz.prog 72 #[.agg #[.int .i64 x.lo, .int .i64 x.hi, .bool x.all]] W (PSp x1 W)) (hcm : ∀ W : World, Calls Tryz.prog 73 #[.agg #[.int .i64 x1.lo, .int .i64 x1.hi, .bool x1.all]] W (PVal (.int .i64 m) W)) (hqx : eqS x1.lo x1.hi x1.all lineS.lo lineS.hi lineS.all = false) (k1 : -2147483647 ≤ x1.hi) (k2 : x1.hi ≤ 2147483647) (k3 : -2147483647 ≤ m) (k4 : m ≤ 2147483647) (w : World) : Calls Tryz.prog 53 #[.agg #[.int .i64 x.lo, .int .i64 x.hi, .bool x.all]] w (PVal (.int .i64 (x1.hi - m)) w) := by
 have HCM := Lib.hid hcm
 clear hcm
 have HCX := Lib.hid hcx
 clear hcx
 go_enter Tryz.func53, Tryz.ntmps53
 go_wp2_with fail
 have hX := bs1 w x.lo x.hi x.all
 generalize w.alloc (.cells #[.int .i64 x.lo, .int .i64 x.hi, .bool x.all] 23) = w1 at *
 refine (HCX.out _).mono ?_
 rintro e w2 ⟨rfl, hB⟩
 have hX2 := hX.later hB
 have c00 := hX2.c0.1
 have c01 := hX2.c0.2.1
 have c02 := hX2.c0.2.2.1
 have c03 := hX2.c0.2.2.2.1
 have c04 := hX2.c0.2.2.2.2.1
 have c05 := hX2.c0.2.2.2.2.2
 go_wp2
 have hJ1 : Bs w _ [x1] := hX2.put 0 (by simp) x1
 simp only [Nat.add_zero] at hJ1
 clear c00 c01 c02 c03 c04 c05 hX hX2 hB
 refine wp_region_vals 3 [some 5, some 6, some 7] (lstV [.agg #[.int .i64 x1.lo, .int .i64 x1.hi, .bool x1.all], .agg #[.int .i64 lineS.lo, .int .i64 lineS.hi, .bool lineS.all], .bool false]) (fun W => Bs w W [x1]) (by kernel_rfl) (by kernel_rfl) (by decide) (hJ1.drew) ?_ ?_
 ·
  intro i hl hi u W hJ hd
  obtain rfl | rfl | rfl : i = 0 ∨ i = 1 ∨ i = 2 := by omega
  ·
   clear hd
   simp only [zzA, zzB]
   clear hl
   refine .inr ⟨rfl, fun K' hK => ?_⟩
   have HK := Lib.hid hK
   clear hK
   simp only [layS, Act.put, zzC, zzD, zzE, Nat.zero_add, Nat.reduceAdd]
   have c00 := hJ.c0.1
   have c01 := hJ.c0.2.1
   have c02 := hJ.c0.2.2.1
   have c03 := hJ.c0.2.2.2.1
   have c04 := hJ.c0.2.2.2.2.1
   have c05 := hJ.c0.2.2.2.2.2
   go_simp
   exact HK.out _ _ (by simp [layS, updV, lstV, Act.put]) hJ
  ·
   clear hd
   simp only [zzA, zzB]
   clear hl
   refine .inr ⟨rfl, fun K' hK => ?_⟩
   have HK := Lib.hid hK
   clear hK
   simp only [layS, Act.put, zzC, zzD, zzE, Nat.zero_add, Nat.reduceAdd]
   have c00 := hJ.c0.1
   have c01 := hJ.c0.2.1
   have c02 := hJ.c0.2.2.1
   have c03 := hJ.c0.2.2.2.1
   have c04 := hJ.c0.2.2.2.2.1
   have c05 := hJ.c0.2.2.2.2.2
   go_simp
   refine (whole_any W).mono ?_
   rintro e W' ⟨rfl, hB⟩
   exact HK.out _ _ (by simp [layS, updV, lstV, Act.put]) (hJ.later hB)
  ·
   have e0 : u 0 = .agg #[.int .i64 x1.lo, .int .i64 x1.hi, .bool x1.all] := hd 0 (by kernel_rfl)
   have e1 : u 1 = .agg #[.int .i64 lineS.lo, .int .i64 lineS.hi, .bool lineS.all] := hd 1 (by kernel_rfl)
   clear hd
   simp only [zzA, zzB]
   clear hl
   refine .inr ⟨rfl, fun K' hK => ?_⟩
   have HK := Lib.hid hK
   clear hK
   simp only [layS, Act.put, zzC, zzD, zzE, Nat.zero_add, Nat.reduceAdd, e0, e1]
   have E0 := Lib.hid e0
   have E1 := Lib.hid e1
   clear e0 e1
   have c00 := hJ.c0.1
   have c01 := hJ.c0.2.1
   have c02 := hJ.c0.2.2.1
   have c03 := hJ.c0.2.2.2.1
   have c04 := hJ.c0.2.2.2.2.1
   have c05 := hJ.c0.2.2.2.2.2
   go_simp
   exact HK.out _ _ (by simp [layS, updV, lstV, Act.put, E0.out, E1.out]) hJ
 intro W hJ
 simp only [layS, lstV, Act.put, zzC, zzD, zzE, Nat.zero_add, Nat.reduceAdd, List.getD_cons_zero, List.getD_cons_succ, List.drop_succ_cons, List.drop_zero, List.drop_nil]
 go_wp2
 refine wp_region_vals 6 [some 8, some 9, some 10, some 11, some 12, some 2] (lstV [.pointer (some ⟨w.heap.size, 1, none⟩), .int .i64 x1.hi, .agg #[.int .i64 x1.lo, .int .i64 x1.hi, .bool x1.all], .int .i64 m, .int .i64 (x1.hi - m), .int .i64 (x1.hi - m)]) (fun W => Bs w W [x1]) (by kernel_rfl) (by kernel_rfl) (by decide) (hJ.drew) ?_ ?_
 ·
  intro i hl hi u W hJ hd
  obtain rfl | rfl | rfl | rfl | rfl | rfl : i = 0 ∨ i = 1 ∨ i = 2 ∨ i = 3 ∨ i = 4 ∨ i = 5 := by omega
  ·
   clear hd
   simp only [zzA, zzB]
   clear hl
   refine .inr ⟨rfl, fun K' hK => ?_⟩
   have HK := Lib.hid hK
   clear hK
   simp only [layS, Act.put, zzC, zzD, zzE, Nat.zero_add, Nat.reduceAdd]
   have hw : IntKind.i64.wrap (x1.hi - m) = x1.hi - m := IntWalk.i64_in _ (by omega)
   have c00 := hJ.c0.1
   have c01 := hJ.c0.2.1
   have c02 := hJ.c0.2.2.1
   have c03 := hJ.c0.2.2.2.1
   have c04 := hJ.c0.2.2.2.2.1
   have c05 := hJ.c0.2.2.2.2.2
   go_simp
   exact HK.out _ _ (by simp [layS, updV, lstV, Act.put]) hJ
  ·
   have e0 : u 0 = .pointer (some ⟨w.heap.size, 1, none⟩) := hd 0 (by kernel_rfl)
   clear hd
   simp only [zzA, zzB]
   clear hl
   refine .inr ⟨rfl, fun K' hK => ?_⟩
   have HK := Lib.hid hK
   clear hK
   simp only [layS, Act.put, zzC, zzD, zzE, Nat.zero_add, Nat.reduceAdd, e0]
   have E0 := Lib.hid e0
   clear e0
   have hw : IntKind.i64.wrap (x1.hi - m) = x1.hi - m := IntWalk.i64_in _ (by omega)
   have c00 := hJ.c0.1
   have c01 := hJ.c0.2.1
   have c02 := hJ.c0.2.2.1
   have c03 := hJ.c0.2.2.2.1
   have c04 := hJ.c0.2.2.2.2.1
   have c05 := hJ.c0.2.2.2.2.2
   go_simp
   exact HK.out _ _ (by simp [layS, updV, lstV, Act.put, E0.out]) hJ
  ·
   clear hd
   simp only [zzA, zzB]
   clear hl
   refine .inr ⟨rfl, fun K' hK => ?_⟩
   have HK := Lib.hid hK
   clear hK
   simp only [layS, Act.put, zzC, zzD, zzE, Nat.zero_add, Nat.reduceAdd]
   have hw : IntKind.i64.wrap (x1.hi - m) = x1.hi - m := IntWalk.i64_in _ (by omega)
   have c00 := hJ.c0.1
   have c01 := hJ.c0.2.1
   have c02 := hJ.c0.2.2.1
   have c03 := hJ.c0.2.2.2.1
   have c04 := hJ.c0.2.2.2.2.1
   have c05 := hJ.c0.2.2.2.2.2
   go_simp
   exact HK.out _ _ (by simp [layS, updV, lstV, Act.put]) hJ
  ·
   have e2 : u 2 = .agg #[.int .i64 x1.lo, .int .i64 x1.hi, .bool x1.all] := hd 2 (by kernel_rfl)
   clear hd
   simp only [zzA, zzB]
   clear hl
   refine .inr ⟨rfl, fun K' hK => ?_⟩
   have HK := Lib.hid hK
   clear hK
   simp only [layS, Act.put, zzC, zzD, zzE, Nat.zero_add, Nat.reduceAdd, e2]
   have E2 := Lib.hid e2
   clear e2
   have hw : IntKind.i64.wrap (x1.hi - m) = x1.hi - m := IntWalk.i64_in _ (by omega)
   have c00 := hJ.c0.1
   have c01 := hJ.c0.2.1
   have c02 := hJ.c0.2.2.1
   have c03 := hJ.c0.2.2.2.1
   have c04 := hJ.c0.2.2.2.2.1
   have c05 := hJ.c0.2.2.2.2.2
   go_simp
   refine (HCM.out W).mono ?_
   rintro e W' ⟨rfl, hB⟩
   exact HK.out _ _ (by simp [layS, updV, lstV, Act.put, E2.out]) (hJ.later hB)
  ·
   have e1 : u 1 = .int .i64 x1.hi := hd 1 (by kernel_rfl)
   have e3 : u 3 = .int .i64 m := hd 3 (by kernel_rfl)
   clear hd
   simp only [zzA, zzB]
   clear hl
   refine .inr ⟨rfl, fun K' hK => ?_⟩
   have HK := Lib.hid hK
   clear hK
   simp only [layS, Act.put, zzC, zzD, zzE, Nat.zero_add, Nat.reduceAdd, e1, e3]
   have E1 := Lib.hid e1
   have E3 := Lib.hid e3
   clear e1 e3
   have hw : IntKind.i64.wrap (x1.hi - m) = x1.hi - m := IntWalk.i64_in _ (by omega)
   have c00 := hJ.c0.1
   have c01 := hJ.c0.2.1
   have c02 := hJ.c0.2.2.1
   have c03 := hJ.c0.2.2.2.1
   have c04 := hJ.c0.2.2.2.2.1
   have c05 := hJ.c0.2.2.2.2.2
   go_simp
   exact HK.out _ _ (by simp [layS, updV, lstV, Act.put, E1.out, E3.out]) hJ
  ·
   have e4 : u 4 = .int .i64 (x1.hi - m) := hd 4 (by kernel_rfl)
   clear hd
   simp only [zzA, zzB]
   clear hl
   refine .inr ⟨rfl, fun K' hK => ?_⟩
   have HK := Lib.hid hK
   clear hK
   simp only [layS, Act.put, zzC, zzD, zzE, Nat.zero_add, Nat.reduceAdd, e4]
   have E4 := Lib.hid e4
   clear e4
   have hw : IntKind.i64.wrap (x1.hi - m) = x1.hi - m := IntWalk.i64_in _ (by omega)
   have c00 := hJ.c0.1
   have c01 := hJ.c0.2.1
   have c02 := hJ.c0.2.2.1
   have c03 := hJ.c0.2.2.2.1
   have c04 := hJ.c0.2.2.2.2.1
   have c05 := hJ.c0.2.2.2.2.2
   go_simp
   exact HK.out _ _ (by simp [layS, updV, lstV, Act.put, E4.out]) hJ
 intro W hJ
 simp only [layS, lstV, Act.put, zzC, zzD, zzE, Nat.zero_add, Nat.reduceAdd, List.getD_cons_zero, List.getD_cons_succ, List.drop_succ_cons, List.drop_zero, List.drop_nil]
 go_wp2
 go_ret
 exact ⟨rfl, hJ.below⟩
theorem Rad_any (x : Sp) (w : World) : Calls Tryz.prog 53 #[.agg #[.int .i64 x.lo, .int .i64 x.hi, .bool x.all]] w (PVal (.int .i64 (radS x)) w) := by
 have lx := line_eq x
 unfold radS
 cases hx : okB x
 ·
  rw [hx] at lx
  exact Rad_no x _ (counted_any x) lx w
 ·
  rw [hx] at lx
  obtain ⟨k1, k2, k3, k4⟩ := ok_of hx
  have hb := mid_bd x
  have h := Rad_ok x _ (midS x) (counted_any x)
  rw [mkS_ok hx] at h lx
  have := h (Mid_any x) lx (by omega) k3 hb.1 hb.2 w
  unfold midS at this
  rw [hx] at this
  exact this
end Go.Proofs.YtolpfibihialkaaGreat

/- Spans: the walks of unlessCut, product, root, and of the rules that Add and Div hand over. -/
namespace Go.Proofs.YtolpfibihialkaaGreat
open Go.RowKit
theorem unless_eq {p q : Int} (h : p ≤ -q) : (if (cutB p || cutB q) = true then lineS else ofS (cutI p) (-cutI q)) = mkS ⟨p, -q, false⟩ := by
 cases h1 : cutB p
 ·
  cases h2 : cutB q
  ·
   rw [cut_false h1, cut_false h2, if_neg (by decide), ofS_le h]
  ·
   rw [if_pos (by decide)]
   refine (mkS_no ?_).symm
   cases hk : okB ⟨p, -q, false⟩
   ·
    rfl
   ·
    obtain ⟨k1, k2, k3, _⟩ := ok_of hk
    have k1 : -2147483647 ≤ p := k1
    have k3 : -q ≤ 2147483647 := k3
    have k2 : p ≤ -q := k2
    rw [(cut_in (n := q) (by omega) (by omega)).2] at h2
    cases h2
 ·
  rw [if_pos (by simp)]
  refine (mkS_no ?_).symm
  cases hk : okB ⟨p, -q, false⟩
  ·
   rfl
  ·
   obtain ⟨k1, k2, k3, _⟩ := ok_of hk
   have k1 : -2147483647 ≤ p := k1
   have k3 : -q ≤ 2147483647 := k3
   have k2 : p ≤ -q := k2
   rw [(cut_in (n := p) (by omega) (by omega)).2] at h1
   cases h1
set_option maxHeartbeats 400000 in
theorem unl_any (p q : Int) (c : Bool) (w : World) : Calls Tryz.prog 68 #[.int .i64 p, .int .i64 q, .bool c] w (PSp (if c = true then lineS else ofS p q) w) := by
 cases c
 ·
  rw [if_neg (by decide)]
  go_enter Tryz.func68, Tryz.ntmps68
  go_wp2_with fail
  refine (sOf_any p q _).mono ?_
  rintro e w1 ⟨rfl, hB⟩
  generalize ofS p q = z at *
  have hX := (bs1 w 0 0 false).later hB
  obtain ⟨c0, c1, c2, f0, f1, f2⟩ := hX.c0
  go_wp2
  have h := hX.put 0 (by simp) z
  rw [Nat.add_zero] at h
  exact bodyPost_ret (v := .agg #[.int .i64 z.lo, .int .i64 z.hi, .bool z.all]) (by simp [results, Tryz.results68, go_sem, c0, c1, c2]) rfl ⟨rfl, h.below⟩
 ·
  rw [if_pos rfl]
  go_enter Tryz.func68, Tryz.ntmps68
  go_wp2_with fail
  refine (whole_any _).mono ?_
  rintro e w1 ⟨rfl, hB⟩
  generalize lineS = z at *
  have hX := (bs1 w 0 0 false).later hB
  obtain ⟨c0, c1, c2, f0, f1, f2⟩ := hX.c0
  go_wp2
  have h := hX.put 0 (by simp) z
  rw [Nat.add_zero] at h
  exact bodyPost_ret (v := .agg #[.int .i64 z.lo, .int .i64 z.hi, .bool z.all]) (by simp [results, Tryz.results68, go_sem, c0, c1, c2]) rfl ⟨rfl, h.below⟩
theorem fxMul_fix (a b : Int) (w : World) (a1 : -2147483647 ≤ a) (a2 : a ≤ 2147483647) (b1 : -2147483647 ≤ b) (b2 : b ≤ 2147483647) :
  Calls Tryz.prog 86 #[.int .i64 a, .int .i64 b] w (PVal2 (.int .i64 (cutI (a * b / 1048576))) (.bool (cutB (a * b / 1048576))) w) := by
 have h := fxMul_any a b w
 rw [(cut_in a1 a2).1, (cut_in b1 b2).1, (cut_in a1 a2).2, (cut_in b1 b2).2, flo_pos (by decide)] at h
 exact h
theorem fxAdd_fix (a b : Int) (w : World) (a1 : -2147483647 ≤ a) (a2 : a ≤ 2147483647) (b1 : -2147483647 ≤ b) (b2 : b ≤ 2147483647) :
  Calls Tryz.prog 67 #[.int .i64 a, .int .i64 b] w (PVal2 (.int .i64 (cutI (a + b))) (.bool (cutB (a + b))) w) := by
 have h := fxAdd_any a b w
 rw [(cut_in a1 a2).1, (cut_in b1 b2).1, (cut_in a1 a2).2, (cut_in b1 b2).2] at h
 exact h
set_option maxHeartbeats 800000 in
theorem sAdd1_any (a b : Int) (w : World) (a1 : -2147483647 ≤ a) (a2 : a ≤ 2147483647) (b1 : -2147483647 ≤ b) (b2 : b ≤ 2147483647) : Calls Tryz.prog 66 #[.int .i64 a, .int .i64 b] w (PSp (addR a b) w) := by
 have hE : (if (cutB (a + b)) = true then lineS else ofS (cutI (a + b)) (cutI (a + b))) = addR a b := by
  unfold addR
  cases h : cutB (a + b)
  ·
   rw [if_neg (by decide), cut_false h, ofS_le (Int.le_refl _)]
  ·
   rw [if_pos rfl]
   refine (mkS_no ?_).symm
   cases hk : okB ⟨a + b, a + b, false⟩
   ·
    rfl
   ·
    obtain ⟨k1, k2, k3, _⟩ := ok_of hk
    have k1 : -2147483647 ≤ a + b := k1
    have k3 : a + b ≤ 2147483647 := k3
    rw [(cut_in k1 k3).2] at h
    cases h
 have HF := Lib.hid (fun W => fxAdd_fix a b W a1 a2 b1 b2)
 generalize addR a b = z at *
 generalize cutI (a + b) = p at *
 generalize cutB (a + b) = c at *
 have HE := Lib.hid hE
 clear hE
 go_enter Tryz.func66, Tryz.ntmps66
 go_wp2_with fail
 refine (HF.out _).mono ?_
 rintro e w1 ⟨rfl, hB1⟩
 go_wp2_with fail
 refine (unl_any p p c _).mono ?_
 rw [HE.out]
 rintro e w2 ⟨rfl, hB2⟩
 have hX := ((bs1 w 0 0 false).later hB1).later hB2
 obtain ⟨c0, c1, c2, f0, f1, f2⟩ := hX.c0
 clear hB1 hB2
 go_wp2
 have h := hX.put 0 (by simp) z
 rw [Nat.add_zero] at h
 exact bodyPost_ret (v := .agg #[.int .i64 z.lo, .int .i64 z.hi, .bool z.all]) (by simp [results, Tryz.results66, go_sem, c0, c1, c2]) rfl ⟨rfl, h.below⟩
set_option maxHeartbeats 800000 in
theorem sproduct_any (a b : Int) (w : World) (a1 : -2147483647 ≤ a) (a2 : a ≤ 2147483647) (b1 : -2147483647 ≤ b) (b2 : b ≤ 2147483647) : Calls Tryz.prog 69 #[.int .i64 a, .int .i64 b] w (PSp (mulR a b) w) := by
 have hE : (if (cutB (a * b / 1048576) || cutB (-(a * b) / 1048576)) = true then lineS else ofS (cutI (a * b / 1048576)) (-cutI (-(a * b) / 1048576))) = mulR a b := unless_eq (by omega)
 have HF := Lib.hid (fun W => fxMul_fix a b W a1 a2 b1 b2)
 have hG := fun W => fxMul_fix (-a) b W (by omega) (by omega) b1 b2
 rw [Int.neg_mul] at hG
 have HG := Lib.hid hG
 clear hG
 have hq := cut_bd (-(a * b) / 1048576)
 generalize mulR a b = z at *
 generalize cutI (a * b / 1048576) = p at *
 generalize cutB (a * b / 1048576) = c at *
 generalize cutI (-(a * b) / 1048576) = q at *
 generalize cutB (-(a * b) / 1048576) = d at *
 obtain ⟨q1, q2⟩ := hq
 have HE := Lib.hid hE
 clear hE
 go_enter Tryz.func69, Tryz.ntmps69
 go_wp2_with fail
 refine (HF.out _).mono ?_
 rintro e w1 ⟨rfl, hB1⟩
 go_wp2_with fail
 refine (HG.out _).mono ?_
 rintro e w2 ⟨rfl, hB2⟩
 have hu : ∀ W, Calls Tryz.prog 68 #[.int .i64 p, .int .i64 (-q), .bool (c || d)] W (PSp z W) := fun W => by have := unl_any p (-q) (c || d) W; rw [HE.out] at this; exact this
 have hX := ((bs1 w 0 0 false).later hB1).later hB2
 have HU := Lib.hid hu
 clear hu hB1 hB2
 cases c
 all_goals
  go_wp2_with fail
  refine (HU.out _).mono ?_
  rintro e w3 ⟨rfl, hB3⟩
  have hX3 := hX.later hB3
  obtain ⟨c0, c1, c2, f0, f1, f2⟩ := hX3.c0
  go_wp2
  have h := hX3.put 0 (by simp) z
  rw [Nat.add_zero] at h
  exact bodyPost_ret (v := .agg #[.int .i64 z.lo, .int .i64 z.hi, .bool z.all]) (by simp [results, Tryz.results69, go_sem, c0, c1, c2]) rfl ⟨rfl, h.below⟩
end Go.Proofs.YtolpfibihialkaaGreat

/- The document's spans: the walks of Right, Of, Has, In, Join, Meet, Mid, Rad. -/
namespace Go.Proofs.YtolpfibihialkaaGreat
open Go.RowKit
theorem bel1 (w : World) (o : Obj) : Below w.heap.size w (w.alloc o) := (Below.refl _ _).alloc (Nat.le_refl _) _
theorem bel2 (w : World) (o o' : Obj) : Below w.heap.size w ((w.alloc o).alloc o') := ((Below.refl _ _).alloc (Nat.le_refl _) _).alloc (by simp) _
theorem bel_on {w w1 W : World} (h : Below w.heap.size w w1) (hB : Below w1.heap.size w1 W) : Below w.heap.size w W := h.trans (hB.mono h.size)
theorem bel_al {w W : World} (h : Below w.heap.size w W) (o : Obj) : Below w.heap.size w (W.alloc o) := h.alloc h.size _
set_option maxHeartbeats 800000 in
theorem rRight_any (x : Sp) (w : World) : Calls Tryz.prog 74 #[.agg #[.int .i64 x.lo, .int .i64 x.hi, .bool x.all]] w (PDp (mkS x) w) := by
 obtain ⟨l, h, a⟩ := x
 cases a
 case true =>
  rw [mkS_no (by unfold okB; simp)]
  go_enter Tryz.func74, Tryz.ntmps74
  go_wp2
  exact bodyPost_ret (v := .agg #[.int .i64 0, .int .i64 0, .bool true]) (by simp [results, Tryz.results74, go_sem]) rfl ⟨rfl, bel2 _ _ _⟩
 by_cases h1 : l < -2147483647
 ·
  rw [mkS_no (by unfold okB; simp; omega)]
  have d1 : decide (l < -2147483647) = true := decide_eq_true h1
  go_enter Tryz.func74, Tryz.ntmps74
  go_wp2
  exact bodyPost_ret (v := .agg #[.int .i64 0, .int .i64 0, .bool true]) (by simp [results, Tryz.results74, go_sem]) rfl ⟨rfl, bel2 _ _ _⟩
 have d1 : decide (l < -2147483647) = false := decide_eq_false h1
 by_cases h2 : 2147483647 < h
 ·
  rw [mkS_no (by unfold okB; simp; omega)]
  have d2 : decide (2147483647 < h) = true := decide_eq_true h2
  go_enter Tryz.func74, Tryz.ntmps74
  go_wp2
  exact bodyPost_ret (v := .agg #[.int .i64 0, .int .i64 0, .bool true]) (by simp [results, Tryz.results74, go_sem]) rfl ⟨rfl, bel2 _ _ _⟩
 have d2 : decide (2147483647 < h) = false := decide_eq_false h2
 by_cases h3 : h < l
 ·
  rw [mkS_no (by unfold okB; simp; omega)]
  have d3 : decide (h < l) = true := decide_eq_true h3
  go_enter Tryz.func74, Tryz.ntmps74
  go_wp2
  exact bodyPost_ret (v := .agg #[.int .i64 0, .int .i64 0, .bool true]) (by simp [results, Tryz.results74, go_sem]) rfl ⟨rfl, bel2 _ _ _⟩
 have d3 : decide (h < l) = false := decide_eq_false h3
 rw [mkS_ok (ok_mk (by show -2147483647 ≤ l; omega) (by show l ≤ h; omega) (by show h ≤ 2147483647; omega) rfl)]
 go_enter Tryz.func74, Tryz.ntmps74
 go_wp2
 exact bodyPost_ret (v := .agg #[.int .i64 l, .int .i64 h, .bool false]) (by simp [results, Tryz.results74, go_sem]) rfl ⟨rfl, bel2 _ _ _⟩
set_option maxHeartbeats 1600000 in
theorem rdIn_qall (x y p q : Sp) (HPx : ∀ W : World, Calls Tryz.prog 74 #[.agg #[.int .i64 x.lo, .int .i64 x.hi, .bool x.all]] W (PDp p W)) (HQx : ∀ W : World, Calls Tryz.prog 74 #[.agg #[.int .i64 y.lo, .int .i64 y.hi, .bool y.all]] W (PDp q W)) (haq : q.all = true) (w : World) : Calls Tryz.prog 57 #[.agg #[.int .i64 x.lo, .int .i64 x.hi, .bool x.all], .agg #[.int .i64 y.lo, .int .i64 y.hi, .bool y.all]] w (PVal (.bool true) w) := by
 have HP := Lib.hid HPx
 have HQ := Lib.hid HQx
 clear HPx HQx
 have HAq := Lib.hid haq
 clear haq
 go_enter Tryz.func57, Tryz.ntmps57
 go_wp2_with fail
 have hJ := ds2 w x.lo x.hi x.all y.lo y.hi y.all
 generalize (w.alloc (.cells #[.int .i64 x.lo, .int .i64 x.hi, .bool x.all] 29)).alloc (.cells #[.int .i64 y.lo, .int .i64 y.hi, .bool y.all] 29) = w1 at *
 refine (HP.out _).mono ?_
 rintro e W1 ⟨rfl, hB⟩
 replace hJ := hJ.later hB
 clear hB
 have f10 := hJ.c1.1
 have f11 := hJ.c1.2.1
 have f12 := hJ.c1.2.2.1
 have fz1 : w.heap.size + 1 < W1.heap.size := (Array.getElem?_eq_some_iff.1 (hJ.at' 1 y rfl)).1
 have hal := bel1 W1 (.cells #[.int .i64 p.lo, .int .i64 p.hi, .bool p.all] 29)
 replace hJ := hJ.later hal
 have kp := d3_new W1 p
 go_wp2_with fail
 clear f10 f11 f12 fz1 hal
 generalize W1.alloc (.cells #[.int .i64 p.lo, .int .i64 p.hi, .bool p.all] 29) = W2 at *
 generalize W1.heap.size = bp at *
 refine (HQ.out _).mono ?_
 rintro e W3 ⟨rfl, hB⟩
 replace hJ := hJ.later hB
 replace kp := kp.below hB
 clear hB
 have hlp : bp < W3.heap.size := (Array.getElem?_eq_some_iff.1 kp).1
 have p0 := kp.cells.1
 have p1 := kp.cells.2.1
 have p2 := kp.cells.2.2.1
 have hal := bel1 W3 (.cells #[.int .i64 q.lo, .int .i64 q.hi, .bool q.all] 29)
 have hb := bel_al hJ.below (.cells #[.int .i64 q.lo, .int .i64 q.hi, .bool q.all] 29)
 have haq := HAq.out
 rw [haq] at hb
 go_wp2
 go_ret
 exact ⟨rfl, hb⟩
set_option maxHeartbeats 1600000 in
theorem rdIn_pall (x y p q : Sp) (HPx : ∀ W : World, Calls Tryz.prog 74 #[.agg #[.int .i64 x.lo, .int .i64 x.hi, .bool x.all]] W (PDp p W)) (HQx : ∀ W : World, Calls Tryz.prog 74 #[.agg #[.int .i64 y.lo, .int .i64 y.hi, .bool y.all]] W (PDp q W)) (haq : q.all = false) (hap : p.all = true) (w : World) : Calls Tryz.prog 57 #[.agg #[.int .i64 x.lo, .int .i64 x.hi, .bool x.all], .agg #[.int .i64 y.lo, .int .i64 y.hi, .bool y.all]] w (PVal (.bool false) w) := by
 have HP := Lib.hid HPx
 have HQ := Lib.hid HQx
 clear HPx HQx
 have HAq := Lib.hid haq
 clear haq
 have HAp := Lib.hid hap
 clear hap
 go_enter Tryz.func57, Tryz.ntmps57
 go_wp2_with fail
 have hJ := ds2 w x.lo x.hi x.all y.lo y.hi y.all
 generalize (w.alloc (.cells #[.int .i64 x.lo, .int .i64 x.hi, .bool x.all] 29)).alloc (.cells #[.int .i64 y.lo, .int .i64 y.hi, .bool y.all] 29) = w1 at *
 refine (HP.out _).mono ?_
 rintro e W1 ⟨rfl, hB⟩
 replace hJ := hJ.later hB
 clear hB
 have f10 := hJ.c1.1
 have f11 := hJ.c1.2.1
 have f12 := hJ.c1.2.2.1
 have fz1 : w.heap.size + 1 < W1.heap.size := (Array.getElem?_eq_some_iff.1 (hJ.at' 1 y rfl)).1
 have hal := bel1 W1 (.cells #[.int .i64 p.lo, .int .i64 p.hi, .bool p.all] 29)
 replace hJ := hJ.later hal
 have kp := d3_new W1 p
 go_wp2_with fail
 clear f10 f11 f12 fz1 hal
 generalize W1.alloc (.cells #[.int .i64 p.lo, .int .i64 p.hi, .bool p.all] 29) = W2 at *
 generalize W1.heap.size = bp at *
 refine (HQ.out _).mono ?_
 rintro e W3 ⟨rfl, hB⟩
 replace hJ := hJ.later hB
 replace kp := kp.below hB
 clear hB
 have hlp : bp < W3.heap.size := (Array.getElem?_eq_some_iff.1 kp).1
 have p0 := kp.cells.1
 have p1 := kp.cells.2.1
 have p2 := kp.cells.2.2.1
 have hal := bel1 W3 (.cells #[.int .i64 q.lo, .int .i64 q.hi, .bool q.all] 29)
 have hb := bel_al hJ.below (.cells #[.int .i64 q.lo, .int .i64 q.hi, .bool q.all] 29)
 have hap := HAp.out
 rw [hap] at p2
 have haq := HAq.out
 rw [haq] at hb
 go_wp2
 go_ret
 exact ⟨rfl, hb⟩
set_option maxHeartbeats 1600000 in
theorem rdIn_lo (x y p q : Sp) (HPx : ∀ W : World, Calls Tryz.prog 74 #[.agg #[.int .i64 x.lo, .int .i64 x.hi, .bool x.all]] W (PDp p W)) (HQx : ∀ W : World, Calls Tryz.prog 74 #[.agg #[.int .i64 y.lo, .int .i64 y.hi, .bool y.all]] W (PDp q W)) (haq : q.all = false) (hap : p.all = false) (d1 : decide (q.lo ≤ p.lo) = false) (w : World) : Calls Tryz.prog 57 #[.agg #[.int .i64 x.lo, .int .i64 x.hi, .bool x.all], .agg #[.int .i64 y.lo, .int .i64 y.hi, .bool y.all]] w (PVal (.bool false) w) := by
 have HP := Lib.hid HPx
 have HQ := Lib.hid HQx
 clear HPx HQx
 have HAq := Lib.hid haq
 clear haq
 have HAp := Lib.hid hap
 clear hap
 go_enter Tryz.func57, Tryz.ntmps57
 go_wp2_with fail
 have hJ := ds2 w x.lo x.hi x.all y.lo y.hi y.all
 generalize (w.alloc (.cells #[.int .i64 x.lo, .int .i64 x.hi, .bool x.all] 29)).alloc (.cells #[.int .i64 y.lo, .int .i64 y.hi, .bool y.all] 29) = w1 at *
 refine (HP.out _).mono ?_
 rintro e W1 ⟨rfl, hB⟩
 replace hJ := hJ.later hB
 clear hB
 have f10 := hJ.c1.1
 have f11 := hJ.c1.2.1
 have f12 := hJ.c1.2.2.1
 have fz1 : w.heap.size + 1 < W1.heap.size := (Array.getElem?_eq_some_iff.1 (hJ.at' 1 y rfl)).1
 have hal := bel1 W1 (.cells #[.int .i64 p.lo, .int .i64 p.hi, .bool p.all] 29)
 replace hJ := hJ.later hal
 have kp := d3_new W1 p
 go_wp2_with fail
 clear f10 f11 f12 fz1 hal
 generalize W1.alloc (.cells #[.int .i64 p.lo, .int .i64 p.hi, .bool p.all] 29) = W2 at *
 generalize W1.heap.size = bp at *
 refine (HQ.out _).mono ?_
 rintro e W3 ⟨rfl, hB⟩
 replace hJ := hJ.later hB
 replace kp := kp.below hB
 clear hB
 have hlp : bp < W3.heap.size := (Array.getElem?_eq_some_iff.1 kp).1
 have p0 := kp.cells.1
 have p1 := kp.cells.2.1
 have p2 := kp.cells.2.2.1
 have hal := bel1 W3 (.cells #[.int .i64 q.lo, .int .i64 q.hi, .bool q.all] 29)
 have hb := bel_al hJ.below (.cells #[.int .i64 q.lo, .int .i64 q.hi, .bool q.all] 29)
 have hap := HAp.out
 rw [hap] at p2
 have haq := HAq.out
 rw [haq] at hb
 go_wp2
 go_ret
 exact ⟨rfl, hb⟩
set_option maxHeartbeats 1600000 in
theorem rdIn_hi (x y p q : Sp) (HPx : ∀ W : World, Calls Tryz.prog 74 #[.agg #[.int .i64 x.lo, .int .i64 x.hi, .bool x.all]] W (PDp p W)) (HQx : ∀ W : World, Calls Tryz.prog 74 #[.agg #[.int .i64 y.lo, .int .i64 y.hi, .bool y.all]] W (PDp q W)) (haq : q.all = false) (hap : p.all = false) (d1 : decide (q.lo ≤ p.lo) = true) (w : World) : Calls Tryz.prog 57 #[.agg #[.int .i64 x.lo, .int .i64 x.hi, .bool x.all], .agg #[.int .i64 y.lo, .int .i64 y.hi, .bool y.all]] w (PVal (.bool (decide (p.hi ≤ q.hi))) w) := by
 have HP := Lib.hid HPx
 have HQ := Lib.hid HQx
 clear HPx HQx
 have HAq := Lib.hid haq
 clear haq
 have HAp := Lib.hid hap
 clear hap
 go_enter Tryz.func57, Tryz.ntmps57
 go_wp2_with fail
 have hJ := ds2 w x.lo x.hi x.all y.lo y.hi y.all
 generalize (w.alloc (.cells #[.int .i64 x.lo, .int .i64 x.hi, .bool x.all] 29)).alloc (.cells #[.int .i64 y.lo, .int .i64 y.hi, .bool y.all] 29) = w1 at *
 refine (HP.out _).mono ?_
 rintro e W1 ⟨rfl, hB⟩
 replace hJ := hJ.later hB
 clear hB
 have f10 := hJ.c1.1
 have f11 := hJ.c1.2.1
 have f12 := hJ.c1.2.2.1
 have fz1 : w.heap.size + 1 < W1.heap.size := (Array.getElem?_eq_some_iff.1 (hJ.at' 1 y rfl)).1
 have hal := bel1 W1 (.cells #[.int .i64 p.lo, .int .i64 p.hi, .bool p.all] 29)
 replace hJ := hJ.later hal
 have kp := d3_new W1 p
 go_wp2_with fail
 clear f10 f11 f12 fz1 hal
 generalize W1.alloc (.cells #[.int .i64 p.lo, .int .i64 p.hi, .bool p.all] 29) = W2 at *
 generalize W1.heap.size = bp at *
 refine (HQ.out _).mono ?_
 rintro e W3 ⟨rfl, hB⟩
 replace hJ := hJ.later hB
 replace kp := kp.below hB
 clear hB
 have hlp : bp < W3.heap.size := (Array.getElem?_eq_some_iff.1 kp).1
 have p0 := kp.cells.1
 have p1 := kp.cells.2.1
 have p2 := kp.cells.2.2.1
 have hal := bel1 W3 (.cells #[.int .i64 q.lo, .int .i64 q.hi, .bool q.all] 29)
 have hb := bel_al hJ.below (.cells #[.int .i64 q.lo, .int .i64 q.hi, .bool q.all] 29)
 have hap := HAp.out
 rw [hap] at p2
 have haq := HAq.out
 rw [haq] at hb
 go_wp2
 go_ret
 exact ⟨rfl, hb⟩
theorem rdIn_any (x y : Sp) (w : World) : Calls Tryz.prog 57 #[.agg #[.int .i64 x.lo, .int .i64 x.hi, .bool x.all], .agg #[.int .i64 y.lo, .int .i64 y.hi, .bool y.all]] w (PVal (.bool (inB x y)) w) := by
 have hp := rRight_any x
 have hq := rRight_any y
 unfold inB
 cases hy : okB y
 ·
  rw [mkS_no hy] at hq
  exact rdIn_qall x y _ _ hp hq rfl w
 ·
  rw [mkS_ok hy] at hq
  have ky := (ok_of hy).2.2.2
  cases hx : okB x
  ·
   rw [mkS_no hx] at hp
   exact rdIn_pall x y _ _ hp hq ky rfl w
  ·
   rw [mkS_ok hx] at hp
   have kx := (ok_of hx).2.2.2
   cases hd : decide (y.lo ≤ x.lo)
   ·
    exact rdIn_lo x y _ _ hp hq ky kx hd w
   ·
    have := rdIn_hi x y _ _ hp hq ky kx hd w
    simpa using this
set_option maxHeartbeats 1600000 in
theorem rdMid_w (x p : Sp) (HPx : ∀ W : World, Calls Tryz.prog 74 #[.agg #[.int .i64 x.lo, .int .i64 x.hi, .bool x.all]] W (PDp p W)) (k1 : -2147483647 ≤ p.lo) (k2 : p.lo ≤ p.hi) (k3 : p.hi ≤ 2147483647) (w : World) : Calls Tryz.prog 79 #[.agg #[.int .i64 x.lo, .int .i64 x.hi, .bool x.all]] w (PVal (.int .i64 ((p.lo + p.hi) / 2)) w) := by
 have HP := Lib.hid HPx
 clear HPx
 go_enter Tryz.func79, Tryz.ntmps79
 go_wp2_with fail
 refine (HP.out _).mono ?_
 rintro e W1 ⟨rfl, hB⟩
 have hb := bel_al (bel_on (bel1 w _) hB) (.cells #[.int .i64 p.lo, .int .i64 p.hi, .bool p.all] 29)
 have kp := d3_new W1 p
 clear hB
 have hq := tq (p.lo + p.hi) 2
 have ha := tr_abs (p.lo + p.hi) 2 (by decide)
 have hps := tr_pos (p.lo + p.hi) 2
 have hng := tr_neg (p.lo + p.hi) 2
 rcases Int.lt_or_le (p.lo + p.hi) 0 with hs | hs
 ·
  have d1 : decide (p.lo + p.hi < 0) = true := decide_eq_true hs
  have hn := hng (by omega)
  obtain ⟨r, hr⟩ : ∃ r, (p.lo + p.hi).tmod 2 = r := ⟨_, rfl⟩
  obtain ⟨q, hqq⟩ : ∃ r, (p.lo + p.hi).tdiv 2 = r := ⟨_, rfl⟩
  rw [hr] at ha hn hq
  rw [hqq] at hq
  clear hps hng
  by_cases h0 : r = 0
  ·
   have e0 : (r != 0) = false := by simpa using h0
   have HE : Hid (q = (p.lo + p.hi) / 2) := show q = _ by omega
   have q1 : -2147483648 ≤ q := by omega
   have q2 : q ≤ 2147483648 := by omega
   clear hq ha hn h0
   go_wp2
   go_ret
   exact ⟨ret_int (by rw [← HE.out]), hb⟩
  ·
   have e0 : (r != 0) = true := by simpa using h0
   have HE : Hid (q - 1 = (p.lo + p.hi) / 2) := show q - 1 = _ by omega
   have q1 : -2147483648 ≤ q := by omega
   have q2 : q ≤ 2147483648 := by omega
   clear hq ha hn h0
   go_wp2
   go_ret
   exact ⟨ret_int (by rw [← HE.out]), hb⟩
 ·
  have d1 : decide (p.lo + p.hi < 0) = false := decide_eq_false (by omega)
  clear hq ha hps hng
  go_wp2
  go_ret
  exact ⟨rfl, hb⟩
theorem rdMid_any (x : Sp) (w : World) : Calls Tryz.prog 79 #[.agg #[.int .i64 x.lo, .int .i64 x.hi, .bool x.all]] w (PVal (.int .i64 (midS x)) w) := by
 unfold midS
 have h := rdMid_w x _ (rRight_any x)
 cases hx : okB x
 ·
  rw [mkS_no hx] at h
  exact h (by decide) (by decide) (by decide) w
 ·
  obtain ⟨k1, k2, k3, k4⟩ := ok_of hx
  rw [mkS_ok hx] at h
  exact h k1 k2 k3 w
set_option maxHeartbeats 1600000 in
theorem rdRad_no (x p : Sp) (HPx : ∀ W : World, Calls Tryz.prog 74 #[.agg #[.int .i64 x.lo, .int .i64 x.hi, .bool x.all]] W (PDp p W)) (hap : p.all = true) (w : World) : Calls Tryz.prog 58 #[.agg #[.int .i64 x.lo, .int .i64 x.hi, .bool x.all]] w (PVal (.int .i64 2147483647) w) := by
 have HA := Lib.hid hap
 clear hap
 have HP := Lib.hid HPx
 clear HPx
 go_enter Tryz.func58, Tryz.ntmps58
 go_wp2_with fail
 refine (HP.out _).mono ?_
 rintro e W1 ⟨rfl, hB⟩
 have hb := bel_al (bel_on (bel1 w _) hB) (.cells #[.int .i64 p.lo, .int .i64 p.hi, .bool p.all] 29)
 have kp := d3_new W1 p
 clear hB
 have hap := HA.out
 rw [hap] at hb
 go_wp2
 go_ret
 exact ⟨rfl, hb⟩
set_option maxHeartbeats 1600000 in
theorem rdRad_ok (x p : Sp) (m : Int) (HPx : ∀ W : World, Calls Tryz.prog 74 #[.agg #[.int .i64 x.lo, .int .i64 x.hi, .bool x.all]] W (PDp p W)) (HMx : ∀ W : World, Calls Tryz.prog 79 #[.agg #[.int .i64 p.lo, .int .i64 p.hi, .bool false]] W (PVal (.int .i64 m) W)) (hap : p.all = false) (k1 : -2147483647 ≤ p.hi) (k2 : p.hi ≤ 2147483647) (k3 : -2147483647 ≤ m) (k4 : m ≤ 2147483647) (w : World) : Calls Tryz.prog 58 #[.agg #[.int .i64 x.lo, .int .i64 x.hi, .bool x.all]] w (PVal (.int .i64 (p.hi - m)) w) := by
 have HA := Lib.hid hap
 have HM := Lib.hid HMx
 clear hap HMx
 have HP := Lib.hid HPx
 clear HPx
 go_enter Tryz.func58, Tryz.ntmps58
 go_wp2_with fail
 refine (HP.out _).mono ?_
 rintro e W1 ⟨rfl, hB⟩
 have hb := bel_al (bel_on (bel1 w _) hB) (.cells #[.int .i64 p.lo, .int .i64 p.hi, .bool p.all] 29)
 have kp := d3_new W1 p
 clear hB
 have hap := HA.out
 rw [hap] at hb
 clear kp
 have kp := d3_new W1 ⟨p.lo, p.hi, false⟩
 go_wp2
 generalize W1.alloc (.cells #[.int .i64 p.lo, .int .i64 p.hi, .bool false] 29) = W2 at *
 generalize W1.heap.size = bp at *
 clear hap
 refine wp_region_vals 6 [some 8, some 9, some 10, some 11, some 12, some 2] (lstV [.pointer (some ⟨bp, 1, none⟩), .int .i64 p.hi, .agg #[.int .i64 p.lo, .int .i64 p.hi, .bool false], .int .i64 m, .int .i64 (p.hi - m), .int .i64 (p.hi - m)]) (fun W => Below w.heap.size w W ∧ D3 W bp ⟨p.lo, p.hi, false⟩) (by kernel_rfl) (by kernel_rfl) (by decide) (⟨hb.drew, kp⟩) ?_ ?_
 ·
  intro i hl hi u W hJ hd
  obtain rfl | rfl | rfl | rfl | rfl | rfl : i = 0 ∨ i = 1 ∨ i = 2 ∨ i = 3 ∨ i = 4 ∨ i = 5 := by omega
  ·
   clear hd
   simp only [zzA, zzB]
   clear hl
   refine .inr ⟨rfl, fun K' hK => ?_⟩
   have HK := Lib.hid hK
   clear hK
   simp only [layS, Act.put, zzC, zzD, zzE, Nat.zero_add, Nat.reduceAdd]
   have hw : IntKind.i64.wrap (p.hi - m) = p.hi - m := IntWalk.i64_in _ (by omega)
   have c0 := hJ.2.cells.1
   have c1 := hJ.2.cells.2.1
   have c2 := hJ.2.cells.2.2.1
   go_simp
   exact HK.out _ _ (by simp [layS, updV, lstV, Act.put]) hJ
  ·
   have e0 : u 0 = .pointer (some ⟨bp, 1, none⟩) := hd 0 (by kernel_rfl)
   clear hd
   simp only [zzA, zzB]
   clear hl
   refine .inr ⟨rfl, fun K' hK => ?_⟩
   have HK := Lib.hid hK
   clear hK
   simp only [layS, Act.put, zzC, zzD, zzE, Nat.zero_add, Nat.reduceAdd, e0]
   have E0 := Lib.hid e0
   clear e0
   have hw : IntKind.i64.wrap (p.hi - m) = p.hi - m := IntWalk.i64_in _ (by omega)
   have c0 := hJ.2.cells.1
   have c1 := hJ.2.cells.2.1
   have c2 := hJ.2.cells.2.2.1
   go_simp
   exact HK.out _ _ (by simp [layS, updV, lstV, Act.put, E0.out]) hJ
  ·
   clear hd
   simp only [zzA, zzB]
   clear hl
   refine .inr ⟨rfl, fun K' hK => ?_⟩
   have HK := Lib.hid hK
   clear hK
   simp only [layS, Act.put, zzC, zzD, zzE, Nat.zero_add, Nat.reduceAdd]
   have hw : IntKind.i64.wrap (p.hi - m) = p.hi - m := IntWalk.i64_in _ (by omega)
   have c0 := hJ.2.cells.1
   have c1 := hJ.2.cells.2.1
   have c2 := hJ.2.cells.2.2.1
   go_simp
   exact HK.out _ _ (by simp [layS, updV, lstV, Act.put]) hJ
  ·
   have e2 : u 2 = .agg #[.int .i64 p.lo, .int .i64 p.hi, .bool false] := hd 2 (by kernel_rfl)
   clear hd
   simp only [zzA, zzB]
   clear hl
   refine .inr ⟨rfl, fun K' hK => ?_⟩
   have HK := Lib.hid hK
   clear hK
   simp only [layS, Act.put, zzC, zzD, zzE, Nat.zero_add, Nat.reduceAdd, e2]
   have E2 := Lib.hid e2
   clear e2
   have hw : IntKind.i64.wrap (p.hi - m) = p.hi - m := IntWalk.i64_in _ (by omega)
   have c0 := hJ.2.cells.1
   have c1 := hJ.2.cells.2.1
   have c2 := hJ.2.cells.2.2.1
   go_simp
   refine (HM.out W).mono ?_
   rintro e W' ⟨rfl, hB⟩
   exact HK.out _ _ (by simp [layS, updV, lstV, Act.put, E2.out]) (⟨bel_on hJ.1 hB, hJ.2.below hB⟩)
  ·
   have e1 : u 1 = .int .i64 p.hi := hd 1 (by kernel_rfl)
   have e3 : u 3 = .int .i64 m := hd 3 (by kernel_rfl)
   clear hd
   simp only [zzA, zzB]
   clear hl
   refine .inr ⟨rfl, fun K' hK => ?_⟩
   have HK := Lib.hid hK
   clear hK
   simp only [layS, Act.put, zzC, zzD, zzE, Nat.zero_add, Nat.reduceAdd, e1, e3]
   have E1 := Lib.hid e1
   have E3 := Lib.hid e3
   clear e1 e3
   have hw : IntKind.i64.wrap (p.hi - m) = p.hi - m := IntWalk.i64_in _ (by omega)
   have c0 := hJ.2.cells.1
   have c1 := hJ.2.cells.2.1
   have c2 := hJ.2.cells.2.2.1
   go_simp
   exact HK.out _ _ (by simp [layS, updV, lstV, Act.put, E1.out, E3.out]) hJ
  ·
   have e4 : u 4 = .int .i64 (p.hi - m) := hd 4 (by kernel_rfl)
   clear hd
   simp only [zzA, zzB]
   clear hl
   refine .inr ⟨rfl, fun K' hK => ?_⟩
   have HK := Lib.hid hK
   clear hK
   simp only [layS, Act.put, zzC, zzD, zzE, Nat.zero_add, Nat.reduceAdd, e4]
   have E4 := Lib.hid e4
   clear e4
   have hw : IntKind.i64.wrap (p.hi - m) = p.hi - m := IntWalk.i64_in _ (by omega)
   have c0 := hJ.2.cells.1
   have c1 := hJ.2.cells.2.1
   have c2 := hJ.2.cells.2.2.1
   go_simp
   exact HK.out _ _ (by simp [layS, updV, lstV, Act.put, E4.out]) hJ
 intro W hJ
 simp only [layS, lstV, Act.put, zzC, zzD, zzE, Nat.zero_add, Nat.reduceAdd, List.getD_cons_zero, List.getD_cons_succ, List.drop_succ_cons, List.drop_zero, List.drop_nil]
 go_wp2
 go_ret
 exact ⟨rfl, hJ.1⟩
theorem rdRad_any (x : Sp) (w : World) : Calls Tryz.prog 58 #[.agg #[.int .i64 x.lo, .int .i64 x.hi, .bool x.all]] w (PVal (.int .i64 (radS x)) w) := by
 unfold radS
 cases hx : okB x
 ·
  have h := rRight_any x
  rw [mkS_no hx] at h
  exact rdRad_no x _ h rfl w
 ·
  obtain ⟨k1, k2, k3, k4⟩ := ok_of hx
  have h := rRight_any x
  rw [mkS_ok hx] at h
  have hm := rdMid_any x
  rw [k4] at hm
  have hb := mid_bd x
  have := rdRad_ok x x (midS x) h hm k4 (by omega) k3 hb.1 hb.2 w
  unfold midS at this
  rw [hx] at this
  exact this
end Go.Proofs.YtolpfibihialkaaGreat
