/- Parts of the proof. -/
import Derived.Test.YtpahkpcoinbgcaaGa2
/- Spans: the walks of fixed, whole, Of, counted, Join. -/
namespace Go.Proofs.Ytpahkpcoinbgcaa
open Go.RowKit
attribute [local go_sem ↓] run_eqlS run_neqS
theorem eqS_same (a b : Int) (c : Bool) : eqS a b c a b c = true := by simp [eqS]
theorem eqS_iff {a b : Int} {c : Bool} {a' b' : Int} {c' : Bool} : eqS a b c a' b' c' = true ↔ a = a' ∧ b = b' ∧ c = c' := by
 unfold eqS
 simp only [Bool.and_eq_true, beq_iff_eq]
set_option maxHeartbeats 400000 in
theorem sfixed_any (n : Int) (w : World) : Calls Try.prog 102 #[.int .i64 n] w (PVal (.bool (!cutB n)) w) := by
 go_enter Try.func102, Try.ntmps102
 go_wp2_with fail
 refine (Clamp_any n _).mono ?_
 rintro e w1 ⟨rfl, hB⟩
 go_wp2
 go_ret
 exact ⟨rfl, hB⟩
set_option maxHeartbeats 400000 in
theorem whole_any (w : World) : Calls Try.prog 75 #[] w (PSp lineS w) := by
 go_enter Try.func75, Try.ntmps75
 go_wp2
 exact bodyPost_ret (v := .agg #[.int .i64 0, .int .i64 0, .bool true]) (by simp [results, Try.results75, go_sem]) rfl ⟨rfl, (bs1 w 0 0 true).below⟩
theorem ofS_fix {a b : Int} (h1 : cutB a = false) (h2 : cutB b = false) : ofS a b = ⟨min a b, max a b, false⟩ := by
 have k1 := cut_false h1
 have k2 := cut_false h2
 have b1 := cut_bd a
 have b2 := cut_bd b
 rw [k1] at b1
 rw [k2] at b2
 exact mkS_ok (ok_mk (by show _ ≤ min a b; omega) (by show min a b ≤ max a b; omega) (by show max a b ≤ _; omega) rfl)
theorem ofS_cut {a b : Int} (h : cutB a = true ∨ cutB b = true) : ofS a b = lineS := by
 refine mkS_no ?_
 cases hk : okB ⟨min a b, max a b, false⟩
 ·
  rfl
 ·
  obtain ⟨h1, _, h3, _⟩ := ok_of hk
  have h1 : -2147483647 ≤ min a b := h1
  have h3 : max a b ≤ 2147483647 := h3
  rw [(cut_in (n := a) (by omega) (by omega)).2, (cut_in (n := b) (by omega) (by omega)).2] at h
  rcases h with h | h <;> cases h
set_option maxHeartbeats 800000 in
theorem sOf_any (a b : Int) (w : World) : Calls Try.prog 67 #[.int .i64 a, .int .i64 b] w (PSp (ofS a b) w) := by
 cases h1 : cutB a
 ·
  cases h2 : cutB b
  ·
   rw [ofS_fix h1 h2]
   go_enter Try.func67, Try.ntmps67
   go_wp2_with fail
   refine (sfixed_any a _).mono ?_
   rintro e w1 ⟨rfl, hB1⟩
   rw [h1]
   go_wp2_with fail
   refine (sfixed_any b _).mono ?_
   rintro e w2 ⟨rfl, hB2⟩
   rw [h2]
   have hX := ((bs1 w 0 0 false).later hB1).later hB2
   obtain ⟨c0, c1, c2, f0, f1, f2⟩ := hX.c0
   clear hB1 hB2 h1 h2
   go_wp2
   have h := hX.put 0 (by simp) ⟨min a b, max a b, false⟩
   rw [Nat.add_zero] at h
   exact bodyPost_ret (v := .agg #[.int .i64 (min a b), .int .i64 (max a b), .bool false]) (by simp [results, Try.results67, go_sem, c0, c1, c2]) rfl ⟨rfl, h.below⟩
  ·
   rw [ofS_cut (.inr h2)]
   go_enter Try.func67, Try.ntmps67
   go_wp2_with fail
   refine (sfixed_any a _).mono ?_
   rintro e w1 ⟨rfl, hB1⟩
   rw [h1]
   go_wp2_with fail
   refine (sfixed_any b _).mono ?_
   rintro e w2 ⟨rfl, hB2⟩
   rw [h2]
   go_wp2_with fail
   refine (whole_any _).mono ?_
   rintro e w3 ⟨rfl, hB3⟩
   have hX := (((bs1 w 0 0 false).later hB1).later hB2).later hB3
   obtain ⟨c0, c1, c2, f0, f1, f2⟩ := hX.c0
   clear hB1 hB2 hB3 h1 h2
   go_wp2
   have h := hX.put 0 (by simp) lineS
   rw [Nat.add_zero] at h
   exact bodyPost_ret (v := .agg #[.int .i64 0, .int .i64 0, .bool true]) (by simp [results, Try.results67, go_sem, c0, c1, c2, lineS]) rfl ⟨rfl, h.below⟩
 ·
  rw [ofS_cut (.inl h1)]
  go_enter Try.func67, Try.ntmps67
  go_wp2_with fail
  refine (sfixed_any a _).mono ?_
  rintro e w1 ⟨rfl, hB1⟩
  rw [h1]
  go_wp2_with fail
  refine (whole_any _).mono ?_
  rintro e w3 ⟨rfl, hB3⟩
  have hX := ((bs1 w 0 0 false).later hB1).later hB3
  obtain ⟨c0, c1, c2, f0, f1, f2⟩ := hX.c0
  clear hB1 hB3 h1
  go_wp2
  have h := hX.put 0 (by simp) lineS
  rw [Nat.add_zero] at h
  exact bodyPost_ret (v := .agg #[.int .i64 0, .int .i64 0, .bool true]) (by simp [results, Try.results67, go_sem, c0, c1, c2, lineS]) rfl ⟨rfl, h.below⟩
set_option maxHeartbeats 800000 in
theorem counted_ok (a b : Int) (c : Bool) (w : World) (h : okB ⟨a, b, c⟩ = true) : Calls Try.prog 83 #[.agg #[.int .i64 a, .int .i64 b, .bool c]] w (PSp ⟨a, b, c⟩ w) := by
 obtain ⟨k1, k2, k3, k4⟩ := ok_of h
 have k2 : a ≤ b := k2
 cases k4
 have hE : ofS a b = ⟨a, b, false⟩ := (ofS_le k2).trans (mkS_ok h)
 have hq : eqS a b false a b false = true := eqS_same _ _ _
 have HH := Lib.hid h
 clear h
 go_enter Try.func83, Try.ntmps83
 go_wp2
 have hX := bs2 w a b false 0 0 false
 generalize (w.alloc (.cells #[.int .i64 a, .int .i64 b, .bool false] 23)).alloc (.cells #[.int .i64 0, .int .i64 0, .bool false] 23) = w1 at *
 refine wp_region_vals 7 [some 3, some 4, some 5, some 6, some 7, some 8, some 9] (lstV [.agg #[.int .i64 a, .int .i64 b, .bool false], .pointer (some ⟨w.heap.size, 0, none⟩), .int .i64 a, .pointer (some ⟨w.heap.size, 1, none⟩), .int .i64 b, .agg #[.int .i64 a, .int .i64 b, .bool false], .bool false]) (fun W => Bs w W [⟨a, b, false⟩, ⟨0, 0, false⟩]) (by kernel_rfl) (by kernel_rfl) (by decide) (hX.drew) ?_ ?_
 ·
  intro i hl hi u W hJ hd
  obtain rfl | rfl | rfl | rfl | rfl | rfl | rfl : i = 0 ∨ i = 1 ∨ i = 2 ∨ i = 3 ∨ i = 4 ∨ i = 5 ∨ i = 6 := by omega
  ·
   clear hd
   simp only [List.getElem_cons_succ, List.getElem_cons_zero]
   clear hl
   refine .inr ⟨rfl, fun K' hK => ?_⟩
   have HK := Lib.hid hK
   clear hK
   simp only [layS, Act.put, List.setIfInBounds_toArray, List.set_cons_succ, List.set_cons_zero, Nat.zero_add, Nat.reduceAdd]
   have c00 := hJ.c0.1
   have c01 := hJ.c0.2.1
   have c02 := hJ.c0.2.2.1
   have c03 := hJ.c0.2.2.2.1
   have c04 := hJ.c0.2.2.2.2.1
   have c05 := hJ.c0.2.2.2.2.2
   go_simp
   exact HK.out _ _ (by simp [layS, updV, lstV, Act.put]) hJ
  ·
   clear hd
   simp only [List.getElem_cons_succ, List.getElem_cons_zero]
   clear hl
   refine .inr ⟨rfl, fun K' hK => ?_⟩
   have HK := Lib.hid hK
   clear hK
   simp only [layS, Act.put, List.setIfInBounds_toArray, List.set_cons_succ, List.set_cons_zero, Nat.zero_add, Nat.reduceAdd]
   have c00 := hJ.c0.1
   have c01 := hJ.c0.2.1
   have c02 := hJ.c0.2.2.1
   have c03 := hJ.c0.2.2.2.1
   have c04 := hJ.c0.2.2.2.2.1
   have c05 := hJ.c0.2.2.2.2.2
   go_simp
   exact HK.out _ _ (by simp [layS, updV, lstV, Act.put]) hJ
  ·
   have e1 : u 1 = .pointer (some ⟨w.heap.size, 0, none⟩) := hd 1 (by kernel_rfl)
   clear hd
   simp only [List.getElem_cons_succ, List.getElem_cons_zero]
   clear hl
   refine .inr ⟨rfl, fun K' hK => ?_⟩
   have HK := Lib.hid hK
   clear hK
   simp only [layS, Act.put, List.setIfInBounds_toArray, List.set_cons_succ, List.set_cons_zero, Nat.zero_add, Nat.reduceAdd, e1]
   have E1 := Lib.hid e1
   clear e1
   have c00 := hJ.c0.1
   have c01 := hJ.c0.2.1
   have c02 := hJ.c0.2.2.1
   have c03 := hJ.c0.2.2.2.1
   have c04 := hJ.c0.2.2.2.2.1
   have c05 := hJ.c0.2.2.2.2.2
   go_simp
   exact HK.out _ _ (by simp [layS, updV, lstV, Act.put, E1.out]) hJ
  ·
   clear hd
   simp only [List.getElem_cons_succ, List.getElem_cons_zero]
   clear hl
   refine .inr ⟨rfl, fun K' hK => ?_⟩
   have HK := Lib.hid hK
   clear hK
   simp only [layS, Act.put, List.setIfInBounds_toArray, List.set_cons_succ, List.set_cons_zero, Nat.zero_add, Nat.reduceAdd]
   have c00 := hJ.c0.1
   have c01 := hJ.c0.2.1
   have c02 := hJ.c0.2.2.1
   have c03 := hJ.c0.2.2.2.1
   have c04 := hJ.c0.2.2.2.2.1
   have c05 := hJ.c0.2.2.2.2.2
   go_simp
   exact HK.out _ _ (by simp [layS, updV, lstV, Act.put]) hJ
  ·
   have e3 : u 3 = .pointer (some ⟨w.heap.size, 1, none⟩) := hd 3 (by kernel_rfl)
   clear hd
   simp only [List.getElem_cons_succ, List.getElem_cons_zero]
   clear hl
   refine .inr ⟨rfl, fun K' hK => ?_⟩
   have HK := Lib.hid hK
   clear hK
   simp only [layS, Act.put, List.setIfInBounds_toArray, List.set_cons_succ, List.set_cons_zero, Nat.zero_add, Nat.reduceAdd, e3]
   have E3 := Lib.hid e3
   clear e3
   have c00 := hJ.c0.1
   have c01 := hJ.c0.2.1
   have c02 := hJ.c0.2.2.1
   have c03 := hJ.c0.2.2.2.1
   have c04 := hJ.c0.2.2.2.2.1
   have c05 := hJ.c0.2.2.2.2.2
   go_simp
   exact HK.out _ _ (by simp [layS, updV, lstV, Act.put, E3.out]) hJ
  ·
   have e2 : u 2 = .int .i64 a := hd 2 (by kernel_rfl)
   have e4 : u 4 = .int .i64 b := hd 4 (by kernel_rfl)
   clear hd
   simp only [List.getElem_cons_succ, List.getElem_cons_zero]
   clear hl
   refine .inr ⟨rfl, fun K' hK => ?_⟩
   have HK := Lib.hid hK
   clear hK
   simp only [layS, Act.put, List.setIfInBounds_toArray, List.set_cons_succ, List.set_cons_zero, Nat.zero_add, Nat.reduceAdd, e2, e4]
   have E2 := Lib.hid e2
   have E4 := Lib.hid e4
   clear e2 e4
   have c00 := hJ.c0.1
   have c01 := hJ.c0.2.1
   have c02 := hJ.c0.2.2.1
   have c03 := hJ.c0.2.2.2.1
   have c04 := hJ.c0.2.2.2.2.1
   have c05 := hJ.c0.2.2.2.2.2
   go_simp
   refine ((by have := sOf_any a b W; rw [hE] at this; exact this : Calls Try.prog 67 #[.int .i64 a, .int .i64 b] W (PSp ⟨a, b, false⟩ W))).mono ?_
   rintro e W' ⟨rfl, hB⟩
   exact HK.out _ _ (by simp [layS, updV, lstV, Act.put, E2.out, E4.out]) (hJ.later hB)
  ·
   have e0 : u 0 = .agg #[.int .i64 a, .int .i64 b, .bool false] := hd 0 (by kernel_rfl)
   have e5 : u 5 = .agg #[.int .i64 a, .int .i64 b, .bool false] := hd 5 (by kernel_rfl)
   clear hd
   simp only [List.getElem_cons_succ, List.getElem_cons_zero]
   clear hl
   refine .inr ⟨rfl, fun K' hK => ?_⟩
   have HK := Lib.hid hK
   clear hK
   simp only [layS, Act.put, List.setIfInBounds_toArray, List.set_cons_succ, List.set_cons_zero, Nat.zero_add, Nat.reduceAdd, e0, e5]
   have E0 := Lib.hid e0
   have E5 := Lib.hid e5
   clear e0 e5
   have c00 := hJ.c0.1
   have c01 := hJ.c0.2.1
   have c02 := hJ.c0.2.2.1
   have c03 := hJ.c0.2.2.2.1
   have c04 := hJ.c0.2.2.2.2.1
   have c05 := hJ.c0.2.2.2.2.2
   go_simp
   exact HK.out _ _ (by simp [layS, updV, lstV, Act.put, E0.out, E5.out]) hJ
 intro W hJ
 simp only [layS, lstV, Act.put, List.setIfInBounds_toArray, List.set_cons_succ, List.set_cons_zero, Nat.zero_add, Nat.reduceAdd, List.getD_cons_zero, List.getD_cons_succ, List.drop_succ_cons, List.drop_zero, List.drop_nil]
 obtain ⟨c0, c1, c2, f0, f1, f2⟩ := hJ.c0
 obtain ⟨g0, g1, g2, h0, h1, h2⟩ := hJ.c1
 go_wp2
 have hp := hJ.put 1 (by simp) ⟨a, b, false⟩
 obtain ⟨d0, d1, d2, _⟩ := hp.c1
 exact bodyPost_ret (v := .agg #[.int .i64 a, .int .i64 b, .bool false]) (by simp [results, Try.results83, go_sem, g0, g1, g2]) rfl ⟨rfl, hp.below⟩
set_option maxHeartbeats 800000 in
theorem counted_no (a b : Int) (c : Bool) (w : World) (h : okB ⟨a, b, c⟩ = false) : Calls Try.prog 83 #[.agg #[.int .i64 a, .int .i64 b, .bool c]] w (PSp lineS w) := by
 have hq : eqS a b c (ofS a b).lo (ofS a b).hi (ofS a b).all = false := by
  cases hk : eqS a b c (ofS a b).lo (ofS a b).hi (ofS a b).all
  ·
   rfl
  ·
   exfalso
   obtain ⟨e1, e2, e3⟩ := eqS_iff.1 hk
   have e : (⟨a, b, c⟩ : Sp) = ⟨(ofS a b).lo, (ofS a b).hi, (ofS a b).all⟩ := by simp only [Sp.mk.injEq]; exact ⟨e1, e2, e3⟩
   change _ = ofS a b at e
   have hm := okB_mk ⟨min a b, max a b, false⟩
   change okB (ofS a b) = _ at hm
   rw [← e, h] at hm
   have h0 := mkS_no hm.symm
   change ofS a b = lineS at h0
   rw [h0] at e
   cases e
   cases hm
 obtain ⟨z, hz⟩ : ∃ z, ofS a b = z := ⟨_, rfl⟩
 rw [hz] at hq
 have HZ := Lib.hid hz
 clear hz
 have HH := Lib.hid h
 clear h
 go_enter Try.func83, Try.ntmps83
 go_wp2
 have hX := bs2 w a b c 0 0 false
 generalize (w.alloc (.cells #[.int .i64 a, .int .i64 b, .bool c] 23)).alloc (.cells #[.int .i64 0, .int .i64 0, .bool false] 23) = w1 at *
 refine wp_region_vals 7 [some 3, some 4, some 5, some 6, some 7, some 8, some 9] (lstV [.agg #[.int .i64 a, .int .i64 b, .bool c], .pointer (some ⟨w.heap.size, 0, none⟩), .int .i64 a, .pointer (some ⟨w.heap.size, 1, none⟩), .int .i64 b, .agg #[.int .i64 z.lo, .int .i64 z.hi, .bool z.all], .bool true]) (fun W => Bs w W [⟨a, b, c⟩, ⟨0, 0, false⟩]) (by kernel_rfl) (by kernel_rfl) (by decide) (hX.drew) ?_ ?_
 ·
  intro i hl hi u W hJ hd
  obtain rfl | rfl | rfl | rfl | rfl | rfl | rfl : i = 0 ∨ i = 1 ∨ i = 2 ∨ i = 3 ∨ i = 4 ∨ i = 5 ∨ i = 6 := by omega
  ·
   clear hd
   simp only [List.getElem_cons_succ, List.getElem_cons_zero]
   clear hl
   refine .inr ⟨rfl, fun K' hK => ?_⟩
   have HK := Lib.hid hK
   clear hK
   simp only [layS, Act.put, List.setIfInBounds_toArray, List.set_cons_succ, List.set_cons_zero, Nat.zero_add, Nat.reduceAdd]
   have c00 := hJ.c0.1
   have c01 := hJ.c0.2.1
   have c02 := hJ.c0.2.2.1
   have c03 := hJ.c0.2.2.2.1
   have c04 := hJ.c0.2.2.2.2.1
   have c05 := hJ.c0.2.2.2.2.2
   go_simp
   exact HK.out _ _ (by simp [layS, updV, lstV, Act.put]) hJ
  ·
   clear hd
   simp only [List.getElem_cons_succ, List.getElem_cons_zero]
   clear hl
   refine .inr ⟨rfl, fun K' hK => ?_⟩
   have HK := Lib.hid hK
   clear hK
   simp only [layS, Act.put, List.setIfInBounds_toArray, List.set_cons_succ, List.set_cons_zero, Nat.zero_add, Nat.reduceAdd]
   have c00 := hJ.c0.1
   have c01 := hJ.c0.2.1
   have c02 := hJ.c0.2.2.1
   have c03 := hJ.c0.2.2.2.1
   have c04 := hJ.c0.2.2.2.2.1
   have c05 := hJ.c0.2.2.2.2.2
   go_simp
   exact HK.out _ _ (by simp [layS, updV, lstV, Act.put]) hJ
  ·
   have e1 : u 1 = .pointer (some ⟨w.heap.size, 0, none⟩) := hd 1 (by kernel_rfl)
   clear hd
   simp only [List.getElem_cons_succ, List.getElem_cons_zero]
   clear hl
   refine .inr ⟨rfl, fun K' hK => ?_⟩
   have HK := Lib.hid hK
   clear hK
   simp only [layS, Act.put, List.setIfInBounds_toArray, List.set_cons_succ, List.set_cons_zero, Nat.zero_add, Nat.reduceAdd, e1]
   have E1 := Lib.hid e1
   clear e1
   have c00 := hJ.c0.1
   have c01 := hJ.c0.2.1
   have c02 := hJ.c0.2.2.1
   have c03 := hJ.c0.2.2.2.1
   have c04 := hJ.c0.2.2.2.2.1
   have c05 := hJ.c0.2.2.2.2.2
   go_simp
   exact HK.out _ _ (by simp [layS, updV, lstV, Act.put, E1.out]) hJ
  ·
   clear hd
   simp only [List.getElem_cons_succ, List.getElem_cons_zero]
   clear hl
   refine .inr ⟨rfl, fun K' hK => ?_⟩
   have HK := Lib.hid hK
   clear hK
   simp only [layS, Act.put, List.setIfInBounds_toArray, List.set_cons_succ, List.set_cons_zero, Nat.zero_add, Nat.reduceAdd]
   have c00 := hJ.c0.1
   have c01 := hJ.c0.2.1
   have c02 := hJ.c0.2.2.1
   have c03 := hJ.c0.2.2.2.1
   have c04 := hJ.c0.2.2.2.2.1
   have c05 := hJ.c0.2.2.2.2.2
   go_simp
   exact HK.out _ _ (by simp [layS, updV, lstV, Act.put]) hJ
  ·
   have e3 : u 3 = .pointer (some ⟨w.heap.size, 1, none⟩) := hd 3 (by kernel_rfl)
   clear hd
   simp only [List.getElem_cons_succ, List.getElem_cons_zero]
   clear hl
   refine .inr ⟨rfl, fun K' hK => ?_⟩
   have HK := Lib.hid hK
   clear hK
   simp only [layS, Act.put, List.setIfInBounds_toArray, List.set_cons_succ, List.set_cons_zero, Nat.zero_add, Nat.reduceAdd, e3]
   have E3 := Lib.hid e3
   clear e3
   have c00 := hJ.c0.1
   have c01 := hJ.c0.2.1
   have c02 := hJ.c0.2.2.1
   have c03 := hJ.c0.2.2.2.1
   have c04 := hJ.c0.2.2.2.2.1
   have c05 := hJ.c0.2.2.2.2.2
   go_simp
   exact HK.out _ _ (by simp [layS, updV, lstV, Act.put, E3.out]) hJ
  ·
   have e2 : u 2 = .int .i64 a := hd 2 (by kernel_rfl)
   have e4 : u 4 = .int .i64 b := hd 4 (by kernel_rfl)
   clear hd
   simp only [List.getElem_cons_succ, List.getElem_cons_zero]
   clear hl
   refine .inr ⟨rfl, fun K' hK => ?_⟩
   have HK := Lib.hid hK
   clear hK
   simp only [layS, Act.put, List.setIfInBounds_toArray, List.set_cons_succ, List.set_cons_zero, Nat.zero_add, Nat.reduceAdd, e2, e4]
   have E2 := Lib.hid e2
   have E4 := Lib.hid e4
   clear e2 e4
   have c00 := hJ.c0.1
   have c01 := hJ.c0.2.1
   have c02 := hJ.c0.2.2.1
   have c03 := hJ.c0.2.2.2.1
   have c04 := hJ.c0.2.2.2.2.1
   have c05 := hJ.c0.2.2.2.2.2
   go_simp
   refine ((by have := sOf_any a b W; rw [HZ.out] at this; exact this : Calls Try.prog 67 #[.int .i64 a, .int .i64 b] W (PSp z W))).mono ?_
   rintro e W' ⟨rfl, hB⟩
   exact HK.out _ _ (by simp [layS, updV, lstV, Act.put, E2.out, E4.out]) (hJ.later hB)
  ·
   have e0 : u 0 = .agg #[.int .i64 a, .int .i64 b, .bool c] := hd 0 (by kernel_rfl)
   have e5 : u 5 = .agg #[.int .i64 z.lo, .int .i64 z.hi, .bool z.all] := hd 5 (by kernel_rfl)
   clear hd
   simp only [List.getElem_cons_succ, List.getElem_cons_zero]
   clear hl
   refine .inr ⟨rfl, fun K' hK => ?_⟩
   have HK := Lib.hid hK
   clear hK
   simp only [layS, Act.put, List.setIfInBounds_toArray, List.set_cons_succ, List.set_cons_zero, Nat.zero_add, Nat.reduceAdd, e0, e5]
   have E0 := Lib.hid e0
   have E5 := Lib.hid e5
   clear e0 e5
   have c00 := hJ.c0.1
   have c01 := hJ.c0.2.1
   have c02 := hJ.c0.2.2.1
   have c03 := hJ.c0.2.2.2.1
   have c04 := hJ.c0.2.2.2.2.1
   have c05 := hJ.c0.2.2.2.2.2
   go_simp
   exact HK.out _ _ (by simp [layS, updV, lstV, Act.put, E0.out, E5.out]) hJ
 intro W hJ
 simp only [layS, lstV, Act.put, List.setIfInBounds_toArray, List.set_cons_succ, List.set_cons_zero, Nat.zero_add, Nat.reduceAdd, List.getD_cons_zero, List.getD_cons_succ, List.drop_succ_cons, List.drop_zero, List.drop_nil]
 go_wp2_with fail
 refine (whole_any _).mono ?_
 rintro e W2 ⟨rfl, hB⟩
 have hJ2 := hJ.later hB
 obtain ⟨g0, g1, g2, h0, h1, h2⟩ := hJ2.c1
 go_wp2
 have hp := hJ2.put 1 (by simp) lineS
 exact bodyPost_ret (v := .agg #[.int .i64 0, .int .i64 0, .bool true]) (by simp [results, Try.results83, go_sem, g0, g1, g2, lineS]) rfl ⟨rfl, hp.below⟩
theorem counted_any (x : Sp) (w : World) : Calls Try.prog 83 #[.agg #[.int .i64 x.lo, .int .i64 x.hi, .bool x.all]] w (PSp (mkS x) w) := by
 cases h : okB x
 ·
  rw [mkS_no h]; exact counted_no x.lo x.hi x.all w h
 ·
  rw [mkS_ok h]; exact counted_ok x.lo x.hi x.all w h
end Go.Proofs.Ytpahkpcoinbgcaa
