/- The document's sums: the walks of function, A, B, C. No statement of the seat is proved here. -/
import Derived.Test.YtpahkpcoinbgcaaGr13
namespace Go.Proofs.Ytpahkpcoinbgcaa
open Go Go.RowKit

theorem small_of {q : Int} (h1 : -9223372036854775808 ≤ q) (h2 : q ≤ 9223372036854775807) : smallV q = q := if_pos ⟨h1, h2⟩
theorem tV_ten {c k : Nat} {n : Int} (h0 : 0 ≤ n) (h1 : n ≤ 4194304) (hc : c ≤ 2) (hk : k ≤ 12) : (tV c n k).natAbs < 10 ^ 140 := by
  have h := tV_bd h0 h1 hc hk
  exact Nat.lt_of_lt_of_le h (Nat.le_trans (Nat.pow_le_pow_right (by decide) (show k + 1 ≤ 13 by omega)) (by decide))
theorem uN_ten {c k : Nat} (hc : c ≤ 2) (hk : k ≤ 12) : uN c k < 10 ^ 140 :=
  Nat.lt_of_lt_of_le (uN_lt hc hk) (Nat.le_trans (Nat.pow_le_pow_right (by decide) (show k + 1 ≤ 13 by omega)) (by decide))
theorem t150 {z : Int} (h : z.natAbs < 10 ^ 140) : z.natAbs < 10 ^ 150 := Nat.lt_of_lt_of_le h (Nat.pow_le_pow_right (by decide) (by decide))
theorem t160 {z : Int} (h : z.natAbs < 10 ^ 140) : (z * 1048576).natAbs < 10 ^ 160 := by
  rw [Int.natAbs_mul]
  exact Nat.lt_of_lt_of_le (Nat.mul_lt_mul_of_pos_right h (by decide)) (by
    have e : (10 : Nat) ^ 160 = 10 ^ 140 * 10 ^ 20 := by rw [← Nat.pow_add]
    rw [e]
    exact Nat.mul_le_mul (Nat.le_refl _) (by decide))
theorem t15 {q : Int} (h1 : -228698418577408 ≤ q) (h2 : q ≤ 228698418577408) : q.natAbs < 10 ^ 150 := Nat.lt_of_le_of_lt (show q.natAbs ≤ 228698418577408 by omega) (Nat.lt_of_lt_of_le (show 228698418577408 < 10 ^ 15 by decide) (Nat.pow_le_pow_right (by decide) (by decide)))
/-- whole, of a fraction whose value is known to be small. -/
theorem whole_q (n d : NR) (q : Int) (w : World) (hn : n.is w) (hd : d.is w) (h1 : n.z.natAbs < 10 ^ 140) (h2 : d.z.natAbs < 10 ^ 140) (hp : 0 < d.z) (hq : n.z * 1048576 / d.z = q) (b1 : -228698418577408 ≤ q) (b2 : q ≤ 228698418577408) :
    Calls Try.prog 118 #[.agg #[.bool n.b, .slice n.a n.n n.c, .bool d.b, .slice d.a d.n d.c]] w (PVal (.int .i64 q) w) := by
  have e : flo (n.z * 1048576) d.z = q := by rw [flo_pos hp, hq]
  have := whole_r n d w hn hd (t150 h1) (t150 h2) (t160 h1) (by rw [e]; exact t15 b1 b2) (by omega) (by rw [e]; exact small_of (by omega) (by omega))
  rwa [e] at this
set_option maxRecDepth 100000 in
set_option maxHeartbeats 3200000 in
theorem fun_no (c : Nat) (x y : Sp) (hr : ∀ W : World, Calls Try.prog 78 #[.agg #[.int .i64 x.lo, .int .i64 x.hi, .bool x.all]] W (PDp y W)) (h : y.all = true ∨ (y.all = false ∧ y.lo < 0) ∨ (y.all = false ∧ 0 ≤ y.lo ∧ 4194304 < y.hi)) (w : World) :
    Calls Try.prog 91 #[.agg #[.int .i64 x.lo, .int .i64 x.hi, .bool x.all], .int .i64 (c : Int)] w (PDp lineS w) := by
  have HR := Lib.hid hr
  clear hr
  obtain ⟨l, u, a⟩ := y
  go_enter Try.func91, Try.ntmps91
  go_wp2_with fail
  have hC := ((cs_nil w).new #[.int .i64 x.lo, .int .i64 x.hi, .bool x.all] 25).new #[.int .i64 0, .int .i64 0, .bool false] 25
  rw [show (w.alloc (.cells #[.int .i64 x.lo, .int .i64 x.hi, .bool x.all] 25)).heap.size = w.heap.size + 1 by simp] at hC
  generalize (w.alloc (.cells #[.int .i64 x.lo, .int .i64 x.hi, .bool x.all] 25)).alloc (.cells #[.int .i64 0, .int .i64 0, .bool false] 25) = w1 at *
  refine (HR.out _).mono ?_
  rintro e w2 ⟨rfl, hB⟩
  replace hC := hC.later hB
  have hD : D3 w2 (w.heap.size + 1) ⟨0, 0, false⟩ := hC.at' _ (.head _)
  have hlt := hC.lt _ (.head _)
  replace hlt : w.heap.size + 1 < w2.heap.size := hlt
  have hb := hC.below
  have c1 := hD.cells.1
  have c2 := hD.cells.2.1
  have c3 := hD.cells.2.2.1
  have c4 := hD.cells.2.2.2.1
  have c5 := hD.cells.2.2.2.2.1
  have c6 := hD.cells.2.2.2.2.2
  clear hC hB
  have fin : ∀ y : Sp, Below w.heap.size w ((((w2.setCell ⟨w.heap.size + 1, 0, none⟩ (.int .i64 0)).setCell ⟨w.heap.size + 1, 1, none⟩ (.int .i64 0)).setCell ⟨w.heap.size + 1, 2, none⟩ (.bool true)).alloc (.cells #[.int .i64 y.lo, .int .i64 y.hi, .bool y.all] 25)) ∧ D3 ((((w2.setCell ⟨w.heap.size + 1, 0, none⟩ (.int .i64 0)).setCell ⟨w.heap.size + 1, 1, none⟩ (.int .i64 0)).setCell ⟨w.heap.size + 1, 2, none⟩ (.bool true)).alloc (.cells #[.int .i64 y.lo, .int .i64 y.hi, .bool y.all] 25)) (w.heap.size + 1) ⟨0, 0, true⟩ := fun y => by
    have h1 : Below w.heap.size w (((w2.setCell ⟨w.heap.size + 1, 0, none⟩ (.int .i64 0)).setCell ⟨w.heap.size + 1, 1, none⟩ (.int .i64 0)).setCell ⟨w.heap.size + 1, 2, none⟩ (.bool true)) := ((hb.setCell (p := ⟨w.heap.size + 1, 0, none⟩) (Nat.le_succ _) _).setCell (p := ⟨w.heap.size + 1, 1, none⟩) (Nat.le_succ _) _).setCell (p := ⟨w.heap.size + 1, 2, none⟩) (Nat.le_succ _) _
    exact ⟨h1.alloc h1.size _, (hD.self ⟨0, 0, true⟩).below ((Below.refl _ _).alloc (Nat.le_refl _) _)⟩
  clear hD
  rcases h with h | ⟨h, h1⟩ | ⟨h, h1, h2⟩
  · replace h : a = true := h
    subst h
    obtain ⟨hf, hd⟩ := fin ⟨l, u, true⟩
    have k1 := hd.cells.1
    have k2 := hd.cells.2.1
    have k3 := hd.cells.2.2.1
    go_wp2
    exact bodyPost_ret (v := .agg #[.int .i64 lineS.lo, .int .i64 lineS.hi, .bool lineS.all]) (by simp [results, Try.results91, go_sem, k1, k2, k3, lineS]) rfl ⟨rfl, hf⟩
  · replace h : a = false := h
    replace h1 : l < 0 := h1
    subst h
    obtain ⟨hf, hd⟩ := fin ⟨l, u, false⟩
    have k1 := hd.cells.1
    have k2 := hd.cells.2.1
    have k3 := hd.cells.2.2.1
    have d1 : decide (l < 0) = true := decide_eq_true h1
    go_wp2
    exact bodyPost_ret (v := .agg #[.int .i64 lineS.lo, .int .i64 lineS.hi, .bool lineS.all]) (by simp [results, Try.results91, go_sem, k1, k2, k3, lineS]) rfl ⟨rfl, hf⟩
  · replace h : a = false := h
    replace h1 : 0 ≤ l := h1
    replace h2 : 4194304 < u := h2
    subst h
    obtain ⟨hf, hd⟩ := fin ⟨l, u, false⟩
    have k1 := hd.cells.1
    have k2 := hd.cells.2.1
    have k3 := hd.cells.2.2.1
    have d1 : decide (l < 0) = false := decide_eq_false (by omega)
    have d2 : decide (4194304 < u) = true := decide_eq_true h2
    go_wp2
    exact bodyPost_ret (v := .agg #[.int .i64 lineS.lo, .int .i64 lineS.hi, .bool lineS.all]) (by simp [results, Try.results91, go_sem, k1, k2, k3, lineS]) rfl ⟨rfl, hf⟩
set_option maxRecDepth 100000 in
set_option maxHeartbeats 3200000 in
theorem fun_yes (c : Nat) (l u : Int) (w : World) (h0 : 0 ≤ l) (h1 : l ≤ u) (h4 : u ≤ 4194304) (hc : c ≤ 2) :
    Calls Try.prog 91 #[.agg #[.int .i64 l, .int .i64 u, .bool false], .int .i64 (c : Int)] w (PDp (ofS (loK c u) (hiK c l)) w) := by
  have HR : Hid (∀ W : World, Calls Try.prog 78 #[.agg #[.int .i64 l, .int .i64 u, .bool false]] W (PDp ⟨l, u, false⟩ W)) := show ∀ W : World, _ from fun W => by
    have hk : okB ⟨l, u, false⟩ = true := ok_mk (by show _ ≤ l; omega) h1 (by show u ≤ _; omega) rfl
    have := rRight_any ⟨l, u, false⟩ W
    rwa [mkS_ok hk] at this
  have HS1 : Hid (∀ W : World, Calls Try.prog 119 #[.int .i64 u, .int .i64 (c : Int), .int .i64 12] W (PFr (tV c u 11) ((uN c 11 : Nat) : Int) W)) := show ∀ W : World, _ from fun W => rsum_any u c 11 W (by omega) (by omega) hc (by omega)
  have HS2 : Hid (∀ W : World, Calls Try.prog 119 #[.int .i64 l, .int .i64 (c : Int), .int .i64 13] W (PFr (tV c l 12) ((uN c 12 : Nat) : Int) W)) := show ∀ W : World, _ from fun W => rsum_any l c 12 W (by omega) (by omega) hc (by omega)
  have b1 := loK_bd (c := c) (n := u) (by omega) (by omega) hc
  have b2 := hiK_bd (c := c) (n := l) (by omega) (by omega) hc
  have HW1 : Hid (∀ (n d : NR) (W : World), n.is W → d.is W → n.z = tV c u 11 → d.z = ((uN c 11 : Nat) : Int) → Calls Try.prog 118 #[.agg #[.bool n.b, .slice n.a n.n n.c, .bool d.b, .slice d.a d.n d.c]] W (PVal (.int .i64 (loK c u)) W)) := show ∀ (n d : NR) (W : World), _ from fun n d W hn hd zn zd => whole_q n d _ W hn hd (by rw [zn]; exact tV_ten (by omega) (by omega) hc (by omega)) (by rw [zd, Int.natAbs_natCast]; exact uN_ten hc (by omega)) (by rw [zd]; exact uN_pos' c 11) (by rw [zn, zd]; rfl) b1.1 b1.2
  have HW2 : Hid (∀ (n d : NR) (W : World), n.is W → d.is W → n.z = -tV c l 12 → d.z = ((uN c 12 : Nat) : Int) → Calls Try.prog 118 #[.agg #[.bool n.b, .slice n.a n.n n.c, .bool d.b, .slice d.a d.n d.c]] W (PVal (.int .i64 (-(tV c l 12 * 1048576) / ((uN c 12 : Nat) : Int))) W)) := show ∀ (n d : NR) (W : World), _ from fun n d W hn hd zn zd => whole_q n d _ W hn hd (by rw [zn, Int.natAbs_neg]; exact tV_ten (by omega) (by omega) hc (by omega)) (by rw [zd, Int.natAbs_natCast]; exact uN_ten hc (by omega)) (by rw [zd]; exact uN_pos' c 12) (by rw [zn, zd, Int.neg_mul]) b2.1 b2.2
  have hw2 : IntKind.i64.wrap (-(-(tV c l 12 * 1048576) / ((uN c 12 : Nat) : Int))) = -(-(tV c l 12 * 1048576) / ((uN c 12 : Nat) : Int)) := IntWalk.i64_in _ (by omega)
  have HO : Hid (∀ W : World, Calls Try.prog 101 #[.int .i64 (loK c u), .int .i64 (-(-(tV c l 12 * 1048576) / ((uN c 12 : Nat) : Int)))] W (PDp (ofS (loK c u) (hiK c l)) W)) := show ∀ W : World, _ from fun W => rdOf_any _ _ W
  have d1 : decide (l < 0) = false := decide_eq_false (by omega)
  have d2 : decide (4194304 < u) = false := decide_eq_false (by omega)
  clear b1 b2 h0 h1 h4 hc
  generalize ofS (loK c u) (hiK c l) = z at *
  generalize loK c u = q1 at *
  generalize -(tV c l 12 * 1048576) / ((uN c 12 : Nat) : Int) = q2 at *
  generalize tV c u 11 = X1 at *
  generalize tV c l 12 = X2 at *
  generalize ((uN c 11 : Nat) : Int) = V1 at *
  generalize ((uN c 12 : Nat) : Int) = V2 at *
  go_enter Try.func91, Try.ntmps91
  go_wp2_with fail
  have hC := ((cs_nil w).new #[.int .i64 l, .int .i64 u, .bool false] 25).new #[.int .i64 0, .int .i64 0, .bool false] 25
  rw [show (w.alloc (.cells #[.int .i64 l, .int .i64 u, .bool false] 25)).heap.size = w.heap.size + 1 by simp] at hC
  generalize (w.alloc (.cells #[.int .i64 l, .int .i64 u, .bool false] 25)).alloc (.cells #[.int .i64 0, .int .i64 0, .bool false] 25) = w1 at *
  refine (HR.out _).mono ?_
  rintro e w2 ⟨rfl, hB⟩
  replace hC := (hC.later hB).new #[.int .i64 l, .int .i64 u, .bool false] 25
  clear hB HR
  go_wp2_with fail
  generalize w2.alloc (.cells #[.int .i64 l, .int .i64 u, .bool false] 25) = w3 at *
  generalize w2.heap.size = kx at *
  refine (HS1.out _).mono ?_
  rintro e w4 ⟨n, d, zn, zd, rfl, hn, hd, hB⟩
  replace hC := hC.later hB
  clear hB HS1
  go_wp2_with fail
  refine (HW1.out n d _ hn hd zn zd).mono ?_
  rintro e w5 ⟨rfl, hB⟩
  replace hC := hC.later hB
  clear hB HW1 hn hd zn zd
  have hX : D3 w5 kx ⟨l, u, false⟩ := hC.at' _ (.head _)
  have x1 := hX.cells.1
  have x2 := hX.cells.2.1
  go_wp2_with fail
  clear x1 x2 hX
  refine (HS2.out _).mono ?_
  rintro e w6 ⟨n2, d2', zn2, zd2, rfl, hn2, hd2, hB⟩
  replace hC := hC.later hB
  clear hB HS2
  have hF := f4_new w6 120 n2 d2'
  have hal : Below w6.heap.size w6 (w6.alloc (.cells #[.bool n2.b, .slice n2.a n2.n n2.c, .bool d2'.b, .slice d2'.a d2'.n d2'.c] 120)) := (Below.refl _ _).alloc (Nat.le_refl _) _
  have hlt := hC.lt _ (.tail _ (.head _))
  replace hlt : w.heap.size + 1 < w6.heap.size := hlt
  replace hC := hC.later hal
  replace hn2 := RNum.below hn2 hal
  replace hd2 := RNum.below hd2 hal
  clear hal
  go_wp2_with fail
  generalize w6.alloc (.cells #[.bool n2.b, .slice n2.a n2.n n2.c, .bool d2'.b, .slice d2'.a d2'.n d2'.c] 120) = w7 at *
  generalize w6.heap.size = kf at *
  refine (nMinus n2 _ hn2).mono ?_
  rintro e w8 ⟨n3, zn3, rfl, hn3, hB⟩
  replace hC := hC.later hB
  replace hF := hF.below hB
  replace hd2 := RNum.below hd2 hB
  clear hB hn2
  have hF3 := hF.fst n3
  have hn4 := NR.store4 hn3 hF 0 1 (.bool n3.b) (.slice n3.a n3.n n3.c)
  have hd4 := NR.store4 (r := d2') hd2 hF 0 1 (.bool n3.b) (.slice n3.a n3.n n3.c)
  have hb4 : Below w.heap.size w ((w8.setCell ⟨kf, 0, none⟩ (.bool n3.b)).setCell ⟨kf, 1, none⟩ (.slice n3.a n3.n n3.c)) := below_o hC.below (by omega) _ _ _ _
  have hR : D3 w8 (w.heap.size + 1) ⟨0, 0, false⟩ := hC.at' _ (.tail _ (.head _))
  have hR4 : D3 ((w8.setCell ⟨kf, 0, none⟩ (.bool n3.b)).setCell ⟨kf, 1, none⟩ (.slice n3.a n3.n n3.c)) (w.heap.size + 1) ⟨0, 0, false⟩ := Cl.far (p := (w.heap.size + 1, #[.int .i64 0, .int .i64 0, .bool false], 25)) hR (show w.heap.size + 1 ≠ kf by omega) _ _
  have f5 := hF.cells.1
  have f6 := hF.cells.2.1
  have f7 := hF.cells.2.2.1
  have f8 := hF.cells.2.2.2.1
  have f9 := hF.cells.2.2.2.2.1
  have f10 := hF.cells.2.2.2.2.2.1
  clear hC hn3 hd2 hR hF
  go_wp2_with fail
  clear f5 f6 f7 f8 f9 f10
  generalize (w8.setCell ⟨kf, 0, none⟩ (.bool n3.b)).setCell ⟨kf, 1, none⟩ (.slice n3.a n3.n n3.c) = w9 at *
  refine (HW2.out n3 d2' _ hn4 hd4 (by rw [zn3, zn2]) zd2).mono ?_
  rintro e w10 ⟨rfl, hB⟩
  replace hb4 := hb4.trans (hB.mono hb4.size)
  replace hR4 := hR4.below hB
  clear hB HW2 hF3 hn4 hd4
  go_wp2_with fail
  refine (HO.out _).mono ?_
  rintro e w11 ⟨rfl, hB⟩
  replace hb4 := hb4.trans (hB.mono hb4.size)
  replace hR4 := hR4.below hB
  clear hB HO
  have c1 := hR4.cells.1
  have c2 := hR4.cells.2.1
  have c3 := hR4.cells.2.2.1
  have c4 := hR4.cells.2.2.2.1
  have c5 := hR4.cells.2.2.2.2.1
  have c6 := hR4.cells.2.2.2.2.2
  have hf : Below w.heap.size w (((w11.setCell ⟨w.heap.size + 1, 0, none⟩ (.int .i64 z.lo)).setCell ⟨w.heap.size + 1, 1, none⟩ (.int .i64 z.hi)).setCell ⟨w.heap.size + 1, 2, none⟩ (.bool z.all)) := ((hb4.setCell (p := ⟨w.heap.size + 1, 0, none⟩) (Nat.le_succ _) _).setCell (p := ⟨w.heap.size + 1, 1, none⟩) (Nat.le_succ _) _).setCell (p := ⟨w.heap.size + 1, 2, none⟩) (Nat.le_succ _) _
  go_wp2
  exact bodyPost_ret (v := .agg #[.int .i64 z.lo, .int .i64 z.hi, .bool z.all]) (by simp [results, Try.results91, go_sem, c1, c2, c3]) rfl ⟨rfl, hf⟩
theorem fun_any (c : Nat) (x : Sp) (w : World) (hc : c ≤ 2) : Calls Try.prog 91 #[.agg #[.int .i64 x.lo, .int .i64 x.hi, .bool x.all], .int .i64 (c : Int)] w (PDp (encS c x) w) := by
  cases h : inB x fourS
  · rw [enc_out h]
    refine fun_no c x (mkS x) (rRight_any x) ?_ w
    cases hk : okB x
    · left; rw [mkS_no hk]; rfl
    · rw [mkS_ok hk]
      have k := ok_of hk
      by_cases hl : x.lo < 0
      · exact .inr (.inl ⟨k.2.2.2, hl⟩)
      · refine .inr (.inr ⟨k.2.2.2, by omega, ?_⟩)
        refine Int.lt_of_not_ge fun g => ?_
        rw [(in_ok (D := fourS) rfl).2 ⟨hk, by show 0 ≤ x.lo; omega, g⟩] at h
        cases h
  · obtain ⟨hk, h0, h1, h4⟩ := four_of h
    have k := (ok_of hk).2.2.2
    unfold encS
    rw [h, if_pos rfl]
    obtain ⟨l, u, a⟩ := x
    replace k : a = false := k
    subst k
    exact fun_yes c l u w h0 h1 h4 hc
end Go.Proofs.Ytpahkpcoinbgcaa

/- The document's sums: the walks of A, B, C; the laws' doc. No statement of the seat is proved here. -/
namespace Go.Proofs.Ytpahkpcoinbgcaa
open Go Go.RowKit

theorem rdA_any (s : Sp) (w : World) : Calls Try.prog 33 #[.agg #[.int .i64 s.lo, .int .i64 s.hi, .bool s.all]] w (PDp (encS 1 s) w) := by
  have HE : Hid (∀ W : World, Calls Try.prog 91 #[.agg #[.int .i64 s.lo, .int .i64 s.hi, .bool s.all], .int .i64 1] W (PDp (encS 1 s) W)) := show ∀ W : World, _ from fun W => fun_any 1 s W (by omega)
  generalize encS 1 s = z at *
  go_enter Try.func33, Try.ntmps33
  go_wp2_with fail
  have hC := ((cs_nil w).new #[.int .i64 s.lo, .int .i64 s.hi, .bool s.all] 25).new #[.int .i64 0, .int .i64 0, .bool false] 25
  rw [show (w.alloc (.cells #[.int .i64 s.lo, .int .i64 s.hi, .bool s.all] 25)).heap.size = w.heap.size + 1 by simp] at hC
  generalize (w.alloc (.cells #[.int .i64 s.lo, .int .i64 s.hi, .bool s.all] 25)).alloc (.cells #[.int .i64 0, .int .i64 0, .bool false] 25) = w1 at *
  refine (HE.out _).mono ?_
  rintro e w2 ⟨rfl, hB⟩
  replace hC := hC.later hB
  have hb := hC.below
  have k := cl3 (hC.at' _ (.head _))
  have c1 := k.1
  have c2 := k.2.1
  have c3 := k.2.2.1
  have c4 := k.2.2.2.1
  have c5 := k.2.2.2.2.1
  have c6 := k.2.2.2.2.2
  clear k hC hB HE
  have hf : Below w.heap.size w (((w2.setCell ⟨w.heap.size + 1, 0, none⟩ (.int .i64 z.lo)).setCell ⟨w.heap.size + 1, 1, none⟩ (.int .i64 z.hi)).setCell ⟨w.heap.size + 1, 2, none⟩ (.bool z.all)) := ((hb.setCell (p := ⟨w.heap.size + 1, 0, none⟩) (Nat.le_succ _) _).setCell (p := ⟨w.heap.size + 1, 1, none⟩) (Nat.le_succ _) _).setCell (p := ⟨w.heap.size + 1, 2, none⟩) (Nat.le_succ _) _
  go_wp2
  exact bodyPost_ret (v := .agg #[.int .i64 z.lo, .int .i64 z.hi, .bool z.all]) (by simp [results, Try.results33, go_sem, c1, c2, c3]) rfl ⟨rfl, hf⟩
theorem rdB_any (s : Sp) (w : World) : Calls Try.prog 34 #[.agg #[.int .i64 s.lo, .int .i64 s.hi, .bool s.all]] w (PDp (encS 2 s) w) := by
  have HE : Hid (∀ W : World, Calls Try.prog 91 #[.agg #[.int .i64 s.lo, .int .i64 s.hi, .bool s.all], .int .i64 2] W (PDp (encS 2 s) W)) := show ∀ W : World, _ from fun W => fun_any 2 s W (by omega)
  generalize encS 2 s = z at *
  go_enter Try.func34, Try.ntmps34
  go_wp2_with fail
  have hC := ((cs_nil w).new #[.int .i64 s.lo, .int .i64 s.hi, .bool s.all] 25).new #[.int .i64 0, .int .i64 0, .bool false] 25
  rw [show (w.alloc (.cells #[.int .i64 s.lo, .int .i64 s.hi, .bool s.all] 25)).heap.size = w.heap.size + 1 by simp] at hC
  generalize (w.alloc (.cells #[.int .i64 s.lo, .int .i64 s.hi, .bool s.all] 25)).alloc (.cells #[.int .i64 0, .int .i64 0, .bool false] 25) = w1 at *
  refine (HE.out _).mono ?_
  rintro e w2 ⟨rfl, hB⟩
  replace hC := hC.later hB
  have hb := hC.below
  have k := cl3 (hC.at' _ (.head _))
  have c1 := k.1
  have c2 := k.2.1
  have c3 := k.2.2.1
  have c4 := k.2.2.2.1
  have c5 := k.2.2.2.2.1
  have c6 := k.2.2.2.2.2
  clear k hC hB HE
  have hf : Below w.heap.size w (((w2.setCell ⟨w.heap.size + 1, 0, none⟩ (.int .i64 z.lo)).setCell ⟨w.heap.size + 1, 1, none⟩ (.int .i64 z.hi)).setCell ⟨w.heap.size + 1, 2, none⟩ (.bool z.all)) := ((hb.setCell (p := ⟨w.heap.size + 1, 0, none⟩) (Nat.le_succ _) _).setCell (p := ⟨w.heap.size + 1, 1, none⟩) (Nat.le_succ _) _).setCell (p := ⟨w.heap.size + 1, 2, none⟩) (Nat.le_succ _) _
  go_wp2
  exact bodyPost_ret (v := .agg #[.int .i64 z.lo, .int .i64 z.hi, .bool z.all]) (by simp [results, Try.results34, go_sem, c1, c2, c3]) rfl ⟨rfl, hf⟩
theorem rdC_any (s : Sp) (w : World) : Calls Try.prog 35 #[.agg #[.int .i64 s.lo, .int .i64 s.hi, .bool s.all]] w (PDp (encS 0 s) w) := by
  have HE : Hid (∀ W : World, Calls Try.prog 91 #[.agg #[.int .i64 s.lo, .int .i64 s.hi, .bool s.all], .int .i64 0] W (PDp (encS 0 s) W)) := show ∀ W : World, _ from fun W => fun_any 0 s W (by omega)
  generalize encS 0 s = z at *
  go_enter Try.func35, Try.ntmps35
  go_wp2_with fail
  have hC := ((cs_nil w).new #[.int .i64 s.lo, .int .i64 s.hi, .bool s.all] 25).new #[.int .i64 0, .int .i64 0, .bool false] 25
  rw [show (w.alloc (.cells #[.int .i64 s.lo, .int .i64 s.hi, .bool s.all] 25)).heap.size = w.heap.size + 1 by simp] at hC
  generalize (w.alloc (.cells #[.int .i64 s.lo, .int .i64 s.hi, .bool s.all] 25)).alloc (.cells #[.int .i64 0, .int .i64 0, .bool false] 25) = w1 at *
  refine (HE.out _).mono ?_
  rintro e w2 ⟨rfl, hB⟩
  replace hC := hC.later hB
  have hb := hC.below
  have k := cl3 (hC.at' _ (.head _))
  have c1 := k.1
  have c2 := k.2.1
  have c3 := k.2.2.1
  have c4 := k.2.2.2.1
  have c5 := k.2.2.2.2.1
  have c6 := k.2.2.2.2.2
  clear k hC hB HE
  have hf : Below w.heap.size w (((w2.setCell ⟨w.heap.size + 1, 0, none⟩ (.int .i64 z.lo)).setCell ⟨w.heap.size + 1, 1, none⟩ (.int .i64 z.hi)).setCell ⟨w.heap.size + 1, 2, none⟩ (.bool z.all)) := ((hb.setCell (p := ⟨w.heap.size + 1, 0, none⟩) (Nat.le_succ _) _).setCell (p := ⟨w.heap.size + 1, 1, none⟩) (Nat.le_succ _) _).setCell (p := ⟨w.heap.size + 1, 2, none⟩) (Nat.le_succ _) _
  go_wp2
  exact bodyPost_ret (v := .agg #[.int .i64 z.lo, .int .i64 z.hi, .bool z.all]) (by simp [results, Try.results35, go_sem, c1, c2, c3]) rfl ⟨rfl, hf⟩
set_option maxHeartbeats 400000 in
theorem kdoc_any (x : Sp) (w : World) : Calls Try.prog 29 #[.agg #[.int .i64 x.lo, .int .i64 x.hi, .bool x.all]] w (PDp x w) := by
  go_enter Try.func29, Try.ntmps29
  go_wp2
  exact bodyPost_ret (v := .agg #[.int .i64 x.lo, .int .i64 x.hi, .bool x.all]) (by simp [results, Try.results29, go_sem]) rfl ⟨rfl, bel2 _ _ _⟩
end Go.Proofs.Ytpahkpcoinbgcaa
