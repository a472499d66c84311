/- Parts of the proof. -/
import Derived.Test.YtolpfibihialkaaGreatDoorGq15
import Derived.Test.YtolpfibihialkaaGreatDoorGq16
import Derived.Test.YtolpfibihialkaaGreatDoorGq11
/- The document's numbers: the walk of Quo. -/
namespace Go.Proofs.YtolpfibihialkaaGreatDoor
open Go.RowKit
theorem RNum.store {w : World} {bl : Bool} {a : Option Addr} {n c : Nat} {z : Int} (h : RNum w bl a n c z) {t : TypeId} {k : Nat} {bk : Bool} {ak : Option Addr} {nk ck : Nat} (hk : Bx w t k (.bool bk) (.slice ak nk ck)) (u v : Value) :
  RNum ((w.setCell ⟨k, 0, none⟩ u).setCell ⟨k, 1, none⟩ v) bl a n c z := by
 by_cases hn : n = 0
 ·
  subst hn
  refine ⟨⟨h.lie.cap, h.lie.capm, h.lie.nil, fun p hp => ⟨(h.lie.spot p hp).1, by rw [(only2 w k u v).size]; exact (h.lie.spot p hp).2⟩, fun p hp i hi => by omega⟩, h.fit, h.sgn⟩
 ·
  refine h.only (only2 _ _ _ _) (fun p hp e => ?_)
  have h1 := h.lie.cell p hp 0 (by omega)
  rw [e] at h1
  unfold Bx at hk
  simp only [World.cell?, hk, Nat.add_zero] at h1
  rcases hpo : p.off with _ | _ | o
  ·
   rw [hpo] at h1; simp at h1
  ·
   rw [hpo] at h1; simp at h1
  ·
   rw [hpo] at h1; simp at h1
/-- What Quo is given, and the places of its results. -/
structure RQB (w W : World) (bl : Bool) (a : Option Addr) (n c : Nat) (bl' : Bool) (a' : Option Addr) (n' c' : Nat) : Prop where
 below : Below w.heap.size w W
 X : Bx W 56 w.heap.size (.bool bl) (.slice a n c)
 Y : Bx W 56 (w.heap.size + 1) (.bool bl') (.slice a' n' c')
 A : Bx W 56 (w.heap.size + 2) (.bool false) (.slice none 0 0)
 B : Bx W 56 (w.heap.size + 3) (.bool false) (.slice none 0 0)
section
variable {w W W' : World} {bl : Bool} {a : Option Addr} {n c : Nat} {bl' : Bool} {a' : Option Addr} {n' c' : Nat}
theorem RQB.later (h : RQB w W bl a n c bl' a' n' c') (hb : Below W.heap.size W W') : RQB w W' bl a n c bl' a' n' c' :=
 ⟨h.below.trans (hb.mono h.below.size), h.X.below hb, h.Y.below hb, h.A.below hb, h.B.below hb⟩
theorem RQB.other (h : RQB w W bl a n c bl' a' n' c') {k : Nat} (hk : w.heap.size + 3 < k) (u v : Value) : RQB w ((W.setCell ⟨k, 0, none⟩ u).setCell ⟨k, 1, none⟩ v) bl a n c bl' a' n' c' :=
 ⟨h.below.trans ((only2 _ _ _ _).below (by omega)), h.X.other (by omega) _ _, h.Y.other (by omega) _ _, h.A.other (by omega) _ _, h.B.other (by omega) _ _⟩
end
theorem rqb_mk (w : World) (bl : Bool) (a : Option Addr) (n c : Nat) (bl' : Bool) (a' : Option Addr) (n' c' : Nat) :
  RQB w ((((w.alloc (.cells #[.bool bl, .slice a n c] 56)).alloc (.cells #[.bool bl', .slice a' n' c'] 56)).alloc (.cells #[.bool false, .slice none 0 0] 56)).alloc (.cells #[.bool false, .slice none 0 0] 56)) bl a n c bl' a' n' c' := by
 have hal : ∀ (W : World) (o : Obj), Below W.heap.size W (W.alloc o) := fun W o => (Below.refl _ _).alloc (Nat.le_refl _) _
 have s1 : (w.alloc (.cells #[.bool bl, .slice a n c] 56)).heap.size = w.heap.size + 1 := by simp
 have s2 : ((w.alloc (.cells #[.bool bl, .slice a n c] 56)).alloc (.cells #[.bool bl', .slice a' n' c'] 56)).heap.size = w.heap.size + 2 := by simp
 have s3 : (((w.alloc (.cells #[.bool bl, .slice a n c] 56)).alloc (.cells #[.bool bl', .slice a' n' c'] 56)).alloc (.cells #[.bool false, .slice none 0 0] 56)).heap.size = w.heap.size + 3 := by simp
 refine ⟨((((Below.refl w.heap.size w).alloc (Nat.le_refl _) _).alloc (by simp) _).alloc (by simp; omega) _).alloc (by simp; omega) _, (((bx_new w _ _ _).below (hal _ _)).below (hal _ _)).below (hal _ _), ?_, ?_, ?_⟩
 ·
  have h := ((bx_new (w.alloc (.cells #[.bool bl, .slice a n c] 56)) 56 (.bool bl') (.slice a' n' c')).below (hal _ (.cells #[.bool false, .slice none 0 0] 56))).below (hal _ (.cells #[.bool false, .slice none 0 0] 56))
  rwa [s1] at h
 ·
  have h := (bx_new ((w.alloc (.cells #[.bool bl, .slice a n c] 56)).alloc (.cells #[.bool bl', .slice a' n' c'] 56)) 56 (.bool false) (.slice none 0 0)).below (hal _ (.cells #[.bool false, .slice none 0 0] 56))
  rwa [s2] at h
 ·
  have h := bx_new (((w.alloc (.cells #[.bool bl, .slice a n c] 56)).alloc (.cells #[.bool bl', .slice a' n' c'] 56)).alloc (.cells #[.bool false, .slice none 0 0] 56)) 56 (.bool false) (.slice none 0 0)
  rwa [s3] at h
/-- A quotient and a rest of the document's numbers are handed back, and an error's number. -/
def PRQ (q r er : Int) (w : World) (e : Ending) (w' : World) : Prop :=
 ∃ (b1 : Bool) (a1 : Option Addr) (n1 c1 : Nat) (b2 : Bool) (a2 : Option Addr) (n2 c2 : Nat), e = .returned (.tuple #[.agg #[.bool b1, .slice a1 n1 c1], .agg #[.bool b2, .slice a2 n2 c2], .int .i64 er]) ∧
  RNum w' b1 a1 n1 c1 q ∧ RNum w' b2 a2 n2 c2 r ∧ Below w.heap.size w w'
theorem rpq_end {w W : World} {bl : Bool} {a : Option Addr} {n c : Nat} {bl' : Bool} {a' : Option Addr} {n' c' : Nat} {qb : Bool} {qa : Option Addr} {qn qc : Nat} {rb : Bool} {ra : Option Addr} {rn rc : Nat} {q r : Int}
  (hX : RQB w W bl a n c bl' a' n' c') (hq : RNum W qb qa qn qc q) (hr : RNum W rb ra rn rc r) :
  PRQ q r 0 w (.returned (.tuple #[.agg #[.bool qb, .slice qa qn qc], .agg #[.bool rb, .slice ra rn rc], .int .i64 0]))
   (((((W.setCell ⟨w.heap.size + 2, 0, none⟩ (.bool qb)).setCell ⟨w.heap.size + 2, 1, none⟩ (.slice qa qn qc)).setCell ⟨w.heap.size + 3, 0, none⟩ (.bool rb)).setCell ⟨w.heap.size + 3, 1, none⟩ (.slice ra rn rc)).drew) := by
 have o1 := only2 W (w.heap.size + 2) (.bool qb) (.slice qa qn qc)
 have o2 := only2 ((W.setCell ⟨w.heap.size + 2, 0, none⟩ (.bool qb)).setCell ⟨w.heap.size + 2, 1, none⟩ (.slice qa qn qc)) (w.heap.size + 3) (.bool rb) (.slice ra rn rc)
 have hd : ∀ W : World, Below W.heap.size W W.drew := fun W => (Below.refl _ _).drew
 have hB := hX.B.other (k' := w.heap.size + 2) (by omega) (.bool qb) (.slice qa qn qc)
 exact ⟨qb, qa, qn, qc, rb, ra, rn, rc, rfl, ((hq.store hX.A _ _).store hB _ _).below (hd _), ((hr.store hX.A _ _).store hB _ _).below (hd _), (hX.below.trans ((o1.below (by omega)).trans (o2.below (by omega)))).drew⟩
set_option maxRecDepth 100000 in
set_option maxHeartbeats 3200000 in
theorem rQuo_any (bl : Bool) (a : Option Addr) (n c : Nat) (x : Int) (bl' : Bool) (a' : Option Addr) (n' c' : Nat) (y : Int) (w : World) (h : RNum w bl a n c x) (h' : RNum w bl' a' n' c' y) (hn : n ≤ 1000000) (hn' : n' ≤ 1000000) (hy : y ≠ 0) :
  Calls Tryz.prog 40 #[.agg #[.bool bl, .slice a n c], .agg #[.bool bl', .slice a' n' c']] w (fun e w' => ∃ q r : Int, IsQuo x y q r ∧ PRQ q r 0 w e w') := by
 have H := Lib.hid h
 have H' := Lib.hid h'
 have HY := Lib.hid hy
 have hn0 : 0 < n' := Nat.pos_of_ne_zero (fun e => hy (h'.zero_iff.1 e))
 have dn : (((n' : Nat) : Int) == 0) = false := by simp; omega
 have HB0 : Hid (0 < y.natAbs) := show 0 < y.natAbs by omega
 clear h h' hy
 have hX1 := rqb_mk w bl a n c bl' a' n' c'
 go_enter Tryz.func40, Tryz.ntmps40
 go_wp2_with fail
 generalize (((w.alloc (.cells #[.bool bl, .slice a n c] 56)).alloc (.cells #[.bool bl', .slice a' n' c'] 56)).alloc (.cells #[.bool false, .slice none 0 0] 56)).alloc (.cells #[.bool false, .slice none 0 0] 56) = w1 at *
 refine (rparted_any a a' n c n' c' x.natAbs y.natAbs _ (H.out.lie.below hX1.below) (H'.out.lie.below hX1.below) H.out.fit.1 H'.out.fit HB0.out hn hn').mono ?_
 rintro e w2 ⟨g2, a3, n3, c3, rfl, hg2, hO2, hR2, hb2⟩
 have hX2 := hX1.later hb2
 have HFQ : Hid (x.natAbs / y.natAbs < 10 ^ n) := Nat.lt_of_le_of_lt (Nat.div_le_self _ _) H.out.fit.1
 obtain ⟨k0, k1, _, _⟩ := hX2.X.cells
 obtain ⟨l0, l1, _, _⟩ := hX2.Y.cells
 go_wp2_with fail
 refine (rmade_any _ _ n n _ _ (hO2.lie (Nat.le_refl _) (by unfold maxLen; omega)) HFQ.out).mono ?_
 rintro e w3 ⟨qb, qn, qc, rfl, hq3, hb3⟩
 have hX3 := hX2.later hb3
 have hR3 := hR2.below hb3
 clear k0 k1 l0 l1
 have hal : Below w3.heap.size w3 (w3.alloc (.cells #[.bool qb, .slice (some ⟨g2, 0, none⟩) qn qc] 56)) := (Below.refl _ _).alloc (Nat.le_refl _) _
 have hX4 := hX3.later hal
 have hR4 := hR3.below hal
 have hq4 := hq3.below hal
 have hQ4 := bx_new w3 56 (.bool qb) (.slice (some ⟨g2, 0, none⟩) qn qc)
 have hgq : w.heap.size + 3 < w3.heap.size := hX3.B.lt
 obtain ⟨k0, k1, _, _⟩ := hX4.X.cells
 clear hX2 hR2 hO2 hX3 hR3 hq3 hal hb3 hX1 hg2
 go_wp2_with fail
 generalize hw4 : w3.alloc (.cells #[.bool qb, .slice (some ⟨g2, 0, none⟩) qn qc] 56) = w4 at *
 generalize w3.heap.size = gq at *
 refine (rmade_any bl a3 n3 c3 _ _ hR4.lie hR4.fit.1).mono ?_
 rintro e w5 ⟨rb, rn, rc, rfl, hr5, hb5⟩
 have hal : Below w5.heap.size w5 (w5.alloc (.cells #[.bool rb, .slice a3 rn rc] 56)) := (Below.refl _ _).alloc (Nat.le_refl _) _
 have hX6 := (hX4.later hb5).later hal
 have hq6 := (hq4.below hb5).below hal
 have hQ6 := (hQ4.below hb5).below hal
 have hr6 := hr5.below hal
 have hR6 := bx_new w5 56 (.bool rb) (.slice a3 rn rc)
 have hgr : gq < w5.heap.size := (hQ4.below hb5).lt
 obtain ⟨l0, l1, _, _⟩ := hX6.Y.cells
 obtain ⟨r0, r1, r2, r3⟩ := hR6.cells
 obtain ⟨q0, q1, q2, q3⟩ := hQ6.cells
 clear hX4 hR4 hq4 hQ4 hr5 hb5 hal k0 k1 hw4
 by_cases hR0 : x.natAbs % y.natAbs = 0
 ·
  have hrn0 : rn = 0 := by
   have := hr6.zero_iff.2 (sg_zero.2 hR0)
   exact this
  have HQ := Lib.hid (quo_plain H.out.sgn H'.out.sgn HY.out (.inl hR0))
  subst hrn0
  generalize hsq : sg (!(bl == bl')) (x.natAbs / y.natAbs) = q at *
  generalize hsr : sg bl (x.natAbs % y.natAbs) = r at *
  clear hsq hsr hR0
  go_wp2
  generalize w5.alloc (.cells #[.bool rb, .slice a3 0 rc] 56) = w6 at *
  generalize w5.heap.size = gr at *
  obtain ⟨s0, s1, s2, s3⟩ := hX6.A.cells
  obtain ⟨t0, t1, t2, t3⟩ := hX6.B.cells
  go_region
  all_goals go_wp2
  refine bodyPost_ret (v := .tuple #[.agg #[.bool qb, .slice (some ⟨g2, 0, none⟩) qn qc], .agg #[.bool rb, .slice a3 0 rc], .int .i64 0]) (by simp [results, Tryz.results40, go_sem, s0, s1, t0, t1]) rfl ?_
  exact ⟨q, r, HQ.out, rpq_end hX6 hq6 hr6⟩
 ·
  have hrb : rb = bl := by
   have h := hr6.sgn
   rw [sg_neg _ _ (Nat.pos_of_ne_zero hR0)] at h
   exact h
  have hrp : 0 < rn := Nat.pos_of_ne_zero (fun e => hR0 (sg_zero.1 (hr6.zero_iff.1 e)))
  have dr : decide ((0 : Int) < ((rn : Nat) : Int)) = true := decide_eq_true (by omega)
  subst hrb
  by_cases hbb : (rb == bl') = true
  ·
   have HQ := Lib.hid (quo_plain H.out.sgn H'.out.sgn HY.out (.inr hbb))
   generalize hsq : sg (!(rb == bl')) (x.natAbs / y.natAbs) = q at *
   generalize hsr : sg rb (x.natAbs % y.natAbs) = r at *
   clear hsq hsr hR0
   go_wp2
   generalize w5.alloc (.cells #[.bool rb, .slice a3 rn rc] 56) = w6 at *
   generalize w5.heap.size = gr at *
   obtain ⟨s0, s1, s2, s3⟩ := hX6.A.cells
   obtain ⟨t0, t1, t2, t3⟩ := hX6.B.cells
   go_region
   all_goals go_wp2
   refine bodyPost_ret (v := .tuple #[.agg #[.bool qb, .slice (some ⟨g2, 0, none⟩) qn qc], .agg #[.bool rb, .slice a3 rn rc], .int .i64 0]) (by simp [results, Tryz.results40, go_sem, s0, s1, t0, t1]) rfl ?_
   exact ⟨q, r, HQ.out, rpq_end hX6 hq6 hr6⟩
  ·
   have hbb' : (rb == bl') = false := by simpa using hbb
   have HQ := Lib.hid (quo_fixed H.out.sgn H'.out.sgn HY.out hR0 hbb')
   have hqn : qn ≤ n := by
    have := hq6.fit
    rw [sg_abs] at this
    exact fit10_le this HFQ.out
   have hrn : rn ≤ n' := by
    have := hr6.fit
    rw [sg_abs] at this
    exact fit10_le this (Nat.lt_trans (Nat.mod_lt _ HB0.out) H'.out.fit.1)
   generalize hsq : sg (!(rb == bl')) (x.natAbs / y.natAbs) = q at *
   generalize hsr : sg rb (x.natAbs % y.natAbs) = r at *
   clear hsq hsr hR0 hbb
   go_wp2
   generalize w5.alloc (.cells #[.bool rb, .slice a3 rn rc] 56) = w6 at *
   generalize w5.heap.size = gr at *
   go_region_with (first
     | (go_at_call 34; refine (rOf_any 1 _ (by omega) (by omega)).mono ?_; rintro e w9 ⟨b9, a9, n9, c9, rfl, hN9, hfr9, hb9⟩; have hX9 := hX6.later (below_undrew hb9); have hq9 := hq6.below (below_undrew hb9); have hr9 := hr6.below (below_undrew hb9); have hQ9 := hQ6.below (below_undrew hb9); have hR9 := hR6.below (below_undrew hb9); have hn9 : n9 ≤ 10000000 := Nat.le_trans (fit10_le hN9.fit (M := 1) (by decide)) (by omega); have q09 := hQ9.cells.1; have q19 := hQ9.cells.2.1)
     | (go_at_call 84; refine (rSub_any qb (some ⟨g2, 0, none⟩) qn qc q b9 a9 n9 c9 1 _ hq9 hN9 (by omega) hn9).mono ?_; rintro e wA ⟨bA, aA, nA, cA, rfl, hNA, hfrA, hbA⟩; have hXA := hX9.later hbA; have hrA := hr9.below hbA; have hQA := hQ9.below hbA; have hRA := hR9.below hbA; obtain ⟨q0A, q1A, f0A, f1A⟩ := hQA.cells))
   all_goals
    have hXB := hXA.other hgq (.bool bA) (.slice aA nA cA)
    have hqB := hNA.store hQA (.bool bA) (.slice aA nA cA)
    have hrB := hrA.store hQA (.bool bA) (.slice aA nA cA)
    have hQB := hQA.self (.bool bA) (.slice aA nA cA)
    have hRB := hRA.other (show gr ≠ gq by omega) (.bool bA) (.slice aA nA cA)
    clear hXA hNA hrA hQA hRA q0A q1A f0A f1A hX9 hq9 hr9 hQ9 hR9 hX6 hq6 hr6 hQ6 hR6 l0 l1 q0 q1 q2 q3 r0 r1 r2 r3 hfrA hbA hb9 hfr9 hN9
    generalize (wA.setCell ⟨gq, 0, none⟩ (.bool bA)).setCell ⟨gq, 1, none⟩ (.slice aA nA cA) = wB at *
    obtain ⟨l0, l1, _, _⟩ := hXB.Y.cells
    obtain ⟨r0, r1, _, _⟩ := hRB.cells
    go_wp2_with fail
    refine (rAdd_any rb a3 rn rc r bl' a' n' c' y _ hrB (H'.out.below hXB.below) (by omega) (by omega)).mono ?_
    rintro e wC ⟨bC, aC, nC, cC, rfl, hNC, _, hbC⟩
    have hXC := hXB.later hbC
    have hqC := hqB.below hbC
    have hQC := hQB.below hbC
    have hRC := hRB.below hbC
    clear l0 l1 r0 r1 hXB hqB hrB hQB hRB hbC
    obtain ⟨r0, r1, r2, r3⟩ := hRC.cells
    go_wp2_with fail
    have hXD := hXC.other (show w.heap.size + 3 < gr by omega) (.bool bC) (.slice aC nC cC)
    have hqD := hqC.store hRC (.bool bC) (.slice aC nC cC)
    have hrD := hNC.store hRC (.bool bC) (.slice aC nC cC)
    have hQD := hQC.other (show gq ≠ gr by omega) (.bool bC) (.slice aC nC cC)
    have hRD := hRC.self (.bool bC) (.slice aC nC cC)
    clear r0 r1 r2 r3 hXC hqC hNC hQC hRC
    generalize (wC.setCell ⟨gr, 0, none⟩ (.bool bC)).setCell ⟨gr, 1, none⟩ (.slice aC nC cC) = wD at *
    obtain ⟨q0, q1, _, _⟩ := hQD.cells
    obtain ⟨r0, r1, _, _⟩ := hRD.cells
    obtain ⟨s0, s1, s2, s3⟩ := hXD.A.cells
    obtain ⟨t0, t1, t2, t3⟩ := hXD.B.cells
    go_region
    all_goals go_wp2
    refine bodyPost_ret (v := .tuple #[.agg #[.bool bA, .slice aA nA cA], .agg #[.bool bC, .slice aC nC cC], .int .i64 0]) (by simp [results, Tryz.results40, go_sem, s0, s1, t0, t1]) rfl ?_
    exact ⟨q - 1, r + y, HQ.out, rpq_end hXD hqD hrD⟩
end Go.Proofs.YtolpfibihialkaaGreatDoor

/- The document's numbers: the walk of Small. -/
namespace Go.Proofs.YtolpfibihialkaaGreatDoor
open Go.RowKit
set_option maxRecDepth 100000 in
set_option maxHeartbeats 3200000 in
theorem rSmall_any (bl : Bool) (a : Option Addr) (n c : Nat) (z : Int) (w : World) (h : RNum w bl a n c z) (hn : n ≤ 1000000) :
  Calls Tryz.prog 85 #[.agg #[.bool bl, .slice a n c]] w (PVal2 (.int .i64 (smallV z)) (.bool (smallB z)) w) := by
 have hal1 : Below w.heap.size w (w.alloc (.cells #[.bool bl, .slice a n c] 56)) := (Below.refl _ _).alloc (Nat.le_refl _) _
 have hX1 := bx_new w 56 (.bool bl) (.slice a n c)
 have hN1 := h.below hal1
 have hB1 := hal1
 clear h hal1
 go_enter Tryz.func85, Tryz.ntmps85
 go_wp2_with fail
 generalize w.alloc (.cells #[.bool bl, .slice a n c] 56) = w1 at *
 refine (rOf_any (-9223372036854775808) _ (by omega) (by omega)).mono ?_
 rintro e w2 ⟨b2, a2, n2, c2, rfl, hN2, _, hb2⟩
 have hal2 : Below w2.heap.size w2 (w2.alloc (.cells #[.bool b2, .slice a2 n2 c2] 56)) := (Below.refl _ _).alloc (Nat.le_refl _) _
 have hX2 := (hX1.below hb2).below hal2
 have hM2 := (hN1.below hb2).below hal2
 have hL2 := bx_new w2 56 (.bool b2) (.slice a2 n2 c2)
 have hK2 := hN2.below hal2
 have hB2 : Below w.heap.size w (w2.alloc (.cells #[.bool b2, .slice a2 n2 c2] 56)) := (hB1.trans (hb2.mono hB1.size)).trans (hal2.mono (hB1.trans (hb2.mono hB1.size)).size)
 clear hX1 hN1 hB1 hN2 hb2 hal2
 go_wp2_with fail
 generalize w2.alloc (.cells #[.bool b2, .slice a2 n2 c2] 56) = w3 at *
 generalize w2.heap.size = i2 at *
 refine (rOf_any 9223372036854775807 _ (by omega) (by omega)).mono ?_
 rintro e w4 ⟨b4, a4, n4, c4, rfl, hN4, _, hb4⟩
 have hal4 : Below w4.heap.size w4 (w4.alloc (.cells #[.bool b4, .slice a4 n4 c4] 56)) := (Below.refl _ _).alloc (Nat.le_refl _) _
 have hX4 := (hX2.below hb4).below hal4
 have hM4 := (hM2.below hb4).below hal4
 have hL4 := (hL2.below hb4).below hal4
 have hK4 := (hK2.below hb4).below hal4
 have hH4 := bx_new w4 56 (.bool b4) (.slice a4 n4 c4)
 have hJ4 := hN4.below hal4
 have hB4 : Below w.heap.size w (w4.alloc (.cells #[.bool b4, .slice a4 n4 c4] 56)) := (hB2.trans (hb4.mono hB2.size)).trans (hal4.mono (hB2.trans (hb4.mono hB2.size)).size)
 clear hX2 hM2 hL2 hK2 hB2 hN4 hb4 hal4
 obtain ⟨x0, x1, _, _⟩ := hX4.cells
 obtain ⟨l0, l1, _, _⟩ := hL4.cells
 go_wp2_with fail
 generalize w4.alloc (.cells #[.bool b4, .slice a4 n4 c4] 56) = w5 at *
 generalize w4.heap.size = i4 at *
 refine (rCmp_any bl a n c z b2 a2 n2 c2 _ _ hM4 hK4).mono ?_
 rintro e w6 ⟨rfl, hb6⟩
 have hX6 := hX4.below hb6
 have hM6 := hM4.below hb6
 have hH6 := hH4.below hb6
 have hJ6 := hJ4.below hb6
 have hB6 : Below w.heap.size w w6 := hB4.trans (hb6.mono hB4.size)
 clear hX4 hM4 hL4 hK4 hH4 hJ4 hB4 hb6 x0 x1 l0 l1
 by_cases hlo : z < -9223372036854775808
 ·
  have HS : Hid (smallV z = 0 ∧ smallB z = false) := by
   show _ ∧ _
   unfold smallV smallB
   exact ⟨if_neg (by omega), decide_eq_false (by omega)⟩
  rw [show cmpI z (-9223372036854775808) = -1 from if_pos hlo]
  clear hlo hX6 hM6 hH6 hJ6
  go_wp2
  go_ret2
  exact ⟨ret2 HS.out.1.symm HS.out.2.symm, hB6⟩
 ·
  obtain ⟨cc, hcc⟩ : ∃ cc, cc = cmpI z (-9223372036854775808) := ⟨_, rfl⟩
  have dcc : decide (cc < 0) = false := by
   refine decide_eq_false ?_
   rw [hcc]
   unfold cmpI
   rw [if_neg hlo]
   split <;> decide
  rw [← hcc]
  clear hcc
  obtain ⟨x0, x1, _, _⟩ := hX6.cells
  obtain ⟨l0, l1, _, _⟩ := hH6.cells
  go_wp2_with fail
  refine (rCmp_any bl a n c z b4 a4 n4 c4 _ _ hM6 hJ6).mono ?_
  rintro e w7 ⟨rfl, hb7⟩
  have hX7 := hX6.below hb7
  have hM7 := hM6.below hb7
  have hB7 : Below w.heap.size w w7 := hB6.trans (hb7.mono hB6.size)
  clear hX6 hM6 hH6 hJ6 hB6 hb7 x0 x1 l0 l1
  by_cases hhi : 9223372036854775807 < z
  ·
   have HS : Hid (smallV z = 0 ∧ smallB z = false) := by
    show _ ∧ _
    unfold smallV smallB
    exact ⟨if_neg (by omega), decide_eq_false (by omega)⟩
   rw [show cmpI z 9223372036854775807 = 1 from by unfold cmpI; rw [if_neg (by omega), if_pos hhi]]
   clear hhi hlo hX7 hM7
   go_wp2
   go_ret2
   exact ⟨ret2 HS.out.1.symm HS.out.2.symm, hB7⟩
  ·
   have HS : Hid (smallV z = z ∧ smallB z = true) := by
    show _ ∧ _
    unfold smallV smallB
    exact ⟨if_pos (by omega), decide_eq_true (by omega)⟩
   obtain ⟨dd, hdd⟩ : ∃ dd, dd = cmpI z 9223372036854775807 := ⟨_, rfl⟩
   have ddd : decide (0 < dd) = false := by
    refine decide_eq_false ?_
    rw [hdd]
    unfold cmpI
    rw [if_neg hhi]
    split <;> decide
   rw [← hdd]
   clear hdd
   have HSG := Lib.hid hM7.sgn
   have HFT := Lib.hid hM7.fit
   have hlie := hM7.lie
   have HZ : Hid (-9223372036854775808 ≤ z ∧ z ≤ 9223372036854775807) := show _ ∧ _ from ⟨by omega, by omega⟩
   obtain ⟨x0, x1, _, _⟩ := hX7.cells
   clear hlo hhi hM7 x0 x1
   cases bl
   ·
    have HN : Hid ((((z.natAbs : Nat) : Int)) = z ∧ z.natAbs ≤ 9223372036854775807) := by
     show _ ∧ _
     have h1 := HSG.out
     have h2 := HZ.out
     simp at h1
     omega
    clear HSG HZ
    generalize z.natAbs = N at *
    obtain ⟨x0, x1, _, _⟩ := hX7.cells
    go_wp2
    clear x0 x1
    go_loopw [6, 7] (fun nv iv wr => ∃ k : Nat, k ≤ n ∧ iv = .int .i64 ((k : Int) - 1) ∧ nv = .int .i64 (((N / 10 ^ k : Nat) : Int)) ∧ Below w7.heap.size w7 wr) (fun _ iv _ => (intOf iv + 1).toNat)
    case atStart => exact ⟨n, Nat.le_refl _, by go_num, by rw [Nat.div_eq_of_lt HFT.out.1]; rfl, Below.refl _ _⟩
    case round =>
     obtain ⟨k, hk, rfl, rfl, hbl⟩ := hrel
     obtain ⟨x0, x1, _, _⟩ := (hX7.below hbl).cells
     cases k with
     | zero =>
      have hfin : Below w.heap.size w wr := hB7.trans (hbl.mono hB7.size)
      have HV : Hid (((N / 10 ^ 0 : Nat) : Int) = z) := by show _ = _; rw [Nat.pow_zero, Nat.div_one]; exact HN.out.1
      generalize ((N / 10 ^ 0 : Nat) : Int) = V at *
      clear hlie hbl
      go_wp2
      go_ret2
      exact ⟨ret2 (HV.out.trans HS.out.1.symm) HS.out.2.symm, hfin⟩
     | succ k =>
      rw [show (((k + 1 : Nat) : Int) - 1) = (k : Int) by omega]
      obtain ⟨bb, oo, rfl, hbb⟩ := hlie.some_of_pos (by omega)
      have c1 := (hlie.below hbl).at k (by omega)
      have hup := part_up N k
      have hdl := dig_lt N k
      have hle := Nat.div_le_self N (10 ^ k)
      have hNl := HN.out.2
      obtain ⟨D, hD⟩ : ∃ D : Int, D = ((dig N k : Nat) : Int) := ⟨_, rfl⟩
      obtain ⟨V, hV⟩ : ∃ V : Int, V = ((N / 10 ^ (k + 1) : Nat) : Int) := ⟨_, rfl⟩
      have HU : Hid (10 * V + D = ((N / 10 ^ k : Nat) : Int)) := by show _ = _; omega
      have hD0 : 0 ≤ D := by omega
      have hD1 : D ≤ 9 := by omega
      have hV0 : 0 ≤ V := by omega
      have hV1 : 10 * V + D ≤ 9223372036854775807 := by omega
      rw [← hD] at c1
      rw [← hV]
      clear hup hdl hle hNl hD hV
      go_wp2
      go_roundw
      case rel => exact ⟨k, by omega, by go_num, by rw [HU.out], hbl⟩
      case measure => simp [intOf]
   ·
    have HN : Hid ((-((z.natAbs : Nat) : Int)) = z ∧ z.natAbs ≤ 9223372036854775808) := by
     show _ ∧ _
     have h1 := HSG.out
     have h2 := HZ.out
     simp at h1
     omega
    clear HSG HZ
    generalize z.natAbs = N at *
    obtain ⟨x0, x1, _, _⟩ := hX7.cells
    go_wp2
    clear x0 x1
    go_loopw [6, 7] (fun nv iv wr => ∃ k : Nat, k ≤ n ∧ iv = .int .i64 ((k : Int) - 1) ∧ nv = .int .i64 (-((N / 10 ^ k : Nat) : Int)) ∧ Below w7.heap.size w7 wr) (fun _ iv _ => (intOf iv + 1).toNat)
    case atStart => exact ⟨n, Nat.le_refl _, by go_num, by rw [Nat.div_eq_of_lt HFT.out.1]; rfl, Below.refl _ _⟩
    case round =>
     obtain ⟨k, hk, rfl, rfl, hbl⟩ := hrel
     obtain ⟨x0, x1, _, _⟩ := (hX7.below hbl).cells
     cases k with
     | zero =>
      have hfin : Below w.heap.size w wr := hB7.trans (hbl.mono hB7.size)
      have HV : Hid (-((N / 10 ^ 0 : Nat) : Int) = z) := by show _ = _; rw [Nat.pow_zero, Nat.div_one]; exact HN.out.1
      generalize -((N / 10 ^ 0 : Nat) : Int) = V at *
      clear hlie hbl
      go_wp2
      go_ret2
      exact ⟨ret2 (HV.out.trans HS.out.1.symm) HS.out.2.symm, hfin⟩
     | succ k =>
      rw [show (((k + 1 : Nat) : Int) - 1) = (k : Int) by omega]
      obtain ⟨bb, oo, rfl, hbb⟩ := hlie.some_of_pos (by omega)
      have c1 := (hlie.below hbl).at k (by omega)
      have hup := part_up N k
      have hdl := dig_lt N k
      have hle := Nat.div_le_self N (10 ^ k)
      have hNl := HN.out.2
      obtain ⟨D, hD⟩ : ∃ D : Int, D = ((dig N k : Nat) : Int) := ⟨_, rfl⟩
      obtain ⟨V, hV⟩ : ∃ V : Int, V = ((N / 10 ^ (k + 1) : Nat) : Int) := ⟨_, rfl⟩
      have HU : Hid (10 * -V - D = -((N / 10 ^ k : Nat) : Int)) := by show _ = _; omega
      have hD0 : 0 ≤ D := by omega
      have hD1 : D ≤ 9 := by omega
      have hV0 : 0 ≤ V := by omega
      have hV1 : 10 * V + D ≤ 9223372036854775808 := by omega
      rw [← hD] at c1
      rw [← hV]
      clear hup hdl hle hNl hD hV
      go_wp2
      go_roundw
      case rel => exact ⟨k, by omega, by go_num, by rw [HU.out], hbl⟩
      case measure => simp [intOf]
end Go.Proofs.YtolpfibihialkaaGreatDoor
