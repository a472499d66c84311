/- Parts of the proof. -/
import Derived.Test.YtdochhhepmlapaaGreatGx22
import Derived.Test.YtdochhhepmlapaaGreatGx29
/- The document's sums: the walk of sum. No statement of the seat is proved here. -/
namespace Go.Proofs.YtdochhhepmlapaaGreat
open Go Go.RowKit
/-- A value is a number. -/
def VNR (z : Int) (v : Value) (W : World) : Prop := ∃ p : NR, p.z = z ∧ v = .agg #[.bool p.b, .slice p.a p.n p.c] ∧ p.is W
theorem VNR.later {z : Int} {v : Value} {W W' : World} (h : VNR z v W) (hb : Below W.heap.size W W') : VNR z v W' := by
 obtain ⟨p, h1, h2, h3⟩ := h
 exact ⟨p, h1, h2, h3.below hb⟩
/-- What a term is counted with, what the sum is, from the last term on: d terms of t + 1. -/
def shD (c t : Nat) : Nat → Nat
 | 0 => 1
 | d + 1 => shD c t d * mN c (t - 1 - d)
def suD (c t : Nat) (s : Int) : Nat → Int
 | 0 => 0
 | d + 1 => suD c t s d * -s + ((shD c t d : Nat) : Int)
theorem g_id (c t : Nat) (s : Int) : ∀ d, d ≤ t → tV c s t = tV c s (t - d) * ((shD c t d : Nat) : Int) + (-s) ^ (t - d + 1) * suD c t s d
 | 0, _ => by simp [shD, suD]
 | d + 1, h => by
  rw [g_id c t s d (by omega)]
  obtain ⟨k, hk⟩ : ∃ k, t - d = k + 1 := ⟨t - d - 1, by omega⟩
  have e1 : t - (d + 1) = k := by omega
  have e2 : t - 1 - d = k := by omega
  rw [hk, e1]
  show (tV c s k * ((mN c k : Nat) : Int) + (-s) ^ (k + 1)) * _ + _ = tV c s k * ((shD c t d * mN c (t - 1 - d) : Nat) : Int) + (-s) ^ (k + 1) * (suD c t s d * -s + ((shD c t d : Nat) : Int))
  rw [e2, Int.natCast_mul, Int.pow_succ (-s) (k + 1)]
  generalize (-s) ^ (k + 1) = P
  generalize tV c s k = T
  generalize ((shD c t d : Nat) : Int) = D
  generalize suD c t s d = G
  generalize ((mN c k : Nat) : Int) = M
  grind
theorem g_end (c t : Nat) (s : Int) : suD c t s (t + 1) = tV c s t := by
 have h := g_id c t s t (Nat.le_refl t)
 rw [Nat.sub_self] at h
 rw [h]
 show suD c t s t * -s + ((shD c t t : Nat) : Int) = 1 * ((shD c t t : Nat) : Int) + (-s) ^ (0 + 1) * suD c t s t
 rw [Int.pow_succ, Int.pow_zero]
 grind
/-- What all terms are over, but for the first one's. -/
def uO (c : Nat) : Nat → Nat
 | 0 => 1
 | k + 1 => uO c k * mN c k
theorem uN_uO (c : Nat) : ∀ k, uN c k = grN 0 c * uO c k
 | 0 => by simp [uN, uO]
 | k + 1 => by
  show uN c k * mN c k = grN 0 c * (uO c k * mN c k)
  rw [uN_uO c k, Nat.mul_assoc]
theorem p_end (c : Nat) : ∀ t d, d ≤ t → grN 0 c * uO c t = uO c (t - d) * grN 0 c * shD c t d := by
 intro t d h
 induction d with
 | zero => simp [shD, Nat.mul_comm]
 | succ d ih =>
  have := ih (by omega)
  obtain ⟨k, hk⟩ : ∃ k, t - d = k + 1 := ⟨t - d - 1, by omega⟩
  have e1 : t - (d + 1) = k := by omega
  have e2 : t - 1 - d = k := by omega
  rw [this, hk, e1]
  show uO c k * mN c k * grN 0 c * shD c t d = uO c k * grN 0 c * (shD c t d * mN c (t - 1 - d))
  rw [e2]
  ac_rfl
theorem p_all (c t : Nat) : uN c t = grN 0 c * shD c t t := by
 have h := p_end c t t (Nat.le_refl t)
 rw [Nat.sub_self] at h
 rw [uN_uO, h]
 show 1 * grN 0 c * _ = _
 rw [Nat.one_mul]
theorem p_lt {c t : Nat} (hc : c ≤ 2) (ht : t ≤ 12) : ∀ d, d ≤ t → shD c t d ≤ 1048576000 ^ d
 | 0, _ => Nat.le_refl 1
 | d + 1, h => by
  rw [Nat.pow_succ]
  exact Nat.mul_le_mul (p_lt hc ht d (by omega)) (mN_lt hc (by omega))
theorem g_lt {c t : Nat} {s : Int} (h0 : 0 ≤ s) (h1 : s ≤ 4194304) (hc : c ≤ 2) (ht : t ≤ 12) : ∀ d, d ≤ t + 1 → (suD c t s d).natAbs ≤ 1048576000 ^ d
 | 0, _ => by show (0 : Int).natAbs ≤ 1; decide
 | d + 1, h => by
  have h2 := g_lt h0 h1 hc ht d (by omega)
  have h3 := p_lt hc ht d (by omega)
  show (suD c t s d * -s + ((shD c t d : Nat) : Int)).natAbs ≤ _
  have h4 := Int.natAbs_add_le (suD c t s d * -s) ((shD c t d : Nat) : Int)
  have h5 : (suD c t s d * -s).natAbs ≤ 1048576000 ^ d * 4194304 := by
   rw [Int.natAbs_mul]
   exact Nat.mul_le_mul h2 (by omega)
  rw [Nat.pow_succ]
  have h6 : 1048576000 ^ d * 4194304 + 1048576000 ^ d ≤ 1048576000 ^ d * 1048576000 := by
   have := Nat.mul_le_mul (Nat.le_refl (1048576000 ^ d)) (show 4194304 + 1 ≤ 1048576000 by decide)
   rw [Nat.mul_add, Nat.mul_one] at this
   exact this
  rw [Int.natAbs_natCast] at h4
  omega
theorem ten_lt {x d k : Nat} (h : x ≤ 1048576000 ^ d) (hd : d ≤ 15) : x < 10 ^ 150 := Nat.lt_of_le_of_lt (Nat.le_trans h (Nat.pow_le_pow_right (by decide) hd)) (by decide)
/-- The variables of sum: the result's, the fraction, the share. -/
structure SJ (w W : World) (kf ks : Nat) (n d s : NR) : Prop where
 below : Below w.heap.size w W
 kf1 : w.heap.size < kf
 ks1 : kf < ks
 r : F4 W 108 w.heap.size ⟨false, none, 0, 0, 0⟩ ⟨false, none, 0, 0, 0⟩
 f : F4 W 108 kf n d
 sh : Bx W 74 ks (.bool s.b) (.slice s.a s.n s.c)
 hn : n.is W
 hd : d.is W
 hs : s.is W
theorem SJ.later {w W W' : World} {kf ks : Nat} {n d s : NR} (h : SJ w W kf ks n d s) (hb : Below W.heap.size W W') : SJ w W' kf ks n d s := ⟨h.below.trans (hb.mono h.below.size), h.kf1, h.ks1, h.r.below hb, h.f.below hb, h.sh.below hb, h.hn.below hb, h.hd.below hb, h.hs.below hb⟩
theorem SJ.drew {w W : World} {kf ks : Nat} {n d s : NR} (h : SJ w W kf ks n d s) : SJ w W.drew kf ks n d s := h.later (Below.refl _ _).drew
theorem SJ.putN {w W : World} {kf ks : Nat} {n d s : NR} (h : SJ w W kf ks n d s) {x : NR} (hx : x.is W) : SJ w ((W.setCell ⟨kf, 0, none⟩ (.bool x.b)).setCell ⟨kf, 1, none⟩ (.slice x.a x.n x.c)) kf ks x d s := by
 have a := h.kf1
 have b := h.ks1
 exact ⟨below_o h.below (by omega) _ _ _ _, a, b, h.r.far (by omega) _ _, h.f.fst x, h.sh.other (by omega) _ _, NR.store4 hx h.f _ _ _ _, NR.store4 h.hd h.f _ _ _ _, NR.store4 h.hs h.f _ _ _ _⟩
theorem bx_far {W : World} {t : TypeId} {k j o o' : Nat} {u v : Value} (h : Bx W t k u v) (hne : k ≠ j) (x y : Value) : Bx ((W.setCell ⟨j, o, none⟩ x).setCell ⟨j, o', none⟩ y) t k u v := by
 unfold Bx at h ⊢
 rw [heap_set_ne _ _ hne, heap_set_ne _ _ hne]
 exact h
theorem SJ.putD {w W : World} {kf ks : Nat} {n d s : NR} (h : SJ w W kf ks n d s) {x : NR} (hx : x.is W) : SJ w ((W.setCell ⟨kf, 2, none⟩ (.bool x.b)).setCell ⟨kf, 3, none⟩ (.slice x.a x.n x.c)) kf ks n x s := by
 have a := h.kf1
 have b := h.ks1
 exact ⟨below_o h.below (by omega) _ _ _ _, a, b, h.r.far (by omega) _ _, h.f.snd x, bx_far h.sh (by omega) _ _, NR.store4 h.hn h.f _ _ _ _, NR.store4 hx h.f _ _ _ _, NR.store4 h.hs h.f _ _ _ _⟩
theorem SJ.putS {w W : World} {kf ks : Nat} {n d s : NR} (h : SJ w W kf ks n d s) {x : NR} (hx : x.is W) : SJ w ((W.setCell ⟨ks, 0, none⟩ (.bool x.b)).setCell ⟨ks, 1, none⟩ (.slice x.a x.n x.c)) kf ks n d x := by
 have a := h.kf1
 have b := h.ks1
 exact ⟨below_o h.below (by omega) _ _ _ _, a, b, h.r.far (by omega) _ _, h.f.far (by omega) _ _, h.sh.self _ _, NR.store2 h.hn h.sh _ _, NR.store2 h.hd h.sh _ _, NR.store2 hx h.sh _ _⟩
theorem SJ.fin {w W : World} {kf ks : Nat} {n d s : NR} (h : SJ w W kf ks n d s) : n.is ((((W.setCell ⟨w.heap.size, 0, none⟩ (.bool n.b)).setCell ⟨w.heap.size, 1, none⟩ (.slice n.a n.n n.c)).setCell ⟨w.heap.size, 2, none⟩ (.bool d.b)).setCell ⟨w.heap.size, 3, none⟩ (.slice d.a d.n d.c)) ∧ d.is ((((W.setCell ⟨w.heap.size, 0, none⟩ (.bool n.b)).setCell ⟨w.heap.size, 1, none⟩ (.slice n.a n.n n.c)).setCell ⟨w.heap.size, 2, none⟩ (.bool d.b)).setCell ⟨w.heap.size, 3, none⟩ (.slice d.a d.n d.c)) ∧ Below w.heap.size w ((((W.setCell ⟨w.heap.size, 0, none⟩ (.bool n.b)).setCell ⟨w.heap.size, 1, none⟩ (.slice n.a n.n n.c)).setCell ⟨w.heap.size, 2, none⟩ (.bool d.b)).setCell ⟨w.heap.size, 3, none⟩ (.slice d.a d.n d.c)) := by
 have f1 := h.r.fst n
 exact ⟨NR.store4 (NR.store4 h.hn h.r _ _ _ _) f1 _ _ _ _, NR.store4 (NR.store4 h.hd h.r _ _ _ _) f1 _ _ _ _, below_o (below_o h.below (Nat.le_refl _) _ _ _ _) (Nat.le_refl _) _ _ _ _⟩
def PFr (x y : Int) (w : World) (e : Ending) (w' : World) : Prop := ∃ n d : NR, n.z = x ∧ d.z = y ∧ e = .returned (.agg #[.bool n.b, .slice n.a n.n n.c, .bool d.b, .slice d.a d.n d.c]) ∧ n.is w' ∧ d.is w' ∧ Below w.heap.size w w'
set_option maxRecDepth 100000 in
set_option maxHeartbeats 6400000 in
theorem rsum_any (s : Int) (c t : Nat) (w : World) (h0 : 0 ≤ s) (h1 : s ≤ 4194304) (hc : c ≤ 2) (ht : t ≤ 12) :
  Calls Tryz.prog 97 #[.int .i64 s, .int .i64 (c : Int), .int .i64 ((t : Int) + 1)] w (PFr (tV c s t) ((uN c t : Nat) : Int) w) := by
 have HG := Lib.hid (fun d (hd : d ≤ t + 1) => ten_lt (k := 0) (g_lt h0 h1 hc ht d hd) (by omega))
 have HP := Lib.hid (fun d (hd : d ≤ t) => ten_lt (k := 0) (p_lt hc ht d hd) (by omega))
 have HE := Lib.hid (And.intro (g_end c t s) (p_all c t))
 have hb0 := Below.refl w.heap.size w
 go_enter Tryz.func97, Tryz.ntmps97
 go_wp2_with fail
 have hR := f4_new w 108 ⟨false, none, 0, 0, 0⟩ ⟨false, none, 0, 0, 0⟩
 have hb1 : Below w.heap.size w (w.alloc (.cells #[.bool false, .slice none 0 0, .bool false, .slice none 0 0] 108)) := hb0.alloc (Nat.le_refl _) _
 replace hR : F4 (w.alloc (.cells #[.bool false, .slice none 0 0, .bool false, .slice none 0 0] 108)) 108 w.heap.size ⟨false, none, 0, 0, 0⟩ ⟨false, none, 0, 0, 0⟩ := hR
 have hs1 : w.heap.size < (w.alloc (.cells #[.bool false, .slice none 0 0, .bool false, .slice none 0 0] 108)).heap.size := by simp
 generalize w.alloc (.cells #[.bool false, .slice none 0 0, .bool false, .slice none 0 0] 108) = w1 at *
 refine (nOf 0 (by decide) (by decide) _).mono ?_
 rintro e w2 ⟨n0, zn0, rfl, hn0, hB⟩
 replace hR := hR.below hB
 replace hb1 := hb1.trans (hB.mono hb1.size)
 replace hs1 := Nat.lt_of_lt_of_le hs1 hB.size
 clear hB hb0
 go_wp2_with fail
 refine (nOf 1 (by decide) (by decide) _).mono ?_
 rintro e w3 ⟨s0, zs0, rfl, hs0, hB⟩
 have hF := (f4_new w2 108 n0 ⟨false, none, 0, 0, 0⟩).below hB
 have hbx : Below w2.heap.size w2 w3 := ((Below.refl _ _).alloc (Nat.le_refl _) _).trans (hB.mono (by simp))
 have hlt : w2.heap.size < w3.heap.size := Nat.lt_of_lt_of_le (by simp) hB.size
 have hV : SJ w (w3.alloc (.cells #[.bool s0.b, .slice s0.a s0.n s0.c] 74)) w2.heap.size w3.heap.size n0 ⟨false, none, 0, 0, 0⟩ s0 := by
  have hal : Below w3.heap.size w3 (w3.alloc (.cells #[.bool s0.b, .slice s0.a s0.n s0.c] 74)) := (Below.refl _ _).alloc (Nat.le_refl _) _
  have hb3 := hb1.trans (hbx.mono hb1.size)
  exact ⟨hb3.trans (hal.mono hb3.size), hs1, hlt, (hR.below hbx).below hal, hF.below hal, bx_new _ _ _ _, RNum.below (RNum.below hn0 hbx) hal, rnum_zero _, RNum.below hs0 hal⟩
 clear hF hbx hB hR hb1 hs1 hlt hn0 hs0
 go_wp2
 generalize w3.alloc (.cells #[.bool s0.b, .slice s0.a s0.n s0.c] 74) = w4 at *
 generalize w2.heap.size = kf at *
 generalize w3.heap.size = ks at *
 go_loopw [9] (fun kv wr => ∃ d : Nat, d ≤ t + 1 ∧ kv = .int .i64 ((t : Int) - (d : Int)) ∧ ∃ n dn sh : NR, SJ w wr kf ks n dn sh ∧ n.z = suD c t s d ∧ (d ≤ t → sh.z = ((shD c t d : Nat) : Int)) ∧ (d = t + 1 → dn.z = ((shD c t t : Nat) : Int))) (fun kv _ => (intOf kv + 1).toNat)
 case atStart => exact ⟨0, by omega, by simp, n0, _, s0, hV, zn0, fun _ => zs0, fun h => by omega⟩
 case round =>
  clear hV zn0 zs0 w4
  obtain ⟨d, hd, rfl, n, dn, sh, hV, zn, zs, zd⟩ := hrel
  by_cases hlt : d ≤ t
  ·
   have zs' := Lib.hid (zs hlt)
   have ZN := Lib.hid zn
   clear zs zd zn
   have bS : Hid (sh.z.natAbs < 10 ^ 150) := show _ < _ by rw [zs'.out, Int.natAbs_natCast]; exact HP.out d hlt
   have bN : Hid (n.z.natAbs < 10 ^ 150) := show _ < _ by rw [ZN.out]; exact HG.out d (by omega)
   have dk : decide ((0 : Int) ≤ (t : Int) - (d : Int)) = true := decide_eq_true (by omega)
   have bNs : Hid ((n.z * -s).natAbs < 10 ^ 150) := show _ < _ by
    rw [ZN.out, Int.natAbs_mul]
    refine ten_lt (d := d + 1) (k := 0) ?_ (by omega)
    rw [Nat.pow_succ]
    exact Nat.mul_le_mul (g_lt h0 h1 hc ht d (by omega)) (by omega)
   have hws : IntKind.i64.wrap (-s) = -s := IntWalk.i64_in _ (by omega)
   go_wp2
   refine wp_region_rel 9 [some 20, some 21, some 22, some 23, some 24, some 25, some 26, some 27, some 28] (lstP [Veq (.pointer (some ⟨kf, 0, none⟩)), Veq (.agg #[.bool n.b, .slice n.a n.n n.c]), Veq (.int .i64 s), Veq (.int .i64 (-s)), VNR (-s), VNR (n.z * -s), Veq (.agg #[.bool sh.b, .slice sh.a sh.n sh.c]), VNR (n.z * -s + sh.z), Veq (.pointer (some ⟨kf, 0, none⟩))]) (fun W => SJ w W kf ks n dn sh) [] (by kernel_rfl) (by kernel_rfl) ?_ ?_ (hV.drew) ?_ ?_
   ·
    intro j v W W' hj h hb
    obtain rfl | rfl | rfl | rfl | rfl | rfl | rfl | rfl | rfl : j = 0 ∨ j = 1 ∨ j = 2 ∨ j = 3 ∨ j = 4 ∨ j = 5 ∨ j = 6 ∨ j = 7 ∨ j = 8 := by omega
    ·
     exact Veq.later (show Veq (.pointer (some ⟨kf, 0, none⟩)) v W from h) hb
    ·
     exact Veq.later (show Veq (.agg #[.bool n.b, .slice n.a n.n n.c]) v W from h) hb
    ·
     exact Veq.later (show Veq (.int .i64 s) v W from h) hb
    ·
     exact Veq.later (show Veq (.int .i64 (-s)) v W from h) hb
    ·
     exact VNR.later (show VNR (-s) v W from h) hb
    ·
     exact VNR.later (show VNR (n.z * -s) v W from h) hb
    ·
     exact Veq.later (show Veq (.agg #[.bool sh.b, .slice sh.a sh.n sh.c]) v W from h) hb
    ·
     exact VNR.later (show VNR (n.z * -s + sh.z) v W from h) hb
    ·
     exact Veq.later (show Veq (.pointer (some ⟨kf, 0, none⟩)) v W from h) hb
   ·
    intro j v W hj hm h
    cases hm
   ·
    intro i hl hi u W hJ hd
    obtain rfl | rfl | rfl | rfl | rfl | rfl | rfl | rfl | rfl : i = 0 ∨ i = 1 ∨ i = 2 ∨ i = 3 ∨ i = 4 ∨ i = 5 ∨ i = 6 ∨ i = 7 ∨ i = 8 := by omega
    ·
     clear hd
     simp only [List.getElem_cons_succ, List.getElem_cons_zero]
     clear hl
     refine .inr ⟨rfl, fun K' hK => ?_⟩
     have HK := Lib.hid hK
     clear hK
     simp only [layS, Act.put, List.setIfInBounds_toArray, List.set_cons_succ, List.set_cons_zero, Nat.zero_add, Nat.reduceAdd]
     go_simp
     exact HK.out _ _ (.pointer (some ⟨kf, 0, none⟩)) (by simp [layS, updV, Act.put]) hJ (rfl) (Below.refl _ _) (fun h => absurd h (by decide))
    ·
     have e0 : u 0 = .pointer (some ⟨kf, 0, none⟩) := hd 0 (by decide) (by kernel_rfl)
     clear hd
     simp only [List.getElem_cons_succ, List.getElem_cons_zero]
     clear hl
     refine .inr ⟨rfl, fun K' hK => ?_⟩
     have HK := Lib.hid hK
     clear hK
     simp only [layS, Act.put, List.setIfInBounds_toArray, List.set_cons_succ, List.set_cons_zero, Nat.zero_add, Nat.reduceAdd, e0]
     have E0 := Lib.hid e0
     clear e0
     have f5 := hJ.f.cells.1
     have f6 := hJ.f.cells.2.1
     go_simp
     exact HK.out _ _ (.agg #[.bool n.b, .slice n.a n.n n.c]) (by simp [layS, updV, Act.put, E0.out]) hJ (rfl) (Below.refl _ _) (fun h => absurd h (by decide))
    ·
     clear hd
     simp only [List.getElem_cons_succ, List.getElem_cons_zero]
     clear hl
     refine .inr ⟨rfl, fun K' hK => ?_⟩
     have HK := Lib.hid hK
     clear hK
     simp only [layS, Act.put, List.setIfInBounds_toArray, List.set_cons_succ, List.set_cons_zero, Nat.zero_add, Nat.reduceAdd]
     go_simp
     exact HK.out _ _ (.int .i64 s) (by simp [layS, updV, Act.put]) hJ (rfl) (Below.refl _ _) (fun h => absurd h (by decide))
    ·
     have e2 : u 2 = .int .i64 s := hd 2 (by decide) (by kernel_rfl)
     clear hd
     simp only [List.getElem_cons_succ, List.getElem_cons_zero]
     clear hl
     refine .inr ⟨rfl, fun K' hK => ?_⟩
     have HK := Lib.hid hK
     clear hK
     simp only [layS, Act.put, List.setIfInBounds_toArray, List.set_cons_succ, List.set_cons_zero, Nat.zero_add, Nat.reduceAdd, e2]
     have E2 := Lib.hid e2
     clear e2
     go_simp
     exact HK.out _ _ (.int .i64 (-s)) (by simp [layS, updV, Act.put, E2.out]) hJ (rfl) (Below.refl _ _) (fun h => absurd h (by decide))
    ·
     have e3 : u 3 = .int .i64 (-s) := hd 3 (by decide) (by kernel_rfl)
     clear hd
     simp only [List.getElem_cons_succ, List.getElem_cons_zero]
     clear hl
     refine .inr ⟨rfl, fun K' hK => ?_⟩
     have HK := Lib.hid hK
     clear hK
     simp only [layS, Act.put, List.setIfInBounds_toArray, List.set_cons_succ, List.set_cons_zero, Nat.zero_add, Nat.reduceAdd, e3]
     have E3 := Lib.hid e3
     clear e3
     go_simp
     refine (nOf (-s) (by omega) (by omega) W).mono ?_
     rintro e W' ⟨y, hyz, rfl, hy, hB⟩
     exact HK.out _ _ (.agg #[.bool y.b, .slice y.a y.n y.c]) (by simp [layS, updV, Act.put, E3.out]) (hJ.later hB) (⟨y, hyz, rfl, hy⟩) hB (fun h => absurd h (by decide))
    ·
     have e1 : u 1 = .agg #[.bool n.b, .slice n.a n.n n.c] := hd 1 (by decide) (by kernel_rfl)
     obtain ⟨p4, z4, e4, g4⟩ := (show VNR (-s) (u 4) W from hd 4 (by decide) (by kernel_rfl))
     clear hd
     simp only [List.getElem_cons_succ, List.getElem_cons_zero]
     clear hl
     refine .inr ⟨rfl, fun K' hK => ?_⟩
     have HK := Lib.hid hK
     clear hK
     simp only [layS, Act.put, List.setIfInBounds_toArray, List.set_cons_succ, List.set_cons_zero, Nat.zero_add, Nat.reduceAdd, e1, e4]
     have E1 := Lib.hid e1
     have E4 := Lib.hid e4
     clear e1 e4
     go_simp
     refine (show Calls Tryz.prog 74 _ W (PN (n.z * -s) W) by have := nMul n p4 W hJ.hn g4 (Nat.le_trans (NR.len hJ.hn bN.out) (by decide)) (Nat.le_trans (NR.len g4 (k := 10) (by rw [z4]; omega)) (by decide)); rwa [z4] at this).mono ?_
     rintro e W' ⟨y, hyz, rfl, hy, hB⟩
     exact HK.out _ _ (.agg #[.bool y.b, .slice y.a y.n y.c]) (by simp [layS, updV, Act.put, E1.out, E4.out]) (hJ.later hB) (⟨y, hyz, rfl, hy⟩) hB (fun h => absurd h (by decide))
    ·
     clear hd
     simp only [List.getElem_cons_succ, List.getElem_cons_zero]
     clear hl
     refine .inr ⟨rfl, fun K' hK => ?_⟩
     have HK := Lib.hid hK
     clear hK
     simp only [layS, Act.put, List.setIfInBounds_toArray, List.set_cons_succ, List.set_cons_zero, Nat.zero_add, Nat.reduceAdd]
     have f5 := hJ.sh.cells.1
     have f6 := hJ.sh.cells.2.1
     go_simp
     exact HK.out _ _ (.agg #[.bool sh.b, .slice sh.a sh.n sh.c]) (by simp [layS, updV, Act.put]) hJ (rfl) (Below.refl _ _) (fun h => absurd h (by decide))
    ·
     obtain ⟨p5, z5, e5, g5⟩ := (show VNR (n.z * -s) (u 5) W from hd 5 (by decide) (by kernel_rfl))
     have e6 : u 6 = .agg #[.bool sh.b, .slice sh.a sh.n sh.c] := hd 6 (by decide) (by kernel_rfl)
     clear hd
     simp only [List.getElem_cons_succ, List.getElem_cons_zero]
     clear hl
     refine .inr ⟨rfl, fun K' hK => ?_⟩
     have HK := Lib.hid hK
     clear hK
     simp only [layS, Act.put, List.setIfInBounds_toArray, List.set_cons_succ, List.set_cons_zero, Nat.zero_add, Nat.reduceAdd, e5, e6]
     have E5 := Lib.hid e5
     have E6 := Lib.hid e6
     clear e5 e6
     go_simp
     refine (show Calls Tryz.prog 114 _ W (PN (n.z * -s + sh.z) W) by have := nAdd p5 sh W g5 hJ.hs (Nat.le_trans (NR.len g5 (by rw [z5]; exact bNs.out)) (by decide)) (Nat.le_trans (NR.len hJ.hs bS.out) (by decide)); rwa [z5] at this).mono ?_
     rintro e W' ⟨y, hyz, rfl, hy, hB⟩
     exact HK.out _ _ (.agg #[.bool y.b, .slice y.a y.n y.c]) (by simp [layS, updV, Act.put, E5.out, E6.out]) (hJ.later hB) (⟨y, hyz, rfl, hy⟩) hB (fun h => absurd h (by decide))
    ·
     clear hd
     simp only [List.getElem_cons_succ, List.getElem_cons_zero]
     clear hl
     refine .inr ⟨rfl, fun K' hK => ?_⟩
     have HK := Lib.hid hK
     clear hK
     simp only [layS, Act.put, List.setIfInBounds_toArray, List.set_cons_succ, List.set_cons_zero, Nat.zero_add, Nat.reduceAdd]
     go_simp
     exact HK.out _ _ (.pointer (some ⟨kf, 0, none⟩)) (by simp [layS, updV, Act.put]) hJ (rfl) (Below.refl _ _) (fun h => absurd h (by decide))
   intro u W hJ hd hne
   have e0 : u 0 = .pointer (some ⟨kf, 0, none⟩) := hd 0 (by decide)
   have e1 : u 1 = .agg #[.bool n.b, .slice n.a n.n n.c] := hd 1 (by decide)
   have e2 : u 2 = .int .i64 s := hd 2 (by decide)
   have e3 : u 3 = .int .i64 (-s) := hd 3 (by decide)
   obtain ⟨p4, z4, e4, g4⟩ := (show VNR (-s) (u 4) W from hd 4 (by decide))
   obtain ⟨p5, z5, e5, g5⟩ := (show VNR (n.z * -s) (u 5) W from hd 5 (by decide))
   have e6 : u 6 = .agg #[.bool sh.b, .slice sh.a sh.n sh.c] := hd 6 (by decide)
   obtain ⟨p7, z7, e7, g7⟩ := (show VNR (n.z * -s + sh.z) (u 7) W from hd 7 (by decide))
   have e8 : u 8 = .pointer (some ⟨kf, 0, none⟩) := hd 8 (by decide)
   simp only [layS, Act.put, List.setIfInBounds_toArray, List.set_cons_succ, List.set_cons_zero, Nat.zero_add, Nat.reduceAdd, List.drop_succ_cons, List.drop_zero, e0, e1, e2, e3, e4, e5, e6, e7, e8]
   have hV2 := hJ.putN g7
   have f5 := hJ.f.cells.1
   have f6 := hJ.f.cells.2.1
   have f7 := hJ.f.cells.2.2.1
   have f8 := hJ.f.cells.2.2.2.1
   have f9 := hJ.f.cells.2.2.2.2
   clear e0 e1 e2 e3 e4 e5 e6 e7 e8 hd hne g4 g5 g7 hJ hV
   have hV3 := hV2.putD hV2.hs
   have s5 := hV2.sh.cells.1
   have s6 := hV2.sh.cells.2.1
   have q5 := hV2.f.cells.1
   have q6 := hV2.f.cells.2.1
   have q7 := hV2.f.cells.2.2.1
   have q8 := hV2.f.cells.2.2.2.1
   have q9 := hV2.f.cells.2.2.2.2
   generalize hWW : (W.setCell ⟨kf, 0, none⟩ (.bool p7.b)).setCell ⟨kf, 1, none⟩ (.slice p7.a p7.n p7.c) = W7 at *
   by_cases hpos : d < t
   ·
    have dp : decide ((0 : Int) < (t : Int) - (d : Int)) = true := decide_eq_true (by omega)
    have hw1 : IntKind.i64.wrap (2 * ((t : Int) - (d : Int))) = 2 * ((t : Int) - (d : Int)) := IntWalk.i64_in _ (by omega)
    have hw2 : IntKind.i64.wrap (2 * ((t : Int) - (d : Int)) + (c : Int)) = 2 * ((t : Int) - (d : Int)) + (c : Int) := IntWalk.i64_in _ (by omega)
    go_wp2
    clear s5 s6 q5 q6 q7 q8 q9 f5 f6 f7 f8 f9 hw1 hw2 hV2
    generalize (W7.setCell ⟨kf, 2, none⟩ (.bool sh.b)).setCell ⟨kf, 3, none⟩ (.slice sh.a sh.n sh.c) = W8 at *
    obtain ⟨kk, hkk⟩ : ∃ kk, t - d = kk + 1 := ⟨t - d - 1, by omega⟩
    have hM : Hid (((mN c (t - 1 - d) : Nat) : Int) = 1048576 * ((2 * ((t : Int) - (d : Int)) + (c : Int)) * (2 * ((t : Int) - (d : Int)) + (c : Int) - 1))) := show _ = _ by
     have e : t - 1 - d = kk := by omega
     have e2 : (t : Int) - (d : Int) = (kk : Int) + 1 := by omega
     rw [e, e2]
     unfold mN
     rw [gr2]
     simp only [Int.natCast_mul, Int.natCast_add]
     grind
    have hn1 : 1 ≤ 2 * ((t : Int) - (d : Int)) + (c : Int) := by omega
    have hn2 : 2 * ((t : Int) - (d : Int)) + (c : Int) ≤ 26 := by omega
    generalize 2 * ((t : Int) - (d : Int)) + (c : Int) = nn at *
    have hmm := mul_bd (x := nn) (y := nn - 1) (by omega) (by omega) (by omega) (by omega)
    have hmn : 0 ≤ nn * (nn - 1) ∧ nn * (nn - 1) ≤ 650 := by
     constructor
     ·
      exact Int.mul_nonneg (by omega) (by omega)
     ·
      exact Int.le_trans (Int.mul_le_mul (show nn ≤ 26 by omega) (show nn - 1 ≤ 25 by omega) (by omega) (by decide)) (by decide)
    clear hmm
    have hw3 : IntKind.i64.wrap (nn - 1) = nn - 1 := IntWalk.i64_in _ (by omega)
    have hw4 : IntKind.i64.wrap (nn * (nn - 1)) = nn * (nn - 1) := IntWalk.i64_in _ (by omega)
    have bS2 : Hid ((sh.z * 1048576).natAbs < 10 ^ 150) := show _ < _ by
     rw [zs'.out, Int.natAbs_mul, Int.natAbs_natCast]
     refine ten_lt (d := d + 1) (k := 0) ?_ (by omega)
     rw [Nat.pow_succ]
     exact Nat.mul_le_mul (p_lt hc ht d (by omega)) (by decide)
    refine wp_region_rel 9 [some 37, some 38, some 39, some 40, some 41, some 42, some 43, some 44, some 45] (lstP [Veq (.agg #[.bool sh.b, .slice sh.a sh.n sh.c]), VNR (1048576), VNR (sh.z * 1048576), Veq (.int .i64 nn), Veq (.int .i64 nn), Veq (.int .i64 (nn - 1)), Veq (.int .i64 (nn * (nn - 1))), VNR (nn * (nn - 1)), VNR (sh.z * 1048576 * (nn * (nn - 1)))]) (fun W => SJ w W kf ks p7 sh sh) [] (by kernel_rfl) (by kernel_rfl) ?_ ?_ (hV3.drew) ?_ ?_
    ·
     intro j v W W' hj h hb
     obtain rfl | rfl | rfl | rfl | rfl | rfl | rfl | rfl | rfl : j = 0 ∨ j = 1 ∨ j = 2 ∨ j = 3 ∨ j = 4 ∨ j = 5 ∨ j = 6 ∨ j = 7 ∨ j = 8 := by omega
     ·
      exact Veq.later (show Veq (.agg #[.bool sh.b, .slice sh.a sh.n sh.c]) v W from h) hb
     ·
      exact VNR.later (show VNR (1048576) v W from h) hb
     ·
      exact VNR.later (show VNR (sh.z * 1048576) v W from h) hb
     ·
      exact Veq.later (show Veq (.int .i64 nn) v W from h) hb
     ·
      exact Veq.later (show Veq (.int .i64 nn) v W from h) hb
     ·
      exact Veq.later (show Veq (.int .i64 (nn - 1)) v W from h) hb
     ·
      exact Veq.later (show Veq (.int .i64 (nn * (nn - 1))) v W from h) hb
     ·
      exact VNR.later (show VNR (nn * (nn - 1)) v W from h) hb
     ·
      exact VNR.later (show VNR (sh.z * 1048576 * (nn * (nn - 1))) v W from h) hb
    ·
     intro j v W hj hm h
     cases hm
    ·
     intro i hl hi u W hJ hd
     obtain rfl | rfl | rfl | rfl | rfl | rfl | rfl | rfl | rfl : i = 0 ∨ i = 1 ∨ i = 2 ∨ i = 3 ∨ i = 4 ∨ i = 5 ∨ i = 6 ∨ i = 7 ∨ i = 8 := by omega
     ·
      clear hd
      simp only [List.getElem_cons_succ, List.getElem_cons_zero]
      clear hl
      refine .inr ⟨rfl, fun K' hK => ?_⟩
      have HK := Lib.hid hK
      clear hK
      simp only [layS, Act.put, List.setIfInBounds_toArray, List.set_cons_succ, List.set_cons_zero, Nat.zero_add, Nat.reduceAdd]
      have f5 := hJ.sh.cells.1
      have f6 := hJ.sh.cells.2.1
      go_simp
      exact HK.out _ _ (.agg #[.bool sh.b, .slice sh.a sh.n sh.c]) (by simp [layS, updV, Act.put]) hJ (rfl) (Below.refl _ _) (fun h => absurd h (by decide))
     ·
      clear hd
      simp only [List.getElem_cons_succ, List.getElem_cons_zero]
      clear hl
      refine .inr ⟨rfl, fun K' hK => ?_⟩
      have HK := Lib.hid hK
      clear hK
      simp only [layS, Act.put, List.setIfInBounds_toArray, List.set_cons_succ, List.set_cons_zero, Nat.zero_add, Nat.reduceAdd]
      go_simp
      refine (nOf 1048576 (by decide) (by decide) W).mono ?_
      rintro e W' ⟨y, hyz, rfl, hy, hB⟩
      exact HK.out _ _ (.agg #[.bool y.b, .slice y.a y.n y.c]) (by simp [layS, updV, Act.put]) (hJ.later hB) (⟨y, hyz, rfl, hy⟩) hB (fun h => absurd h (by decide))
     ·
      have e0 : u 0 = .agg #[.bool sh.b, .slice sh.a sh.n sh.c] := hd 0 (by decide) (by kernel_rfl)
      obtain ⟨p1, z1, e1, g1⟩ := (show VNR (1048576) (u 1) W from hd 1 (by decide) (by kernel_rfl))
      clear hd
      simp only [List.getElem_cons_succ, List.getElem_cons_zero]
      clear hl
      refine .inr ⟨rfl, fun K' hK => ?_⟩
      have HK := Lib.hid hK
      clear hK
      simp only [layS, Act.put, List.setIfInBounds_toArray, List.set_cons_succ, List.set_cons_zero, Nat.zero_add, Nat.reduceAdd, e0, e1]
      have E0 := Lib.hid e0
      have E1 := Lib.hid e1
      clear e0 e1
      go_simp
      refine (show Calls Tryz.prog 74 _ W (PN (sh.z * 1048576) W) by have := nMul sh p1 W hJ.hs g1 (Nat.le_trans (NR.len hJ.hs bS.out) (by decide)) (Nat.le_trans (NR.len g1 (k := 10) (by rw [z1]; decide)) (by decide)); rwa [z1] at this).mono ?_
      rintro e W' ⟨y, hyz, rfl, hy, hB⟩
      exact HK.out _ _ (.agg #[.bool y.b, .slice y.a y.n y.c]) (by simp [layS, updV, Act.put, E0.out, E1.out]) (hJ.later hB) (⟨y, hyz, rfl, hy⟩) hB (fun h => absurd h (by decide))
     ·
      clear hd
      simp only [List.getElem_cons_succ, List.getElem_cons_zero]
      clear hl
      refine .inr ⟨rfl, fun K' hK => ?_⟩
      have HK := Lib.hid hK
      clear hK
      simp only [layS, Act.put, List.setIfInBounds_toArray, List.set_cons_succ, List.set_cons_zero, Nat.zero_add, Nat.reduceAdd]
      go_simp
      exact HK.out _ _ (.int .i64 nn) (by simp [layS, updV, Act.put]) hJ (rfl) (Below.refl _ _) (fun h => absurd h (by decide))
     ·
      clear hd
      simp only [List.getElem_cons_succ, List.getElem_cons_zero]
      clear hl
      refine .inr ⟨rfl, fun K' hK => ?_⟩
      have HK := Lib.hid hK
      clear hK
      simp only [layS, Act.put, List.setIfInBounds_toArray, List.set_cons_succ, List.set_cons_zero, Nat.zero_add, Nat.reduceAdd]
      go_simp
      exact HK.out _ _ (.int .i64 nn) (by simp [layS, updV, Act.put]) hJ (rfl) (Below.refl _ _) (fun h => absurd h (by decide))
     ·
      have e4 : u 4 = .int .i64 nn := hd 4 (by decide) (by kernel_rfl)
      clear hd
      simp only [List.getElem_cons_succ, List.getElem_cons_zero]
      clear hl
      refine .inr ⟨rfl, fun K' hK => ?_⟩
      have HK := Lib.hid hK
      clear hK
      simp only [layS, Act.put, List.setIfInBounds_toArray, List.set_cons_succ, List.set_cons_zero, Nat.zero_add, Nat.reduceAdd, e4]
      have E4 := Lib.hid e4
      clear e4
      go_simp
      exact HK.out _ _ (.int .i64 (nn - 1)) (by simp [layS, updV, Act.put, E4.out]) hJ (rfl) (Below.refl _ _) (fun h => absurd h (by decide))
     ·
      have e3 : u 3 = .int .i64 nn := hd 3 (by decide) (by kernel_rfl)
      have e5 : u 5 = .int .i64 (nn - 1) := hd 5 (by decide) (by kernel_rfl)
      clear hd
      simp only [List.getElem_cons_succ, List.getElem_cons_zero]
      clear hl
      refine .inr ⟨rfl, fun K' hK => ?_⟩
      have HK := Lib.hid hK
      clear hK
      simp only [layS, Act.put, List.setIfInBounds_toArray, List.set_cons_succ, List.set_cons_zero, Nat.zero_add, Nat.reduceAdd, e3, e5]
      have E3 := Lib.hid e3
      have E5 := Lib.hid e5
      clear e3 e5
      go_simp
      exact HK.out _ _ (.int .i64 (nn * (nn - 1))) (by simp [layS, updV, Act.put, E3.out, E5.out]) hJ (rfl) (Below.refl _ _) (fun h => absurd h (by decide))
     ·
      have e6 : u 6 = .int .i64 (nn * (nn - 1)) := hd 6 (by decide) (by kernel_rfl)
      clear hd
      simp only [List.getElem_cons_succ, List.getElem_cons_zero]
      clear hl
      refine .inr ⟨rfl, fun K' hK => ?_⟩
      have HK := Lib.hid hK
      clear hK
      simp only [layS, Act.put, List.setIfInBounds_toArray, List.set_cons_succ, List.set_cons_zero, Nat.zero_add, Nat.reduceAdd, e6]
      have E6 := Lib.hid e6
      clear e6
      go_simp
      refine (nOf (nn * (nn - 1)) (by omega) (by omega) W).mono ?_
      rintro e W' ⟨y, hyz, rfl, hy, hB⟩
      exact HK.out _ _ (.agg #[.bool y.b, .slice y.a y.n y.c]) (by simp [layS, updV, Act.put, E6.out]) (hJ.later hB) (⟨y, hyz, rfl, hy⟩) hB (fun h => absurd h (by decide))
     ·
      obtain ⟨p2, z2, e2, g2⟩ := (show VNR (sh.z * 1048576) (u 2) W from hd 2 (by decide) (by kernel_rfl))
      obtain ⟨p7_, z7_, e7, g7⟩ := (show VNR (nn * (nn - 1)) (u 7) W from hd 7 (by decide) (by kernel_rfl))
      clear hd
      simp only [List.getElem_cons_succ, List.getElem_cons_zero]
      clear hl
      refine .inr ⟨rfl, fun K' hK => ?_⟩
      have HK := Lib.hid hK
      clear hK
      simp only [layS, Act.put, List.setIfInBounds_toArray, List.set_cons_succ, List.set_cons_zero, Nat.zero_add, Nat.reduceAdd, e2, e7]
      have E2 := Lib.hid e2
      have E7 := Lib.hid e7
      clear e2 e7
      go_simp
      refine (show Calls Tryz.prog 74 _ W (PN (sh.z * 1048576 * (nn * (nn - 1))) W) by have := nMul p2 p7_ W g2 g7 (Nat.le_trans (NR.len g2 (by rw [z2]; exact bS2.out)) (by decide)) (Nat.le_trans (NR.len g7 (k := 10) (by rw [z7_]; omega)) (by decide)); rwa [z2, z7_] at this).mono ?_
      rintro e W' ⟨y, hyz, rfl, hy, hB⟩
      exact HK.out _ _ (.agg #[.bool y.b, .slice y.a y.n y.c]) (by simp [layS, updV, Act.put, E2.out, E7.out]) (hJ.later hB) (⟨y, hyz, rfl, hy⟩) hB (fun h => absurd h (by decide))
    intro u W hJ hd hne
    have e0 : u 0 = .agg #[.bool sh.b, .slice sh.a sh.n sh.c] := hd 0 (by decide)
    obtain ⟨p1, z1, e1, g1⟩ := (show VNR (1048576) (u 1) W from hd 1 (by decide))
    obtain ⟨p2, z2, e2, g2⟩ := (show VNR (sh.z * 1048576) (u 2) W from hd 2 (by decide))
    have e3 : u 3 = .int .i64 nn := hd 3 (by decide)
    have e4 : u 4 = .int .i64 nn := hd 4 (by decide)
    have e5 : u 5 = .int .i64 (nn - 1) := hd 5 (by decide)
    have e6 : u 6 = .int .i64 (nn * (nn - 1)) := hd 6 (by decide)
    obtain ⟨p7_, z7_, e7, g7⟩ := (show VNR (nn * (nn - 1)) (u 7) W from hd 7 (by decide))
    obtain ⟨p8, z8, e8, g8⟩ := (show VNR (sh.z * 1048576 * (nn * (nn - 1))) (u 8) W from hd 8 (by decide))
    simp only [layS, Act.put, List.setIfInBounds_toArray, List.set_cons_succ, List.set_cons_zero, Nat.zero_add, Nat.reduceAdd, List.drop_succ_cons, List.drop_zero, e0, e1, e2, e3, e4, e5, e6, e7, e8]
    have hV4 := hJ.putS g8
    have f5 := hJ.sh.cells.1
    have f6 := hJ.sh.cells.2.1
    have f7 := hJ.sh.cells.2.2.1
    have f8 := hJ.sh.cells.2.2.2
    clear e0 e1 e2 e3 e4 e5 e6 e7 e8 hd hne g1 g2 g7 g8 hJ hV3
    have hw5 : IntKind.i64.wrap ((t : Int) - (d : Int) - 1) = (t : Int) - (d : Int) - 1 := IntWalk.i64_in _ (by omega)
    go_wp2
    go_roundw
    case rel =>
     refine ⟨d + 1, by omega, by rw [show (t : Int) - (d : Int) - 1 = (t : Int) - ((d + 1 : Nat) : Int) by omega], p7, sh, p8, hV4, ?_, fun _ => ?_, fun h => by omega⟩
     ·
      rw [z7, ZN.out, zs'.out]; rfl
     ·
      rw [z8, zs'.out]
      show _ = ((shD c t d * mN c (t - 1 - d) : Nat) : Int)
      rw [Int.natCast_mul, hM.out, Int.mul_assoc]
    case measure => simp [intOf]; omega
   ·
    have dp : decide ((0 : Int) < (t : Int) - (d : Int)) = false := decide_eq_false (by omega)
    have hw5 : IntKind.i64.wrap ((t : Int) - (d : Int) - 1) = (t : Int) - (d : Int) - 1 := IntWalk.i64_in _ (by omega)
    go_wp2
    go_roundw
    case rel =>
     refine ⟨d + 1, by omega, by rw [show (t : Int) - (d : Int) - 1 = (t : Int) - ((d + 1 : Nat) : Int) by omega], p7, sh, sh, hV3, ?_, fun h => by omega, fun _ => ?_⟩
     ·
      rw [z7, ZN.out, zs'.out]; rfl
     ·
      rw [zs'.out, show d = t by omega]
    case measure => simp [intOf]; omega
  ·
   have ed : d = t + 1 := by omega
   subst ed
   have zd' := Lib.hid (zd rfl)
   have ZN := Lib.hid zn
   clear zs zd zn
   have dk : decide ((0 : Int) ≤ (t : Int) - ((t + 1 : Nat) : Int)) = false := decide_eq_false (by omega)
   have bD : Hid (dn.z.natAbs < 10 ^ 150) := show _ < _ by rw [zd'.out, Int.natAbs_natCast]; exact HP.out t (Nat.le_refl t)
   by_cases h2 : c = 2
   ·
    subst h2
    go_wp2
    refine wp_region_rel 5 [some 48, some 49, some 50, some 51, some 52] (lstP [Veq (.pointer (some ⟨kf, 2, none⟩)), Veq (.agg #[.bool dn.b, .slice dn.a dn.n dn.c]), VNR (2), VNR (dn.z * 2), Veq (.pointer (some ⟨kf, 2, none⟩))]) (fun W => SJ w W kf ks n dn sh) [] (by kernel_rfl) (by kernel_rfl) ?_ ?_ (hV.drew) ?_ ?_
    ·
     intro j v W W' hj h hb
     obtain rfl | rfl | rfl | rfl | rfl : j = 0 ∨ j = 1 ∨ j = 2 ∨ j = 3 ∨ j = 4 := by omega
     ·
      exact Veq.later (show Veq (.pointer (some ⟨kf, 2, none⟩)) v W from h) hb
     ·
      exact Veq.later (show Veq (.agg #[.bool dn.b, .slice dn.a dn.n dn.c]) v W from h) hb
     ·
      exact VNR.later (show VNR (2) v W from h) hb
     ·
      exact VNR.later (show VNR (dn.z * 2) v W from h) hb
     ·
      exact Veq.later (show Veq (.pointer (some ⟨kf, 2, none⟩)) v W from h) hb
    ·
     intro j v W hj hm h
     cases hm
    ·
     intro i hl hi u W hJ hd
     obtain rfl | rfl | rfl | rfl | rfl : i = 0 ∨ i = 1 ∨ i = 2 ∨ i = 3 ∨ i = 4 := by omega
     ·
      clear hd
      simp only [List.getElem_cons_succ, List.getElem_cons_zero]
      clear hl
      refine .inr ⟨rfl, fun K' hK => ?_⟩
      have HK := Lib.hid hK
      clear hK
      simp only [layS, Act.put, List.setIfInBounds_toArray, List.set_cons_succ, List.set_cons_zero, Nat.zero_add, Nat.reduceAdd]
      go_simp
      exact HK.out _ _ (.pointer (some ⟨kf, 2, none⟩)) (by simp [layS, updV, Act.put]) hJ (rfl) (Below.refl _ _) (fun h => absurd h (by decide))
     ·
      have e0 : u 0 = .pointer (some ⟨kf, 2, none⟩) := hd 0 (by decide) (by kernel_rfl)
      clear hd
      simp only [List.getElem_cons_succ, List.getElem_cons_zero]
      clear hl
      refine .inr ⟨rfl, fun K' hK => ?_⟩
      have HK := Lib.hid hK
      clear hK
      simp only [layS, Act.put, List.setIfInBounds_toArray, List.set_cons_succ, List.set_cons_zero, Nat.zero_add, Nat.reduceAdd, e0]
      have E0 := Lib.hid e0
      clear e0
      have f5 := hJ.f.cells.2.2.1
      have f6 := hJ.f.cells.2.2.2.1
      go_simp
      exact HK.out _ _ (.agg #[.bool dn.b, .slice dn.a dn.n dn.c]) (by simp [layS, updV, Act.put, E0.out]) hJ (rfl) (Below.refl _ _) (fun h => absurd h (by decide))
     ·
      clear hd
      simp only [List.getElem_cons_succ, List.getElem_cons_zero]
      clear hl
      refine .inr ⟨rfl, fun K' hK => ?_⟩
      have HK := Lib.hid hK
      clear hK
      simp only [layS, Act.put, List.setIfInBounds_toArray, List.set_cons_succ, List.set_cons_zero, Nat.zero_add, Nat.reduceAdd]
      go_simp
      refine (nOf 2 (by decide) (by decide) W).mono ?_
      rintro e W' ⟨y, hyz, rfl, hy, hB⟩
      exact HK.out _ _ (.agg #[.bool y.b, .slice y.a y.n y.c]) (by simp [layS, updV, Act.put]) (hJ.later hB) (⟨y, hyz, rfl, hy⟩) hB (fun h => absurd h (by decide))
     ·
      have e1 : u 1 = .agg #[.bool dn.b, .slice dn.a dn.n dn.c] := hd 1 (by decide) (by kernel_rfl)
      obtain ⟨p2, z2, e2, g2⟩ := (show VNR (2) (u 2) W from hd 2 (by decide) (by kernel_rfl))
      clear hd
      simp only [List.getElem_cons_succ, List.getElem_cons_zero]
      clear hl
      refine .inr ⟨rfl, fun K' hK => ?_⟩
      have HK := Lib.hid hK
      clear hK
      simp only [layS, Act.put, List.setIfInBounds_toArray, List.set_cons_succ, List.set_cons_zero, Nat.zero_add, Nat.reduceAdd, e1, e2]
      have E1 := Lib.hid e1
      have E2 := Lib.hid e2
      clear e1 e2
      go_simp
      refine (show Calls Tryz.prog 74 _ W (PN (dn.z * 2) W) by have := nMul dn p2 W hJ.hd g2 (Nat.le_trans (NR.len hJ.hd bD.out) (by decide)) (Nat.le_trans (NR.len g2 (k := 10) (by rw [z2]; decide)) (by decide)); rwa [z2] at this).mono ?_
      rintro e W' ⟨y, hyz, rfl, hy, hB⟩
      exact HK.out _ _ (.agg #[.bool y.b, .slice y.a y.n y.c]) (by simp [layS, updV, Act.put, E1.out, E2.out]) (hJ.later hB) (⟨y, hyz, rfl, hy⟩) hB (fun h => absurd h (by decide))
     ·
      clear hd
      simp only [List.getElem_cons_succ, List.getElem_cons_zero]
      clear hl
      refine .inr ⟨rfl, fun K' hK => ?_⟩
      have HK := Lib.hid hK
      clear hK
      simp only [layS, Act.put, List.setIfInBounds_toArray, List.set_cons_succ, List.set_cons_zero, Nat.zero_add, Nat.reduceAdd]
      go_simp
      exact HK.out _ _ (.pointer (some ⟨kf, 2, none⟩)) (by simp [layS, updV, Act.put]) hJ (rfl) (Below.refl _ _) (fun h => absurd h (by decide))
    intro u W hJ hd hne
    have e0 : u 0 = .pointer (some ⟨kf, 2, none⟩) := hd 0 (by decide)
    have e1 : u 1 = .agg #[.bool dn.b, .slice dn.a dn.n dn.c] := hd 1 (by decide)
    obtain ⟨p2, z2, e2, g2⟩ := (show VNR (2) (u 2) W from hd 2 (by decide))
    obtain ⟨p3, z3, e3, g3⟩ := (show VNR (dn.z * 2) (u 3) W from hd 3 (by decide))
    have e4 : u 4 = .pointer (some ⟨kf, 2, none⟩) := hd 4 (by decide)
    simp only [layS, Act.put, List.setIfInBounds_toArray, List.set_cons_succ, List.set_cons_zero, Nat.zero_add, Nat.reduceAdd, List.drop_succ_cons, List.drop_zero, e0, e1, e2, e3, e4]
    have hV5 := hJ.putD g3
    have f5 := hJ.f.cells.2.2.1
    have f6 := hJ.f.cells.2.2.2.1
    have f9 := hJ.f.cells.2.2.2.2.2.2.1
    have f10 := hJ.f.cells.2.2.2.2.2.2.2
    clear e0 e1 e3 e4 hd hne g2 g3 hJ hV
    generalize hWW : (W.setCell ⟨kf, 2, none⟩ (.bool p3.b)).setCell ⟨kf, 3, none⟩ (.slice p3.a p3.n p3.c) = W9 at *
    have r5 := hV5.r.cells.1
    have r6 := hV5.r.cells.2.1
    have r7 := hV5.r.cells.2.2.1
    have r8 := hV5.r.cells.2.2.2.1
    have r9 := hV5.r.cells.2.2.2.2.1
    have r10 := hV5.r.cells.2.2.2.2.2.1
    have r11 := hV5.r.cells.2.2.2.2.2.2.1
    have r12 := hV5.r.cells.2.2.2.2.2.2.2
    have x5 := hV5.f.cells.1
    have x6 := hV5.f.cells.2.1
    have x7 := hV5.f.cells.2.2.1
    have x8 := hV5.f.cells.2.2.2.1
    have kne : w.heap.size ≠ kf := by have := hV5.kf1; omega
    have hfn := hV5.fin
    go_wp2
    refine bodyPost_ret (v := .agg #[.bool n.b, .slice n.a n.n n.c, .bool p3.b, .slice p3.a p3.n p3.c]) (by simp [results, Tryz.results97, go_sem, r5, r6, r7, r8]) rfl ?_
    exact ⟨n, p3, by rw [ZN.out]; exact HE.out.1, by rw [z3, zd'.out, HE.out.2]; simp [grN, Int.mul_comm], rfl, hfn.1, hfn.2.1, hfn.2.2⟩
   ·
    have e2 : (((c : Nat) : Int) == 2) = false := by simp; omega
    have r5 := hV.r.cells.1
    have r6 := hV.r.cells.2.1
    have r7 := hV.r.cells.2.2.1
    have r8 := hV.r.cells.2.2.2.1
    have r9 := hV.r.cells.2.2.2.2.1
    have r10 := hV.r.cells.2.2.2.2.2.1
    have r11 := hV.r.cells.2.2.2.2.2.2.1
    have r12 := hV.r.cells.2.2.2.2.2.2.2
    have x5 := hV.f.cells.1
    have x6 := hV.f.cells.2.1
    have x7 := hV.f.cells.2.2.1
    have x8 := hV.f.cells.2.2.2.1
    have kne : w.heap.size ≠ kf := by have := hV.kf1; omega
    have hfn := hV.fin
    go_wp2
    refine bodyPost_ret (v := .agg #[.bool n.b, .slice n.a n.n n.c, .bool dn.b, .slice dn.a dn.n dn.c]) (by simp [results, Tryz.results97, go_sem, r5, r6, r7, r8]) rfl ?_
    exact ⟨n, dn, by rw [ZN.out]; exact HE.out.1, by rw [zd'.out, HE.out.2, show grN 0 c = 1 by rcases (by omega : c = 0 ∨ c = 1) with rfl | rfl <;> rfl, Nat.one_mul], rfl, hfn.1, hfn.2.1, hfn.2.2⟩
end Go.Proofs.YtdochhhepmlapaaGreat
