/- Parts of the proof. -/
import Derived.Test.YtolpfibihialkaaGreatGr0
import Derived.Test.YtolpfibihialkaaGreatGr13
import Derived.Test.YtolpfibihialkaaGreatGr9
import Derived.Test.YtolpfibihialkaaGreatGr3
import Derived.Test.YtolpfibihialkaaGreatGr16
/- Sines and cosines: the walks of grown, sum, down. No statement of the seat is proved here. -/
namespace Go.Proofs.YtolpfibihialkaaGreat
open Go.RowKit
set_option maxHeartbeats 800000 in
theorem grown_any (a d : Nat) (w : World) (ha : a ≤ 30) (hd : d ≤ 2) : Calls Tryz.prog 94 #[.int .i64 (a : Int), .int .i64 ((a + d : Nat) : Int)] w (PVal (.int .i64 (grN a d : Nat)) w) := by
 go_enter Tryz.func94, Tryz.ntmps94
 go_wp2
 go_loopw [5, 10] (fun tv iv wr => ∃ k : Nat, k ≤ d ∧ iv = .int .i64 k ∧ tv = .int .i64 (grN a k : Nat) ∧ Below w.heap.size w wr) (fun _ iv _ => d - (intOf iv).toNat)
 case atStart => exact ⟨0, Nat.zero_le _, rfl, rfl, Below.refl _ _⟩
 case round =>
  obtain ⟨k, hk, rfl, rfl, hb⟩ := hrel
  by_cases hlt : k < d
  ·
   have h1 : grN a k ≤ 1000 := by
    rcases (by omega : k = 0 ∨ k = 1) with rfl | rfl
    ·
     show 1 ≤ 1000; omega
    ·
     simp [grN]; omega
   have hX : Hid ((grN a k : Int) * ((a : Int) + (k : Int) + 1) = ((grN a (k + 1) : Nat) : Int)) := by
    show _ = ((grN a k * (a + k + 1) : Nat) : Int)
    simp
   have hm : grN a k * (a + k + 1) ≤ 1000 * 100 := Nat.mul_le_mul h1 (by omega)
   have hm' : (grN a k : Int) * ((a : Int) + (k : Int) + 1) ≤ 100000 := by
    have : ((grN a k * (a + k + 1) : Nat) : Int) ≤ 100000 := by omega
    simpa using this
   have hm0 : 0 ≤ (grN a k : Int) * ((a : Int) + (k : Int) + 1) := Int.mul_nonneg (by omega) (by omega)
   have hw : IntKind.i64.wrap ((grN a k : Int) * ((a : Int) + (k : Int) + 1)) = (grN a k : Int) * ((a : Int) + (k : Int) + 1) := IntWalk.i64_in _ (by omega)
   clear hm hm' hm0 h1
   generalize grN a k = G at *
   go_wp2
   go_roundw
   case rel => exact ⟨k + 1, by omega, by go_num, by rw [hX.out], hb⟩
   case measure => simp [intOf]; omega
  ·
   have e : k = d := by omega
   subst e
   go_wp2
   go_ret
   exact ⟨rfl, hb⟩
/-- A value is a number of package long. -/
def VN (z : Int) (v : Value) (W : World) : Prop := ∃ (b : Bool) (a : Option Addr) (n c : Nat), v = .agg #[.bool b, .slice a n c] ∧ Num W b a n c z
theorem VN.later {z : Int} {v : Value} {W W' : World} (h : VN z v W) (hb : Below W.heap.size W W') : VN z v W' := by
 obtain ⟨b, a, n, c, e, hn⟩ := h
 exact ⟨b, a, n, c, e, hn.below hb⟩
/-- A variable holds a number. -/
structure V4 (W : World) (k : Nat) (b : Bool) (a : Option Addr) (n c : Nat) (z : Int) : Prop where
 bx : Bx W 89 k (.bool b) (.slice a n c)
 num : Num W b a n c z
theorem V4.later {W W' : World} {k : Nat} {b : Bool} {a : Option Addr} {n c : Nat} {z : Int} (h : V4 W k b a n c z) (hb : Below W.heap.size W W') : V4 W' k b a n c z := ⟨h.bx.below hb, h.num.below hb⟩
theorem V4.drew {W : World} {k : Nat} {b : Bool} {a : Option Addr} {n c : Nat} {z : Int} (h : V4 W k b a n c z) : V4 W.drew k b a n c z := h.later (Below.refl _ _).drew
theorem V4.put {W : World} {k : Nat} {b : Bool} {a : Option Addr} {n c : Nat} {z : Int} (h : V4 W k b a n c z) {b' : Bool} {a' : Option Addr} {n' c' : Nat} {z' : Int} (hz : Num W b' a' n' c' z') : V4 ((W.setCell ⟨k, 0, none⟩ (.bool b')).setCell ⟨k, 1, none⟩ (.slice a' n' c')) k b' a' n' c' z' := ⟨h.bx.self _ _, hz.store h.bx _ _⟩
theorem V4.far {W : World} {k j : Nat} {b : Bool} {a : Option Addr} {n c : Nat} {z : Int} (h : V4 W k b a n c z) {b' : Bool} {a' : Option Addr} {n' c' : Nat} {z' : Int} (hj : V4 W j b' a' n' c' z') (hne : k ≠ j) (u v : Value) : V4 ((W.setCell ⟨j, 0, none⟩ u).setCell ⟨j, 1, none⟩ v) k b a n c z := ⟨h.bx.other hne _ _, h.num.store hj.bx _ _⟩
theorem v4_new {W : World} {b : Bool} {a : Option Addr} {n c : Nat} {z : Int} (h : Num W b a n c z) : V4 (W.alloc (.cells #[.bool b, .slice a n c] 89)) W.heap.size b a n c z := ⟨bx_new _ _ _ _, h.below (below_nw _ _)⟩
/-- The variables of sum: power, top, under. -/
structure KS (w W : World) (k : Nat) (x y z : Int) : Prop where
 below : Below w.heap.size w W
 ge : w.heap.size + 2 ≤ k
 p : ∃ b a n c, V4 W k b a n c x
 t : ∃ b a n c, V4 W w.heap.size b a n c y
 u : ∃ b a n c, V4 W (w.heap.size + 1) b a n c z
theorem KS.later {w W W' : World} {k : Nat} {x y z : Int} (h : KS w W k x y z) (hb : Below W.heap.size W W') : KS w W' k x y z := by
 obtain ⟨h1, h2, ⟨b, a, n, c, h3⟩, ⟨b', a', n', c', h4⟩, ⟨b2, a2, n2, c2, h5⟩⟩ := h
 exact ⟨h1.trans (hb.mono h1.size), h2, ⟨b, a, n, c, h3.later hb⟩, ⟨b', a', n', c', h4.later hb⟩, ⟨b2, a2, n2, c2, h5.later hb⟩⟩
theorem V4.cells {W : World} {k : Nat} {b : Bool} {a : Option Addr} {n c : Nat} {z : Int} (h : V4 W k b a n c z) : W.cell? ⟨k, 0, none⟩ = some (.bool b) ∧ W.cell? ⟨k, 1, none⟩ = some (.slice a n c) ∧ W.frozen? ⟨k, 0, none⟩ = false ∧ W.frozen? ⟨k, 1, none⟩ = false := h.bx.cells
theorem below_put {w W : World} (h : Below w.heap.size w W) {k : Nat} (hk : w.heap.size ≤ k) (u v : Value) : Below w.heap.size w ((W.setCell ⟨k, 0, none⟩ u).setCell ⟨k, 1, none⟩ v) := (h.setCell (p := ⟨k, 0, none⟩) hk _).setCell (p := ⟨k, 1, none⟩) hk _
theorem len_bd {W : World} {b : Bool} {a : Option Addr} {n c k : Nat} {z : Int} (h : Num W b a n c z) (hz : z.natAbs < BB ^ k) (hk : k ≤ 40) : n ≤ 40 := Nat.le_trans (fit_le h.fit hz) hk
/-- As KS, with the values. -/
structure KV (w W : World) (k : Nat) (X1 : Bool) (X2 : Option Addr) (X3 X4 : Nat) (T1 : Bool) (T2 : Option Addr) (T3 T4 : Nat) (U1 : Bool) (U2 : Option Addr) (U3 U4 : Nat) (x y z : Int) : Prop where
 below : Below w.heap.size w W
 ge : w.heap.size + 2 ≤ k
 p : V4 W k X1 X2 X3 X4 x
 t : V4 W w.heap.size T1 T2 T3 T4 y
 u : V4 W (w.heap.size + 1) U1 U2 U3 U4 z
section
variable {w W : World} {k8 : Nat} {X1 : Bool} {X2 : Option Addr} {X3 X4 : Nat} {T1 : Bool} {T2 : Option Addr} {T3 T4 : Nat} {U1 : Bool} {U2 : Option Addr} {U3 U4 : Nat} {x y z : Int}
theorem KV.ks (h : KV w W k8 X1 X2 X3 X4 T1 T2 T3 T4 U1 U2 U3 U4 x y z) : KS w W k8 x y z := ⟨h.below, h.ge, ⟨_, _, _, _, h.p⟩, ⟨_, _, _, _, h.t⟩, ⟨_, _, _, _, h.u⟩⟩
theorem KV.later {W' : World} (h : KV w W k8 X1 X2 X3 X4 T1 T2 T3 T4 U1 U2 U3 U4 x y z) (hb : Below W.heap.size W W') : KV w W' k8 X1 X2 X3 X4 T1 T2 T3 T4 U1 U2 U3 U4 x y z := ⟨h.below.trans (hb.mono h.below.size), h.ge, h.p.later hb, h.t.later hb, h.u.later hb⟩
theorem KV.drew (h : KV w W k8 X1 X2 X3 X4 T1 T2 T3 T4 U1 U2 U3 U4 x y z) : KV w W.drew k8 X1 X2 X3 X4 T1 T2 T3 T4 U1 U2 U3 U4 x y z := h.later (Below.refl _ _).drew
theorem KV.putP (h : KV w W k8 X1 X2 X3 X4 T1 T2 T3 T4 U1 U2 U3 U4 x y z) {b : Bool} {a : Option Addr} {n c : Nat} {v : Int} (hv : Num W b a n c v) : KV w ((W.setCell ⟨k8, 0, none⟩ (.bool b)).setCell ⟨k8, 1, none⟩ (.slice a n c)) k8 b a n c T1 T2 T3 T4 U1 U2 U3 U4 v y z :=
 ⟨below_put h.below (by have := h.ge; omega) _ _, h.ge, h.p.put hv, h.t.far h.p (by have := h.ge; omega) _ _, h.u.far h.p (by have := h.ge; omega) _ _⟩
theorem KV.putT (h : KV w W k8 X1 X2 X3 X4 T1 T2 T3 T4 U1 U2 U3 U4 x y z) {b : Bool} {a : Option Addr} {n c : Nat} {v : Int} (hv : Num W b a n c v) : KV w ((W.setCell ⟨w.heap.size, 0, none⟩ (.bool b)).setCell ⟨w.heap.size, 1, none⟩ (.slice a n c)) k8 X1 X2 X3 X4 b a n c U1 U2 U3 U4 x v z :=
 ⟨below_put h.below (Nat.le_refl _) _ _, h.ge, h.p.far h.t (by have := h.ge; omega) _ _, h.t.put hv, h.u.far h.t (by omega) _ _⟩
theorem KV.putU (h : KV w W k8 X1 X2 X3 X4 T1 T2 T3 T4 U1 U2 U3 U4 x y z) {b : Bool} {a : Option Addr} {n c : Nat} {v : Int} (hv : Num W b a n c v) : KV w ((W.setCell ⟨w.heap.size + 1, 0, none⟩ (.bool b)).setCell ⟨w.heap.size + 1, 1, none⟩ (.slice a n c)) k8 X1 X2 X3 X4 T1 T2 T3 T4 b a n c x y v :=
 ⟨below_put h.below (by omega) _ _, h.ge, h.p.far h.u (by have := h.ge; omega) _ _, h.t.far h.u (by omega) _ _, h.u.put hv⟩
end
theorem KS.kv {w W : World} {k8 : Nat} {x y z : Int} (h : KS w W k8 x y z) : ∃ (X1 : Bool) (X2 : Option Addr) (X3 X4 : Nat) (T1 : Bool) (T2 : Option Addr) (T3 T4 : Nat) (U1 : Bool) (U2 : Option Addr) (U3 U4 : Nat), KV w W k8 X1 X2 X3 X4 T1 T2 T3 T4 U1 U2 U3 U4 x y z := by
 obtain ⟨h1, h2, ⟨b, a, n, c, h3⟩, ⟨b', a', n', c', h4⟩, ⟨b2, a2, n2, c2, h5⟩⟩ := h
 exact ⟨_, _, _, _, _, _, _, _, _, _, _, _, ⟨h1, h2, h3, h4, h5⟩⟩
def PSum (x y : Int) (w : World) (e : Ending) (w' : World) : Prop := ∃ (b1 : Bool) (a1 : Option Addr) (n1 c1 : Nat) (b2 : Bool) (a2 : Option Addr) (n2 c2 : Nat), e = .returned (.tuple #[.agg #[.bool b1, .slice a1 n1 c1], .agg #[.bool b2, .slice a2 n2 c2]]) ∧ Num w' b1 a1 n1 c1 x ∧ Num w' b2 a2 n2 c2 y ∧ Below w.heap.size w w'
/-- The last region of sum: what stands in top and under, by what is done (operation 4 stores top). -/
structure JS (w : World) (T1 : Bool) (T2 : Option Addr) (T3 T4 : Nat) (tv : Int) (U1 : Bool) (U2 : Option Addr) (U3 U4 : Nat) (uv : Int) (L : Nat → Bool) (u : Nat → Value) (W : World) : Prop where
 below : Below w.heap.size w W
 un : V4 W (w.heap.size + 1) U1 U2 U3 U4 uv
 t : L 4 = false → V4 W w.heap.size T1 T2 T3 T4 tv
 d2 : L 4 = true → L 0 = true ∧ L 1 = true ∧ L 2 = true ∧ ∃ b a n c, u 2 = .agg #[.bool b, .slice a n c] ∧ V4 W w.heap.size b a n c (tv * 1048576)
def Vt (_ : Value) (_ : World) : Prop := True
theorem Vt.later {v : Value} {W W' : World} (h : Vt v W) (_ : Below W.heap.size W W') : Vt v W' := h
section
variable {w W : World} {T1 : Bool} {T2 : Option Addr} {T3 T4 : Nat} {U1 : Bool} {U2 : Option Addr} {U3 U4 : Nat} {tv uv : Int} {L : Nat → Bool} {u : Nat → Value}
theorem JS.start {k8 : Nat} {X1 : Bool} {X2 : Option Addr} {X3 X4 : Nat} {x : Int} (h : KV w W k8 X1 X2 X3 X4 T1 T2 T3 T4 U1 U2 U3 U4 x tv uv) (u : Nat → Value) : JS w T1 T2 T3 T4 tv U1 U2 U3 U4 uv (fun _ => false) u W.drew := ⟨h.drew.below, h.drew.u, fun _ => h.drew.t, nofun⟩
theorem JS.no {i : Nat} (hi : L i = false) (h : JS w T1 T2 T3 T4 tv U1 U2 U3 U4 uv L u W) (hi3 : i < 3) : L 4 = false := by
 cases e : L 4
 ·
  rfl
 ·
  obtain ⟨h0, h1, h2, _⟩ := h.d2 e
  obtain rfl | rfl | rfl : i = 0 ∨ i = 1 ∨ i = 2 := by omega
  ·
   rw [h0] at hi; cases hi
  ·
   rw [h1] at hi; cases hi
  ·
   rw [h2] at hi; cases hi
theorem JS.step {W' : World} {i : Nat} {v : Value} (h : JS w T1 T2 T3 T4 tv U1 U2 U3 U4 uv L u W) (hi : i < 4) (hLi : L i = false) (hB : Below W.heap.size W W') : JS w T1 T2 T3 T4 tv U1 U2 U3 U4 uv (upd L i) (updV u i v) W' := by
 have e4 : upd L i 4 = L 4 := upd_ne (by omega)
 refine ⟨h.below.trans (hB.mono h.below.size), h.un.later hB, fun h4 => (h.t (e4 ▸ h4)).later hB, fun h4 => ?_⟩
 obtain ⟨h0, h1, h2, b, a, n, c, he, hv⟩ := h.d2 (e4 ▸ h4)
 have f : ∀ j, L j = true → upd L i j = true := fun j hj => by
  unfold upd
  split
  ·
   rfl
  ·
   exact hj
 refine ⟨f 0 h0, f 1 h1, f 2 h2, b, a, n, c, ?_, hv.later hB⟩
 unfold updV
 rw [if_neg (by intro e; subst e; rw [h2] at hLi; cases hLi)]
 exact he
theorem JS.put {b : Bool} {a : Option Addr} {n c : Nat} {v : Value} (h : JS w T1 T2 T3 T4 tv U1 U2 U3 U4 uv L u W) (hLi : L 4 = false) (hL2 : L 0 = true ∧ L 1 = true ∧ L 2 = true) (he : u 2 = .agg #[.bool b, .slice a n c]) (hz : Num W b a n c (tv * 1048576)) :
  JS w T1 T2 T3 T4 tv U1 U2 U3 U4 uv (upd L 4) (updV u 4 v) ((W.setCell ⟨w.heap.size, 0, none⟩ (.bool b)).setCell ⟨w.heap.size, 1, none⟩ (.slice a n c)) := by
 have ht := h.t hLi
 refine ⟨below_put h.below (Nat.le_refl _) _ _, h.un.far ht (by omega) _ _, fun h4 => (by rw [upd_self] at h4; cases h4), fun _ => ⟨by rw [upd_ne (by decide)]; exact hL2.1, by rw [upd_ne (by decide)]; exact hL2.2.1, by rw [upd_ne (by decide)]; exact hL2.2.2, b, a, n, c, ?_, ht.put hz⟩⟩
 unfold updV
 rw [if_neg (by decide)]
 exact he
theorem JS.d {b : Bool} {a : Option Addr} {n c : Nat} (h : JS w T1 T2 T3 T4 tv U1 U2 U3 U4 uv L u W) (h4 : L 4 = true) (he : u 2 = .agg #[.bool b, .slice a n c]) : V4 W w.heap.size b a n c (tv * 1048576) := by
 obtain ⟨_, _, _, b', a', n', c', he', hv⟩ := h.d2 h4
 rw [he] at he'
 simp at he'
 obtain ⟨rfl, rfl, rfl, rfl⟩ := he'
 exact hv
end
theorem VN.store {z : Int} {v : Value} {W : World} (h : VN z v W) {k : Nat} {b0 : Bool} {a0 : Option Addr} {n0 c0 : Nat} (hk : Bx W 89 k (.bool b0) (.slice a0 n0 c0)) (u u' : Value) : VN z v ((W.setCell ⟨k, 0, none⟩ u).setCell ⟨k, 1, none⟩ u') := by
 obtain ⟨b, a, n, c, e, hn⟩ := h
 exact ⟨b, a, n, c, e, hn.store hk _ _⟩
theorem JS_keep {v1 v2 : Value} {z1 z2 : Int} {u : Nat → Value} {W : World} {k : Nat} {p q : Value} {b0 : Bool} {a0 : Option Addr} {n0 c0 : Nat} (hk : Bx W 89 k (.bool b0) (.slice a0 n0 c0)) : ∀ j, j < 5 → lstP [Veq v1, VN z1, VN z2, Veq v2, Vt] j (u j) W → lstP [Veq v1, VN z1, VN z2, Veq v2, Vt] j (u j) ((W.setCell ⟨k, 0, none⟩ p).setCell ⟨k, 1, none⟩ q) := by
 intro j hj h
 obtain rfl | rfl | rfl | rfl | rfl : j = 0 ∨ j = 1 ∨ j = 2 ∨ j = 3 ∨ j = 4 := by omega
 ·
  exact h
 ·
  exact VN.store (show VN z1 (u 1) W from h) hk _ _
 ·
  exact VN.store (show VN z2 (u 2) W from h) hk _ _
 ·
  exact h
 ·
  exact h
set_option maxRecDepth 100000 in
set_option maxHeartbeats 6400000 in
theorem ksum_any (n : Int) (c t : Nat) (w : World) (h0 : 0 ≤ n) (h1 : n ≤ 4194304) (hc : c ≤ 2) (ht : t ≤ 12) :
  Calls Tryz.prog 81 #[.int .i64 n, .int .i64 (c : Int), .int .i64 ((t : Int) + 1)] w (PSum (tV c n t * 1048576) (uN c t : Nat) w) := by
 have HT := Lib.hid (fun k (hk : k ≤ 12) => tV_bd h0 h1 hc hk)
 have HU := Lib.hid (fun k (hk : k ≤ 12) => uN_lt hc hk)
 have HP := Lib.hid (fun k => pw_bd h0 h1 k)
 have HM := Lib.hid (fun k (hk : k ≤ 12) => mN_lt hc hk)
 have HG := Lib.hid (gr_two hc)
 go_enter Tryz.func81, Tryz.ntmps81
 go_wp2_with fail
 have hz := num_zero
 have hA := v4_new (num_zero w)
 have hA2 := v4_new (num_zero (w.alloc (.cells #[.bool false, .slice none 0 0] 89)))
 rw [show (w.alloc (.cells #[.bool false, .slice none 0 0] 89)).heap.size = w.heap.size + 1 by simp] at hA2
 replace hA := hA.later (below_nw _ (.cells #[.bool false, .slice none 0 0] 89))
 have hb0 : Below w.heap.size w ((w.alloc (.cells #[.bool false, .slice none 0 0] 89)).alloc (.cells #[.bool false, .slice none 0 0] 89)) := ((Below.refl _ _).alloc (Nat.le_refl _) _).alloc (by simp) _
 have hs0 : w.heap.size + 2 ≤ ((w.alloc (.cells #[.bool false, .slice none 0 0] 89)).alloc (.cells #[.bool false, .slice none 0 0] 89)).heap.size := by simp
 generalize (w.alloc (.cells #[.bool false, .slice none 0 0] 89)).alloc (.cells #[.bool false, .slice none 0 0] 89) = w1 at *
 refine (Of_any 1 _ (by decide) (by decide)).mono ?_
 rintro e w2 ⟨X1, X2, X3, X4, rfl, hx, _, hB⟩
 have hV : KV w (w2.alloc (.cells #[.bool X1, .slice X2 X3 X4] 89)) w2.heap.size X1 X2 X3 X4 false none 0 0 false none 0 0 1 0 0 :=
  ⟨(hb0.trans (hB.mono hb0.size)).alloc (Nat.le_trans (hb0.size) hB.size) _, Nat.le_trans hs0 hB.size, v4_new hx, (hA.later hB).later (below_nw _ _), (hA2.later hB).later (below_nw _ _)⟩
 clear hA hA2 hb0 hs0 hB hx hz
 go_wp2
 generalize w2.alloc (.cells #[.bool X1, .slice X2 X3 X4] 89) = w3 at *
 generalize w2.heap.size = k8 at *
 refine wp_region_rel 4 [some 13, some 14, some 15, some 16] (lstP [Veq (.agg #[.bool X1, .slice X2 X3 X4]), Veq (.int .i64 (c : Int)), Veq (.int .i64 ((grN 0 c : Nat) : Int)), VN (((grN 0 c : Nat) : Int))]) (fun W => KV w W k8 X1 X2 X3 X4 false none 0 0 false none 0 0 1 0 0) [] (by kernel_rfl) (by kernel_rfl) ?_ ?_ (hV.drew) ?_ ?_
 ·
  intro j v W W' hj h hb
  obtain rfl | rfl | rfl | rfl : j = 0 ∨ j = 1 ∨ j = 2 ∨ j = 3 := by omega
  ·
   exact Veq.later (show Veq (.agg #[.bool X1, .slice X2 X3 X4]) v W from h) hb
  ·
   exact Veq.later (show Veq (.int .i64 (c : Int)) v W from h) hb
  ·
   exact Veq.later (show Veq (.int .i64 ((grN 0 c : Nat) : Int)) v W from h) hb
  ·
   exact VN.later (show VN (((grN 0 c : Nat) : Int)) v W from h) hb
 ·
  intro j v W hj hm h
  cases hm
 ·
  intro i hl hi u W hJ hd
  obtain rfl | rfl | rfl | rfl : i = 0 ∨ i = 1 ∨ i = 2 ∨ i = 3 := by omega
  ·
   clear hd
   simp only [zzA, zzB]
   clear hl
   refine .inr ⟨rfl, fun K' hK => ?_⟩
   have HK := Lib.hid hK
   clear hK
   simp only [layS, Act.put, zzC, zzD, zzE, Nat.zero_add, Nat.reduceAdd]
   have x5 := hJ.p.cells.1
   have x6 := hJ.p.cells.2.1
   go_simp
   exact HK.out _ _ (.agg #[.bool X1, .slice X2 X3 X4]) (by simp [layS, updV, Act.put]) hJ (rfl) (Below.refl _ _) (fun h => absurd h (by decide))
  ·
   clear hd
   simp only [zzA, zzB]
   clear hl
   refine .inr ⟨rfl, fun K' hK => ?_⟩
   have HK := Lib.hid hK
   clear hK
   simp only [layS, Act.put, zzC, zzD, zzE, Nat.zero_add, Nat.reduceAdd]
   go_simp
   exact HK.out _ _ (.int .i64 (c : Int)) (by simp [layS, updV, Act.put]) hJ (rfl) (Below.refl _ _) (fun h => absurd h (by decide))
  ·
   have e1 : u 1 = .int .i64 (c : Int) := hd 1 (by decide) (by kernel_rfl)
   clear hd
   simp only [zzA, zzB]
   clear hl
   refine .inr ⟨rfl, fun K' hK => ?_⟩
   have HK := Lib.hid hK
   clear hK
   simp only [layS, Act.put, zzC, zzD, zzE, Nat.zero_add, Nat.reduceAdd, e1]
   have E1 := Lib.hid e1
   clear e1
   go_simp
   refine ((show Calls Tryz.prog 94 #[.int .i64 0, .int .i64 (c : Int)] W (PVal (.int .i64 (grN 0 c : Nat)) W) by have := grown_any 0 c W (by omega) hc; rwa [Nat.zero_add] at this)).mono ?_
   rintro e W' ⟨rfl, hB⟩
   exact HK.out _ _ (.int .i64 ((grN 0 c : Nat) : Int)) (by simp [layS, updV, Act.put, E1.out]) (hJ.later hB) (rfl) hB (fun h => absurd h (by decide))
  ·
   have e2 : u 2 = .int .i64 ((grN 0 c : Nat) : Int) := hd 2 (by decide) (by kernel_rfl)
   clear hd
   simp only [zzA, zzB]
   clear hl
   refine .inr ⟨rfl, fun K' hK => ?_⟩
   have HK := Lib.hid hK
   clear hK
   simp only [layS, Act.put, zzC, zzD, zzE, Nat.zero_add, Nat.reduceAdd, e2]
   have E2 := Lib.hid e2
   clear e2
   go_simp
   refine (Of_any ((grN 0 c : Nat) : Int) W (by omega) (by have := HG.out; omega)).mono ?_
   rintro e W' ⟨y1, y2, y3, y4, rfl, hy, _, hB⟩
   exact HK.out _ _ (.agg #[.bool y1, .slice y2 y3 y4]) (by simp [layS, updV, Act.put, E2.out]) (hJ.later hB) (⟨y1, y2, y3, y4, rfl, hy⟩) hB (fun h => absurd h (by decide))
 intro u W hJ hd hne
 have e0 : u 0 = .agg #[.bool X1, .slice X2 X3 X4] := hd 0 (by decide)
 have e1 : u 1 = .int .i64 (c : Int) := hd 1 (by decide)
 have e2 : u 2 = .int .i64 ((grN 0 c : Nat) : Int) := hd 2 (by decide)
 obtain ⟨b3, a3, n3, c3, e3, g3⟩ := (show VN (((grN 0 c : Nat) : Int)) (u 3) W from hd 3 (by decide))
 simp only [layS, Act.put, zzC, zzD, zzE, Nat.zero_add, Nat.reduceAdd, List.drop_succ_cons, List.drop_zero, e0, e1, e2, e3]
 have hV2 := (hJ.putT hJ.p.num).putU (g3.store hJ.t.bx (.bool X1) (.slice X2 X3 X4))
 have t5 := hJ.t.cells.1
 have t6 := hJ.t.cells.2.1
 have t7 := hJ.t.cells.2.2.1
 have t8 := hJ.t.cells.2.2.2
 have u5 := hJ.u.cells.1
 have u6 := hJ.u.cells.2.1
 have u7 := hJ.u.cells.2.2.1
 have u8 := hJ.u.cells.2.2.2
 clear e0 e1 e2 e3 hd hne
 go_wp2
 clear t5 t6 t7 t8 u5 u6 u7 u8
 have hS := hV2.ks
 clear hV2 hJ hV g3
 generalize (((W.setCell ⟨w.heap.size, 0, none⟩ (.bool X1)).setCell ⟨w.heap.size, 1, none⟩ (.slice X2 X3 X4)).setCell ⟨w.heap.size + 1, 0, none⟩ (.bool b3)).setCell ⟨w.heap.size + 1, 1, none⟩ (.slice a3 n3 c3) = w4 at *
 clear W u
 go_loopw [19] (fun iv wr => ∃ k : Nat, k ≤ t ∧ iv = .int .i64 k ∧ KS w wr k8 ((-n) ^ k) (tV c n k) (uN c k : Nat)) (fun iv _ => t - (intOf iv).toNat)
 case atStart => exact ⟨0, Nat.zero_le _, rfl, by rw [Int.pow_zero]; exact hS⟩
 case round =>
  clear hS
  obtain ⟨k, hk, rfl, hS⟩ := hrel
  by_cases hlt : k < t
  ·
   have HGr : Hid (∀ W : World, Calls Tryz.prog 94 #[.int .i64 ((c : Int) + 2 * (k : Int)), .int .i64 ((c : Int) + 2 * (k : Int) + 2)] W (PVal (.int .i64 (grN (c + 2 * k) 2 : Nat)) W)) := show ∀ W : World, _ from fun W => by
    have := grown_any (c + 2 * k) 2 W (by omega) (by omega)
    simpa using this
   have hG := gr2_le (a := c + 2 * k) (by omega)
   have HTk : Hid (tV c n (k + 1) = tV c n k * (1048576 * ((grN (c + 2 * k) 2 : Nat) : Int)) + (-n) ^ k * -n) := by
    show tV c n k * ((1048576 * grN (c + 2 * k) 2 : Nat) : Int) + (-n) ^ (k + 1) = _
    rw [Int.pow_succ]
    simp
   have HUk : Hid (((uN c (k + 1) : Nat) : Int) = ((uN c k : Nat) : Int) * (1048576 * ((grN (c + 2 * k) 2 : Nat) : Int))) := by
    show ((uN c k * (1048576 * grN (c + 2 * k) 2) : Nat) : Int) = _
    simp
   have HPk : Hid ((-n) ^ (k + 1) = (-n) ^ k * -n) := Int.pow_succ ..
   have bP := HP.out k
   have bP' := HP.out (k + 1)
   have bT := HT.out k (by omega)
   have bU := HU.out k (by omega)
   have HB3 : Hid (((-n) ^ k).natAbs < BB ^ (k + 1) ∧ ((-n) ^ k * -n).natAbs < BB ^ (k + 1 + 1) ∧ (tV c n k).natAbs < BB ^ (k + 1) ∧ ((uN c k : Nat) : Int).natAbs < BB ^ (k + 1)) := show _ ∧ _ ∧ _ ∧ _ from ⟨bP, by rw [← HPk.out]; exact bP', bT, bU⟩
   have HTM : Hid ((tV c n k * (1048576 * ((grN (c + 2 * k) 2 : Nat) : Int))).natAbs < BB ^ (k + 1 + 1)) := by
    show _ < _
    rw [Int.natAbs_mul, Nat.pow_succ]
    exact Nat.mul_lt_mul_of_lt_of_le bT (Nat.le_trans (show (1048576 * ((grN (c + 2 * k) 2 : Nat) : Int)).natAbs ≤ 1048576000 by omega) (by decide)) (by decide)
   clear bP bP' bT bU HT HU HP HM HG
   generalize grN (c + 2 * k) 2 = G at *
   obtain ⟨pw, hpw⟩ : ∃ p, p = (-n) ^ k := ⟨_, rfl⟩
   obtain ⟨tv, htv⟩ : ∃ p, p = tV c n k := ⟨_, rfl⟩
   obtain ⟨uv, huv⟩ : ∃ p, p = ((uN c k : Nat) : Int) := ⟨_, rfl⟩
   rw [← hpw, ← htv, ← huv] at hS
   rw [← hpw] at HPk
   rw [← hpw, ← htv] at HTk
   rw [← huv] at HUk
   rw [← htv] at HTM
   rw [← hpw, ← htv, ← huv] at HB3
   clear hpw htv huv
   obtain ⟨X1, X2, X3, X4, T1, T2, T3, T4, U1, U2, U3, U4, hV⟩ := hS.kv
   have lX := len_bd hV.p.num HB3.out.1 (by omega)
   have lT := len_bd hV.t.num HB3.out.2.2.1 (by omega)
   have lU := len_bd hV.u.num HB3.out.2.2.2 (by omega)
   clear hS
   go_wp2_with fail
   refine (HGr.out _).mono ?_
   rintro e w5 ⟨rfl, hB⟩
   replace hV := hV.later hB
   clear hB HGr
   have hwr : IntKind.i64.wrap (1048576 * ((G : Nat) : Int)) = 1048576 * ((G : Nat) : Int) := IntWalk.i64_in _ (by omega)
   go_wp2_with fail
   refine (Of_any (1048576 * ((G : Nat) : Int)) _ (by omega) (by omega)).mono ?_
   rintro e w6 ⟨M1, M2, M3, M4, rfl, hM, _, hB⟩
   replace hV := hV.later hB
   have hk11 : k8 < w6.heap.size ∧ w.heap.size + 1 < w6.heap.size := ⟨hV.p.bx.lt, hV.u.bx.lt⟩
   replace hV := hV.later (below_nw _ (.cells #[.bool M1, .slice M2 M3 M4] 89))
   have hN := v4_new hM
   have lM := len_bd hN.num (k := 2) (show (1048576 * ((G : Nat) : Int)).natAbs < BB ^ 2 from Nat.lt_of_le_of_lt (show _ ≤ 1048576000 by omega) (by decide)) (by omega)
   clear hB hM hwr
   go_wp2
   generalize w6.alloc (.cells #[.bool M1, .slice M2 M3 M4] 89) = w7 at *
   generalize w6.heap.size = k11 at *
   generalize 1048576 * ((G : Nat) : Int) = m at *
   refine wp_region_rel 5 [some 32, some 33, some 34, some 35, some 36] (lstP [Veq (.agg #[.bool X1, .slice X2 X3 X4]), Veq (.int .i64 n), Veq (.int .i64 (-n)), VN (-n), VN (pw * -n)]) (fun W => KV w W k8 X1 X2 X3 X4 T1 T2 T3 T4 U1 U2 U3 U4 pw tv uv ∧ V4 W k11 M1 M2 M3 M4 m) [] (by kernel_rfl) (by kernel_rfl) ?_ ?_ (⟨hV.drew, hN.drew⟩) ?_ ?_
   ·
    intro j v W W' hj h hb
    obtain rfl | rfl | rfl | rfl | rfl : j = 0 ∨ j = 1 ∨ j = 2 ∨ j = 3 ∨ j = 4 := by omega
    ·
     exact Veq.later (show Veq (.agg #[.bool X1, .slice X2 X3 X4]) v W from h) hb
    ·
     exact Veq.later (show Veq (.int .i64 n) v W from h) hb
    ·
     exact Veq.later (show Veq (.int .i64 (-n)) v W from h) hb
    ·
     exact VN.later (show VN (-n) v W from h) hb
    ·
     exact VN.later (show VN (pw * -n) v W from h) hb
   ·
    intro j v W hj hm h
    cases hm
   ·
    intro i hl hi u W hJ hd
    obtain rfl | rfl | rfl | rfl | rfl : i = 0 ∨ i = 1 ∨ i = 2 ∨ i = 3 ∨ i = 4 := by omega
    ·
     clear hd
     simp only [zzA, zzB]
     clear hl
     refine .inr ⟨rfl, fun K' hK => ?_⟩
     have HK := Lib.hid hK
     clear hK
     simp only [layS, Act.put, zzC, zzD, zzE, Nat.zero_add, Nat.reduceAdd]
     have x5 := hJ.1.p.cells.1
     have x6 := hJ.1.p.cells.2.1
     go_simp
     exact HK.out _ _ (.agg #[.bool X1, .slice X2 X3 X4]) (by simp [layS, updV, Act.put]) hJ (rfl) (Below.refl _ _) (fun h => absurd h (by decide))
    ·
     clear hd
     simp only [zzA, zzB]
     clear hl
     refine .inr ⟨rfl, fun K' hK => ?_⟩
     have HK := Lib.hid hK
     clear hK
     simp only [layS, Act.put, zzC, zzD, zzE, Nat.zero_add, Nat.reduceAdd]
     go_simp
     exact HK.out _ _ (.int .i64 n) (by simp [layS, updV, Act.put]) hJ (rfl) (Below.refl _ _) (fun h => absurd h (by decide))
    ·
     have e1 : u 1 = .int .i64 n := hd 1 (by decide) (by kernel_rfl)
     clear hd
     simp only [zzA, zzB]
     clear hl
     refine .inr ⟨rfl, fun K' hK => ?_⟩
     have HK := Lib.hid hK
     clear hK
     simp only [layS, Act.put, zzC, zzD, zzE, Nat.zero_add, Nat.reduceAdd, e1]
     have E1 := Lib.hid e1
     clear e1
     have hw : IntKind.i64.wrap (-n) = -n := IntWalk.i64_in (-n) ⟨by omega, by omega⟩
     go_simp
     exact HK.out _ _ (.int .i64 (-n)) (by simp [layS, updV, Act.put, E1.out]) hJ (rfl) (Below.refl _ _) (fun h => absurd h (by decide))
    ·
     have e2 : u 2 = .int .i64 (-n) := hd 2 (by decide) (by kernel_rfl)
     clear hd
     simp only [zzA, zzB]
     clear hl
     refine .inr ⟨rfl, fun K' hK => ?_⟩
     have HK := Lib.hid hK
     clear hK
     simp only [layS, Act.put, zzC, zzD, zzE, Nat.zero_add, Nat.reduceAdd, e2]
     have E2 := Lib.hid e2
     clear e2
     go_simp
     refine (Of_any (-n) W (by omega) (by omega)).mono ?_
     rintro e W' ⟨y1, y2, y3, y4, rfl, hy, _, hB⟩
     exact HK.out _ _ (.agg #[.bool y1, .slice y2 y3 y4]) (by simp [layS, updV, Act.put, E2.out]) (⟨hJ.1.later hB, hJ.2.later hB⟩) (⟨y1, y2, y3, y4, rfl, hy⟩) hB (fun h => absurd h (by decide))
    ·
     have e0 : u 0 = .agg #[.bool X1, .slice X2 X3 X4] := hd 0 (by decide) (by kernel_rfl)
     obtain ⟨b3, a3, n3, c3, e3, g3⟩ := (show VN (-n) (u 3) W from hd 3 (by decide) (by kernel_rfl))
     clear hd
     simp only [zzA, zzB]
     clear hl
     refine .inr ⟨rfl, fun K' hK => ?_⟩
     have HK := Lib.hid hK
     clear hK
     simp only [layS, Act.put, zzC, zzD, zzE, Nat.zero_add, Nat.reduceAdd, e0, e3]
     have E0 := Lib.hid e0
     have E3 := Lib.hid e3
     clear e0 e3
     go_simp
     refine (Mul_any X1 X2 X3 X4 pw b3 a3 n3 c3 (-n) W hJ.1.p.num g3 (by omega) (by have := len_bd g3 (k := 2) (show (-n).natAbs < BB ^ 2 from Nat.lt_of_le_of_lt (show _ ≤ 4194304 by omega) (by decide)) (by omega); omega)).mono ?_
     rintro e W' ⟨y1, y2, y3, y4, rfl, hy, _, hB⟩
     exact HK.out _ _ (.agg #[.bool y1, .slice y2 y3 y4]) (by simp [layS, updV, Act.put, E0.out, E3.out]) (⟨hJ.1.later hB, hJ.2.later hB⟩) (⟨y1, y2, y3, y4, rfl, hy⟩) hB (fun h => absurd h (by decide))
   intro u W hJ hd hne
   have e0 : u 0 = .agg #[.bool X1, .slice X2 X3 X4] := hd 0 (by decide)
   have e1 : u 1 = .int .i64 n := hd 1 (by decide)
   have e2 : u 2 = .int .i64 (-n) := hd 2 (by decide)
   obtain ⟨b3, a3, n3, c3, e3, g3⟩ := (show VN (-n) (u 3) W from hd 3 (by decide))
   obtain ⟨b4, a4, n4, c4, e4, g4⟩ := (show VN (pw * -n) (u 4) W from hd 4 (by decide))
   simp only [layS, Act.put, zzC, zzD, zzE, Nat.zero_add, Nat.reduceAdd, List.drop_succ_cons, List.drop_zero, e0, e1, e2, e3, e4]

   have hV2 := hJ.1.putP g4
   have hN2 := hJ.2.far hJ.1.p (by omega) (.bool b4) (.slice a4 n4 c4)
   have lP := len_bd g4 HB3.out.2.1 (by omega)
   have x5 := hJ.1.p.cells.1
   have x6 := hJ.1.p.cells.2.1
   have x7 := hJ.1.p.cells.2.2.1
   have x8 := hJ.1.p.cells.2.2.2

   clear e0 e1 e2 e3 e4 hd hne g3 g4
   go_wp2
   clear x5 x6 x7 x8
   clear hJ hV hN
   generalize (W.setCell ⟨k8, 0, none⟩ (.bool b4)).setCell ⟨k8, 1, none⟩ (.slice a4 n4 c4) = w8 at *
   clear W u
   have HP2 : Hid (∀ (b : Bool) (a : Option Addr) (n5 c5 : Nat) (W : World), Num W b a n5 c5 (tv * m) → n5 ≤ 40) := show ∀ (b : Bool) (a : Option Addr) (n5 c5 : Nat) (W : World), Num W b a n5 c5 (tv * m) → n5 ≤ 40 from fun b a n5 c5 W h => len_bd h HTM.out (by omega)
   generalize hpn : pw * -n = pn at *
   refine wp_region_rel 5 [some 37, some 38, some 39, some 40, some 41] (lstP [Veq (.agg #[.bool T1, .slice T2 T3 T4]), Veq (.agg #[.bool M1, .slice M2 M3 M4]), VN (tv * m), Veq (.agg #[.bool b4, .slice a4 n4 c4]), VN (tv * m + pn)]) (fun W => KV w W k8 b4 a4 n4 c4 T1 T2 T3 T4 U1 U2 U3 U4 pn tv uv ∧ V4 W k11 M1 M2 M3 M4 m) [] (by kernel_rfl) (by kernel_rfl) ?_ ?_ (⟨hV2.drew, hN2.drew⟩) ?_ ?_
   ·
    intro j v W W' hj h hb
    obtain rfl | rfl | rfl | rfl | rfl : j = 0 ∨ j = 1 ∨ j = 2 ∨ j = 3 ∨ j = 4 := by omega
    ·
     exact Veq.later (show Veq (.agg #[.bool T1, .slice T2 T3 T4]) v W from h) hb
    ·
     exact Veq.later (show Veq (.agg #[.bool M1, .slice M2 M3 M4]) v W from h) hb
    ·
     exact VN.later (show VN (tv * m) v W from h) hb
    ·
     exact Veq.later (show Veq (.agg #[.bool b4, .slice a4 n4 c4]) v W from h) hb
    ·
     exact VN.later (show VN (tv * m + pn) v W from h) hb
   ·
    intro j v W hj hm h
    cases hm
   ·
    intro i hl hi u W hJ hd
    obtain rfl | rfl | rfl | rfl | rfl : i = 0 ∨ i = 1 ∨ i = 2 ∨ i = 3 ∨ i = 4 := by omega
    ·
     clear hd
     simp only [zzA, zzB]
     clear hl
     refine .inr ⟨rfl, fun K' hK => ?_⟩
     have HK := Lib.hid hK
     clear hK
     simp only [layS, Act.put, zzC, zzD, zzE, Nat.zero_add, Nat.reduceAdd]
     have t5 := hJ.1.t.cells.1
     have t6 := hJ.1.t.cells.2.1
     go_simp
     exact HK.out _ _ (.agg #[.bool T1, .slice T2 T3 T4]) (by simp [layS, updV, Act.put]) hJ (rfl) (Below.refl _ _) (fun h => absurd h (by decide))
    ·
     clear hd
     simp only [zzA, zzB]
     clear hl
     refine .inr ⟨rfl, fun K' hK => ?_⟩
     have HK := Lib.hid hK
     clear hK
     simp only [layS, Act.put, zzC, zzD, zzE, Nat.zero_add, Nat.reduceAdd]
     have m5 := hJ.2.cells.1
     have m6 := hJ.2.cells.2.1
     go_simp
     exact HK.out _ _ (.agg #[.bool M1, .slice M2 M3 M4]) (by simp [layS, updV, Act.put]) hJ (rfl) (Below.refl _ _) (fun h => absurd h (by decide))
    ·
     have e0 : u 0 = .agg #[.bool T1, .slice T2 T3 T4] := hd 0 (by decide) (by kernel_rfl)
     have e1 : u 1 = .agg #[.bool M1, .slice M2 M3 M4] := hd 1 (by decide) (by kernel_rfl)
     clear hd
     simp only [zzA, zzB]
     clear hl
     refine .inr ⟨rfl, fun K' hK => ?_⟩
     have HK := Lib.hid hK
     clear hK
     simp only [layS, Act.put, zzC, zzD, zzE, Nat.zero_add, Nat.reduceAdd, e0, e1]
     have E0 := Lib.hid e0
     have E1 := Lib.hid e1
     clear e0 e1
     go_simp
     refine (Mul_any T1 T2 T3 T4 tv M1 M2 M3 M4 m W hJ.1.t.num hJ.2.num (by omega) (by omega)).mono ?_
     rintro e W' ⟨y1, y2, y3, y4, rfl, hy, _, hB⟩
     exact HK.out _ _ (.agg #[.bool y1, .slice y2 y3 y4]) (by simp [layS, updV, Act.put, E0.out, E1.out]) (⟨hJ.1.later hB, hJ.2.later hB⟩) (⟨y1, y2, y3, y4, rfl, hy⟩) hB (fun h => absurd h (by decide))
    ·
     clear hd
     simp only [zzA, zzB]
     clear hl
     refine .inr ⟨rfl, fun K' hK => ?_⟩
     have HK := Lib.hid hK
     clear hK
     simp only [layS, Act.put, zzC, zzD, zzE, Nat.zero_add, Nat.reduceAdd]
     have x5 := hJ.1.p.cells.1
     have x6 := hJ.1.p.cells.2.1
     go_simp
     exact HK.out _ _ (.agg #[.bool b4, .slice a4 n4 c4]) (by simp [layS, updV, Act.put]) hJ (rfl) (Below.refl _ _) (fun h => absurd h (by decide))
    ·
     obtain ⟨b2, a2, n2, c2, e2, g2⟩ := (show VN (tv * m) (u 2) W from hd 2 (by decide) (by kernel_rfl))
     have e3 : u 3 = .agg #[.bool b4, .slice a4 n4 c4] := hd 3 (by decide) (by kernel_rfl)
     clear hd
     simp only [zzA, zzB]
     clear hl
     refine .inr ⟨rfl, fun K' hK => ?_⟩
     have HK := Lib.hid hK
     clear hK
     simp only [layS, Act.put, zzC, zzD, zzE, Nat.zero_add, Nat.reduceAdd, e2, e3]
     have E2 := Lib.hid e2
     have E3 := Lib.hid e3
     clear e2 e3
     go_simp
     refine (Add_any b2 a2 n2 c2 (tv * m) b4 a4 n4 c4 pn W g2 hJ.1.p.num (by have := HP2.out _ _ _ _ _ g2; omega) (by omega)).mono ?_
     rintro e W' ⟨y1, y2, y3, y4, rfl, hy, _, hB⟩
     exact HK.out _ _ (.agg #[.bool y1, .slice y2 y3 y4]) (by simp [layS, updV, Act.put, E2.out, E3.out]) (⟨hJ.1.later hB, hJ.2.later hB⟩) (⟨y1, y2, y3, y4, rfl, hy⟩) hB (fun h => absurd h (by decide))
   intro u W hJ hd hne
   have e0 : u 0 = .agg #[.bool T1, .slice T2 T3 T4] := hd 0 (by decide)
   have e1 : u 1 = .agg #[.bool M1, .slice M2 M3 M4] := hd 1 (by decide)
   obtain ⟨b2, a2, n2, c2, e2, g2⟩ := (show VN (tv * m) (u 2) W from hd 2 (by decide))
   have e3 : u 3 = .agg #[.bool b4, .slice a4 n4 c4] := hd 3 (by decide)
   obtain ⟨r1, r2, r3, r4, e4, g4⟩ := (show VN (tv * m + pn) (u 4) W from hd 4 (by decide))
   simp only [layS, Act.put, zzC, zzD, zzE, Nat.zero_add, Nat.reduceAdd, List.drop_succ_cons, List.drop_zero, e0, e1, e2, e3, e4]

   have hV3 := hJ.1.putT g4
   have hN3 := hJ.2.far hJ.1.t (by omega) (.bool r1) (.slice r2 r3 r4)
   have t5 := hJ.1.t.cells.1
   have t6 := hJ.1.t.cells.2.1
   have t7 := hJ.1.t.cells.2.2.1
   have t8 := hJ.1.t.cells.2.2.2

   clear e0 e1 e2 e3 e4 hd hne g2 g4
   clear hJ hV2 hN2
   have u5 := hV3.u.cells.1
   have u6 := hV3.u.cells.2.1
   have u7 := hV3.u.cells.2.2.1
   have u8 := hV3.u.cells.2.2.2
   have m5 := hN3.cells.1
   have m6 := hN3.cells.2.1
   have m7 := hN3.cells.2.2.1
   have m8 := hN3.cells.2.2.2

   go_wp2_with fail
   clear t5 t6 t7 t8
   generalize (W.setCell ⟨w.heap.size, 0, none⟩ (.bool r1)).setCell ⟨w.heap.size, 1, none⟩ (.slice r2 r3 r4) = w9 at *
   refine (Mul_any U1 U2 U3 U4 uv M1 M2 M3 M4 m _ hV3.u.num hN3.num (by omega) (by omega)).mono ?_
   rintro e w10 ⟨s1, s2, s3, s4, rfl, hs, _, hB⟩
   clear u5 u6 u7 u8 m5 m6 m7 m8 hN3
   have hV4 := (hV3.later hB).putU hs
   replace hV3 := hV3.later hB
   have u5 := hV3.u.cells.1
   have u6 := hV3.u.cells.2.1
   have u7 := hV3.u.cells.2.2.1
   have u8 := hV3.u.cells.2.2.2

   go_wp2
   go_roundw
   case rel => exact ⟨k + 1, by omega, by go_num, by rw [HPk.out, HTk.out, HUk.out]; exact hV4.ks⟩
   case measure => simp [intOf]; omega
  ·
   have e : k = t := by omega
   subst e
   have HTk := Lib.hid (HT.out k ht)
   clear HT HU HP HM HG
   generalize tV c n k = tv at *
   generalize (uN c k : Int) = uv at *
   generalize (-n) ^ k = pw at *
   obtain ⟨X1, X2, X3, X4, T1, T2, T3, T4, U1, U2, U3, U4, hV⟩ := hS.kv
   have lT := len_bd hV.t.num HTk.out (by omega)
   clear hS
   go_wp2
   refine wp_region_st 5 [some 46, some 47, some 48, some 49, none] (lstP [Veq (.agg #[.bool T1, .slice T2 T3 T4]), VN (1048576), VN (tv * 1048576), Veq (.agg #[.bool U1, .slice U2 U3 U4]), Vt]) (JS w T1 T2 T3 T4 tv U1 U2 U3 U4 uv) (by kernel_rfl) (by kernel_rfl) ?_ (fun u => JS.start hV u) ?_ ?_
   ·
    intro j v W W' hj h hb
    obtain rfl | rfl | rfl | rfl | rfl : j = 0 ∨ j = 1 ∨ j = 2 ∨ j = 3 ∨ j = 4 := by omega
    ·
     exact Veq.later (show Veq (.agg #[.bool T1, .slice T2 T3 T4]) v W from h) hb
    ·
     exact VN.later (show VN (1048576) v W from h) hb
    ·
     exact VN.later (show VN (tv * 1048576) v W from h) hb
    ·
     exact Veq.later (show Veq (.agg #[.bool U1, .slice U2 U3 U4]) v W from h) hb
    ·
     exact Vt.later (show Vt v W from h) hb
   ·
    intro i hl hi L u W hLi hJ hd
    obtain rfl | rfl | rfl | rfl | rfl : i = 0 ∨ i = 1 ∨ i = 2 ∨ i = 3 ∨ i = 4 := by omega
    ·
     clear hd
     simp only [zzA, zzB]
     clear hl
     refine ⟨rfl, fun K' hK => ?_⟩
     have HK := Lib.hid hK
     clear hK
     simp only [layS, Act.put, zzC, zzD, zzE, Nat.zero_add, Nat.reduceAdd]
     have t5 := (hJ.t (JS.no hLi hJ (by decide))).cells.1
     have t6 := (hJ.t (JS.no hLi hJ (by decide))).cells.2.1
     go_simp
     have hB := Below.refl W.heap.size W
     exact HK.out _ _ (.agg #[.bool T1, .slice T2 T3 T4]) (by simp [layS, updV, Act.put]) (hJ.step (by decide) hLi hB) (rfl) (.inl hB)
    ·
     clear hd
     simp only [zzA, zzB]
     clear hl
     refine ⟨rfl, fun K' hK => ?_⟩
     have HK := Lib.hid hK
     clear hK
     simp only [layS, Act.put, zzC, zzD, zzE, Nat.zero_add, Nat.reduceAdd]
     go_simp
     refine (Of_any 1048576 W (by decide) (by decide)).mono ?_
     rintro e W' ⟨y1, y2, y3, y4, rfl, hy, _, hB⟩
     exact HK.out _ _ (.agg #[.bool y1, .slice y2 y3 y4]) (by simp [layS, updV, Act.put]) (hJ.step (by decide) hLi hB) (⟨y1, y2, y3, y4, rfl, hy⟩) (.inl hB)
    ·
     have e0 : u 0 = .agg #[.bool T1, .slice T2 T3 T4] := (hd 0 (by decide) (by kernel_rfl)).2
     obtain ⟨b1, a1, n1, c1, e1, g1⟩ := (show VN (1048576) (u 1) W from (hd 1 (by decide) (by kernel_rfl)).2)
     clear hd
     simp only [zzA, zzB]
     clear hl
     refine ⟨rfl, fun K' hK => ?_⟩
     have HK := Lib.hid hK
     clear hK
     simp only [layS, Act.put, zzC, zzD, zzE, Nat.zero_add, Nat.reduceAdd, e0, e1]
     have E0 := Lib.hid e0
     have E1 := Lib.hid e1
     clear e0 e1
     go_simp
     refine (Mul_any T1 T2 T3 T4 tv b1 a1 n1 c1 1048576 W (hJ.t (JS.no hLi hJ (by decide))).num g1 (by omega) (by have := len_bd g1 (k := 2) (by decide) (by omega); omega)).mono ?_
     rintro e W' ⟨y1, y2, y3, y4, rfl, hy, _, hB⟩
     exact HK.out _ _ (.agg #[.bool y1, .slice y2 y3 y4]) (by simp [layS, updV, Act.put, E0.out, E1.out]) (hJ.step (by decide) hLi hB) (⟨y1, y2, y3, y4, rfl, hy⟩) (.inl hB)
    ·
     clear hd
     simp only [zzA, zzB]
     clear hl
     refine ⟨rfl, fun K' hK => ?_⟩
     have HK := Lib.hid hK
     clear hK
     simp only [layS, Act.put, zzC, zzD, zzE, Nat.zero_add, Nat.reduceAdd]
     have u5 := hJ.un.cells.1
     have u6 := hJ.un.cells.2.1
     go_simp
     have hB := Below.refl W.heap.size W
     exact HK.out _ _ (.agg #[.bool U1, .slice U2 U3 U4]) (by simp [layS, updV, Act.put]) (hJ.step (by decide) hLi hB) (rfl) (.inl hB)
    ·
     obtain ⟨b2, a2, n2, c2, e2, g2⟩ := (show VN (tv * 1048576) (u 2) W from (hd 2 (by decide) (by kernel_rfl)).2)
     have hL2 := (⟨(hd 0 (by decide) (by kernel_rfl)).1, (hd 1 (by decide) (by kernel_rfl)).1, (hd 2 (by decide) (by kernel_rfl)).1⟩ : L 0 = true ∧ L 1 = true ∧ L 2 = true)
     clear hd
     simp only [zzA, zzB]
     clear hl
     refine ⟨rfl, fun K' hK => ?_⟩
     have HK := Lib.hid hK
     clear hK
     simp only [layS, Act.put, zzC, zzD, zzE, Nat.zero_add, Nat.reduceAdd, e2]
     have E2 := Lib.hid e2
     clear e2
     have t5 := (hJ.t hLi).cells.1
     have t6 := (hJ.t hLi).cells.2.1
     have t7 := (hJ.t hLi).cells.2.2.1
     have t8 := (hJ.t hLi).cells.2.2.2
     go_simp
     exact HK.out _ _ (undef) (by simp [layS, updV, Act.put, E2.out]) ((hJ.put hLi hL2 E2.out g2)) (trivial) (.inr (JS_keep (hJ.t hLi).bx))
   intro L u W hL hJ hd
   have e0 : u 0 = .agg #[.bool T1, .slice T2 T3 T4] := (hd 0 (by decide))
   obtain ⟨b1, a1, n1, c1, e1, g1⟩ := (show VN (1048576) (u 1) W from (hd 1 (by decide)))
   obtain ⟨b2, a2, n2, c2, e2, g2⟩ := (show VN (tv * 1048576) (u 2) W from (hd 2 (by decide)))
   have e3 : u 3 = .agg #[.bool U1, .slice U2 U3 U4] := (hd 3 (by decide))
   simp only [layS, Act.put, zzC, zzD, zzE, Nat.zero_add, Nat.reduceAdd, List.drop_succ_cons, List.drop_zero, e0, e1, e2, e3]

   have hT := hJ.d (hL 4 (by decide)) e2
   have hU := hJ.un
   have hb := hJ.below
   have hU2 := hU.num.store hU.bx (.bool U1) (.slice U2 U3 U4)
   have hT2 := hT.num.store hU.bx (.bool U1) (.slice U2 U3 U4)
   have hb2 := below_put hb (k := w.heap.size + 1) (by omega) (.bool U1) (.slice U2 U3 U4)
   have t5 := hT.cells.1
   have t6 := hT.cells.2.1
   have t7 := hT.cells.2.2.1
   have t8 := hT.cells.2.2.2
   have u5 := hU.cells.1
   have u6 := hU.cells.2.1
   have u7 := hU.cells.2.2.1
   have u8 := hU.cells.2.2.2

   clear e0 e1 e2 e3 hd g1 g2 hJ hV hT hU hL
   go_wp2
   refine bodyPost_ret (v := .tuple #[.agg #[.bool b2, .slice a2 n2 c2], .agg #[.bool U1, .slice U2 U3 U4]]) (by simp [results, Tryz.results81, go_sem, t5, t6, u5, u6]) rfl ?_
   exact ⟨_, _, _, _, _, _, _, _, rfl, hT2, hU2, hb2⟩
theorem quo_div {x y q r : Int} (h : IsQuo x y q r) (hy : 0 < y) : q = x / y := by
 have e : flo x y = q := flo_of (by rw [Int.mul_comm]; exact h.1.symm) h.2.1 h.2.2 (by omega)
 rw [← e]
 unfold flo
 rw [if_pos hy]
set_option maxHeartbeats 1600000 in
theorem down_any (b : Bool) (a : Option Addr) (n c : Nat) (x : Int) (b' : Bool) (a' : Option Addr) (n' c' : Nat) (y : Int) (w : World) (h : Num w b a n c x) (h' : Num w b' a' n' c' y) (hn : n ≤ 1000) (hn' : n' ≤ 1000) (hy : 0 < y) (h1 : -9223372036854775808 ≤ x / y) (h2 : x / y ≤ 9223372036854775807) :
  Calls Tryz.prog 82 #[.agg #[.bool b, .slice a n c], .agg #[.bool b', .slice a' n' c']] w (PVal (.int .i64 (x / y)) w) := by
 have HQ := Lib.hid (fun (q r : Int) (h : IsQuo x y q r) => quo_div h hy)
 have HS : Hid (smallV (x / y) = x / y) := by unfold smallV; exact if_pos ⟨h1, h2⟩
 have HF : Hid ((x / y).natAbs < BB ^ 2) := Nat.lt_of_le_of_lt (show _ ≤ 9223372036854775808 by omega) (by decide)
 clear h1 h2
 generalize x / y = Q at *
 have hv := (v4_new h).later (below_nw _ (.cells #[.bool b', .slice a' n' c'] 89))
 have hv' := v4_new (h'.below (below_nw _ (.cells #[.bool b, .slice a n c] 89)))
 rw [show (w.alloc (.cells #[.bool b, .slice a n c] 89)).heap.size = w.heap.size + 1 by simp] at hv'
 have hb0 : Below w.heap.size w ((w.alloc (.cells #[.bool b, .slice a n c] 89)).alloc (.cells #[.bool b', .slice a' n' c'] 89)) := ((Below.refl _ _).alloc (Nat.le_refl _) _).alloc (by simp) _
 go_enter Tryz.func82, Tryz.ntmps82
 go_wp2_with fail
 generalize (w.alloc (.cells #[.bool b, .slice a n c] 89)).alloc (.cells #[.bool b', .slice a' n' c'] 89) = w1 at *
 refine (Quo_any b a n c x b' a' n' c' y _ hv.num hv'.num (by omega) (by omega) (by omega)).mono ?_
 rintro e w2 ⟨q, r, hq, q1, q2, q3, q4, r1, r2, r3, r4, rfl, hQ, hR, _, _, hB⟩
 have e := HQ.out q r hq
 subst e
 have hV := (v4_new hQ).later (below_nw _ (.cells #[.bool r1, .slice r2 r3 r4] 89))
 have lQ := len_bd hQ HF.out (by omega)
 have hb1 : Below w.heap.size w ((w2.alloc (.cells #[.bool q1, .slice q2 q3 q4] 89)).alloc (.cells #[.bool r1, .slice r2 r3 r4] 89)) := (((hb0.trans (hB.mono hb0.size)).alloc (Nat.le_trans hb0.size hB.size) _).alloc (Nat.le_trans (Nat.le_trans hb0.size hB.size) (by simp)) _)
 clear hq hQ hR hB hb0 hv hv' HQ
 go_wp2_with fail
 generalize (w2.alloc (.cells #[.bool q1, .slice q2 q3 q4] 89)).alloc (.cells #[.bool r1, .slice r2 r3 r4] 89) = w3 at *
 generalize w2.heap.size = k at *
 refine (Small_any q1 q2 q3 q4 q _ hV.num (by omega)).mono ?_
 rintro e w4 ⟨rfl, hB⟩
 rw [HS.out]
 clear HS HF
 go_wp2
 go_ret
 exact ⟨rfl, hb1.trans (hB.mono hb1.size)⟩
end Go.Proofs.YtolpfibihialkaaGreat
