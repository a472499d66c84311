/- Parts of the proof. -/
import Derived.Test.YtdochhhepmlapaaGb12
import Derived.Test.YtdochhhepmlapaaGb8
import Derived.Test.YtdochhhepmlapaaGb3
import Derived.Test.YtdochhhepmlapaaGb15
/- Sines and cosines: the walks of grown, sum, down. No statement of the seat is proved here. -/
namespace Go.Proofs.Ytdochhhepmlapaa
open Go.RowKit
/-- A value is a number of package long. -/
def VN (z : Int) (v : Value) (W : World) : Prop := ∃ (b : Bool) (a : Option Addr) (n c : Nat), v = .agg #[.bool b, .slice a n c] ∧ Num W b a n c z
theorem VN.later {z : Int} {v : Value} {W W' : World} (h : VN z v W) (hb : Below W.heap.size W W') : VN z v W' := by
 obtain ⟨b, a, n, c, e, hn⟩ := h
 exact ⟨b, a, n, c, e, hn.below hb⟩
/-- A variable holds a number. -/
structure V4 (W : World) (k : Nat) (b : Bool) (a : Option Addr) (n c : Nat) (z : Int) : Prop where
 bx : Bx W 112 k (.bool b) (.slice a n c)
 num : Num W b a n c z
theorem V4.later {W W' : World} {k : Nat} {b : Bool} {a : Option Addr} {n c : Nat} {z : Int} (h : V4 W k b a n c z) (hb : Below W.heap.size W W') : V4 W' k b a n c z := ⟨h.bx.below hb, h.num.below hb⟩
theorem V4.drew {W : World} {k : Nat} {b : Bool} {a : Option Addr} {n c : Nat} {z : Int} (h : V4 W k b a n c z) : V4 W.drew k b a n c z := h.later (Below.refl _ _).drew
theorem V4.put {W : World} {k : Nat} {b : Bool} {a : Option Addr} {n c : Nat} {z : Int} (h : V4 W k b a n c z) {b' : Bool} {a' : Option Addr} {n' c' : Nat} {z' : Int} (hz : Num W b' a' n' c' z') : V4 ((W.setCell ⟨k, 0, none⟩ (.bool b')).setCell ⟨k, 1, none⟩ (.slice a' n' c')) k b' a' n' c' z' := ⟨h.bx.self _ _, hz.store h.bx _ _⟩
theorem V4.far {W : World} {k j : Nat} {b : Bool} {a : Option Addr} {n c : Nat} {z : Int} (h : V4 W k b a n c z) {b' : Bool} {a' : Option Addr} {n' c' : Nat} {z' : Int} (hj : V4 W j b' a' n' c' z') (hne : k ≠ j) (u v : Value) : V4 ((W.setCell ⟨j, 0, none⟩ u).setCell ⟨j, 1, none⟩ v) k b a n c z := ⟨h.bx.other hne _ _, h.num.store hj.bx _ _⟩
/-- The variables of sum: power, top, under. -/
structure KS (w W : World) (k : Nat) (x y z : Int) : Prop where
 below : Below w.heap.size w W
 ge : w.heap.size + 2 ≤ k
 p : ∃ b a n c, V4 W k b a n c x
 t : ∃ b a n c, V4 W w.heap.size b a n c y
 u : ∃ b a n c, V4 W (w.heap.size + 1) b a n c z
theorem KS.later {w W W' : World} {k : Nat} {x y z : Int} (h : KS w W k x y z) (hb : Below W.heap.size W W') : KS w W' k x y z := by
 obtain ⟨h1, h2, ⟨b, a, n, c, h3⟩, ⟨b', a', n', c', h4⟩, ⟨b2, a2, n2, c2, h5⟩⟩ := h
 exact ⟨h1.trans (hb.mono h1.size), h2, ⟨b, a, n, c, h3.later hb⟩, ⟨b', a', n', c', h4.later hb⟩, ⟨b2, a2, n2, c2, h5.later hb⟩⟩
theorem V4.cells {W : World} {k : Nat} {b : Bool} {a : Option Addr} {n c : Nat} {z : Int} (h : V4 W k b a n c z) : W.cell? ⟨k, 0, none⟩ = some (.bool b) ∧ W.cell? ⟨k, 1, none⟩ = some (.slice a n c) ∧ W.frozen? ⟨k, 0, none⟩ = false ∧ W.frozen? ⟨k, 1, none⟩ = false := h.bx.cells
theorem below_put {w W : World} (h : Below w.heap.size w W) {k : Nat} (hk : w.heap.size ≤ k) (u v : Value) : Below w.heap.size w ((W.setCell ⟨k, 0, none⟩ u).setCell ⟨k, 1, none⟩ v) := (h.setCell (p := ⟨k, 0, none⟩) hk _).setCell (p := ⟨k, 1, none⟩) hk _
/-- As KS, with the values. -/
structure KV (w W : World) (k : Nat) (X1 : Bool) (X2 : Option Addr) (X3 X4 : Nat) (T1 : Bool) (T2 : Option Addr) (T3 T4 : Nat) (U1 : Bool) (U2 : Option Addr) (U3 U4 : Nat) (x y z : Int) : Prop where
 below : Below w.heap.size w W
 ge : w.heap.size + 2 ≤ k
 p : V4 W k X1 X2 X3 X4 x
 t : V4 W w.heap.size T1 T2 T3 T4 y
 u : V4 W (w.heap.size + 1) U1 U2 U3 U4 z
section
variable {w W : World} {k8 : Nat} {X1 : Bool} {X2 : Option Addr} {X3 X4 : Nat} {T1 : Bool} {T2 : Option Addr} {T3 T4 : Nat} {U1 : Bool} {U2 : Option Addr} {U3 U4 : Nat} {x y z : Int}
theorem KV.ks (h : KV w W k8 X1 X2 X3 X4 T1 T2 T3 T4 U1 U2 U3 U4 x y z) : KS w W k8 x y z := ⟨h.below, h.ge, ⟨_, _, _, _, h.p⟩, ⟨_, _, _, _, h.t⟩, ⟨_, _, _, _, h.u⟩⟩
theorem KV.later {W' : World} (h : KV w W k8 X1 X2 X3 X4 T1 T2 T3 T4 U1 U2 U3 U4 x y z) (hb : Below W.heap.size W W') : KV w W' k8 X1 X2 X3 X4 T1 T2 T3 T4 U1 U2 U3 U4 x y z := ⟨h.below.trans (hb.mono h.below.size), h.ge, h.p.later hb, h.t.later hb, h.u.later hb⟩
theorem KV.drew (h : KV w W k8 X1 X2 X3 X4 T1 T2 T3 T4 U1 U2 U3 U4 x y z) : KV w W.drew k8 X1 X2 X3 X4 T1 T2 T3 T4 U1 U2 U3 U4 x y z := h.later (Below.refl _ _).drew
end
/-- The last region of sum: what stands in top and under, by what is done (operation 4 stores top). -/
structure JS (w : World) (T1 : Bool) (T2 : Option Addr) (T3 T4 : Nat) (tv : Int) (U1 : Bool) (U2 : Option Addr) (U3 U4 : Nat) (uv : Int) (L : Nat → Bool) (u : Nat → Value) (W : World) : Prop where
 below : Below w.heap.size w W
 un : V4 W (w.heap.size + 1) U1 U2 U3 U4 uv
 t : L 4 = false → V4 W w.heap.size T1 T2 T3 T4 tv
 d2 : L 4 = true → L 0 = true ∧ L 1 = true ∧ L 2 = true ∧ ∃ b a n c, u 2 = .agg #[.bool b, .slice a n c] ∧ V4 W w.heap.size b a n c (tv * 1048576)
def Vt (_ : Value) (_ : World) : Prop := True
theorem Vt.later {v : Value} {W W' : World} (h : Vt v W) (_ : Below W.heap.size W W') : Vt v W' := h
section
variable {w W : World} {T1 : Bool} {T2 : Option Addr} {T3 T4 : Nat} {U1 : Bool} {U2 : Option Addr} {U3 U4 : Nat} {tv uv : Int} {L : Nat → Bool} {u : Nat → Value}
theorem JS.start {k8 : Nat} {X1 : Bool} {X2 : Option Addr} {X3 X4 : Nat} {x : Int} (h : KV w W k8 X1 X2 X3 X4 T1 T2 T3 T4 U1 U2 U3 U4 x tv uv) (u : Nat → Value) : JS w T1 T2 T3 T4 tv U1 U2 U3 U4 uv (fun _ => false) u W.drew := ⟨h.drew.below, h.drew.u, fun _ => h.drew.t, nofun⟩
theorem JS.no {i : Nat} (hi : L i = false) (h : JS w T1 T2 T3 T4 tv U1 U2 U3 U4 uv L u W) (hi3 : i < 3) : L 4 = false := by
 cases e : L 4
 ·
  rfl
 ·
  obtain ⟨h0, h1, h2, _⟩ := h.d2 e
  obtain rfl | rfl | rfl : i = 0 ∨ i = 1 ∨ i = 2 := by omega
  ·
   rw [h0] at hi; cases hi
  ·
   rw [h1] at hi; cases hi
  ·
   rw [h2] at hi; cases hi
theorem JS.step {W' : World} {i : Nat} {v : Value} (h : JS w T1 T2 T3 T4 tv U1 U2 U3 U4 uv L u W) (hi : i < 4) (hLi : L i = false) (hB : Below W.heap.size W W') : JS w T1 T2 T3 T4 tv U1 U2 U3 U4 uv (upd L i) (updV u i v) W' := by
 have e4 : upd L i 4 = L 4 := upd_ne (by omega)
 refine ⟨h.below.trans (hB.mono h.below.size), h.un.later hB, fun h4 => (h.t (e4 ▸ h4)).later hB, fun h4 => ?_⟩
 obtain ⟨h0, h1, h2, b, a, n, c, he, hv⟩ := h.d2 (e4 ▸ h4)
 have f : ∀ j, L j = true → upd L i j = true := fun j hj => by
  unfold upd
  split
  ·
   rfl
  ·
   exact hj
 refine ⟨f 0 h0, f 1 h1, f 2 h2, b, a, n, c, ?_, hv.later hB⟩
 unfold updV
 rw [if_neg (by intro e; subst e; rw [h2] at hLi; cases hLi)]
 exact he
theorem JS.put {b : Bool} {a : Option Addr} {n c : Nat} {v : Value} (h : JS w T1 T2 T3 T4 tv U1 U2 U3 U4 uv L u W) (hLi : L 4 = false) (hL2 : L 0 = true ∧ L 1 = true ∧ L 2 = true) (he : u 2 = .agg #[.bool b, .slice a n c]) (hz : Num W b a n c (tv * 1048576)) :
  JS w T1 T2 T3 T4 tv U1 U2 U3 U4 uv (upd L 4) (updV u 4 v) ((W.setCell ⟨w.heap.size, 0, none⟩ (.bool b)).setCell ⟨w.heap.size, 1, none⟩ (.slice a n c)) := by
 have ht := h.t hLi
 refine ⟨below_put h.below (Nat.le_refl _) _ _, h.un.far ht (by omega) _ _, fun h4 => (by rw [upd_self] at h4; cases h4), fun _ => ⟨by rw [upd_ne (by decide)]; exact hL2.1, by rw [upd_ne (by decide)]; exact hL2.2.1, by rw [upd_ne (by decide)]; exact hL2.2.2, b, a, n, c, ?_, ht.put hz⟩⟩
 unfold updV
 rw [if_neg (by decide)]
 exact he
theorem JS.d {b : Bool} {a : Option Addr} {n c : Nat} (h : JS w T1 T2 T3 T4 tv U1 U2 U3 U4 uv L u W) (h4 : L 4 = true) (he : u 2 = .agg #[.bool b, .slice a n c]) : V4 W w.heap.size b a n c (tv * 1048576) := by
 obtain ⟨_, _, _, b', a', n', c', he', hv⟩ := h.d2 h4
 rw [he] at he'
 simp at he'
 obtain ⟨rfl, rfl, rfl, rfl⟩ := he'
 exact hv
end
theorem VN.store {z : Int} {v : Value} {W : World} (h : VN z v W) {k : Nat} {b0 : Bool} {a0 : Option Addr} {n0 c0 : Nat} (hk : Bx W 112 k (.bool b0) (.slice a0 n0 c0)) (u u' : Value) : VN z v ((W.setCell ⟨k, 0, none⟩ u).setCell ⟨k, 1, none⟩ u') := by
 obtain ⟨b, a, n, c, e, hn⟩ := h
 exact ⟨b, a, n, c, e, hn.store hk _ _⟩
end Go.Proofs.Ytdochhhepmlapaa
