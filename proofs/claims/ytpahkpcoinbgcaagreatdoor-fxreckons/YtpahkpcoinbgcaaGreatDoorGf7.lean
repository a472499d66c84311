/- Parts of the proof. -/
import Derived.Test.YtpahkpcoinbgcaaGreatDoorGf6
import Derived.Test.YtpahkpcoinbgcaaGreatDoorGf1
import Derived.Defers
import Derived.Lib.MinMax
import Derived.Test.YtpahkpcoinbgcaaGreatDoorGf3
import Derived.IntWalk
/- Numbers in variables; what a region that divides has done. No statement of the seat is proved here. -/
namespace Go.Proofs.YtpahkpcoinbgcaaGreatDoor
open Go.RowKit
/-- A value is a number of package long. -/
def HN (w : World) (v : Value) (z : Int) : Prop := ∃ (b : Bool) (a : Option Addr) (n c : Nat), v = .agg #[.bool b, .slice a n c] ∧ Num w b a n c z
theorem HN.below {w w' : World} {v : Value} {z : Int} (h : HN w v z) (hb : Below w.heap.size w w') : HN w' v z := by
 obtain ⟨b, a, n, c, h1, h2⟩ := h
 exact ⟨b, a, n, c, h1, h2.below hb⟩
/-- Block k is a variable of package long's numbers that holds these. -/
def Bx (w : World) (t : TypeId) (k : Nat) (u v : Value) : Prop := w.heap[k]? = some (.cells #[u, v] t (0, 0))
theorem Bx.below {w w' : World} {t : TypeId} {k : Nat} {u v : Value} (h : Bx w t k u v) (hb : Below w.heap.size w w') : Bx w' t k u v := by
 unfold Bx at h ⊢
 rw [hb.block k (Array.getElem?_eq_some_iff.1 h).1]; exact h
theorem Bx.lt {w : World} {t : TypeId} {k : Nat} {u v : Value} (h : Bx w t k u v) : k < w.heap.size := (Array.getElem?_eq_some_iff.1 h).1
theorem Bx.cells {w : World} {t : TypeId} {k : Nat} {u v : Value} (h : Bx w t k u v) : w.cell? ⟨k, 0, none⟩ = some u ∧ w.cell? ⟨k, 1, none⟩ = some v ∧ w.frozen? ⟨k, 0, none⟩ = false ∧ w.frozen? ⟨k, 1, none⟩ = false := by
 unfold Bx at h
 refine ⟨?_, ?_, ?_, ?_⟩ <;> simp [World.cell?, World.frozen?, h]
theorem bx_new (w : World) (t : TypeId) (u v : Value) : Bx (w.alloc (.cells #[u, v] t)) t w.heap.size u v := by
 unfold Bx; rw [heap_alloc_new]
/-- Two numbers are held by variables. -/
structure Hv (w W1 : World) (i j : Nat) (b1 : Bool) (a1 : Option Addr) (n1 c1 : Nat) (x : Int) (b2 : Bool) (a2 : Option Addr) (n2 c2 : Nat) (y : Int) : Prop where
 below : Below w.heap.size w W1
 X : Bx W1 53 i (.bool b1) (.slice a1 n1 c1)
 Y : Bx W1 53 j (.bool b2) (.slice a2 n2 c2)
 nx : Num W1 b1 a1 n1 c1 x
 ny : Num W1 b2 a2 n2 c2 y
theorem Hv.later {w W1 W2 : World} {i j : Nat} {b1 : Bool} {a1 : Option Addr} {n1 c1 : Nat} {x : Int} {b2 : Bool} {a2 : Option Addr} {n2 c2 : Nat} {y : Int} (h : Hv w W1 i j b1 a1 n1 c1 x b2 a2 n2 c2 y) (hb : Below W1.heap.size W1 W2) : Hv w W2 i j b1 a1 n1 c1 x b2 a2 n2 c2 y :=
 ⟨h.below.trans (hb.mono h.below.size), h.X.below hb, h.Y.below hb, h.nx.below hb, h.ny.below hb⟩
/-- A number stays where another variable is written. -/
theorem Num.store {w : World} {bl : Bool} {a : Option Addr} {n c : Nat} {z : Int} (h : Num w bl a n c z) {t : TypeId} {k : Nat} {bk : Bool} {ak : Option Addr} {nk ck : Nat} (hk : Bx w t k (.bool bk) (.slice ak nk ck)) (u v : Value) :
  Num ((w.setCell ⟨k, 0, none⟩ u).setCell ⟨k, 1, none⟩ v) bl a n c z := by
 by_cases hn : n = 0
 ·
  subst hn
  refine ⟨⟨h.lie.cap, h.lie.capm, h.lie.nil, fun p hp => ⟨(h.lie.spot p hp).1, by rw [(only2 w k u v).size]; exact (h.lie.spot p hp).2⟩, fun p hp i hi => by omega⟩, h.fit, h.sgn⟩
 ·
  refine h.only (only2 _ _ _ _) (fun p hp e => ?_)
  have h1 := h.lie.cell p hp 0 (by omega)
  rw [e] at h1
  unfold Bx at hk
  simp only [World.cell?, hk, Nat.add_zero] at h1
  rcases hpo : p.off with _ | _ | o
  ·
   rw [hpo] at h1; simp at h1
  ·
   rw [hpo] at h1; simp at h1
  ·
   rw [hpo] at h1; simp at h1
theorem Bx.other {w : World} {t : TypeId} {k k' : Nat} {u v : Value} (h : Bx w t k u v) (hne : k ≠ k') (x y : Value) : Bx ((w.setCell ⟨k', 0, none⟩ x).setCell ⟨k', 1, none⟩ y) t k u v := by
 unfold Bx at h ⊢
 rw [(only2 w k' x y).block k hne]; exact h
theorem Bx.self {w : World} {t : TypeId} {k : Nat} {u v : Value} (h : Bx w t k u v) (x y : Value) : Bx ((w.setCell ⟨k, 0, none⟩ x).setCell ⟨k, 1, none⟩ y) t k x y := by
 unfold Bx at h ⊢
 have hlt := (Array.getElem?_eq_some_iff.1 h).1
 simp only [World.setCell, Array.getElem?_modify, if_true, h, Option.map_some]
 rfl
theorem HN.store {w : World} {v : Value} {z : Int} (h : HN w v z) {t : TypeId} {k : Nat} {bk : Bool} {ak : Option Addr} {nk ck : Nat} (hk : Bx w t k (.bool bk) (.slice ak nk ck)) (u x : Value) :
  HN ((w.setCell ⟨k, 0, none⟩ u).setCell ⟨k, 1, none⟩ x) v z := by
 obtain ⟨b, a, n, c, h1, h2⟩ := h
 exact ⟨b, a, n, c, h1, h2.store hk u x⟩
/-- A pointer to a variable that the region makes. -/
def Nw (w W : World) (i j : Nat) (v : Value) : Prop := ∃ (k : Nat) (b : Bool) (a : Option Addr) (n c : Nat), v = .pointer (some ⟨k, 0, none⟩) ∧ Bx W 53 k (.bool b) (.slice a n c) ∧ k ≠ i ∧ k ≠ j ∧ w.heap.size ≤ k
/-- A pointer to a variable that holds a number. -/
def Hd (W : World) (v : Value) (z : Int) : Prop := ∃ (k : Nat) (b : Bool) (a : Option Addr) (n c : Nat), v = .pointer (some ⟨k, 0, none⟩) ∧ Bx W 53 k (.bool b) (.slice a n c) ∧ Num W b a n c z
/-- A quotient, a rest, and no error. -/
def Tp (W : World) (v : Value) (q r : Int) : Prop := ∃ vq vr : Value, v = .tuple #[vq, vr, .int .i64 0] ∧ HN W vq q ∧ HN W vr r
theorem Nw.below {w W W' : World} {i j : Nat} {v : Value} (h : Nw w W i j v) (hb : Below W.heap.size W W') : Nw w W' i j v := by
 obtain ⟨k, b, a, n, c, h1, h2, h3⟩ := h
 exact ⟨k, b, a, n, c, h1, h2.below hb, h3⟩
theorem Hd.below {W W' : World} {v : Value} {z : Int} (h : Hd W v z) (hb : Below W.heap.size W W') : Hd W' v z := by
 obtain ⟨k, b, a, n, c, h1, h2, h3⟩ := h
 exact ⟨k, b, a, n, c, h1, h2.below hb, h3.below hb⟩
theorem Tp.below {W W' : World} {v : Value} {q r : Int} (h : Tp W v q r) (hb : Below W.heap.size W W') : Tp W' v q r := by
 obtain ⟨x, y, h1, h2, h3⟩ := h
 exact ⟨x, y, h1, h2.below hb, h3.below hb⟩
/-- What the region 'q, r, e = (x times y).Quo(t)' has done. -/
structure J6 (V : World → Prop) (w : World) (i j : Nat) (b1 : Bool) (a1 : Option Addr) (n1 c1 : Nat) (b2 : Bool) (a2 : Option Addr) (n2 c2 : Nat) (f p q r : Int) (L : Nat → Bool) (W : World) (v8 v9 v36 v37 v38 v39 v40 v41 v42 v43 v44 : Value) : Prop where
 hv : V W
 h0 : L 0 = true → v37 = .agg #[.bool b1, .slice a1 n1 c1]
 h1 : L 1 = true → HN W v38 f
 h2 : L 2 = true → HN W v39 p
 h3 : L 3 = true → v40 = .agg #[.bool b2, .slice a2 n2 c2]
 h4 : L 4 = true → Tp W v41 q r
 h5 : L 5 = true → Tp W v36 q r
 h6 : L 6 = true → HN W v42 q
 h7 : L 7 = true → HN W v43 r
 h8 : L 8 = true → v44 = .int .i64 0
 h9 : L 9 = true → Nw w W i j v8
 h10 : L 10 = true → Nw w W i j v9
 hne : L 9 = true → L 10 = true → v8 ≠ v9
 h11 : L 11 = true → Hd W v8 q
 hcl : L 11 = true → L 9 = true
 h12 : L 12 = true → Hd W v9 r
 hcl2 : L 12 = true → L 10 = true
theorem Hv.store {w W1 : World} {i j : Nat} {b1 : Bool} {a1 : Option Addr} {n1 c1 : Nat} {x : Int} {b2 : Bool} {a2 : Option Addr} {n2 c2 : Nat} {y : Int} (h : Hv w W1 i j b1 a1 n1 c1 x b2 a2 n2 c2 y) {k : Nat} {bk : Bool} {ak : Option Addr} {nk ck : Nat} (hk : Bx W1 53 k (.bool bk) (.slice ak nk ck)) (hki : k ≠ i) (hkj : k ≠ j) (hkw : w.heap.size ≤ k) (u v : Value) :
  Hv w ((W1.setCell ⟨k, 0, none⟩ u).setCell ⟨k, 1, none⟩ v) i j b1 a1 n1 c1 x b2 a2 n2 c2 y :=
 ⟨h.below.trans ((only2 _ _ _ _).below hkw), h.X.other (Ne.symm hki) _ _, h.Y.other (Ne.symm hkj) _ _, h.nx.store hk _ _, h.ny.store hk _ _⟩
theorem Tp.store {W : World} {v : Value} {q r : Int} (h : Tp W v q r) {t : TypeId} {k : Nat} {bk : Bool} {ak : Option Addr} {nk ck : Nat} (hk : Bx W t k (.bool bk) (.slice ak nk ck)) (u x : Value) : Tp ((W.setCell ⟨k, 0, none⟩ u).setCell ⟨k, 1, none⟩ x) v q r := by
 obtain ⟨y, z, h1, h2, h3⟩ := h
 exact ⟨y, z, h1, h2.store hk u x, h3.store hk u x⟩
theorem ptr_ne {v v' : Value} {k k' : Nat} (h : v = .pointer (some ⟨k, 0, none⟩)) (h' : v' = .pointer (some ⟨k', 0, none⟩)) (hne : v ≠ v') : k' ≠ k := fun e => hne (by rw [h, h', e])
theorem Nw.other {w W : World} {i j k : Nat} {v v' : Value} (h : Nw w W i j v') (hv : v = .pointer (some ⟨k, 0, none⟩)) (hne : v ≠ v') {bk : Bool} {ak : Option Addr} {nk ck : Nat} (_ : Bx W 53 k (.bool bk) (.slice ak nk ck)) (u x : Value) : Nw w ((W.setCell ⟨k, 0, none⟩ u).setCell ⟨k, 1, none⟩ x) i j v' := by
 obtain ⟨k', b, a, n, c, h1, h2, h3⟩ := h
 exact ⟨k', b, a, n, c, h1, h2.other (ptr_ne hv h1 hne) _ _, h3⟩
theorem Hd.other {W : World} {k : Nat} {v v' : Value} {z : Int} (h : Hd W v' z) (hv : v = .pointer (some ⟨k, 0, none⟩)) (hne : v ≠ v') {bk : Bool} {ak : Option Addr} {nk ck : Nat} (hk : Bx W 53 k (.bool bk) (.slice ak nk ck)) (u x : Value) : Hd ((W.setCell ⟨k, 0, none⟩ u).setCell ⟨k, 1, none⟩ x) v' z := by
 obtain ⟨k', b, a, n, c, h1, h2, h3⟩ := h
 exact ⟨k', b, a, n, c, h1, h2.other (ptr_ne hv h1 hne) _ _, h3.store hk _ _⟩
section
variable {V : World → Prop} {w : World} {i j : Nat} {b1 : Bool} {a1 : Option Addr} {n1 c1 : Nat} {b2 : Bool} {a2 : Option Addr} {n2 c2 : Nat} {f p q r : Int} {L : Nat → Bool} {W W' : World} {v8 v9 v36 v37 v38 v39 v40 v41 v42 v43 v44 : Value}
theorem J6.later (h : J6 V w i j b1 a1 n1 c1 b2 a2 n2 c2 f p q r L W v8 v9 v36 v37 v38 v39 v40 v41 v42 v43 v44) (hb : Below W.heap.size W W') (hV : V W') : J6 V w i j b1 a1 n1 c1 b2 a2 n2 c2 f p q r L W' v8 v9 v36 v37 v38 v39 v40 v41 v42 v43 v44 :=
 ⟨hV, h.h0, fun e => (h.h1 e).below hb, fun e => (h.h2 e).below hb, h.h3, fun e => (h.h4 e).below hb, fun e => (h.h5 e).below hb, fun e => (h.h6 e).below hb, fun e => (h.h7 e).below hb, h.h8, fun e => (h.h9 e).below hb, fun e => (h.h10 e).below hb, h.hne, fun e => (h.h11 e).below hb, h.hcl, fun e => (h.h12 e).below hb, h.hcl2⟩
theorem J6.at0 (h : J6 V w i j b1 a1 n1 c1 b2 a2 n2 c2 f p q r L W v8 v9 v36 v37 v38 v39 v40 v41 v42 v43 v44) {u : Value} (hu : u = .agg #[.bool b1, .slice a1 n1 c1]) : J6 V w i j b1 a1 n1 c1 b2 a2 n2 c2 f p q r (upd L 0) W v8 v9 v36 u v38 v39 v40 v41 v42 v43 v44 :=
 ⟨h.hv, fun _ => hu, fun e => h.h1 (by rwa [upd_ne (by decide)] at e), fun e => h.h2 (by rwa [upd_ne (by decide)] at e), fun e => h.h3 (by rwa [upd_ne (by decide)] at e), fun e => h.h4 (by rwa [upd_ne (by decide)] at e), fun e => h.h5 (by rwa [upd_ne (by decide)] at e), fun e => h.h6 (by rwa [upd_ne (by decide)] at e), fun e => h.h7 (by rwa [upd_ne (by decide)] at e), fun e => h.h8 (by rwa [upd_ne (by decide)] at e), fun e => h.h9 (by rwa [upd_ne (by decide)] at e), fun e => h.h10 (by rwa [upd_ne (by decide)] at e), fun e1 e2 => h.hne (by rwa [upd_ne (by decide)] at e1) (by rwa [upd_ne (by decide)] at e2), fun e => h.h11 (by rwa [upd_ne (by decide)] at e), fun e => by rw [upd_ne (by decide)]; exact h.hcl (by rwa [upd_ne (by decide)] at e), fun e => h.h12 (by rwa [upd_ne (by decide)] at e), fun e => by rw [upd_ne (by decide)]; exact h.hcl2 (by rwa [upd_ne (by decide)] at e)⟩
theorem J6.at1 (h : J6 V w i j b1 a1 n1 c1 b2 a2 n2 c2 f p q r L W v8 v9 v36 v37 v38 v39 v40 v41 v42 v43 v44) {u : Value} (hu : HN W u f) : J6 V w i j b1 a1 n1 c1 b2 a2 n2 c2 f p q r (upd L 1) W v8 v9 v36 v37 u v39 v40 v41 v42 v43 v44 :=
 ⟨h.hv, fun e => h.h0 (by rwa [upd_ne (by decide)] at e), fun _ => hu, fun e => h.h2 (by rwa [upd_ne (by decide)] at e), fun e => h.h3 (by rwa [upd_ne (by decide)] at e), fun e => h.h4 (by rwa [upd_ne (by decide)] at e), fun e => h.h5 (by rwa [upd_ne (by decide)] at e), fun e => h.h6 (by rwa [upd_ne (by decide)] at e), fun e => h.h7 (by rwa [upd_ne (by decide)] at e), fun e => h.h8 (by rwa [upd_ne (by decide)] at e), fun e => h.h9 (by rwa [upd_ne (by decide)] at e), fun e => h.h10 (by rwa [upd_ne (by decide)] at e), fun e1 e2 => h.hne (by rwa [upd_ne (by decide)] at e1) (by rwa [upd_ne (by decide)] at e2), fun e => h.h11 (by rwa [upd_ne (by decide)] at e), fun e => by rw [upd_ne (by decide)]; exact h.hcl (by rwa [upd_ne (by decide)] at e), fun e => h.h12 (by rwa [upd_ne (by decide)] at e), fun e => by rw [upd_ne (by decide)]; exact h.hcl2 (by rwa [upd_ne (by decide)] at e)⟩
theorem J6.at2 (h : J6 V w i j b1 a1 n1 c1 b2 a2 n2 c2 f p q r L W v8 v9 v36 v37 v38 v39 v40 v41 v42 v43 v44) {u : Value} (hu : HN W u p) : J6 V w i j b1 a1 n1 c1 b2 a2 n2 c2 f p q r (upd L 2) W v8 v9 v36 v37 v38 u v40 v41 v42 v43 v44 :=
 ⟨h.hv, fun e => h.h0 (by rwa [upd_ne (by decide)] at e), fun e => h.h1 (by rwa [upd_ne (by decide)] at e), fun _ => hu, fun e => h.h3 (by rwa [upd_ne (by decide)] at e), fun e => h.h4 (by rwa [upd_ne (by decide)] at e), fun e => h.h5 (by rwa [upd_ne (by decide)] at e), fun e => h.h6 (by rwa [upd_ne (by decide)] at e), fun e => h.h7 (by rwa [upd_ne (by decide)] at e), fun e => h.h8 (by rwa [upd_ne (by decide)] at e), fun e => h.h9 (by rwa [upd_ne (by decide)] at e), fun e => h.h10 (by rwa [upd_ne (by decide)] at e), fun e1 e2 => h.hne (by rwa [upd_ne (by decide)] at e1) (by rwa [upd_ne (by decide)] at e2), fun e => h.h11 (by rwa [upd_ne (by decide)] at e), fun e => by rw [upd_ne (by decide)]; exact h.hcl (by rwa [upd_ne (by decide)] at e), fun e => h.h12 (by rwa [upd_ne (by decide)] at e), fun e => by rw [upd_ne (by decide)]; exact h.hcl2 (by rwa [upd_ne (by decide)] at e)⟩
theorem J6.at3 (h : J6 V w i j b1 a1 n1 c1 b2 a2 n2 c2 f p q r L W v8 v9 v36 v37 v38 v39 v40 v41 v42 v43 v44) {u : Value} (hu : u = .agg #[.bool b2, .slice a2 n2 c2]) : J6 V w i j b1 a1 n1 c1 b2 a2 n2 c2 f p q r (upd L 3) W v8 v9 v36 v37 v38 v39 u v41 v42 v43 v44 :=
 ⟨h.hv, fun e => h.h0 (by rwa [upd_ne (by decide)] at e), fun e => h.h1 (by rwa [upd_ne (by decide)] at e), fun e => h.h2 (by rwa [upd_ne (by decide)] at e), fun _ => hu, fun e => h.h4 (by rwa [upd_ne (by decide)] at e), fun e => h.h5 (by rwa [upd_ne (by decide)] at e), fun e => h.h6 (by rwa [upd_ne (by decide)] at e), fun e => h.h7 (by rwa [upd_ne (by decide)] at e), fun e => h.h8 (by rwa [upd_ne (by decide)] at e), fun e => h.h9 (by rwa [upd_ne (by decide)] at e), fun e => h.h10 (by rwa [upd_ne (by decide)] at e), fun e1 e2 => h.hne (by rwa [upd_ne (by decide)] at e1) (by rwa [upd_ne (by decide)] at e2), fun e => h.h11 (by rwa [upd_ne (by decide)] at e), fun e => by rw [upd_ne (by decide)]; exact h.hcl (by rwa [upd_ne (by decide)] at e), fun e => h.h12 (by rwa [upd_ne (by decide)] at e), fun e => by rw [upd_ne (by decide)]; exact h.hcl2 (by rwa [upd_ne (by decide)] at e)⟩
theorem J6.at4 (h : J6 V w i j b1 a1 n1 c1 b2 a2 n2 c2 f p q r L W v8 v9 v36 v37 v38 v39 v40 v41 v42 v43 v44) {u : Value} (hu : Tp W u q r) : J6 V w i j b1 a1 n1 c1 b2 a2 n2 c2 f p q r (upd L 4) W v8 v9 v36 v37 v38 v39 v40 u v42 v43 v44 :=
 ⟨h.hv, fun e => h.h0 (by rwa [upd_ne (by decide)] at e), fun e => h.h1 (by rwa [upd_ne (by decide)] at e), fun e => h.h2 (by rwa [upd_ne (by decide)] at e), fun e => h.h3 (by rwa [upd_ne (by decide)] at e), fun _ => hu, fun e => h.h5 (by rwa [upd_ne (by decide)] at e), fun e => h.h6 (by rwa [upd_ne (by decide)] at e), fun e => h.h7 (by rwa [upd_ne (by decide)] at e), fun e => h.h8 (by rwa [upd_ne (by decide)] at e), fun e => h.h9 (by rwa [upd_ne (by decide)] at e), fun e => h.h10 (by rwa [upd_ne (by decide)] at e), fun e1 e2 => h.hne (by rwa [upd_ne (by decide)] at e1) (by rwa [upd_ne (by decide)] at e2), fun e => h.h11 (by rwa [upd_ne (by decide)] at e), fun e => by rw [upd_ne (by decide)]; exact h.hcl (by rwa [upd_ne (by decide)] at e), fun e => h.h12 (by rwa [upd_ne (by decide)] at e), fun e => by rw [upd_ne (by decide)]; exact h.hcl2 (by rwa [upd_ne (by decide)] at e)⟩
theorem J6.at5 (h : J6 V w i j b1 a1 n1 c1 b2 a2 n2 c2 f p q r L W v8 v9 v36 v37 v38 v39 v40 v41 v42 v43 v44) {u : Value} (hu : Tp W u q r) : J6 V w i j b1 a1 n1 c1 b2 a2 n2 c2 f p q r (upd L 5) W v8 v9 u v37 v38 v39 v40 v41 v42 v43 v44 :=
 ⟨h.hv, fun e => h.h0 (by rwa [upd_ne (by decide)] at e), fun e => h.h1 (by rwa [upd_ne (by decide)] at e), fun e => h.h2 (by rwa [upd_ne (by decide)] at e), fun e => h.h3 (by rwa [upd_ne (by decide)] at e), fun e => h.h4 (by rwa [upd_ne (by decide)] at e), fun _ => hu, fun e => h.h6 (by rwa [upd_ne (by decide)] at e), fun e => h.h7 (by rwa [upd_ne (by decide)] at e), fun e => h.h8 (by rwa [upd_ne (by decide)] at e), fun e => h.h9 (by rwa [upd_ne (by decide)] at e), fun e => h.h10 (by rwa [upd_ne (by decide)] at e), fun e1 e2 => h.hne (by rwa [upd_ne (by decide)] at e1) (by rwa [upd_ne (by decide)] at e2), fun e => h.h11 (by rwa [upd_ne (by decide)] at e), fun e => by rw [upd_ne (by decide)]; exact h.hcl (by rwa [upd_ne (by decide)] at e), fun e => h.h12 (by rwa [upd_ne (by decide)] at e), fun e => by rw [upd_ne (by decide)]; exact h.hcl2 (by rwa [upd_ne (by decide)] at e)⟩
theorem J6.at6 (h : J6 V w i j b1 a1 n1 c1 b2 a2 n2 c2 f p q r L W v8 v9 v36 v37 v38 v39 v40 v41 v42 v43 v44) {u : Value} (hu : HN W u q) : J6 V w i j b1 a1 n1 c1 b2 a2 n2 c2 f p q r (upd L 6) W v8 v9 v36 v37 v38 v39 v40 v41 u v43 v44 :=
 ⟨h.hv, fun e => h.h0 (by rwa [upd_ne (by decide)] at e), fun e => h.h1 (by rwa [upd_ne (by decide)] at e), fun e => h.h2 (by rwa [upd_ne (by decide)] at e), fun e => h.h3 (by rwa [upd_ne (by decide)] at e), fun e => h.h4 (by rwa [upd_ne (by decide)] at e), fun e => h.h5 (by rwa [upd_ne (by decide)] at e), fun _ => hu, fun e => h.h7 (by rwa [upd_ne (by decide)] at e), fun e => h.h8 (by rwa [upd_ne (by decide)] at e), fun e => h.h9 (by rwa [upd_ne (by decide)] at e), fun e => h.h10 (by rwa [upd_ne (by decide)] at e), fun e1 e2 => h.hne (by rwa [upd_ne (by decide)] at e1) (by rwa [upd_ne (by decide)] at e2), fun e => h.h11 (by rwa [upd_ne (by decide)] at e), fun e => by rw [upd_ne (by decide)]; exact h.hcl (by rwa [upd_ne (by decide)] at e), fun e => h.h12 (by rwa [upd_ne (by decide)] at e), fun e => by rw [upd_ne (by decide)]; exact h.hcl2 (by rwa [upd_ne (by decide)] at e)⟩
theorem J6.at7 (h : J6 V w i j b1 a1 n1 c1 b2 a2 n2 c2 f p q r L W v8 v9 v36 v37 v38 v39 v40 v41 v42 v43 v44) {u : Value} (hu : HN W u r) : J6 V w i j b1 a1 n1 c1 b2 a2 n2 c2 f p q r (upd L 7) W v8 v9 v36 v37 v38 v39 v40 v41 v42 u v44 :=
 ⟨h.hv, fun e => h.h0 (by rwa [upd_ne (by decide)] at e), fun e => h.h1 (by rwa [upd_ne (by decide)] at e), fun e => h.h2 (by rwa [upd_ne (by decide)] at e), fun e => h.h3 (by rwa [upd_ne (by decide)] at e), fun e => h.h4 (by rwa [upd_ne (by decide)] at e), fun e => h.h5 (by rwa [upd_ne (by decide)] at e), fun e => h.h6 (by rwa [upd_ne (by decide)] at e), fun _ => hu, fun e => h.h8 (by rwa [upd_ne (by decide)] at e), fun e => h.h9 (by rwa [upd_ne (by decide)] at e), fun e => h.h10 (by rwa [upd_ne (by decide)] at e), fun e1 e2 => h.hne (by rwa [upd_ne (by decide)] at e1) (by rwa [upd_ne (by decide)] at e2), fun e => h.h11 (by rwa [upd_ne (by decide)] at e), fun e => by rw [upd_ne (by decide)]; exact h.hcl (by rwa [upd_ne (by decide)] at e), fun e => h.h12 (by rwa [upd_ne (by decide)] at e), fun e => by rw [upd_ne (by decide)]; exact h.hcl2 (by rwa [upd_ne (by decide)] at e)⟩
theorem J6.at8 (h : J6 V w i j b1 a1 n1 c1 b2 a2 n2 c2 f p q r L W v8 v9 v36 v37 v38 v39 v40 v41 v42 v43 v44) {u : Value} (hu : u = .int .i64 0) : J6 V w i j b1 a1 n1 c1 b2 a2 n2 c2 f p q r (upd L 8) W v8 v9 v36 v37 v38 v39 v40 v41 v42 v43 u :=
 ⟨h.hv, fun e => h.h0 (by rwa [upd_ne (by decide)] at e), fun e => h.h1 (by rwa [upd_ne (by decide)] at e), fun e => h.h2 (by rwa [upd_ne (by decide)] at e), fun e => h.h3 (by rwa [upd_ne (by decide)] at e), fun e => h.h4 (by rwa [upd_ne (by decide)] at e), fun e => h.h5 (by rwa [upd_ne (by decide)] at e), fun e => h.h6 (by rwa [upd_ne (by decide)] at e), fun e => h.h7 (by rwa [upd_ne (by decide)] at e), fun _ => hu, fun e => h.h9 (by rwa [upd_ne (by decide)] at e), fun e => h.h10 (by rwa [upd_ne (by decide)] at e), fun e1 e2 => h.hne (by rwa [upd_ne (by decide)] at e1) (by rwa [upd_ne (by decide)] at e2), fun e => h.h11 (by rwa [upd_ne (by decide)] at e), fun e => by rw [upd_ne (by decide)]; exact h.hcl (by rwa [upd_ne (by decide)] at e), fun e => h.h12 (by rwa [upd_ne (by decide)] at e), fun e => by rw [upd_ne (by decide)]; exact h.hcl2 (by rwa [upd_ne (by decide)] at e)⟩
theorem J6.at9 (h : J6 V w i j b1 a1 n1 c1 b2 a2 n2 c2 f p q r L W v8 v9 v36 v37 v38 v39 v40 v41 v42 v43 v44) {u : Value} (hu : Nw w W i j u) (hn : L 10 = true → u ≠ v9) (h11 : L 11 = false) : J6 V w i j b1 a1 n1 c1 b2 a2 n2 c2 f p q r (upd L 9) W u v9 v36 v37 v38 v39 v40 v41 v42 v43 v44 :=
 ⟨h.hv, fun e => h.h0 (by rwa [upd_ne (by decide)] at e), fun e => h.h1 (by rwa [upd_ne (by decide)] at e), fun e => h.h2 (by rwa [upd_ne (by decide)] at e), fun e => h.h3 (by rwa [upd_ne (by decide)] at e), fun e => h.h4 (by rwa [upd_ne (by decide)] at e), fun e => h.h5 (by rwa [upd_ne (by decide)] at e), fun e => h.h6 (by rwa [upd_ne (by decide)] at e), fun e => h.h7 (by rwa [upd_ne (by decide)] at e), fun e => h.h8 (by rwa [upd_ne (by decide)] at e), fun _ => hu, fun e => h.h10 (by rwa [upd_ne (by decide)] at e), fun e1 e2 => hn (by rwa [upd_ne (by decide)] at e2), (fun e => by rw [upd_ne (by decide), h11] at e; cases e), fun _ => upd_self _ _, fun e => h.h12 (by rwa [upd_ne (by decide)] at e), fun e => by rw [upd_ne (by decide)]; exact h.hcl2 (by rwa [upd_ne (by decide)] at e)⟩
theorem J6.at10 (h : J6 V w i j b1 a1 n1 c1 b2 a2 n2 c2 f p q r L W v8 v9 v36 v37 v38 v39 v40 v41 v42 v43 v44) {u : Value} (hu : Nw w W i j u) (hn : L 9 = true → v8 ≠ u) (h12 : L 12 = false) : J6 V w i j b1 a1 n1 c1 b2 a2 n2 c2 f p q r (upd L 10) W v8 u v36 v37 v38 v39 v40 v41 v42 v43 v44 :=
 ⟨h.hv, fun e => h.h0 (by rwa [upd_ne (by decide)] at e), fun e => h.h1 (by rwa [upd_ne (by decide)] at e), fun e => h.h2 (by rwa [upd_ne (by decide)] at e), fun e => h.h3 (by rwa [upd_ne (by decide)] at e), fun e => h.h4 (by rwa [upd_ne (by decide)] at e), fun e => h.h5 (by rwa [upd_ne (by decide)] at e), fun e => h.h6 (by rwa [upd_ne (by decide)] at e), fun e => h.h7 (by rwa [upd_ne (by decide)] at e), fun e => h.h8 (by rwa [upd_ne (by decide)] at e), fun e => h.h9 (by rwa [upd_ne (by decide)] at e), fun _ => hu, fun e1 e2 => hn (by rwa [upd_ne (by decide)] at e1), fun e => h.h11 (by rwa [upd_ne (by decide)] at e), fun e => by rw [upd_ne (by decide)]; exact h.hcl (by rwa [upd_ne (by decide)] at e), (fun e => by rw [upd_ne (by decide), h12] at e; cases e), fun _ => upd_self _ _⟩
theorem J6.at11 (h : J6 V w i j b1 a1 n1 c1 b2 a2 n2 c2 f p q r L W v8 v9 v36 v37 v38 v39 v40 v41 v42 v43 v44) {k : Nat} {bk : Bool} {ak : Option Addr} {nk ck : Nat} (hk : Bx W 53 k (.bool bk) (.slice ak nk ck)) (hki : k ≠ i) (hkj : k ≠ j) (hkw : w.heap.size ≤ k) (hk8 : v8 = .pointer (some ⟨k, 0, none⟩)) (h9 : L 9 = true) (hne : L 10 = true → v8 ≠ v9) {b : Bool} {a : Option Addr} {n c : Nat} (hz : Num W b a n c q) (hV : V ((W.setCell ⟨k, 0, none⟩ (.bool b)).setCell ⟨k, 1, none⟩ (.slice a n c))) : J6 V w i j b1 a1 n1 c1 b2 a2 n2 c2 f p q r (upd L 11) ((W.setCell ⟨k, 0, none⟩ (.bool b)).setCell ⟨k, 1, none⟩ (.slice a n c)) v8 v9 v36 v37 v38 v39 v40 v41 v42 v43 v44 :=
 ⟨hV, fun e => h.h0 (by rwa [upd_ne (by decide)] at e), fun e => (h.h1 (by rwa [upd_ne (by decide)] at e)).store hk _ _, fun e => (h.h2 (by rwa [upd_ne (by decide)] at e)).store hk _ _, fun e => h.h3 (by rwa [upd_ne (by decide)] at e), fun e => (h.h4 (by rwa [upd_ne (by decide)] at e)).store hk _ _, fun e => (h.h5 (by rwa [upd_ne (by decide)] at e)).store hk _ _, fun e => (h.h6 (by rwa [upd_ne (by decide)] at e)).store hk _ _, fun e => (h.h7 (by rwa [upd_ne (by decide)] at e)).store hk _ _, fun e => h.h8 (by rwa [upd_ne (by decide)] at e), fun _ => ⟨k, b, a, n, c, hk8, hk.self _ _, hki, hkj, hkw⟩, fun e => (h.h10 (by rwa [upd_ne (by decide)] at e)).other hk8 (fun e' => hne (by rwa [upd_ne (by decide)] at e) e') hk (.bool b) (.slice a n c), fun e1 e2 => h.hne (by rwa [upd_ne (by decide)] at e1) (by rwa [upd_ne (by decide)] at e2), fun _ => ⟨k, b, a, n, c, hk8, hk.self _ _, hz.store hk _ _⟩, fun _ => by rw [upd_ne (by decide)]; exact h9, fun e => (h.h12 (by rwa [upd_ne (by decide)] at e)).other hk8 (fun e' => hne (h.hcl2 (by rwa [upd_ne (by decide)] at e)) e') hk (.bool b) (.slice a n c), fun e => by rw [upd_ne (by decide)]; exact h.hcl2 (by rwa [upd_ne (by decide)] at e)⟩
theorem J6.at12 (h : J6 V w i j b1 a1 n1 c1 b2 a2 n2 c2 f p q r L W v8 v9 v36 v37 v38 v39 v40 v41 v42 v43 v44) {k : Nat} {bk : Bool} {ak : Option Addr} {nk ck : Nat} (hk : Bx W 53 k (.bool bk) (.slice ak nk ck)) (hki : k ≠ i) (hkj : k ≠ j) (hkw : w.heap.size ≤ k) (hk9 : v9 = .pointer (some ⟨k, 0, none⟩)) (h9 : L 9 = true) (h10 : L 10 = true) (hne : L 9 = true → v8 ≠ v9) {b : Bool} {a : Option Addr} {n c : Nat} (hz : Num W b a n c r) (hV : V ((W.setCell ⟨k, 0, none⟩ (.bool b)).setCell ⟨k, 1, none⟩ (.slice a n c))) : J6 V w i j b1 a1 n1 c1 b2 a2 n2 c2 f p q r (upd L 12) ((W.setCell ⟨k, 0, none⟩ (.bool b)).setCell ⟨k, 1, none⟩ (.slice a n c)) v8 v9 v36 v37 v38 v39 v40 v41 v42 v43 v44 :=
 ⟨hV, fun e => h.h0 (by rwa [upd_ne (by decide)] at e), fun e => (h.h1 (by rwa [upd_ne (by decide)] at e)).store hk _ _, fun e => (h.h2 (by rwa [upd_ne (by decide)] at e)).store hk _ _, fun e => h.h3 (by rwa [upd_ne (by decide)] at e), fun e => (h.h4 (by rwa [upd_ne (by decide)] at e)).store hk _ _, fun e => (h.h5 (by rwa [upd_ne (by decide)] at e)).store hk _ _, fun e => (h.h6 (by rwa [upd_ne (by decide)] at e)).store hk _ _, fun e => (h.h7 (by rwa [upd_ne (by decide)] at e)).store hk _ _, fun e => h.h8 (by rwa [upd_ne (by decide)] at e), fun e => (h.h9 (by rwa [upd_ne (by decide)] at e)).other hk9 (fun e' => hne (by rwa [upd_ne (by decide)] at e) e'.symm) hk (.bool b) (.slice a n c), fun _ => ⟨k, b, a, n, c, hk9, hk.self _ _, hki, hkj, hkw⟩, fun e1 e2 => h.hne (by rwa [upd_ne (by decide)] at e1) (by rwa [upd_ne (by decide)] at e2), fun e => (h.h11 (by rwa [upd_ne (by decide)] at e)).other hk9 (fun e' => hne h9 e'.symm) hk (.bool b) (.slice a n c), fun _ => by rw [upd_ne (by decide)]; exact h9, fun _ => ⟨k, b, a, n, c, hk9, hk.self _ _, hz.store hk _ _⟩, fun _ => by rw [upd_ne (by decide)]; exact h10⟩
theorem J6.at13 (h : J6 V w i j b1 a1 n1 c1 b2 a2 n2 c2 f p q r L W v8 v9 v36 v37 v38 v39 v40 v41 v42 v43 v44) : J6 V w i j b1 a1 n1 c1 b2 a2 n2 c2 f p q r (upd L 13) W v8 v9 v36 v37 v38 v39 v40 v41 v42 v43 v44 :=
 ⟨h.hv, fun e => h.h0 (by rwa [upd_ne (by decide)] at e), fun e => h.h1 (by rwa [upd_ne (by decide)] at e), fun e => h.h2 (by rwa [upd_ne (by decide)] at e), fun e => h.h3 (by rwa [upd_ne (by decide)] at e), fun e => h.h4 (by rwa [upd_ne (by decide)] at e), fun e => h.h5 (by rwa [upd_ne (by decide)] at e), fun e => h.h6 (by rwa [upd_ne (by decide)] at e), fun e => h.h7 (by rwa [upd_ne (by decide)] at e), fun e => h.h8 (by rwa [upd_ne (by decide)] at e), fun e => h.h9 (by rwa [upd_ne (by decide)] at e), fun e => h.h10 (by rwa [upd_ne (by decide)] at e), fun e1 e2 => h.hne (by rwa [upd_ne (by decide)] at e1) (by rwa [upd_ne (by decide)] at e2), fun e => h.h11 (by rwa [upd_ne (by decide)] at e), fun e => by rw [upd_ne (by decide)]; exact h.hcl (by rwa [upd_ne (by decide)] at e), fun e => h.h12 (by rwa [upd_ne (by decide)] at e), fun e => by rw [upd_ne (by decide)]; exact h.hcl2 (by rwa [upd_ne (by decide)] at e)⟩
end
theorem nw_fresh {w W : World} {i j : Nat} {v : Value} (h : Nw w W i j v) : Value.pointer (some ⟨W.heap.size, 0, none⟩) ≠ v := by
 obtain ⟨k, b, a, n, c, h1, h2, _⟩ := h
 subst h1
 intro e
 injection e with e
 injection e with e
 injection e with e
 exact Nat.lt_irrefl _ (e ▸ h2.lt)
end Go.Proofs.YtpahkpcoinbgcaaGreatDoor

/- The document's numbers: the walk of Quo. -/
namespace Go.Proofs.YtpahkpcoinbgcaaGreatDoor
open Go.RowKit
theorem RNum.store {w : World} {bl : Bool} {a : Option Addr} {n c : Nat} {z : Int} (h : RNum w bl a n c z) {t : TypeId} {k : Nat} {bk : Bool} {ak : Option Addr} {nk ck : Nat} (hk : Bx w t k (.bool bk) (.slice ak nk ck)) (u v : Value) :
  RNum ((w.setCell ⟨k, 0, none⟩ u).setCell ⟨k, 1, none⟩ v) bl a n c z := by
 by_cases hn : n = 0
 ·
  subst hn
  refine ⟨⟨h.lie.cap, h.lie.capm, h.lie.nil, fun p hp => ⟨(h.lie.spot p hp).1, by rw [(only2 w k u v).size]; exact (h.lie.spot p hp).2⟩, fun p hp i hi => by omega⟩, h.fit, h.sgn⟩
 ·
  refine h.only (only2 _ _ _ _) (fun p hp e => ?_)
  have h1 := h.lie.cell p hp 0 (by omega)
  rw [e] at h1
  unfold Bx at hk
  simp only [World.cell?, hk, Nat.add_zero] at h1
  rcases hpo : p.off with _ | _ | o
  ·
   rw [hpo] at h1; simp at h1
  ·
   rw [hpo] at h1; simp at h1
  ·
   rw [hpo] at h1; simp at h1
/-- What Quo is given, and the places of its results. -/
structure RQB (w W : World) (bl : Bool) (a : Option Addr) (n c : Nat) (bl' : Bool) (a' : Option Addr) (n' c' : Nat) : Prop where
 below : Below w.heap.size w W
 X : Bx W 42 w.heap.size (.bool bl) (.slice a n c)
 Y : Bx W 42 (w.heap.size + 1) (.bool bl') (.slice a' n' c')
 A : Bx W 42 (w.heap.size + 2) (.bool false) (.slice none 0 0)
 B : Bx W 42 (w.heap.size + 3) (.bool false) (.slice none 0 0)
section
variable {w W W' : World} {bl : Bool} {a : Option Addr} {n c : Nat} {bl' : Bool} {a' : Option Addr} {n' c' : Nat}
theorem RQB.later (h : RQB w W bl a n c bl' a' n' c') (hb : Below W.heap.size W W') : RQB w W' bl a n c bl' a' n' c' :=
 ⟨h.below.trans (hb.mono h.below.size), h.X.below hb, h.Y.below hb, h.A.below hb, h.B.below hb⟩
theorem RQB.other (h : RQB w W bl a n c bl' a' n' c') {k : Nat} (hk : w.heap.size + 3 < k) (u v : Value) : RQB w ((W.setCell ⟨k, 0, none⟩ u).setCell ⟨k, 1, none⟩ v) bl a n c bl' a' n' c' :=
 ⟨h.below.trans ((only2 _ _ _ _).below (by omega)), h.X.other (by omega) _ _, h.Y.other (by omega) _ _, h.A.other (by omega) _ _, h.B.other (by omega) _ _⟩
end
theorem rqb_mk (w : World) (bl : Bool) (a : Option Addr) (n c : Nat) (bl' : Bool) (a' : Option Addr) (n' c' : Nat) :
  RQB w ((((w.alloc (.cells #[.bool bl, .slice a n c] 42)).alloc (.cells #[.bool bl', .slice a' n' c'] 42)).alloc (.cells #[.bool false, .slice none 0 0] 42)).alloc (.cells #[.bool false, .slice none 0 0] 42)) bl a n c bl' a' n' c' := by
 have hal : ∀ (W : World) (o : Obj), Below W.heap.size W (W.alloc o) := fun W o => (Below.refl _ _).alloc (Nat.le_refl _) _
 have s1 : (w.alloc (.cells #[.bool bl, .slice a n c] 42)).heap.size = w.heap.size + 1 := by simp
 have s2 : ((w.alloc (.cells #[.bool bl, .slice a n c] 42)).alloc (.cells #[.bool bl', .slice a' n' c'] 42)).heap.size = w.heap.size + 2 := by simp
 have s3 : (((w.alloc (.cells #[.bool bl, .slice a n c] 42)).alloc (.cells #[.bool bl', .slice a' n' c'] 42)).alloc (.cells #[.bool false, .slice none 0 0] 42)).heap.size = w.heap.size + 3 := by simp
 refine ⟨((((Below.refl w.heap.size w).alloc (Nat.le_refl _) _).alloc (by simp) _).alloc (by simp; omega) _).alloc (by simp; omega) _, (((bx_new w _ _ _).below (hal _ _)).below (hal _ _)).below (hal _ _), ?_, ?_, ?_⟩
 ·
  have h := ((bx_new (w.alloc (.cells #[.bool bl, .slice a n c] 42)) 42 (.bool bl') (.slice a' n' c')).below (hal _ (.cells #[.bool false, .slice none 0 0] 42))).below (hal _ (.cells #[.bool false, .slice none 0 0] 42))
  rwa [s1] at h
 ·
  have h := (bx_new ((w.alloc (.cells #[.bool bl, .slice a n c] 42)).alloc (.cells #[.bool bl', .slice a' n' c'] 42)) 42 (.bool false) (.slice none 0 0)).below (hal _ (.cells #[.bool false, .slice none 0 0] 42))
  rwa [s2] at h
 ·
  have h := bx_new (((w.alloc (.cells #[.bool bl, .slice a n c] 42)).alloc (.cells #[.bool bl', .slice a' n' c'] 42)).alloc (.cells #[.bool false, .slice none 0 0] 42)) 42 (.bool false) (.slice none 0 0)
  rwa [s3] at h
/-- A quotient and a rest of the document's numbers are handed back, and an error's number. -/
def PRQ (q r er : Int) (w : World) (e : Ending) (w' : World) : Prop :=
 ∃ (b1 : Bool) (a1 : Option Addr) (n1 c1 : Nat) (b2 : Bool) (a2 : Option Addr) (n2 c2 : Nat), e = .returned (.tuple #[.agg #[.bool b1, .slice a1 n1 c1], .agg #[.bool b2, .slice a2 n2 c2], .int .i64 er]) ∧
  RNum w' b1 a1 n1 c1 q ∧ RNum w' b2 a2 n2 c2 r ∧ Below w.heap.size w w'
set_option maxHeartbeats 800000 in
theorem rQuo_zero (bl : Bool) (a : Option Addr) (n c : Nat) (bl' : Bool) (a' : Option Addr) (c' : Nat) (w : World) :
  Calls Tryz.prog 30 #[.agg #[.bool bl, .slice a n c], .agg #[.bool bl', .slice a' 0 c']] w (PRQ 0 0 11 w) := by
 go_enter Tryz.func30, Tryz.ntmps30
 go_wp2
 have hX1 := rqb_mk w bl a n c bl' a' 0 c'
 generalize (((w.alloc (.cells #[.bool bl, .slice a n c] 42)).alloc (.cells #[.bool bl', .slice a' 0 c'] 42)).alloc (.cells #[.bool false, .slice none 0 0] 42)).alloc (.cells #[.bool false, .slice none 0 0] 42) = w1 at *
 obtain ⟨q0, q1, q2, q3⟩ := hX1.A.cells
 obtain ⟨r0, r1, r2, r3⟩ := hX1.B.cells
 refine bodyPost_ret (v := .tuple #[.agg #[.bool false, .slice none 0 0], .agg #[.bool false, .slice none 0 0], .int .i64 11]) (by simp [results, Tryz.results30, go_sem, q0, q1, r0, r1]) rfl ?_
 exact ⟨false, none, 0, 0, false, none, 0, 0, rfl, rnum_zero _, rnum_zero _, hX1.below⟩
theorem rpq_end {w W : World} {bl : Bool} {a : Option Addr} {n c : Nat} {bl' : Bool} {a' : Option Addr} {n' c' : Nat} {qb : Bool} {qa : Option Addr} {qn qc : Nat} {rb : Bool} {ra : Option Addr} {rn rc : Nat} {q r : Int}
  (hX : RQB w W bl a n c bl' a' n' c') (hq : RNum W qb qa qn qc q) (hr : RNum W rb ra rn rc r) :
  PRQ q r 0 w (.returned (.tuple #[.agg #[.bool qb, .slice qa qn qc], .agg #[.bool rb, .slice ra rn rc], .int .i64 0]))
   (((((W.setCell ⟨w.heap.size + 2, 0, none⟩ (.bool qb)).setCell ⟨w.heap.size + 2, 1, none⟩ (.slice qa qn qc)).setCell ⟨w.heap.size + 3, 0, none⟩ (.bool rb)).setCell ⟨w.heap.size + 3, 1, none⟩ (.slice ra rn rc)).drew) := by
 have o1 := only2 W (w.heap.size + 2) (.bool qb) (.slice qa qn qc)
 have o2 := only2 ((W.setCell ⟨w.heap.size + 2, 0, none⟩ (.bool qb)).setCell ⟨w.heap.size + 2, 1, none⟩ (.slice qa qn qc)) (w.heap.size + 3) (.bool rb) (.slice ra rn rc)
 have hd : ∀ W : World, Below W.heap.size W W.drew := fun W => (Below.refl _ _).drew
 have hB := hX.B.other (k' := w.heap.size + 2) (by omega) (.bool qb) (.slice qa qn qc)
 exact ⟨qb, qa, qn, qc, rb, ra, rn, rc, rfl, ((hq.store hX.A _ _).store hB _ _).below (hd _), ((hr.store hX.A _ _).store hB _ _).below (hd _), (hX.below.trans ((o1.below (by omega)).trans (o2.below (by omega)))).drew⟩
set_option maxRecDepth 100000 in
set_option maxHeartbeats 3200000 in
theorem rQuo_any (bl : Bool) (a : Option Addr) (n c : Nat) (x : Int) (bl' : Bool) (a' : Option Addr) (n' c' : Nat) (y : Int) (w : World) (h : RNum w bl a n c x) (h' : RNum w bl' a' n' c' y) (hn : n ≤ 1000000) (hn' : n' ≤ 1000000) (hy : y ≠ 0) :
  Calls Tryz.prog 30 #[.agg #[.bool bl, .slice a n c], .agg #[.bool bl', .slice a' n' c']] w (fun e w' => ∃ q r : Int, IsQuo x y q r ∧ PRQ q r 0 w e w') := by
 have H := Lib.hid h
 have H' := Lib.hid h'
 have HY := Lib.hid hy
 have hn0 : 0 < n' := Nat.pos_of_ne_zero (fun e => hy (h'.zero_iff.1 e))
 have dn : (((n' : Nat) : Int) == 0) = false := by simp; omega
 have HB0 : Hid (0 < y.natAbs) := show 0 < y.natAbs by omega
 clear h h' hy
 have hX1 := rqb_mk w bl a n c bl' a' n' c'
 go_enter Tryz.func30, Tryz.ntmps30
 go_wp2_with fail
 generalize (((w.alloc (.cells #[.bool bl, .slice a n c] 42)).alloc (.cells #[.bool bl', .slice a' n' c'] 42)).alloc (.cells #[.bool false, .slice none 0 0] 42)).alloc (.cells #[.bool false, .slice none 0 0] 42) = w1 at *
 refine (rparted_any a a' n c n' c' x.natAbs y.natAbs _ (H.out.lie.below hX1.below) (H'.out.lie.below hX1.below) H.out.fit.1 H'.out.fit HB0.out hn hn').mono ?_
 rintro e w2 ⟨g2, a3, n3, c3, rfl, hg2, hO2, hR2, hb2⟩
 have hX2 := hX1.later hb2
 have HFQ : Hid (x.natAbs / y.natAbs < 10 ^ n) := Nat.lt_of_le_of_lt (Nat.div_le_self _ _) H.out.fit.1
 obtain ⟨k0, k1, _, _⟩ := hX2.X.cells
 obtain ⟨l0, l1, _, _⟩ := hX2.Y.cells
 go_wp2_with fail
 refine (rmade_any _ _ n n _ _ (hO2.lie (Nat.le_refl _) (by unfold maxLen; omega)) HFQ.out).mono ?_
 rintro e w3 ⟨qb, qn, qc, rfl, hq3, hb3⟩
 have hX3 := hX2.later hb3
 have hR3 := hR2.below hb3
 clear k0 k1 l0 l1
 have hal : Below w3.heap.size w3 (w3.alloc (.cells #[.bool qb, .slice (some ⟨g2, 0, none⟩) qn qc] 42)) := (Below.refl _ _).alloc (Nat.le_refl _) _
 have hX4 := hX3.later hal
 have hR4 := hR3.below hal
 have hq4 := hq3.below hal
 have hQ4 := bx_new w3 42 (.bool qb) (.slice (some ⟨g2, 0, none⟩) qn qc)
 have hgq : w.heap.size + 3 < w3.heap.size := hX3.B.lt
 obtain ⟨k0, k1, _, _⟩ := hX4.X.cells
 clear hX2 hR2 hO2 hX3 hR3 hq3 hal hb3 hX1 hg2
 go_wp2_with fail
 generalize hw4 : w3.alloc (.cells #[.bool qb, .slice (some ⟨g2, 0, none⟩) qn qc] 42) = w4 at *
 generalize w3.heap.size = gq at *
 refine (rmade_any bl a3 n3 c3 _ _ hR4.lie hR4.fit.1).mono ?_
 rintro e w5 ⟨rb, rn, rc, rfl, hr5, hb5⟩
 have hal : Below w5.heap.size w5 (w5.alloc (.cells #[.bool rb, .slice a3 rn rc] 42)) := (Below.refl _ _).alloc (Nat.le_refl _) _
 have hX6 := (hX4.later hb5).later hal
 have hq6 := (hq4.below hb5).below hal
 have hQ6 := (hQ4.below hb5).below hal
 have hr6 := hr5.below hal
 have hR6 := bx_new w5 42 (.bool rb) (.slice a3 rn rc)
 have hgr : gq < w5.heap.size := (hQ4.below hb5).lt
 obtain ⟨l0, l1, _, _⟩ := hX6.Y.cells
 obtain ⟨r0, r1, r2, r3⟩ := hR6.cells
 obtain ⟨q0, q1, q2, q3⟩ := hQ6.cells
 clear hX4 hR4 hq4 hQ4 hr5 hb5 hal k0 k1 hw4
 by_cases hR0 : x.natAbs % y.natAbs = 0
 ·
  have hrn0 : rn = 0 := by
   have := hr6.zero_iff.2 (sg_zero.2 hR0)
   exact this
  have HQ := Lib.hid (quo_plain H.out.sgn H'.out.sgn HY.out (.inl hR0))
  subst hrn0
  generalize hsq : sg (!(bl == bl')) (x.natAbs / y.natAbs) = q at *
  generalize hsr : sg bl (x.natAbs % y.natAbs) = r at *
  clear hsq hsr hR0
  go_wp2
  generalize w5.alloc (.cells #[.bool rb, .slice a3 0 rc] 42) = w6 at *
  generalize w5.heap.size = gr at *
  obtain ⟨s0, s1, s2, s3⟩ := hX6.A.cells
  obtain ⟨t0, t1, t2, t3⟩ := hX6.B.cells
  go_region
  all_goals go_wp2
  refine bodyPost_ret (v := .tuple #[.agg #[.bool qb, .slice (some ⟨g2, 0, none⟩) qn qc], .agg #[.bool rb, .slice a3 0 rc], .int .i64 0]) (by simp [results, Tryz.results30, go_sem, s0, s1, t0, t1]) rfl ?_
  exact ⟨q, r, HQ.out, rpq_end hX6 hq6 hr6⟩
 ·
  have hrb : rb = bl := by
   have h := hr6.sgn
   rw [sg_neg _ _ (Nat.pos_of_ne_zero hR0)] at h
   exact h
  have hrp : 0 < rn := Nat.pos_of_ne_zero (fun e => hR0 (sg_zero.1 (hr6.zero_iff.1 e)))
  have dr : decide ((0 : Int) < ((rn : Nat) : Int)) = true := decide_eq_true (by omega)
  subst hrb
  by_cases hbb : (rb == bl') = true
  ·
   have HQ := Lib.hid (quo_plain H.out.sgn H'.out.sgn HY.out (.inr hbb))
   generalize hsq : sg (!(rb == bl')) (x.natAbs / y.natAbs) = q at *
   generalize hsr : sg rb (x.natAbs % y.natAbs) = r at *
   clear hsq hsr hR0
   go_wp2
   generalize w5.alloc (.cells #[.bool rb, .slice a3 rn rc] 42) = w6 at *
   generalize w5.heap.size = gr at *
   obtain ⟨s0, s1, s2, s3⟩ := hX6.A.cells
   obtain ⟨t0, t1, t2, t3⟩ := hX6.B.cells
   go_region
   all_goals go_wp2
   refine bodyPost_ret (v := .tuple #[.agg #[.bool qb, .slice (some ⟨g2, 0, none⟩) qn qc], .agg #[.bool rb, .slice a3 rn rc], .int .i64 0]) (by simp [results, Tryz.results30, go_sem, s0, s1, t0, t1]) rfl ?_
   exact ⟨q, r, HQ.out, rpq_end hX6 hq6 hr6⟩
  ·
   have hbb' : (rb == bl') = false := by simpa using hbb
   have HQ := Lib.hid (quo_fixed H.out.sgn H'.out.sgn HY.out hR0 hbb')
   have hqn : qn ≤ n := by
    have := hq6.fit
    rw [sg_abs] at this
    exact fit10_le this HFQ.out
   have hrn : rn ≤ n' := by
    have := hr6.fit
    rw [sg_abs] at this
    exact fit10_le this (Nat.lt_trans (Nat.mod_lt _ HB0.out) H'.out.fit.1)
   generalize hsq : sg (!(rb == bl')) (x.natAbs / y.natAbs) = q at *
   generalize hsr : sg rb (x.natAbs % y.natAbs) = r at *
   clear hsq hsr hR0 hbb
   go_wp2
   generalize w5.alloc (.cells #[.bool rb, .slice a3 rn rc] 42) = w6 at *
   generalize w5.heap.size = gr at *
   go_region_with (first
     | (go_at_call 38; refine (rOf_any 1 _ (by omega) (by omega)).mono ?_; rintro e w9 ⟨b9, a9, n9, c9, rfl, hN9, hfr9, hb9⟩; have hX9 := hX6.later (below_undrew hb9); have hq9 := hq6.below (below_undrew hb9); have hr9 := hr6.below (below_undrew hb9); have hQ9 := hQ6.below (below_undrew hb9); have hR9 := hR6.below (below_undrew hb9); have hn9 : n9 ≤ 10000000 := Nat.le_trans (fit10_le hN9.fit (M := 1) (by decide)) (by omega); have q09 := hQ9.cells.1; have q19 := hQ9.cells.2.1)
     | (go_at_call 27; refine (rSub_any qb (some ⟨g2, 0, none⟩) qn qc q b9 a9 n9 c9 1 _ hq9 hN9 (by omega) hn9).mono ?_; rintro e wA ⟨bA, aA, nA, cA, rfl, hNA, hfrA, hbA⟩; have hXA := hX9.later hbA; have hrA := hr9.below hbA; have hQA := hQ9.below hbA; have hRA := hR9.below hbA; obtain ⟨q0A, q1A, f0A, f1A⟩ := hQA.cells))
   all_goals
    have hXB := hXA.other hgq (.bool bA) (.slice aA nA cA)
    have hqB := hNA.store hQA (.bool bA) (.slice aA nA cA)
    have hrB := hrA.store hQA (.bool bA) (.slice aA nA cA)
    have hQB := hQA.self (.bool bA) (.slice aA nA cA)
    have hRB := hRA.other (show gr ≠ gq by omega) (.bool bA) (.slice aA nA cA)
    clear hXA hNA hrA hQA hRA q0A q1A f0A f1A hX9 hq9 hr9 hQ9 hR9 hX6 hq6 hr6 hQ6 hR6 l0 l1 q0 q1 q2 q3 r0 r1 r2 r3 hfrA hbA hb9 hfr9 hN9
    generalize (wA.setCell ⟨gq, 0, none⟩ (.bool bA)).setCell ⟨gq, 1, none⟩ (.slice aA nA cA) = wB at *
    obtain ⟨l0, l1, _, _⟩ := hXB.Y.cells
    obtain ⟨r0, r1, _, _⟩ := hRB.cells
    go_wp2_with fail
    refine (rAdd_any rb a3 rn rc r bl' a' n' c' y _ hrB (H'.out.below hXB.below) (by omega) (by omega)).mono ?_
    rintro e wC ⟨bC, aC, nC, cC, rfl, hNC, _, hbC⟩
    have hXC := hXB.later hbC
    have hqC := hqB.below hbC
    have hQC := hQB.below hbC
    have hRC := hRB.below hbC
    clear l0 l1 r0 r1 hXB hqB hrB hQB hRB hbC
    obtain ⟨r0, r1, r2, r3⟩ := hRC.cells
    go_wp2_with fail
    have hXD := hXC.other (show w.heap.size + 3 < gr by omega) (.bool bC) (.slice aC nC cC)
    have hqD := hqC.store hRC (.bool bC) (.slice aC nC cC)
    have hrD := hNC.store hRC (.bool bC) (.slice aC nC cC)
    have hQD := hQC.other (show gq ≠ gr by omega) (.bool bC) (.slice aC nC cC)
    have hRD := hRC.self (.bool bC) (.slice aC nC cC)
    clear r0 r1 r2 r3 hXC hqC hNC hQC hRC
    generalize (wC.setCell ⟨gr, 0, none⟩ (.bool bC)).setCell ⟨gr, 1, none⟩ (.slice aC nC cC) = wD at *
    obtain ⟨q0, q1, _, _⟩ := hQD.cells
    obtain ⟨r0, r1, _, _⟩ := hRD.cells
    obtain ⟨s0, s1, s2, s3⟩ := hXD.A.cells
    obtain ⟨t0, t1, t2, t3⟩ := hXD.B.cells
    go_region
    all_goals go_wp2
    refine bodyPost_ret (v := .tuple #[.agg #[.bool bA, .slice aA nA cA], .agg #[.bool bC, .slice aC nC cC], .int .i64 0]) (by simp [results, Tryz.results30, go_sem, s0, s1, t0, t1]) rfl ?_
    exact ⟨q - 1, r + y, HQ.out, rpq_end hXD hqD hrD⟩
end Go.Proofs.YtpahkpcoinbgcaaGreatDoor

/- Fixed numbers: how what comes of a call is cut by its deferred function. -/
namespace Go.Proofs.YtpahkpcoinbgcaaGreatDoor
open Go.RowKit
/-- A number, cut. -/
def cutI (n : Int) : Int := max (-2147483647) (min n 2147483647)
/-- Is a number changed when it is cut? -/
def cutB (n : Int) : Bool := decide (n < -2147483647 ∨ 2147483647 < n)
theorem cut_bd (n : Int) : -2147483647 ≤ cutI n ∧ cutI n ≤ 2147483647 := by unfold cutI; omega
theorem cut_in {n : Int} (h1 : -2147483647 ≤ n) (h2 : n ≤ 2147483647) : cutI n = n ∧ cutB n = false := by
 unfold cutI cutB; exact ⟨by omega, by simp; omega⟩
theorem cut_hi {n : Int} (h : 2147483647 < n) : cutI n = 2147483647 ∧ cutB n = true := by
 unfold cutI cutB; exact ⟨by omega, by simp; omega⟩
theorem cut_lo {n : Int} (h : n < -2147483647) : cutI n = -2147483647 ∧ cutB n = true := by
 unfold cutI cutB; exact ⟨by omega, by simp; omega⟩
set_option maxHeartbeats 800000 in
theorem cut_d (p q : Nat) (n : Int) (c : Bool) (u : FrameMode) (w : World) (hp : w.cell? ⟨p, 0, none⟩ = some (.int .i64 n)) (hq : w.cell? ⟨q, 0, none⟩ = some (.bool c)) (hne : ¬ p = q)
  (fp : w.frozen? ⟨p, 0, none⟩ = false) (fq : w.frozen? ⟨q, 0, none⟩ = false) :
  CallsD Tryz.prog 22 #[.pointer (some ⟨p, 0, none⟩), .pointer (some ⟨q, 0, none⟩)] u w fun e u' w' => u' = u ∧ (e = .returned (.tuple #[]) ∧ w' = (w.setCell ⟨p, 0, none⟩ (.int .i64 (cutI n))).setCell ⟨q, 0, none⟩ (.bool (c || cutB n))) := by
 have hqp : ¬ q = p := fun h => hne h.symm
 rcases Int.lt_or_le n (-2147483647) with h1 | h1
 ·
  have e1 : min n 2147483647 = n := by omega
  have e2 : max (-2147483647) n = -2147483647 := by omega
  have e3 : ((-2147483647 : Int) != n) = true := by simp; omega
  have HE := Lib.hid (cut_lo h1)
  cases c
  all_goals
   go_enter_d Tryz.func22, Tryz.ntmps22
   go_wp2
   go_end0
   exact ⟨rfl, by rw [HE.out.1, HE.out.2]; rfl⟩
 ·
  rcases Int.lt_or_le 2147483647 n with h2 | h2
  ·
   have e1 : min n 2147483647 = 2147483647 := by omega
   have e2 : max (-2147483647) (2147483647 : Int) = 2147483647 := by omega
   have e3 : ((2147483647 : Int) != n) = true := by simp; omega
   have HE := Lib.hid (cut_hi h2)
   cases c
   all_goals
    go_enter_d Tryz.func22, Tryz.ntmps22
    go_wp2
    go_end0
    exact ⟨rfl, by rw [HE.out.1, HE.out.2]; rfl⟩
  ·
   have e1 : min n 2147483647 = n := by omega
   have e2 : max (-2147483647) n = n := by omega
   have HE := Lib.hid (cut_in h1 h2)
   cases c
   all_goals
    go_enter_d Tryz.func22, Tryz.ntmps22
    go_wp2
    go_end0
    exact ⟨rfl, by rw [HE.out.1, HE.out.2]; rfl⟩
/-- Behind the deferred call: two cells turned. -/
theorem door {fn : Func} {tmps : Array Value} {R : Ending → World → Prop} (B p q : Nat) (n : Int) (c : Bool) (w : World) (hp : w.cell? ⟨p, 0, none⟩ = some (.int .i64 n)) (hq : w.cell? ⟨q, 0, none⟩ = some (.bool c)) (hne : ¬ p = q)
  (fp : w.frozen? ⟨p, 0, none⟩ = false) (fq : w.frozen? ⟨q, 0, none⟩ = false) (hBp : B ≤ p) (hBq : B ≤ q)
  (h : ∀ w' : World, w'.cell? ⟨p, 0, none⟩ = some (.int .i64 (cutI n)) → w'.cell? ⟨q, 0, none⟩ = some (.bool (c || cutB n)) → Below B w w' → Leaves Tryz.prog fn tmps R [] .returning w') :
  Leaves Tryz.prog fn tmps R [{ target := .fn (.func 22) #[], args := #[.pointer (some ⟨p, 0, none⟩), .pointer (some ⟨q, 0, none⟩)] }] .returning w := by
 refine leaves_cons (f := 22) (args := #[.pointer (some ⟨p, 0, none⟩), .pointer (some ⟨q, 0, none⟩)]) (by simp) (by simp [go_sem]) ?_
 refine (cut_d p q n c .returning _ hp hq hne fp fq).mono ?_
 rintro e u' w' ⟨rfl, rfl, rfl⟩
 have hqp : ¬ q = p := fun h => hne h.symm
 exact h _ (by simp [go_sem, hp, hq, hne, hqp]) (by simp [go_sem, hp, hq, hne, hqp]) (((Below.refl _ _).setCell hBp _).setCell hBq _)
end Go.Proofs.YtpahkpcoinbgcaaGreatDoor

/- Fixed numbers: the walks of Clamp, clampBoth. -/
namespace Go.Proofs.YtpahkpcoinbgcaaGreatDoor
open Go.RowKit
set_option maxHeartbeats 800000 in
theorem Clamp_any (n : Int) (w : World) : Calls Tryz.prog 20 #[.int .i64 n] w (PVal2 (.int .i64 (cutI n)) (.bool (cutB n)) w) := by
 go_enter_defers Tryz.func20, Tryz.ntmps20
 go_wp2
 refine door w.heap.size w.heap.size (w.heap.size + 1) n false _ (by simp [go_sem]) (by simp [go_sem]) (by omega) (by simp [go_sem]) (by simp [go_sem]) (Nat.le_refl _) (by omega) (fun w' hp hq hb => ?_)
 exact ⟨.tuple #[.int .i64 (cutI n), .bool (cutB n)], by simp [results, Tryz.results20, go_sem, hp, hq], rfl, (((Below.refl _ _).alloc (Nat.le_refl _) _).alloc (by simp) _).trans hb⟩
set_option maxHeartbeats 800000 in
theorem clampBoth_any (a b : Int) (w : World) : Calls Tryz.prog 23 #[.int .i64 a, .int .i64 b] w (PVal3 (.int .i64 (cutI a)) (.int .i64 (cutI b)) (.bool (cutB a || cutB b)) w) := by
 go_enter Tryz.func23, Tryz.ntmps23
 go_wp2_with fail
 refine (Clamp_any a _).mono ?_
 rintro e w1 ⟨rfl, hB1⟩
 go_wp2_with fail
 refine (Clamp_any b _).mono ?_
 rintro e w2 ⟨rfl, hB2⟩
 obtain ⟨A, hA⟩ : ∃ A, cutB a = A := ⟨_, rfl⟩
 rw [hA]
 have HA := Lib.hid hA
 clear hA
 cases A
 all_goals
  go_wp2
  go_ret3
  exact ⟨by rw [HA.out]; rfl, hB1.trans (hB2.mono hB1.size)⟩
end Go.Proofs.YtpahkpcoinbgcaaGreatDoor

/- Fixed numbers: the walk of over, the greatest whole number not above a quotient. -/
namespace Go.Proofs.YtpahkpcoinbgcaaGreatDoor
open Go.RowKit
/-- A value is handed back, and the world is as it was but for the count of draws. -/
def PQuiet (v : Value) (w : World) (e : Ending) (w' : World) : Prop := e = .returned v ∧ ∃ n, w' = w.drewN n
/-- The greatest whole number not above a / b. -/
def flo (a b : Int) : Int := if 0 < b then a / b else (-a) / (-b)
theorem tq (a b : Int) : b * a.tdiv b + a.tmod b = a := Int.mul_tdiv_add_tmod a b
theorem tr_abs (a b : Int) (h : b ≠ 0) : (a.tmod b).natAbs < b.natAbs := by
 rw [Int.natAbs_tmod]; exact Nat.mod_lt _ (by omega)
theorem flo_of {a b q r : Int} (h : b * q + r = a) (hp : 0 < b → 0 ≤ r ∧ r < b) (hn : b < 0 → b < r ∧ r ≤ 0) (hb : b ≠ 0) : flo a b = q := by
 unfold flo
 split
 ·
  rename_i h0
  exact ((Int.ediv_emod_unique h0).2 ⟨by rw [Int.add_comm]; exact h, hp h0⟩).1
 ·
  have h0 : 0 < -b := by omega
  have := hn (by omega)
  exact ((Int.ediv_emod_unique (r := -r) h0).2 ⟨by rw [Int.neg_mul]; omega, by omega, by omega⟩).1
theorem flo_same {a b : Int} (hb : b ≠ 0) (h : a.tmod b = 0 ∨ (a.tmod b < 0 ↔ b < 0)) : flo a b = a.tdiv b := by
 have := tr_abs a b hb
 refine flo_of (tq a b) (fun h0 => ?_) (fun h0 => ?_) hb
 ·
  rcases h with h | h <;> omega
 ·
  rcases h with h | h <;> omega
theorem flo_less {a b : Int} (hb : b ≠ 0) (h0 : a.tmod b ≠ 0) (h : ¬ (a.tmod b < 0 ↔ b < 0)) : flo a b = a.tdiv b - 1 := by
 have := tr_abs a b hb
 refine flo_of (r := a.tmod b + b) (by have := tq a b; rw [Int.mul_sub]; omega) (fun h0 => ?_) (fun h0 => ?_) hb <;> omega
theorem tdiv_bd (a b : Int) (h1 : -4611686018427387904 ≤ a) (h2 : a ≤ 4611686018427387904) : -4611686018427387904 ≤ a.tdiv b ∧ a.tdiv b ≤ 4611686018427387904 := by
 have h : (a.tdiv b).natAbs ≤ a.natAbs := by rw [Int.natAbs_tdiv]; exact Nat.div_le_self _ _
 omega
set_option maxHeartbeats 800000 in
theorem over_any (a b : Int) (w : World) (hb : ¬ b = 0) (h1 : -4611686018427387904 ≤ a) (h2 : a ≤ 4611686018427387904) :
  Calls Tryz.prog 28 #[.int .i64 a, .int .i64 b] w (PQuiet (.int .i64 (flo a b)) w) := by
 have hs := @flo_same a b hb
 have hl := @flo_less a b hb
 have hbd := tdiv_bd a b h1 h2
 obtain ⟨q, hq⟩ : ∃ q, a.tdiv b = q := ⟨_, rfl⟩
 obtain ⟨r, hr⟩ : ∃ r, a.tmod b = r := ⟨_, rfl⟩
 rw [hq] at hs hl hbd
 rw [hr] at hs hl
 obtain ⟨hq1, hq2⟩ := hbd
 have hw : IntKind.i64.wrap q = q := IntWalk.i64_in _ (by omega)
 have HS := Lib.hid hs
 have HL := Lib.hid hl
 clear hs hl
 go_enter Tryz.func28, Tryz.ntmps28
 go_wp2_with fail
 go_quiet (fail)
 clear hq hr hw
 rcases Int.lt_trichotomy r 0 with h | h | h
 ·
  have r0 : (r == 0) = false := by simp; omega
  have r0' : (r != 0) = true := by simp; omega
  have hd : decide (r < 0) = true := decide_eq_true h
  rcases Int.lt_or_le b 0 with k | k
  ·
   have hdb : decide (b < 0) = true := decide_eq_true k
   have HE : Hid (flo a b = q) := HS.out (.inr ⟨fun _ => k, fun _ => h⟩)
   go_wp2
   go_ret
   exact ⟨ret_int HE.out.symm, nq, rfl⟩
  ·
   have hdb : decide (b < 0) = false := decide_eq_false (by omega)
   have HE : Hid (flo a b = q - 1) := HL.out (by omega) (fun e => by have := e.1 h; omega)
   go_wp2
   go_ret
   exact ⟨ret_int HE.out.symm, nq, rfl⟩
 ·
  subst h
  have HE : Hid (flo a b = q) := HS.out (.inl rfl)
  go_wp2
  go_ret
  exact ⟨ret_int HE.out.symm, nq, rfl⟩
 ·
  have r0 : (r == 0) = false := by simp; omega
  have r0' : (r != 0) = true := by simp; omega
  have hd : decide (r < 0) = false := decide_eq_false (by omega)
  rcases Int.lt_or_le b 0 with k | k
  ·
   have hdb : decide (b < 0) = true := decide_eq_true k
   have HE : Hid (flo a b = q - 1) := HL.out (by omega) (fun e => by have := e.2 k; omega)
   go_wp2
   go_ret
   exact ⟨ret_int HE.out.symm, nq, rfl⟩
  ·
   have hdb : decide (b < 0) = false := decide_eq_false (by omega)
   have HE : Hid (flo a b = q) := HS.out (.inr ⟨fun x => by omega, fun x => by omega⟩)
   go_wp2
   go_ret
   exact ⟨ret_int HE.out.symm, nq, rfl⟩
end Go.Proofs.YtpahkpcoinbgcaaGreatDoor
