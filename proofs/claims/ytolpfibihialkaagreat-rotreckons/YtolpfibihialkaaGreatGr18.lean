/- Parts of the proof. -/
import Derived.Test.YtolpfibihialkaaGreatGr0
import Derived.Test.YtolpfibihialkaaGreatGr17
import Derived.Test.YtolpfibihialkaaGreatGr1
import Derived.Laws.StructEq
import Derived.Test.YtolpfibihialkaaGreatGr3
/- Spans in memory: boxes of three cells, one behind the other. -/
namespace Go.Proofs.YtolpfibihialkaaGreat
open Go.RowKit
/-- A span's box. -/
def B3 (w : World) (k : Nat) (x : Sp) : Prop := w.heap[k]? = some (.cells #[.int .i64 x.lo, .int .i64 x.hi, .bool x.all] 23 (0, 0))
theorem B3.below {w w' : World} {k : Nat} {x : Sp} (h : B3 w k x) (hb : Below w.heap.size w w') : B3 w' k x := by
 unfold B3 at h ⊢
 rw [hb.block k (Array.getElem?_eq_some_iff.1 h).1, h]
theorem B3.cells {w : World} {k : Nat} {x : Sp} (h : B3 w k x) : w.cell? ⟨k, 0, none⟩ = some (.int .i64 x.lo) ∧ w.cell? ⟨k, 1, none⟩ = some (.int .i64 x.hi) ∧ w.cell? ⟨k, 2, none⟩ = some (.bool x.all) ∧ w.frozen? ⟨k, 0, none⟩ = false ∧ w.frozen? ⟨k, 1, none⟩ = false ∧ w.frozen? ⟨k, 2, none⟩ = false := by
 unfold B3 at h
 simp [World.cell?, World.frozen?, h]
theorem heap_new (w : World) (o : Obj) : (w.alloc o).heap[w.heap.size]? = some o := by rw [heap_alloc_new]
theorem b3_new (w : World) (x : Sp) : B3 (w.alloc (.cells #[.int .i64 x.lo, .int .i64 x.hi, .bool x.all] 23)) w.heap.size x := heap_new w _
theorem heap_set3 {w : World} {k : Nat} {u v x a b c : Value} {t : TypeId} (h : w.heap[k]? = some (.cells #[u, v, x] t (0, 0))) :
  (((w.setCell ⟨k, 0, none⟩ a).setCell ⟨k, 1, none⟩ b).setCell ⟨k, 2, none⟩ c).heap[k]? = some (.cells #[a, b, c] t (0, 0)) := by
 simp only [World.setCell, Array.getElem?_modify, if_true, h, Option.map_some]
 rfl
theorem heap_set_ne (w : World) {k k' o : Nat} (v : Value) (h : k ≠ k') : (w.setCell ⟨k', o, none⟩ v).heap[k]? = w.heap[k]? := by
 simp only [World.setCell, Array.getElem?_modify]
 rw [if_neg (fun e => h e.symm)]
theorem B3.self {w : World} {k : Nat} {x : Sp} (h : B3 w k x) (y : Sp) : B3 (((w.setCell ⟨k, 0, none⟩ (.int .i64 y.lo)).setCell ⟨k, 1, none⟩ (.int .i64 y.hi)).setCell ⟨k, 2, none⟩ (.bool y.all)) k y := heap_set3 h
theorem B3.other {w : World} {k k' : Nat} {x : Sp} (h : B3 w k x) (hne : k ≠ k') (a b c : Value) : B3 (((w.setCell ⟨k', 0, none⟩ a).setCell ⟨k', 1, none⟩ b).setCell ⟨k', 2, none⟩ c) k x := by
 unfold B3 at h ⊢
 rw [heap_set_ne _ _ hne, heap_set_ne _ _ hne, heap_set_ne _ _ hne, h]
/-- Boxes one behind the other, behind what was there. -/
structure Bs (w W : World) (xs : List Sp) : Prop where
 below : Below w.heap.size w W
 at' : ∀ i x, xs[i]? = some x → B3 W (w.heap.size + i) x
theorem Bs.later {w W W' : World} {xs : List Sp} (h : Bs w W xs) (hb : Below W.heap.size W W') : Bs w W' xs := ⟨h.below.trans (hb.mono h.below.size), fun i x hx => (h.at' i x hx).below hb⟩
theorem Bs.drew {w W : World} {xs : List Sp} (h : Bs w W xs) : Bs w W.drew xs := ⟨h.below.drew, h.at'⟩
theorem bs_nil (w : World) : Bs w w [] := ⟨Below.refl _ _, nofun⟩
theorem Bs.put {w W : World} {xs : List Sp} (h : Bs w W xs) (i : Nat) (hi : i < xs.length) (y : Sp) :
  Bs w (((W.setCell ⟨w.heap.size + i, 0, none⟩ (.int .i64 y.lo)).setCell ⟨w.heap.size + i, 1, none⟩ (.int .i64 y.hi)).setCell ⟨w.heap.size + i, 2, none⟩ (.bool y.all)) (xs.set i y) := by
 refine ⟨((h.below.setCell (p := ⟨w.heap.size + i, 0, none⟩) (Nat.le_add_right _ _) _).setCell (p := ⟨w.heap.size + i, 1, none⟩) (Nat.le_add_right _ _) _).setCell (p := ⟨w.heap.size + i, 2, none⟩) (Nat.le_add_right _ _) _, fun j x hj => ?_⟩
 by_cases h0 : i = j
 ·
  subst h0
  rw [List.getElem?_set_self hi] at hj
  cases hj
  exact (h.at' i _ (List.getElem?_eq_getElem hi)).self y
 ·
  rw [List.getElem?_set_ne h0] at hj
  exact (h.at' j x hj).other (by omega) _ _ _
/-- What has been made, in one block more. -/
theorem Bs.more {w W : World} {xs : List Sp} (h : Bs w W xs) (hs : W.heap.size = w.heap.size + xs.length) (x : Sp) : Bs w (W.alloc (.cells #[.int .i64 x.lo, .int .i64 x.hi, .bool x.all] 23)) (xs ++ [x]) := by
 refine ⟨h.below.alloc h.below.size _, fun j y hj => ?_⟩
 by_cases h0 : j < xs.length
 ·
  rw [List.getElem?_append_left h0] at hj
  exact (h.at' j y hj).below ((Below.refl _ _).alloc (Nat.le_refl _) _)
 ·
  rw [List.getElem?_append_right (by omega)] at hj
  have e : j = xs.length := by
   have := (List.getElem?_eq_some_iff.1 hj).1
   simp at this
   omega
  subst e
  rw [Nat.sub_self] at hj
  cases hj
  rw [← hs]
  exact b3_new W x
theorem bs1 (w : World) (a b : Int) (c : Bool) : Bs w (w.alloc (.cells #[.int .i64 a, .int .i64 b, .bool c] 23)) [⟨a, b, c⟩] := (bs_nil w).more rfl ⟨a, b, c⟩
theorem bs2 (w : World) (a b : Int) (c : Bool) (a' b' : Int) (c' : Bool) : Bs w ((w.alloc (.cells #[.int .i64 a, .int .i64 b, .bool c] 23)).alloc (.cells #[.int .i64 a', .int .i64 b', .bool c'] 23)) [⟨a, b, c⟩, ⟨a', b', c'⟩] := (bs1 w a b c).more (by simp) ⟨a', b', c'⟩
theorem bs3 (w : World) (a b : Int) (c : Bool) (a' b' : Int) (c' : Bool) (a2 b2 : Int) (c2 : Bool) : Bs w (((w.alloc (.cells #[.int .i64 a, .int .i64 b, .bool c] 23)).alloc (.cells #[.int .i64 a', .int .i64 b', .bool c'] 23)).alloc (.cells #[.int .i64 a2, .int .i64 b2, .bool c2] 23)) [⟨a, b, c⟩, ⟨a', b', c'⟩, ⟨a2, b2, c2⟩] := (bs2 w a b c a' b' c').more (by simp) ⟨a2, b2, c2⟩
theorem Bs.c0 {w W : World} {x : Sp} {xs : List Sp} (h : Bs w W (x :: xs)) : W.cell? ⟨w.heap.size, 0, none⟩ = some (.int .i64 x.lo) ∧ W.cell? ⟨w.heap.size, 1, none⟩ = some (.int .i64 x.hi) ∧ W.cell? ⟨w.heap.size, 2, none⟩ = some (.bool x.all) ∧ W.frozen? ⟨w.heap.size, 0, none⟩ = false ∧ W.frozen? ⟨w.heap.size, 1, none⟩ = false ∧ W.frozen? ⟨w.heap.size, 2, none⟩ = false := (h.at' 0 x rfl).cells
theorem Bs.c1 {w W : World} {y x : Sp} {xs : List Sp} (h : Bs w W (y :: x :: xs)) : W.cell? ⟨w.heap.size + 1, 0, none⟩ = some (.int .i64 x.lo) ∧ W.cell? ⟨w.heap.size + 1, 1, none⟩ = some (.int .i64 x.hi) ∧ W.cell? ⟨w.heap.size + 1, 2, none⟩ = some (.bool x.all) ∧ W.frozen? ⟨w.heap.size + 1, 0, none⟩ = false ∧ W.frozen? ⟨w.heap.size + 1, 1, none⟩ = false ∧ W.frozen? ⟨w.heap.size + 1, 2, none⟩ = false := (h.at' 1 x rfl).cells
theorem Bs.c2 {w W : World} {y z x : Sp} {xs : List Sp} (h : Bs w W (y :: z :: x :: xs)) : W.cell? ⟨w.heap.size + 2, 0, none⟩ = some (.int .i64 x.lo) ∧ W.cell? ⟨w.heap.size + 2, 1, none⟩ = some (.int .i64 x.hi) ∧ W.cell? ⟨w.heap.size + 2, 2, none⟩ = some (.bool x.all) ∧ W.frozen? ⟨w.heap.size + 2, 0, none⟩ = false ∧ W.frozen? ⟨w.heap.size + 2, 1, none⟩ = false ∧ W.frozen? ⟨w.heap.size + 2, 2, none⟩ = false := (h.at' 2 x rfl).cells
/-- A span is handed back, and nothing that was there has turned. -/
def PSp (x : Sp) (w : World) (e : Ending) (w' : World) : Prop := e = .returned (.agg #[.int .i64 x.lo, .int .i64 x.hi, .bool x.all]) ∧ Below w.heap.size w w'
/-- Are two spans' fields the same? -/
def eqS (a b : Int) (c : Bool) (a' b' : Int) (c' : Bool) : Bool := a == a' && (b == b' && c == c')
theorem run_eqS (a b : Int) (c : Bool) (a' b' : Int) (c' : Bool) (w : World) : (Op.equalIn 10000 23 (.agg #[.int .i64 a, .int .i64 b, .bool c]) (.agg #[.int .i64 a', .int .i64 b', .bool c'])).run Tryz.prog w = .ok (eqS a b c a' b' c') w := by
 have ht : Tryz.prog.underlying 23 = some (.struct (Tryz.prog.fieldsOf 23)) := by kernel_rfl
 have hp : Tryz.prog.stoodInHeld 23 = false := by kernel_rfl
 have u1 := Tryz.underlying2
 have u2 := Tryz.underlying4
 have a1 := Tryz.isAgg2
 have a2 := Tryz.isAgg4
 have z1 := Tryz.sizeOf2
 have z2 := Tryz.sizeOf4
 rw [show (10000 : Nat) = 9999 + 1 from rfl, run_equalIn_struct w 9999 23 _ _ ht hp]
 simp only [Program.fieldsOf, Tryz.underlying23]
 unfold eqS
 go_simp
 by_cases h1 : a = a' <;> by_cases h2 : b = b' <;> cases c <;> cases c' <;> simp [h1, h2]
theorem run_eqlS (a b : Int) (c : Bool) (a' b' : Int) (c' : Bool) (w : World) : (binOp .eql 23 (.agg #[.int .i64 a, .int .i64 b, .bool c]) (.agg #[.int .i64 a', .int .i64 b', .bool c'])).run Tryz.prog w = .ok (.bool (eqS a b c a' b' c')) w := by
 rw [run_eql_struct, run_eqS]
 rfl
theorem run_neqS (a b : Int) (c : Bool) (a' b' : Int) (c' : Bool) (w : World) : (binOp .neq 23 (.agg #[.int .i64 a, .int .i64 b, .bool c]) (.agg #[.int .i64 a', .int .i64 b', .bool c'])).run Tryz.prog w = .ok (.bool (!eqS a b c a' b' c')) w := by
 rw [run_neq_struct, run_eqS]
 rfl
end Go.Proofs.YtolpfibihialkaaGreat

/- Variables of spans, wherever they lie. No statement of the seat is proved here. -/
namespace Go.Proofs.YtolpfibihialkaaGreat
open Go Go.RowKit
section
variable {P : Program}
def OpZ (P : Program) (Q : Exit → Act → World → Prop) (o : Oper) (ops : Array Oper) (A : Act) (VP : Nat → Value → World → Prop) (J : World → Prop) (n i : Nat) (u : Nat → Value) (W : World) : Prop :=
 (Region.wanted o (yielded ops A.tmps) = false ∧ VP i undef W) ∨
 (Region.wanted o (yielded ops A.tmps) = true ∧ ∀ K' : Act → World → Prop, (∀ v W', J W' → VP i v W' → (∀ j, j < n → VP j (u j) W → VP j (u j) W') → K' (A.put o.dst v) W') → Oper.wp P o A W K' Q)
theorem wp_region_z {Q : Exit → Act → World → Prop} {id : Nat} {a : Act} {w : World} {l : List Oper} (n : Nat) (ds : List (Option Tmp)) (VP : Nat → Value → World → Prop) (J : World → Prop) (hm : P.follows .mixedOrders = true) (hB : tailsB2 .any l.toArray n = true) (hds : ds = (l.take n).map (·.dst)) (hs : slotsB ds = true)
  (hz : ds.all (fun d => match d with | some t => decide (t < a.tmps.size) | none => true) = true)
  (h0 : J w.drew)
  (step : ∀ i (hi : i < l.length), i < n → ∀ (u : Nat → Value) (W : World) (A : Act), J W → (∀ j, j < n → Region.waitsFor .any l.toArray i j = true → VP j (u j) W) →
   (∀ t, some t ∉ ds → A.tmps[t]? = a.tmps[t]?) → (∀ j d, ds[j]? = some (some d) → A.tmps[d]? = some (u j)) → OpZ P Q l[i] l.toArray A VP J n i u W)
  (fin : ∀ (u : Nat → Value) (W : World), J W → (∀ j, j < n → VP j (u j) W) → wpList P l.toArray Q (l.drop n) (layS a ds u 0) W) : (Code.region id l.toArray true).wp P Q a w := by
 have hl : n ≤ l.length := by
  have hB' := hB
  unfold tailsB2 at hB'
  simp only [Bool.and_eq_true, decide_eq_true_eq] at hB'
  simpa using hB'.1.1.1
 have hlen : ds.length = n := by rw [hds]; simp; omega
 refine wp_region_inv2 n (fun L a' W => ∃ u : Nat → Value, J W ∧ (∀ j, j < n → L j = true → VP j (u j) W) ∧ a' = layS a ds u 0) hm hB ⟨fun k => ((ds.getD k none).map fun t => a.tmps.getD t undef).getD undef, h0, nofun, ?_⟩ ?_ ?_
 ·
  refine (layS_self a ds _ 0 (fun j d hj => ?_)).symm
  have : ds.getD (0 + j) none = d := by rw [Nat.zero_add, List.getD_eq_getElem?_getD, hj]; rfl
  rw [this]
 ·
  rintro L a' W i hi ⟨u, hJ, hu, rfl⟩ _ hw
  have hil : i < l.length := Nat.lt_of_lt_of_le hi hl
  have hid : ds[i]? = some l[i].dst := by
   rw [hds]
   simp [List.getElem?_take, hi, hil]
  have hinn : ∀ j d, ds[j]? = some (some d) → (layS a ds u 0).tmps[d]? = some (u j) := by
   intro j d hj
   have hd' : d < a.tmps.size := by
    have := List.all_eq_true.1 hz _ (List.mem_of_getElem? hj)
    simpa using this
   have h1 := layS_in ds a u 0 j d hs hj hd'
   rwa [Nat.zero_add] at h1
  refine wpOp_step (o := l[i]) (by simp [hil]) (fun K' hK => ?_)
  have key : ∀ W' v, J W' → VP i v W' → (∀ j, j < n → VP j (u j) W → VP j (u j) W') → K' ((layS a ds u 0).put l[i].dst v) W' := by
   intro W' v hj hv hb
   rw [layS_put hs hid]
   refine hK _ _ ⟨updV u i v, hj, fun j hjn hLj => ?_, rfl⟩
   unfold updV
   by_cases h : j = i
   ·
    rw [if_pos h, h]; exact hv
   ·
    rw [if_neg h]
    rw [upd_ne h] at hLj
    exact hb j hjn (hu j hjn hLj)
  rcases step i hil hi u W _ hJ (fun j hjn hj => hu j hjn (hw j hj)) (fun t ht => layS_out _ _ _ _ _ ht) hinn with ⟨h1, h2⟩ | ⟨h1, h2⟩
  ·
   rw [if_neg (by rw [h1]; decide)]
   exact key W undef hJ h2 (fun _ _ h => h)
  ·
   rw [if_pos h1]
   exact h2 K' (fun v W' hj hv hb => key W' v hj hv hb)
 ·
  rintro a' W ⟨L, hL, u, hJ, hu, rfl⟩
  exact fin u W hJ (fun j hj => hu j hj (hL j hj))
end
structure Bl (w W : World) (l : List (Nat × Sp)) : Prop where
 below : Below w.heap.size w W
 at' : ∀ p, p ∈ l → B3 W p.1 p.2
theorem Bl.later {w W W' : World} {l : List (Nat × Sp)} (h : Bl w W l) (hb : Below W.heap.size W W') : Bl w W' l := ⟨h.below.trans (hb.mono h.below.size), fun p hp => (h.at' p hp).below hb⟩
theorem Bl.drew {w W : World} {l : List (Nat × Sp)} (h : Bl w W l) : Bl w W.drew l := ⟨h.below.drew, h.at'⟩
theorem Bl.new {w W : World} {l : List (Nat × Sp)} (h : Bl w W l) (x : Sp) : Bl w (W.alloc (.cells #[.int .i64 x.lo, .int .i64 x.hi, .bool x.all] 23)) ((W.heap.size, x) :: l) := by
 have hb : Below W.heap.size W (W.alloc (.cells #[.int .i64 x.lo, .int .i64 x.hi, .bool x.all] 23)) := (Below.refl _ _).alloc (Nat.le_refl _) _
 refine ⟨(h.later hb).below, fun p hp => ?_⟩
 rcases List.mem_cons.1 hp with rfl | hp
 ·
  exact b3_new W x
 ·
  exact (h.later hb).at' p hp
theorem Bl.lt {w W : World} {l : List (Nat × Sp)} (h : Bl w W l) : ∀ p, p ∈ l → p.1 < W.heap.size := fun p hp => (Array.getElem?_eq_some_iff.1 (h.at' p hp)).1
/-- In a region: the variables, all of them ahead of m. -/
structure Bm (w : World) (m : Nat) (l : List (Nat × Sp)) (W : World) : Prop where
 bl : Bl w W l
 le : m ≤ W.heap.size
 lt : ∀ p, p ∈ l → p.1 < m
 ge : w.heap.size ≤ m
theorem Bm.later {w W W' : World} {m : Nat} {l : List (Nat × Sp)} (h : Bm w m l W) (hb : Below W.heap.size W W') : Bm w m l W' := ⟨h.bl.later hb, Nat.le_trans h.le hb.size, h.lt, h.ge⟩
theorem Bm.far {w W : World} {m b : Nat} {l : List (Nat × Sp)} (h : Bm w m l W) (hb : m ≤ b) (x y z : Value) : Bm w m l (((W.setCell ⟨b, 0, none⟩ x).setCell ⟨b, 1, none⟩ y).setCell ⟨b, 2, none⟩ z) := by
 have h1 := h.le
 have h2 := h.ge
 refine ⟨⟨((h.bl.below.setCell (p := ⟨b, 0, none⟩) (by show w.heap.size ≤ b; omega) _).setCell (p := ⟨b, 1, none⟩) (by show w.heap.size ≤ b; omega) _).setCell (p := ⟨b, 2, none⟩) (by show w.heap.size ≤ b; omega) _, fun p hp => (h.bl.at' p hp).other (by have := h.lt p hp; omega) _ _ _⟩, ?_, h.lt, h.ge⟩
 rw [World.size_setCell, World.size_setCell, World.size_setCell]
 exact h1
/-- A value is a new variable's place. -/
def Pbox (m : Nat) (v : Value) (W : World) : Prop := ∃ (b : Nat) (x : Sp), v = .pointer (some ⟨b, 0, none⟩) ∧ m ≤ b ∧ B3 W b x
theorem Pbox.later {m : Nat} {v : Value} {W W' : World} (h : Pbox m v W) (hb : Below W.heap.size W W') : Pbox m v W' := by
 obtain ⟨b, x, e, h1, h2⟩ := h
 exact ⟨b, x, e, h1, h2.below hb⟩
theorem B3.any {W : World} {k b : Nat} {x y : Sp} (h : B3 W k x) (h' : B3 W b y) (z : Sp) : ∃ x', B3 (((W.setCell ⟨b, 0, none⟩ (.int .i64 z.lo)).setCell ⟨b, 1, none⟩ (.int .i64 z.hi)).setCell ⟨b, 2, none⟩ (.bool z.all)) k x' := by
 by_cases e : k = b
 ·
  subst e; exact ⟨z, h.self z⟩
 ·
  exact ⟨x, h.other e _ _ _⟩
end Go.Proofs.YtolpfibihialkaaGreat

/- The document's spans in memory: boxes of three cells, one behind the other. -/
namespace Go.Proofs.YtolpfibihialkaaGreat
open Go.RowKit
/-- A span's box. -/
def D3 (w : World) (k : Nat) (x : Sp) : Prop := w.heap[k]? = some (.cells #[.int .i64 x.lo, .int .i64 x.hi, .bool x.all] 29 (0, 0))
theorem D3.below {w w' : World} {k : Nat} {x : Sp} (h : D3 w k x) (hb : Below w.heap.size w w') : D3 w' k x := by
 unfold D3 at h ⊢
 rw [hb.block k (Array.getElem?_eq_some_iff.1 h).1, h]
theorem D3.cells {w : World} {k : Nat} {x : Sp} (h : D3 w k x) : w.cell? ⟨k, 0, none⟩ = some (.int .i64 x.lo) ∧ w.cell? ⟨k, 1, none⟩ = some (.int .i64 x.hi) ∧ w.cell? ⟨k, 2, none⟩ = some (.bool x.all) ∧ w.frozen? ⟨k, 0, none⟩ = false ∧ w.frozen? ⟨k, 1, none⟩ = false ∧ w.frozen? ⟨k, 2, none⟩ = false := by
 unfold D3 at h
 simp [World.cell?, World.frozen?, h]
theorem d3_new (w : World) (x : Sp) : D3 (w.alloc (.cells #[.int .i64 x.lo, .int .i64 x.hi, .bool x.all] 29)) w.heap.size x := heap_new w _
theorem D3.self {w : World} {k : Nat} {x : Sp} (h : D3 w k x) (y : Sp) : D3 (((w.setCell ⟨k, 0, none⟩ (.int .i64 y.lo)).setCell ⟨k, 1, none⟩ (.int .i64 y.hi)).setCell ⟨k, 2, none⟩ (.bool y.all)) k y := heap_set3 h
theorem D3.other {w : World} {k k' : Nat} {x : Sp} (h : D3 w k x) (hne : k ≠ k') (a b c : Value) : D3 (((w.setCell ⟨k', 0, none⟩ a).setCell ⟨k', 1, none⟩ b).setCell ⟨k', 2, none⟩ c) k x := by
 unfold D3 at h ⊢
 rw [heap_set_ne _ _ hne, heap_set_ne _ _ hne, heap_set_ne _ _ hne, h]
/-- Boxes one behind the other, behind what was there. -/
structure Ds (w W : World) (xs : List Sp) : Prop where
 below : Below w.heap.size w W
 at' : ∀ i x, xs[i]? = some x → D3 W (w.heap.size + i) x
theorem Ds.later {w W W' : World} {xs : List Sp} (h : Ds w W xs) (hb : Below W.heap.size W W') : Ds w W' xs := ⟨h.below.trans (hb.mono h.below.size), fun i x hx => (h.at' i x hx).below hb⟩
theorem Ds.drew {w W : World} {xs : List Sp} (h : Ds w W xs) : Ds w W.drew xs := ⟨h.below.drew, h.at'⟩
theorem ds_nil (w : World) : Ds w w [] := ⟨Below.refl _ _, nofun⟩
theorem Ds.put {w W : World} {xs : List Sp} (h : Ds w W xs) (i : Nat) (hi : i < xs.length) (y : Sp) :
  Ds w (((W.setCell ⟨w.heap.size + i, 0, none⟩ (.int .i64 y.lo)).setCell ⟨w.heap.size + i, 1, none⟩ (.int .i64 y.hi)).setCell ⟨w.heap.size + i, 2, none⟩ (.bool y.all)) (xs.set i y) := by
 refine ⟨((h.below.setCell (p := ⟨w.heap.size + i, 0, none⟩) (Nat.le_add_right _ _) _).setCell (p := ⟨w.heap.size + i, 1, none⟩) (Nat.le_add_right _ _) _).setCell (p := ⟨w.heap.size + i, 2, none⟩) (Nat.le_add_right _ _) _, fun j x hj => ?_⟩
 by_cases h0 : i = j
 ·
  subst h0
  rw [List.getElem?_set_self hi] at hj
  cases hj
  exact (h.at' i _ (List.getElem?_eq_getElem hi)).self y
 ·
  rw [List.getElem?_set_ne h0] at hj
  exact (h.at' j x hj).other (by omega) _ _ _
/-- What has been made, in one block more. -/
theorem Ds.more {w W : World} {xs : List Sp} (h : Ds w W xs) (hs : W.heap.size = w.heap.size + xs.length) (x : Sp) : Ds w (W.alloc (.cells #[.int .i64 x.lo, .int .i64 x.hi, .bool x.all] 29)) (xs ++ [x]) := by
 refine ⟨h.below.alloc h.below.size _, fun j y hj => ?_⟩
 by_cases h0 : j < xs.length
 ·
  rw [List.getElem?_append_left h0] at hj
  exact (h.at' j y hj).below ((Below.refl _ _).alloc (Nat.le_refl _) _)
 ·
  rw [List.getElem?_append_right (by omega)] at hj
  have e : j = xs.length := by
   have := (List.getElem?_eq_some_iff.1 hj).1
   simp at this
   omega
  subst e
  rw [Nat.sub_self] at hj
  cases hj
  rw [← hs]
  exact d3_new W x
theorem ds1 (w : World) (a b : Int) (c : Bool) : Ds w (w.alloc (.cells #[.int .i64 a, .int .i64 b, .bool c] 29)) [⟨a, b, c⟩] := (ds_nil w).more rfl ⟨a, b, c⟩
theorem ds2 (w : World) (a b : Int) (c : Bool) (a' b' : Int) (c' : Bool) : Ds w ((w.alloc (.cells #[.int .i64 a, .int .i64 b, .bool c] 29)).alloc (.cells #[.int .i64 a', .int .i64 b', .bool c'] 29)) [⟨a, b, c⟩, ⟨a', b', c'⟩] := (ds1 w a b c).more (by simp) ⟨a', b', c'⟩
theorem Ds.c0 {w W : World} {x : Sp} {xs : List Sp} (h : Ds w W (x :: xs)) : W.cell? ⟨w.heap.size, 0, none⟩ = some (.int .i64 x.lo) ∧ W.cell? ⟨w.heap.size, 1, none⟩ = some (.int .i64 x.hi) ∧ W.cell? ⟨w.heap.size, 2, none⟩ = some (.bool x.all) ∧ W.frozen? ⟨w.heap.size, 0, none⟩ = false ∧ W.frozen? ⟨w.heap.size, 1, none⟩ = false ∧ W.frozen? ⟨w.heap.size, 2, none⟩ = false := (h.at' 0 x rfl).cells
theorem Ds.c1 {w W : World} {y x : Sp} {xs : List Sp} (h : Ds w W (y :: x :: xs)) : W.cell? ⟨w.heap.size + 1, 0, none⟩ = some (.int .i64 x.lo) ∧ W.cell? ⟨w.heap.size + 1, 1, none⟩ = some (.int .i64 x.hi) ∧ W.cell? ⟨w.heap.size + 1, 2, none⟩ = some (.bool x.all) ∧ W.frozen? ⟨w.heap.size + 1, 0, none⟩ = false ∧ W.frozen? ⟨w.heap.size + 1, 1, none⟩ = false ∧ W.frozen? ⟨w.heap.size + 1, 2, none⟩ = false := (h.at' 1 x rfl).cells
theorem Ds.c2 {w W : World} {y z x : Sp} {xs : List Sp} (h : Ds w W (y :: z :: x :: xs)) : W.cell? ⟨w.heap.size + 2, 0, none⟩ = some (.int .i64 x.lo) ∧ W.cell? ⟨w.heap.size + 2, 1, none⟩ = some (.int .i64 x.hi) ∧ W.cell? ⟨w.heap.size + 2, 2, none⟩ = some (.bool x.all) ∧ W.frozen? ⟨w.heap.size + 2, 0, none⟩ = false ∧ W.frozen? ⟨w.heap.size + 2, 1, none⟩ = false ∧ W.frozen? ⟨w.heap.size + 2, 2, none⟩ = false := (h.at' 2 x rfl).cells
/-- A span is handed back, and nothing that was there has turned. -/
def PDp (x : Sp) (w : World) (e : Ending) (w' : World) : Prop := e = .returned (.agg #[.int .i64 x.lo, .int .i64 x.hi, .bool x.all]) ∧ Below w.heap.size w w'
end Go.Proofs.YtolpfibihialkaaGreat

/- Spans: the walks of fixed, whole, Of, counted, Join. -/
namespace Go.Proofs.YtolpfibihialkaaGreat
open Go.RowKit
attribute [local go_sem ↓] run_eqlS run_neqS
theorem eqS_same (a b : Int) (c : Bool) : eqS a b c a b c = true := by simp [eqS]
theorem eqS_iff {a b : Int} {c : Bool} {a' b' : Int} {c' : Bool} : eqS a b c a' b' c' = true ↔ a = a' ∧ b = b' ∧ c = c' := by
 unfold eqS
 simp only [Bool.and_eq_true, beq_iff_eq]
set_option maxHeartbeats 400000 in
theorem sfixed_any (n : Int) (w : World) : Calls Tryz.prog 44 #[.int .i64 n] w (PVal (.bool (!cutB n)) w) := by
 go_enter Tryz.func44, Tryz.ntmps44
 go_wp2_with fail
 refine (Clamp_any n _).mono ?_
 rintro e w1 ⟨rfl, hB⟩
 go_wp2
 go_ret
 exact ⟨rfl, hB⟩
set_option maxHeartbeats 400000 in
theorem whole_any (w : World) : Calls Tryz.prog 45 #[] w (PSp lineS w) := by
 go_enter Tryz.func45, Tryz.ntmps45
 go_wp2
 exact bodyPost_ret (v := .agg #[.int .i64 0, .int .i64 0, .bool true]) (by simp [results, Tryz.results45, go_sem]) rfl ⟨rfl, (bs1 w 0 0 true).below⟩
theorem ofS_fix {a b : Int} (h1 : cutB a = false) (h2 : cutB b = false) : ofS a b = ⟨min a b, max a b, false⟩ := by
 have k1 := cut_false h1
 have k2 := cut_false h2
 have b1 := cut_bd a
 have b2 := cut_bd b
 rw [k1] at b1
 rw [k2] at b2
 exact mkS_ok (ok_mk (by show _ ≤ min a b; omega) (by show min a b ≤ max a b; omega) (by show max a b ≤ _; omega) rfl)
theorem ofS_cut {a b : Int} (h : cutB a = true ∨ cutB b = true) : ofS a b = lineS := by
 refine mkS_no ?_
 cases hk : okB ⟨min a b, max a b, false⟩
 ·
  rfl
 ·
  obtain ⟨h1, _, h3, _⟩ := ok_of hk
  have h1 : -2147483647 ≤ min a b := h1
  have h3 : max a b ≤ 2147483647 := h3
  rw [(cut_in (n := a) (by omega) (by omega)).2, (cut_in (n := b) (by omega) (by omega)).2] at h
  rcases h with h | h <;> cases h
set_option maxHeartbeats 800000 in
theorem sOf_any (a b : Int) (w : World) : Calls Tryz.prog 23 #[.int .i64 a, .int .i64 b] w (PSp (ofS a b) w) := by
 cases h1 : cutB a
 ·
  cases h2 : cutB b
  ·
   rw [ofS_fix h1 h2]
   go_enter Tryz.func23, Tryz.ntmps23
   go_wp2_with fail
   refine (sfixed_any a _).mono ?_
   rintro e w1 ⟨rfl, hB1⟩
   rw [h1]
   go_wp2_with fail
   refine (sfixed_any b _).mono ?_
   rintro e w2 ⟨rfl, hB2⟩
   rw [h2]
   have hX := ((bs1 w 0 0 false).later hB1).later hB2
   obtain ⟨c0, c1, c2, f0, f1, f2⟩ := hX.c0
   clear hB1 hB2 h1 h2
   go_wp2
   have h := hX.put 0 (by simp) ⟨min a b, max a b, false⟩
   rw [Nat.add_zero] at h
   exact bodyPost_ret (v := .agg #[.int .i64 (min a b), .int .i64 (max a b), .bool false]) (by simp [results, Tryz.results23, go_sem, c0, c1, c2]) rfl ⟨rfl, h.below⟩
  ·
   rw [ofS_cut (.inr h2)]
   go_enter Tryz.func23, Tryz.ntmps23
   go_wp2_with fail
   refine (sfixed_any a _).mono ?_
   rintro e w1 ⟨rfl, hB1⟩
   rw [h1]
   go_wp2_with fail
   refine (sfixed_any b _).mono ?_
   rintro e w2 ⟨rfl, hB2⟩
   rw [h2]
   go_wp2_with fail
   refine (whole_any _).mono ?_
   rintro e w3 ⟨rfl, hB3⟩
   have hX := (((bs1 w 0 0 false).later hB1).later hB2).later hB3
   obtain ⟨c0, c1, c2, f0, f1, f2⟩ := hX.c0
   clear hB1 hB2 hB3 h1 h2
   go_wp2
   have h := hX.put 0 (by simp) lineS
   rw [Nat.add_zero] at h
   exact bodyPost_ret (v := .agg #[.int .i64 0, .int .i64 0, .bool true]) (by simp [results, Tryz.results23, go_sem, c0, c1, c2, lineS]) rfl ⟨rfl, h.below⟩
 ·
  rw [ofS_cut (.inl h1)]
  go_enter Tryz.func23, Tryz.ntmps23
  go_wp2_with fail
  refine (sfixed_any a _).mono ?_
  rintro e w1 ⟨rfl, hB1⟩
  rw [h1]
  go_wp2_with fail
  refine (whole_any _).mono ?_
  rintro e w3 ⟨rfl, hB3⟩
  have hX := ((bs1 w 0 0 false).later hB1).later hB3
  obtain ⟨c0, c1, c2, f0, f1, f2⟩ := hX.c0
  clear hB1 hB3 h1
  go_wp2
  have h := hX.put 0 (by simp) lineS
  rw [Nat.add_zero] at h
  exact bodyPost_ret (v := .agg #[.int .i64 0, .int .i64 0, .bool true]) (by simp [results, Tryz.results23, go_sem, c0, c1, c2, lineS]) rfl ⟨rfl, h.below⟩
set_option maxHeartbeats 800000 in
theorem counted_ok (a b : Int) (c : Bool) (w : World) (h : okB ⟨a, b, c⟩ = true) : Calls Tryz.prog 72 #[.agg #[.int .i64 a, .int .i64 b, .bool c]] w (PSp ⟨a, b, c⟩ w) := by
 obtain ⟨k1, k2, k3, k4⟩ := ok_of h
 have k2 : a ≤ b := k2
 cases k4
 have hE : ofS a b = ⟨a, b, false⟩ := (ofS_le k2).trans (mkS_ok h)
 have hq : eqS a b false a b false = true := eqS_same _ _ _
 have HH := Lib.hid h
 clear h
 go_enter Tryz.func72, Tryz.ntmps72
 go_wp2
 have hX := bs2 w a b false 0 0 false
 generalize (w.alloc (.cells #[.int .i64 a, .int .i64 b, .bool false] 23)).alloc (.cells #[.int .i64 0, .int .i64 0, .bool false] 23) = w1 at *
 refine wp_region_vals 7 [some 3, some 4, some 5, some 6, some 7, some 8, some 9] (lstV [.agg #[.int .i64 a, .int .i64 b, .bool false], .pointer (some ⟨w.heap.size, 0, none⟩), .int .i64 a, .pointer (some ⟨w.heap.size, 1, none⟩), .int .i64 b, .agg #[.int .i64 a, .int .i64 b, .bool false], .bool false]) (fun W => Bs w W [⟨a, b, false⟩, ⟨0, 0, false⟩]) (by kernel_rfl) (by kernel_rfl) (by decide) (hX.drew) ?_ ?_
 ·
  intro i hl hi u W hJ hd
  obtain rfl | rfl | rfl | rfl | rfl | rfl | rfl : i = 0 ∨ i = 1 ∨ i = 2 ∨ i = 3 ∨ i = 4 ∨ i = 5 ∨ i = 6 := by omega
  ·
   clear hd
   simp only [zzA, zzB]
   clear hl
   refine .inr ⟨rfl, fun K' hK => ?_⟩
   have HK := Lib.hid hK
   clear hK
   simp only [layS, Act.put, zzC, zzD, zzE, Nat.zero_add, Nat.reduceAdd]
   have c00 := hJ.c0.1
   have c01 := hJ.c0.2.1
   have c02 := hJ.c0.2.2.1
   have c03 := hJ.c0.2.2.2.1
   have c04 := hJ.c0.2.2.2.2.1
   have c05 := hJ.c0.2.2.2.2.2
   go_simp
   exact HK.out _ _ (by simp [layS, updV, lstV, Act.put]) hJ
  ·
   clear hd
   simp only [zzA, zzB]
   clear hl
   refine .inr ⟨rfl, fun K' hK => ?_⟩
   have HK := Lib.hid hK
   clear hK
   simp only [layS, Act.put, zzC, zzD, zzE, Nat.zero_add, Nat.reduceAdd]
   have c00 := hJ.c0.1
   have c01 := hJ.c0.2.1
   have c02 := hJ.c0.2.2.1
   have c03 := hJ.c0.2.2.2.1
   have c04 := hJ.c0.2.2.2.2.1
   have c05 := hJ.c0.2.2.2.2.2
   go_simp
   exact HK.out _ _ (by simp [layS, updV, lstV, Act.put]) hJ
  ·
   have e1 : u 1 = .pointer (some ⟨w.heap.size, 0, none⟩) := hd 1 (by kernel_rfl)
   clear hd
   simp only [zzA, zzB]
   clear hl
   refine .inr ⟨rfl, fun K' hK => ?_⟩
   have HK := Lib.hid hK
   clear hK
   simp only [layS, Act.put, zzC, zzD, zzE, Nat.zero_add, Nat.reduceAdd, e1]
   have E1 := Lib.hid e1
   clear e1
   have c00 := hJ.c0.1
   have c01 := hJ.c0.2.1
   have c02 := hJ.c0.2.2.1
   have c03 := hJ.c0.2.2.2.1
   have c04 := hJ.c0.2.2.2.2.1
   have c05 := hJ.c0.2.2.2.2.2
   go_simp
   exact HK.out _ _ (by simp [layS, updV, lstV, Act.put, E1.out]) hJ
  ·
   clear hd
   simp only [zzA, zzB]
   clear hl
   refine .inr ⟨rfl, fun K' hK => ?_⟩
   have HK := Lib.hid hK
   clear hK
   simp only [layS, Act.put, zzC, zzD, zzE, Nat.zero_add, Nat.reduceAdd]
   have c00 := hJ.c0.1
   have c01 := hJ.c0.2.1
   have c02 := hJ.c0.2.2.1
   have c03 := hJ.c0.2.2.2.1
   have c04 := hJ.c0.2.2.2.2.1
   have c05 := hJ.c0.2.2.2.2.2
   go_simp
   exact HK.out _ _ (by simp [layS, updV, lstV, Act.put]) hJ
  ·
   have e3 : u 3 = .pointer (some ⟨w.heap.size, 1, none⟩) := hd 3 (by kernel_rfl)
   clear hd
   simp only [zzA, zzB]
   clear hl
   refine .inr ⟨rfl, fun K' hK => ?_⟩
   have HK := Lib.hid hK
   clear hK
   simp only [layS, Act.put, zzC, zzD, zzE, Nat.zero_add, Nat.reduceAdd, e3]
   have E3 := Lib.hid e3
   clear e3
   have c00 := hJ.c0.1
   have c01 := hJ.c0.2.1
   have c02 := hJ.c0.2.2.1
   have c03 := hJ.c0.2.2.2.1
   have c04 := hJ.c0.2.2.2.2.1
   have c05 := hJ.c0.2.2.2.2.2
   go_simp
   exact HK.out _ _ (by simp [layS, updV, lstV, Act.put, E3.out]) hJ
  ·
   have e2 : u 2 = .int .i64 a := hd 2 (by kernel_rfl)
   have e4 : u 4 = .int .i64 b := hd 4 (by kernel_rfl)
   clear hd
   simp only [zzA, zzB]
   clear hl
   refine .inr ⟨rfl, fun K' hK => ?_⟩
   have HK := Lib.hid hK
   clear hK
   simp only [layS, Act.put, zzC, zzD, zzE, Nat.zero_add, Nat.reduceAdd, e2, e4]
   have E2 := Lib.hid e2
   have E4 := Lib.hid e4
   clear e2 e4
   have c00 := hJ.c0.1
   have c01 := hJ.c0.2.1
   have c02 := hJ.c0.2.2.1
   have c03 := hJ.c0.2.2.2.1
   have c04 := hJ.c0.2.2.2.2.1
   have c05 := hJ.c0.2.2.2.2.2
   go_simp
   refine ((by have := sOf_any a b W; rw [hE] at this; exact this : Calls Tryz.prog 23 #[.int .i64 a, .int .i64 b] W (PSp ⟨a, b, false⟩ W))).mono ?_
   rintro e W' ⟨rfl, hB⟩
   exact HK.out _ _ (by simp [layS, updV, lstV, Act.put, E2.out, E4.out]) (hJ.later hB)
  ·
   have e0 : u 0 = .agg #[.int .i64 a, .int .i64 b, .bool false] := hd 0 (by kernel_rfl)
   have e5 : u 5 = .agg #[.int .i64 a, .int .i64 b, .bool false] := hd 5 (by kernel_rfl)
   clear hd
   simp only [zzA, zzB]
   clear hl
   refine .inr ⟨rfl, fun K' hK => ?_⟩
   have HK := Lib.hid hK
   clear hK
   simp only [layS, Act.put, zzC, zzD, zzE, Nat.zero_add, Nat.reduceAdd, e0, e5]
   have E0 := Lib.hid e0
   have E5 := Lib.hid e5
   clear e0 e5
   have c00 := hJ.c0.1
   have c01 := hJ.c0.2.1
   have c02 := hJ.c0.2.2.1
   have c03 := hJ.c0.2.2.2.1
   have c04 := hJ.c0.2.2.2.2.1
   have c05 := hJ.c0.2.2.2.2.2
   go_simp
   exact HK.out _ _ (by simp [layS, updV, lstV, Act.put, E0.out, E5.out]) hJ
 intro W hJ
 simp only [layS, lstV, Act.put, zzC, zzD, zzE, Nat.zero_add, Nat.reduceAdd, List.getD_cons_zero, List.getD_cons_succ, List.drop_succ_cons, List.drop_zero, List.drop_nil]
 obtain ⟨c0, c1, c2, f0, f1, f2⟩ := hJ.c0
 obtain ⟨g0, g1, g2, h0, h1, h2⟩ := hJ.c1
 go_wp2
 have hp := hJ.put 1 (by simp) ⟨a, b, false⟩
 obtain ⟨d0, d1, d2, _⟩ := hp.c1
 exact bodyPost_ret (v := .agg #[.int .i64 a, .int .i64 b, .bool false]) (by simp [results, Tryz.results72, go_sem, g0, g1, g2]) rfl ⟨rfl, hp.below⟩
set_option maxHeartbeats 800000 in
theorem counted_no (a b : Int) (c : Bool) (w : World) (h : okB ⟨a, b, c⟩ = false) : Calls Tryz.prog 72 #[.agg #[.int .i64 a, .int .i64 b, .bool c]] w (PSp lineS w) := by
 have hq : eqS a b c (ofS a b).lo (ofS a b).hi (ofS a b).all = false := by
  cases hk : eqS a b c (ofS a b).lo (ofS a b).hi (ofS a b).all
  ·
   rfl
  ·
   exfalso
   obtain ⟨e1, e2, e3⟩ := eqS_iff.1 hk
   have e : (⟨a, b, c⟩ : Sp) = ⟨(ofS a b).lo, (ofS a b).hi, (ofS a b).all⟩ := by simp only [Sp.mk.injEq]; exact ⟨e1, e2, e3⟩
   change _ = ofS a b at e
   have hm := okB_mk ⟨min a b, max a b, false⟩
   change okB (ofS a b) = _ at hm
   rw [← e, h] at hm
   have h0 := mkS_no hm.symm
   change ofS a b = lineS at h0
   rw [h0] at e
   cases e
   cases hm
 obtain ⟨z, hz⟩ : ∃ z, ofS a b = z := ⟨_, rfl⟩
 rw [hz] at hq
 have HZ := Lib.hid hz
 clear hz
 have HH := Lib.hid h
 clear h
 go_enter Tryz.func72, Tryz.ntmps72
 go_wp2
 have hX := bs2 w a b c 0 0 false
 generalize (w.alloc (.cells #[.int .i64 a, .int .i64 b, .bool c] 23)).alloc (.cells #[.int .i64 0, .int .i64 0, .bool false] 23) = w1 at *
 refine wp_region_vals 7 [some 3, some 4, some 5, some 6, some 7, some 8, some 9] (lstV [.agg #[.int .i64 a, .int .i64 b, .bool c], .pointer (some ⟨w.heap.size, 0, none⟩), .int .i64 a, .pointer (some ⟨w.heap.size, 1, none⟩), .int .i64 b, .agg #[.int .i64 z.lo, .int .i64 z.hi, .bool z.all], .bool true]) (fun W => Bs w W [⟨a, b, c⟩, ⟨0, 0, false⟩]) (by kernel_rfl) (by kernel_rfl) (by decide) (hX.drew) ?_ ?_
 ·
  intro i hl hi u W hJ hd
  obtain rfl | rfl | rfl | rfl | rfl | rfl | rfl : i = 0 ∨ i = 1 ∨ i = 2 ∨ i = 3 ∨ i = 4 ∨ i = 5 ∨ i = 6 := by omega
  ·
   clear hd
   simp only [zzA, zzB]
   clear hl
   refine .inr ⟨rfl, fun K' hK => ?_⟩
   have HK := Lib.hid hK
   clear hK
   simp only [layS, Act.put, zzC, zzD, zzE, Nat.zero_add, Nat.reduceAdd]
   have c00 := hJ.c0.1
   have c01 := hJ.c0.2.1
   have c02 := hJ.c0.2.2.1
   have c03 := hJ.c0.2.2.2.1
   have c04 := hJ.c0.2.2.2.2.1
   have c05 := hJ.c0.2.2.2.2.2
   go_simp
   exact HK.out _ _ (by simp [layS, updV, lstV, Act.put]) hJ
  ·
   clear hd
   simp only [zzA, zzB]
   clear hl
   refine .inr ⟨rfl, fun K' hK => ?_⟩
   have HK := Lib.hid hK
   clear hK
   simp only [layS, Act.put, zzC, zzD, zzE, Nat.zero_add, Nat.reduceAdd]
   have c00 := hJ.c0.1
   have c01 := hJ.c0.2.1
   have c02 := hJ.c0.2.2.1
   have c03 := hJ.c0.2.2.2.1
   have c04 := hJ.c0.2.2.2.2.1
   have c05 := hJ.c0.2.2.2.2.2
   go_simp
   exact HK.out _ _ (by simp [layS, updV, lstV, Act.put]) hJ
  ·
   have e1 : u 1 = .pointer (some ⟨w.heap.size, 0, none⟩) := hd 1 (by kernel_rfl)
   clear hd
   simp only [zzA, zzB]
   clear hl
   refine .inr ⟨rfl, fun K' hK => ?_⟩
   have HK := Lib.hid hK
   clear hK
   simp only [layS, Act.put, zzC, zzD, zzE, Nat.zero_add, Nat.reduceAdd, e1]
   have E1 := Lib.hid e1
   clear e1
   have c00 := hJ.c0.1
   have c01 := hJ.c0.2.1
   have c02 := hJ.c0.2.2.1
   have c03 := hJ.c0.2.2.2.1
   have c04 := hJ.c0.2.2.2.2.1
   have c05 := hJ.c0.2.2.2.2.2
   go_simp
   exact HK.out _ _ (by simp [layS, updV, lstV, Act.put, E1.out]) hJ
  ·
   clear hd
   simp only [zzA, zzB]
   clear hl
   refine .inr ⟨rfl, fun K' hK => ?_⟩
   have HK := Lib.hid hK
   clear hK
   simp only [layS, Act.put, zzC, zzD, zzE, Nat.zero_add, Nat.reduceAdd]
   have c00 := hJ.c0.1
   have c01 := hJ.c0.2.1
   have c02 := hJ.c0.2.2.1
   have c03 := hJ.c0.2.2.2.1
   have c04 := hJ.c0.2.2.2.2.1
   have c05 := hJ.c0.2.2.2.2.2
   go_simp
   exact HK.out _ _ (by simp [layS, updV, lstV, Act.put]) hJ
  ·
   have e3 : u 3 = .pointer (some ⟨w.heap.size, 1, none⟩) := hd 3 (by kernel_rfl)
   clear hd
   simp only [zzA, zzB]
   clear hl
   refine .inr ⟨rfl, fun K' hK => ?_⟩
   have HK := Lib.hid hK
   clear hK
   simp only [layS, Act.put, zzC, zzD, zzE, Nat.zero_add, Nat.reduceAdd, e3]
   have E3 := Lib.hid e3
   clear e3
   have c00 := hJ.c0.1
   have c01 := hJ.c0.2.1
   have c02 := hJ.c0.2.2.1
   have c03 := hJ.c0.2.2.2.1
   have c04 := hJ.c0.2.2.2.2.1
   have c05 := hJ.c0.2.2.2.2.2
   go_simp
   exact HK.out _ _ (by simp [layS, updV, lstV, Act.put, E3.out]) hJ
  ·
   have e2 : u 2 = .int .i64 a := hd 2 (by kernel_rfl)
   have e4 : u 4 = .int .i64 b := hd 4 (by kernel_rfl)
   clear hd
   simp only [zzA, zzB]
   clear hl
   refine .inr ⟨rfl, fun K' hK => ?_⟩
   have HK := Lib.hid hK
   clear hK
   simp only [layS, Act.put, zzC, zzD, zzE, Nat.zero_add, Nat.reduceAdd, e2, e4]
   have E2 := Lib.hid e2
   have E4 := Lib.hid e4
   clear e2 e4
   have c00 := hJ.c0.1
   have c01 := hJ.c0.2.1
   have c02 := hJ.c0.2.2.1
   have c03 := hJ.c0.2.2.2.1
   have c04 := hJ.c0.2.2.2.2.1
   have c05 := hJ.c0.2.2.2.2.2
   go_simp
   refine ((by have := sOf_any a b W; rw [HZ.out] at this; exact this : Calls Tryz.prog 23 #[.int .i64 a, .int .i64 b] W (PSp z W))).mono ?_
   rintro e W' ⟨rfl, hB⟩
   exact HK.out _ _ (by simp [layS, updV, lstV, Act.put, E2.out, E4.out]) (hJ.later hB)
  ·
   have e0 : u 0 = .agg #[.int .i64 a, .int .i64 b, .bool c] := hd 0 (by kernel_rfl)
   have e5 : u 5 = .agg #[.int .i64 z.lo, .int .i64 z.hi, .bool z.all] := hd 5 (by kernel_rfl)
   clear hd
   simp only [zzA, zzB]
   clear hl
   refine .inr ⟨rfl, fun K' hK => ?_⟩
   have HK := Lib.hid hK
   clear hK
   simp only [layS, Act.put, zzC, zzD, zzE, Nat.zero_add, Nat.reduceAdd, e0, e5]
   have E0 := Lib.hid e0
   have E5 := Lib.hid e5
   clear e0 e5
   have c00 := hJ.c0.1
   have c01 := hJ.c0.2.1
   have c02 := hJ.c0.2.2.1
   have c03 := hJ.c0.2.2.2.1
   have c04 := hJ.c0.2.2.2.2.1
   have c05 := hJ.c0.2.2.2.2.2
   go_simp
   exact HK.out _ _ (by simp [layS, updV, lstV, Act.put, E0.out, E5.out]) hJ
 intro W hJ
 simp only [layS, lstV, Act.put, zzC, zzD, zzE, Nat.zero_add, Nat.reduceAdd, List.getD_cons_zero, List.getD_cons_succ, List.drop_succ_cons, List.drop_zero, List.drop_nil]
 go_wp2_with fail
 refine (whole_any _).mono ?_
 rintro e W2 ⟨rfl, hB⟩
 have hJ2 := hJ.later hB
 obtain ⟨g0, g1, g2, h0, h1, h2⟩ := hJ2.c1
 go_wp2
 have hp := hJ2.put 1 (by simp) lineS
 exact bodyPost_ret (v := .agg #[.int .i64 0, .int .i64 0, .bool true]) (by simp [results, Tryz.results72, go_sem, g0, g1, g2, lineS]) rfl ⟨rfl, hp.below⟩
theorem counted_any (x : Sp) (w : World) : Calls Tryz.prog 72 #[.agg #[.int .i64 x.lo, .int .i64 x.hi, .bool x.all]] w (PSp (mkS x) w) := by
 cases h : okB x
 ·
  rw [mkS_no h]; exact counted_no x.lo x.hi x.all w h
 ·
  rw [mkS_ok h]; exact counted_ok x.lo x.hi x.all w h
end Go.Proofs.YtolpfibihialkaaGreat
