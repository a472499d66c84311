/- Spans in memory: boxes of three cells, one behind the other. -/
import Derived.Test.YtohdfialnaegcaaSm
import Derived.Test.YtohdfialnaegcaaRegv
import Derived.Laws.StructEq
namespace Go.Proofs.Ytohdfialnaegcaa
open Go.RowKit

/-- A span's box. -/
def B3 (w : World) (k : Nat) (x : Sp) : Prop := w.heap[k]? = some (.cells #[.int .i64 x.lo, .int .i64 x.hi, .bool x.all] 23 (0, 0))
theorem B3.below {w w' : World} {k : Nat} {x : Sp} (h : B3 w k x) (hb : Below w.heap.size w w') : B3 w' k x := by
  unfold B3 at h ⊢
  rw [hb.block k (Array.getElem?_eq_some_iff.1 h).1, h]
theorem B3.cells {w : World} {k : Nat} {x : Sp} (h : B3 w k x) : w.cell? ⟨k, 0, none⟩ = some (.int .i64 x.lo) ∧ w.cell? ⟨k, 1, none⟩ = some (.int .i64 x.hi) ∧ w.cell? ⟨k, 2, none⟩ = some (.bool x.all) ∧ w.frozen? ⟨k, 0, none⟩ = false ∧ w.frozen? ⟨k, 1, none⟩ = false ∧ w.frozen? ⟨k, 2, none⟩ = false := by
  unfold B3 at h
  simp [World.cell?, World.frozen?, h]
theorem heap_new (w : World) (o : Obj) : (w.alloc o).heap[w.heap.size]? = some o := by rw [heap_alloc_new]
theorem b3_new (w : World) (x : Sp) : B3 (w.alloc (.cells #[.int .i64 x.lo, .int .i64 x.hi, .bool x.all] 23)) w.heap.size x := heap_new w _
theorem heap_set3 {w : World} {k : Nat} {u v x a b c : Value} {t : TypeId} (h : w.heap[k]? = some (.cells #[u, v, x] t (0, 0))) :
    (((w.setCell ⟨k, 0, none⟩ a).setCell ⟨k, 1, none⟩ b).setCell ⟨k, 2, none⟩ c).heap[k]? = some (.cells #[a, b, c] t (0, 0)) := by
  simp only [World.setCell, Array.getElem?_modify, if_true, h, Option.map_some]
  rfl
theorem heap_set_ne (w : World) {k k' o : Nat} (v : Value) (h : k ≠ k') : (w.setCell ⟨k', o, none⟩ v).heap[k]? = w.heap[k]? := by
  simp only [World.setCell, Array.getElem?_modify]
  rw [if_neg (fun e => h e.symm)]
theorem B3.self {w : World} {k : Nat} {x : Sp} (h : B3 w k x) (y : Sp) : B3 (((w.setCell ⟨k, 0, none⟩ (.int .i64 y.lo)).setCell ⟨k, 1, none⟩ (.int .i64 y.hi)).setCell ⟨k, 2, none⟩ (.bool y.all)) k y := heap_set3 h
theorem B3.other {w : World} {k k' : Nat} {x : Sp} (h : B3 w k x) (hne : k ≠ k') (a b c : Value) : B3 (((w.setCell ⟨k', 0, none⟩ a).setCell ⟨k', 1, none⟩ b).setCell ⟨k', 2, none⟩ c) k x := by
  unfold B3 at h ⊢
  rw [heap_set_ne _ _ hne, heap_set_ne _ _ hne, heap_set_ne _ _ hne, h]
/-- Boxes one behind the other, behind what was there. -/
structure Bs (w W : World) (xs : List Sp) : Prop where
  below : Below w.heap.size w W
  at' : ∀ i x, xs[i]? = some x → B3 W (w.heap.size + i) x
theorem Bs.later {w W W' : World} {xs : List Sp} (h : Bs w W xs) (hb : Below W.heap.size W W') : Bs w W' xs := ⟨h.below.trans (hb.mono h.below.size), fun i x hx => (h.at' i x hx).below hb⟩
theorem Bs.drew {w W : World} {xs : List Sp} (h : Bs w W xs) : Bs w W.drew xs := ⟨h.below.drew, h.at'⟩
theorem bs_nil (w : World) : Bs w w [] := ⟨Below.refl _ _, nofun⟩
theorem Bs.put {w W : World} {xs : List Sp} (h : Bs w W xs) (i : Nat) (hi : i < xs.length) (y : Sp) :
    Bs w (((W.setCell ⟨w.heap.size + i, 0, none⟩ (.int .i64 y.lo)).setCell ⟨w.heap.size + i, 1, none⟩ (.int .i64 y.hi)).setCell ⟨w.heap.size + i, 2, none⟩ (.bool y.all)) (xs.set i y) := by
  refine ⟨((h.below.setCell (p := ⟨w.heap.size + i, 0, none⟩) (Nat.le_add_right _ _) _).setCell (p := ⟨w.heap.size + i, 1, none⟩) (Nat.le_add_right _ _) _).setCell (p := ⟨w.heap.size + i, 2, none⟩) (Nat.le_add_right _ _) _, fun j x hj => ?_⟩
  by_cases h0 : i = j
  · subst h0
    rw [List.getElem?_set_self hi] at hj
    cases hj
    exact (h.at' i _ (List.getElem?_eq_getElem hi)).self y
  · rw [List.getElem?_set_ne h0] at hj
    exact (h.at' j x hj).other (by omega) _ _ _
/-- What has been made, in one block more. -/
theorem Bs.more {w W : World} {xs : List Sp} (h : Bs w W xs) (hs : W.heap.size = w.heap.size + xs.length) (x : Sp) : Bs w (W.alloc (.cells #[.int .i64 x.lo, .int .i64 x.hi, .bool x.all] 23)) (xs ++ [x]) := by
  refine ⟨h.below.alloc h.below.size _, fun j y hj => ?_⟩
  by_cases h0 : j < xs.length
  · rw [List.getElem?_append_left h0] at hj
    exact (h.at' j y hj).below ((Below.refl _ _).alloc (Nat.le_refl _) _)
  · rw [List.getElem?_append_right (by omega)] at hj
    have e : j = xs.length := by
      have := (List.getElem?_eq_some_iff.1 hj).1
      simp at this
      omega
    subst e
    rw [Nat.sub_self] at hj
    cases hj
    rw [← hs]
    exact b3_new W x
theorem bs1 (w : World) (a b : Int) (c : Bool) : Bs w (w.alloc (.cells #[.int .i64 a, .int .i64 b, .bool c] 23)) [⟨a, b, c⟩] := (bs_nil w).more rfl ⟨a, b, c⟩
theorem bs2 (w : World) (a b : Int) (c : Bool) (a' b' : Int) (c' : Bool) : Bs w ((w.alloc (.cells #[.int .i64 a, .int .i64 b, .bool c] 23)).alloc (.cells #[.int .i64 a', .int .i64 b', .bool c'] 23)) [⟨a, b, c⟩, ⟨a', b', c'⟩] := (bs1 w a b c).more (by simp) ⟨a', b', c'⟩
theorem bs3 (w : World) (a b : Int) (c : Bool) (a' b' : Int) (c' : Bool) (a2 b2 : Int) (c2 : Bool) : Bs w (((w.alloc (.cells #[.int .i64 a, .int .i64 b, .bool c] 23)).alloc (.cells #[.int .i64 a', .int .i64 b', .bool c'] 23)).alloc (.cells #[.int .i64 a2, .int .i64 b2, .bool c2] 23)) [⟨a, b, c⟩, ⟨a', b', c'⟩, ⟨a2, b2, c2⟩] := (bs2 w a b c a' b' c').more (by simp) ⟨a2, b2, c2⟩
theorem Bs.c0 {w W : World} {x : Sp} {xs : List Sp} (h : Bs w W (x :: xs)) : W.cell? ⟨w.heap.size, 0, none⟩ = some (.int .i64 x.lo) ∧ W.cell? ⟨w.heap.size, 1, none⟩ = some (.int .i64 x.hi) ∧ W.cell? ⟨w.heap.size, 2, none⟩ = some (.bool x.all) ∧ W.frozen? ⟨w.heap.size, 0, none⟩ = false ∧ W.frozen? ⟨w.heap.size, 1, none⟩ = false ∧ W.frozen? ⟨w.heap.size, 2, none⟩ = false := (h.at' 0 x rfl).cells
theorem Bs.c1 {w W : World} {y x : Sp} {xs : List Sp} (h : Bs w W (y :: x :: xs)) : W.cell? ⟨w.heap.size + 1, 0, none⟩ = some (.int .i64 x.lo) ∧ W.cell? ⟨w.heap.size + 1, 1, none⟩ = some (.int .i64 x.hi) ∧ W.cell? ⟨w.heap.size + 1, 2, none⟩ = some (.bool x.all) ∧ W.frozen? ⟨w.heap.size + 1, 0, none⟩ = false ∧ W.frozen? ⟨w.heap.size + 1, 1, none⟩ = false ∧ W.frozen? ⟨w.heap.size + 1, 2, none⟩ = false := (h.at' 1 x rfl).cells
theorem Bs.c2 {w W : World} {y z x : Sp} {xs : List Sp} (h : Bs w W (y :: z :: x :: xs)) : W.cell? ⟨w.heap.size + 2, 0, none⟩ = some (.int .i64 x.lo) ∧ W.cell? ⟨w.heap.size + 2, 1, none⟩ = some (.int .i64 x.hi) ∧ W.cell? ⟨w.heap.size + 2, 2, none⟩ = some (.bool x.all) ∧ W.frozen? ⟨w.heap.size + 2, 0, none⟩ = false ∧ W.frozen? ⟨w.heap.size + 2, 1, none⟩ = false ∧ W.frozen? ⟨w.heap.size + 2, 2, none⟩ = false := (h.at' 2 x rfl).cells
/-- A span is handed back, and nothing that was there has turned. -/
def PSp (x : Sp) (w : World) (e : Ending) (w' : World) : Prop := e = .returned (.agg #[.int .i64 x.lo, .int .i64 x.hi, .bool x.all]) ∧ Below w.heap.size w w'
/-- Are two spans' fields the same? -/
def eqS (a b : Int) (c : Bool) (a' b' : Int) (c' : Bool) : Bool := a == a' && (b == b' && c == c')
theorem run_eqS (a b : Int) (c : Bool) (a' b' : Int) (c' : Bool) (w : World) : (Op.equalIn 10000 23 (.agg #[.int .i64 a, .int .i64 b, .bool c]) (.agg #[.int .i64 a', .int .i64 b', .bool c'])).run Try.prog w = .ok (eqS a b c a' b' c') w := by
  have ht : Try.prog.underlying 23 = some (.struct (Try.prog.fieldsOf 23)) := by kernel_rfl
  have hp : Try.prog.stoodInHeld 23 = false := by kernel_rfl
  have u1 := Try.underlying2
  have u2 := Try.underlying4
  have a1 := Try.isAgg2
  have a2 := Try.isAgg4
  have z1 := Try.sizeOf2
  have z2 := Try.sizeOf4
  rw [show (10000 : Nat) = 9999 + 1 from rfl, run_equalIn_struct w 9999 23 _ _ ht hp]
  simp only [Program.fieldsOf, Try.underlying23]
  unfold eqS
  go_simp
  by_cases h1 : a = a' <;> by_cases h2 : b = b' <;> cases c <;> cases c' <;> simp [h1, h2]
theorem run_eqlS (a b : Int) (c : Bool) (a' b' : Int) (c' : Bool) (w : World) : (binOp .eql 23 (.agg #[.int .i64 a, .int .i64 b, .bool c]) (.agg #[.int .i64 a', .int .i64 b', .bool c'])).run Try.prog w = .ok (.bool (eqS a b c a' b' c')) w := by
  rw [run_eql_struct, run_eqS]
  rfl
theorem run_neqS (a b : Int) (c : Bool) (a' b' : Int) (c' : Bool) (w : World) : (binOp .neq 23 (.agg #[.int .i64 a, .int .i64 b, .bool c]) (.agg #[.int .i64 a', .int .i64 b', .bool c'])).run Try.prog w = .ok (.bool (!eqS a b c a' b' c')) w := by
  rw [run_neq_struct, run_eqS]
  rfl
end Go.Proofs.Ytohdfialnaegcaa
