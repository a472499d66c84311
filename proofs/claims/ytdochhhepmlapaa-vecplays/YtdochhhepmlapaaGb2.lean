/- Parts of the proof. -/
import Derived.WalkKit
import Derived.WalkSpells
import Derived.WalkLawsBesides
import Derived.Lib.Hide
import Derived.Laws.CopyOwn
import Derived.Deep.OwnRows
import Derived.Deep.QuietTactic
import Derived.BigQuiet
import Derived.Deep.RegionHeld3
import Derived.Deep.DeepCutAuto
/- What the walks of this seat lean on: numbers that lie in slices of memory, part by part; no statement of the seat is proved here. -/
namespace Go.Proofs.Ytdochhhepmlapaa
open Go.RowKit
/-- The base of the parts: 2^32. -/
def BB : Nat := 4294967296
/-- The i-th part of a number. -/
def lmb (N i : Nat) : Nat := N / BB ^ i % BB
theorem BB_pos : 0 < BB := by decide
theorem BBp (i : Nat) : 0 < BB ^ i := Nat.pow_pos BB_pos
/-- n is how many parts N has. -/
def Fit (n N : Nat) : Prop := N < BB ^ n ∧ (n = 0 ∨ BB ^ (n - 1) ≤ N)
theorem fit_pos {n N : Nat} (h : Fit n N) : n = 0 ↔ N = 0 := by
 constructor
 ·
  intro e; subst e; have := h.1; simp at this; exact this
 ·
  intro e; subst e
  rcases h.2 with h0 | h0
  ·
   exact h0
  ·
   have := BBp (n - 1); omega
/-- How two sizes stand to one another: -1, 0, 1. -/
def cmpN (a b : Nat) : Int := if a < b then -1 else if b < a then 1 else 0
/-- A slice (address a, length n, capacity c) of n numbers of kind k: the i-th one is f i. -/
structure Lie (k : IntKind) (w : World) (a : Option Addr) (n c : Nat) (f : Nat → Nat) : Prop where
 cap : n ≤ c
 capm : c ≤ maxLen
 nil : a = none → n = 0 ∧ c = 0
 spot : ∀ p, a = some p → p.spot = none ∧ p.block < w.heap.size
 cell : ∀ p, a = some p → ∀ i, i < n → w.cell? ⟨p.block, p.off + i, none⟩ = some (.int k (f i : Nat))
theorem Lie.some_of_pos {k : IntKind} {w : World} {a : Option Addr} {n c : Nat} {f : Nat → Nat} (h : Lie k w a n c f) (hn : 0 < n) :
  ∃ b o, a = some ⟨b, o, none⟩ ∧ b < w.heap.size := by
 cases a with
 | none => have := (h.nil rfl).1; omega
 | some p =>
  obtain ⟨b, o, s⟩ := p
  obtain ⟨h1, h2⟩ := h.spot _ rfl
  simp only at h1 h2
  subst h1
  exact ⟨b, o, rfl, h2⟩
theorem Lie.at {k : IntKind} {w : World} {b o n c : Nat} {f : Nat → Nat} (h : Lie k w (some ⟨b, o, none⟩) n c f) (i : Nat) (hi : i < n) :
  w.cell? ⟨b, o + i, none⟩ = some (.int k (f i : Nat)) := h.cell _ rfl i hi
theorem Lie.below {k : IntKind} {w w' : World} {a : Option Addr} {n c : Nat} {f : Nat → Nat} (h : Lie k w a n c f) (hb : Below w.heap.size w w') : Lie k w' a n c f :=
 ⟨h.cap, h.capm, h.nil, fun p hp => ⟨(h.spot p hp).1, Nat.lt_of_lt_of_le (h.spot p hp).2 hb.size⟩,
  fun p hp i hi => by rw [hb.cell (p := ⟨p.block, p.off + i, none⟩) (h.spot p hp).2]; exact h.cell p hp i hi⟩
theorem Lie.cut {k : IntKind} {w : World} {a : Option Addr} {n c m : Nat} {f : Nat → Nat} (h : Lie k w a n c f) (hm : m ≤ n) : Lie k w a m c f :=
 ⟨Nat.le_trans hm h.cap, h.capm, fun e => ⟨by have := (h.nil e).1; omega, (h.nil e).2⟩, h.spot, fun p hp i hi => h.cell p hp i (by omega)⟩
theorem ret_int {k : IntKind} {a b : Int} (h : a = b) : Ending.returned (.int k a) = .returned (.int k b) := by rw [h]
/-- The number with this sign and size. -/
def sg (bl : Bool) (N : Nat) : Int := if bl then -(N : Int) else (N : Int)
theorem sg_abs (bl : Bool) (N : Nat) : (sg bl N).natAbs = N := by unfold sg; cases bl <;> simp
theorem sg_neg (bl : Bool) (N : Nat) (h : 0 < N) : decide (sg bl N < 0) = bl := by unfold sg; cases bl <;> simp <;> omega
/-- A number of package long: its sign, its parts in memory. -/
structure Num (w : World) (bl : Bool) (a : Option Addr) (n c : Nat) (z : Int) : Prop where
 lie : Lie .u32 w a n c (lmb z.natAbs)
 fit : Fit n z.natAbs
 sgn : bl = decide (z < 0)
theorem Num.below {w w' : World} {bl : Bool} {a : Option Addr} {n c : Nat} {z : Int} (h : Num w bl a n c z) (hb : Below w.heap.size w w') : Num w' bl a n c z := ⟨h.lie.below hb, h.fit, h.sgn⟩
theorem lie_nil (k : IntKind) (w : World) (f : Nat → Nat) : Lie k w none 0 0 f :=
 ⟨Nat.le_refl _, Nat.zero_le _, (fun _ => ⟨rfl, rfl⟩), (fun _ h => by cases h), (fun _ h => by cases h)⟩
/-- A value is handed back, and no memory that was there is turned. -/
def PVal (v : Value) (w : World) (e : Ending) (w' : World) : Prop := e = .returned v ∧ Below w.heap.size w w'
/-- Two values are handed back, and no memory that was there is turned. -/
def PVal2 (v u : Value) (w : World) (e : Ending) (w' : World) : Prop := e = .returned (.tuple #[v, u]) ∧ Below w.heap.size w w'
/-- Three values are handed back, and no memory that was there is turned. -/
def PVal3 (v u x : Value) (w : World) (e : Ending) (w' : World) : Prop := e = .returned (.tuple #[v, u, x]) ∧ Below w.heap.size w w'
theorem Fit.lt {n N : Nat} (h : Fit n N) : N < BB ^ n := h.1
/-- Block g alone is turned between two worlds. -/
structure Only (g : Nat) (w w' : World) : Prop where
 os : w'.os = w.os
 tape : w'.tape = w.tape
 output : w'.output = w.output
 size : w'.heap.size = w.heap.size
 block : ∀ k, k ≠ g → w'.heap[k]? = w.heap[k]?
theorem Only.refl (g : Nat) (w : World) : Only g w w := ⟨rfl, rfl, rfl, rfl, fun _ _ => rfl⟩
theorem Only.trans {g : Nat} {a b c : World} (h : Only g a b) (k : Only g b c) : Only g a c :=
 ⟨k.os.trans h.os, k.tape.trans h.tape, k.output.trans h.output, k.size.trans h.size, fun i hi => (k.block i hi).trans (h.block i hi)⟩
theorem Only.below {g B : Nat} {w w' : World} (h : Only g w w') (hB : B ≤ g) : Below B w w' :=
 ⟨h.os, h.tape, h.output, by rw [h.size]; exact Nat.le_refl _, fun k hk => h.block k (by omega)⟩
theorem Only.drew {g : Nat} {a w : World} (h : Only g a w) : Only g a w.drew := ⟨h.os, h.tape, h.output, h.size, h.block⟩
theorem Only.setCell (w : World) (g i : Nat) (v : Value) : Only g w (w.setCell ⟨g, i, none⟩ v) :=
 ⟨rfl, rfl, rfl, by simp [World.setCell], fun k hk => Below.heap_setCell _ _ _ _ hk⟩
theorem Lie.only {k : IntKind} {w w' : World} {a : Option Addr} {n c g : Nat} {f : Nat → Nat} (h : Lie k w a n c f) (ho : Only g w w') (hg : ∀ p, a = some p → p.block ≠ g) : Lie k w' a n c f :=
 ⟨h.cap, h.capm, h.nil, fun p hp => ⟨(h.spot p hp).1, by rw [ho.size]; exact (h.spot p hp).2⟩,
  fun p hp i hi => by rw [World.cell?_of_block (w := w) (a := ⟨p.block, p.off + i, none⟩) (ho.block p.block (hg p hp))]; exact h.cell p hp i hi⟩
/-- Block g is a row of n numbers of kind k (elements of type e) that may be written: the i-th one is f i. -/
def Own (k : IntKind) (e : TypeId) (w : World) (g n : Nat) (f : Nat → Nat) : Prop :=
 w.heap[g]? = some (.cells ((List.range n).map fun i => Value.int k (f i : Nat)).toArray e (0, 0))
section
variable {k : IntKind} {e : TypeId} {w : World} {g n : Nat} {f : Nat → Nat}
theorem Own.lt (h : Own k e w g n f) : g < w.heap.size := (Array.getElem?_eq_some_iff.1 h).1
theorem Own.cell (h : Own k e w g n f) (i : Nat) (hi : i < n) : w.cell? ⟨g, i, none⟩ = some (.int k (f i : Nat)) := by
 rw [cell_of_row w g i _ e (0, 0) h]
 simp [hi]
theorem Own.free (h : Own k e w g n f) (i : Nat) : w.frozen? ⟨g, i, none⟩ = false := by
 unfold Own at h
 simp [World.frozen?, h]
theorem Own.lie (h : Own k e w g n f) {m : Nat} (hm : m ≤ n) (hn : n ≤ maxLen) : Lie k w (some ⟨g, 0, none⟩) m n f :=
 ⟨hm, hn, (fun e => by cases e), (fun p hp => by cases hp; exact ⟨rfl, h.lt⟩), (fun p hp i hi => by cases hp; simpa using h.cell i (by omega))⟩
theorem Own.congr (h : Own k e w g n f) {f' : Nat → Nat} (hf : ∀ i, i < n → f i = f' i) : Own k e w g n f' := by
 unfold Own at h ⊢
 rw [h]
 congr 3
 refine List.map_congr_left fun i hi => ?_
 rw [hf i (by simpa using hi)]
theorem Own.below {w' : World} (h : Own k e w g n f) (hb : Below w.heap.size w w') : Own k e w' g n f := by
 unfold Own at h ⊢
 rw [hb.block g (Array.getElem?_eq_some_iff.1 h).1]; exact h
theorem Own.only {w' : World} {g' : Nat} (h : Own k e w g n f) (ho : Only g' w w') (hg : g ≠ g') : Own k e w' g n f := by
 unfold Own at h ⊢
 rw [ho.block g hg]; exact h
theorem Own.drew (h : Own k e w g n f) : Own k e w.drew g n f := h
theorem Own.set (h : Own k e w g n f) {i : Nat} (x : Nat) (hi : i < n) : Own k e (w.setCell ⟨g, i, none⟩ (.int k (x : Nat))) g n (fun j => if j = i then x else f j) := by
 unfold Own at h ⊢
 have hlt := (Array.getElem?_eq_some_iff.1 h).1
 simp only [World.setCell, Array.getElem?_modify, if_true, h, Option.map_some]
 congr 2
 apply Array.ext
 ·
  simp
 ·
  intro j h1 h2
  by_cases hj : j = i
  ·
   subst hj; simp
  ·
   simp [hj, Ne.symm hj, Array.getElem_setIfInBounds]
theorem Own.put (h : Own k e w g n f) {i : Nat} {x : Int} {F : Nat → Nat} (hi : i < n) (hx : x = (F i : Nat)) (hf : ∀ j, j < n → j ≠ i → f j = F j) : Own k e (w.setCell ⟨g, i, none⟩ (.int k x)) g n F := by
 subst hx
 refine (h.set (F i) hi).congr fun j hj => ?_
 by_cases e : j = i
 ·
  subst e; simp
 ·
  simp [e, hf j hj e]
end
/-- 'make([]T, n)': a new block of n noughts. -/
theorem wpList_mk {P : Program} (w : World) {ops : Array Oper} {rest : List Oper} {o : Oper} {a : Act} {Q : Exit → Act → World → Prop}
  (hg : o.guard = none) (l c : Operand) (t : TypeId) (hop : o.op = Op.makeSlice t l c)
  (e : TypeId) (k : IntKind) (bytes : Nat) (ht : P.underlying t = some (.slice e)) (hinfo : (P.info? e).map (fun i => (i.zero, i.size, i.bytes)) = some (some (.int k 0), 1, bytes))
  (L C : Int) (n : Nat) (hl : a.eval l = .int .i64 L) (hc : a.eval c = .int .i64 C) (hL : L = (n : Int)) (hC : C = (n : Int)) (hbytes : bytes * n ≤ 281474976710656) (hn : n ≤ 9223372036854775807)
  (hK : ∀ (g : Nat) (w' : World), w.heap.size ≤ g → Own k e w' g n (fun _ => 0) → Below w.heap.size w w' → wpList P ops Q rest (a.put o.dst (.slice (some ⟨g, 0, none⟩) n n)) w') :
  wpList P ops Q (o :: rest) a w := by
 refine wpList_plain hg fun K hK' => ?_
 subst hL
 subst hC
 have hrun := run_make_row' (P := P) t e (.int k 0) bytes ht hinfo rfl .i64 .i64 n hbytes hn w
 unfold Oper.wp
 simp [execOp, hop, hl, hc, hrun, Result.andThen]
 refine hK' _ _ (hK _ _ (Nat.le_refl _) ?_ ((Below.refl _ _).alloc (Nat.le_refl _) _))
 unfold Own
 rw [heap_alloc_new]
 congr 2
 apply Array.ext
 ·
  simp [madeCells]
 ·
  intro j h1 h2
  simp [madeCells, Nat.mod_one]
end Go.Proofs.Ytdochhhepmlapaa
