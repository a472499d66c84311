/- The document's spans in memory: boxes of three cells, one behind the other. -/
import Derived.Test.YtpahkpcoinbgcaaGr11
import Derived.Test.YtpahkpcoinbgcaaGr2
import Derived.Test.YtpahkpcoinbgcaaGr9
import Derived.Test.YtpahkpcoinbgcaaGr10
import Derived.Test.YtpahkpcoinbgcaaGr7
namespace Go.Proofs.Ytpahkpcoinbgcaa
open Go.RowKit

/-- A span's box. -/
def D3 (w : World) (k : Nat) (x : Sp) : Prop := w.heap[k]? = some (.cells #[.int .i64 x.lo, .int .i64 x.hi, .bool x.all] 25 (0, 0))
theorem D3.below {w w' : World} {k : Nat} {x : Sp} (h : D3 w k x) (hb : Below w.heap.size w w') : D3 w' k x := by
  unfold D3 at h ⊢
  rw [hb.block k (Array.getElem?_eq_some_iff.1 h).1, h]
theorem D3.cells {w : World} {k : Nat} {x : Sp} (h : D3 w k x) : w.cell? ⟨k, 0, none⟩ = some (.int .i64 x.lo) ∧ w.cell? ⟨k, 1, none⟩ = some (.int .i64 x.hi) ∧ w.cell? ⟨k, 2, none⟩ = some (.bool x.all) ∧ w.frozen? ⟨k, 0, none⟩ = false ∧ w.frozen? ⟨k, 1, none⟩ = false ∧ w.frozen? ⟨k, 2, none⟩ = false := by
  unfold D3 at h
  simp [World.cell?, World.frozen?, h]
theorem d3_new (w : World) (x : Sp) : D3 (w.alloc (.cells #[.int .i64 x.lo, .int .i64 x.hi, .bool x.all] 25)) w.heap.size x := heap_new w _
theorem D3.self {w : World} {k : Nat} {x : Sp} (h : D3 w k x) (y : Sp) : D3 (((w.setCell ⟨k, 0, none⟩ (.int .i64 y.lo)).setCell ⟨k, 1, none⟩ (.int .i64 y.hi)).setCell ⟨k, 2, none⟩ (.bool y.all)) k y := heap_set3 h
theorem D3.other {w : World} {k k' : Nat} {x : Sp} (h : D3 w k x) (hne : k ≠ k') (a b c : Value) : D3 (((w.setCell ⟨k', 0, none⟩ a).setCell ⟨k', 1, none⟩ b).setCell ⟨k', 2, none⟩ c) k x := by
  unfold D3 at h ⊢
  rw [heap_set_ne _ _ hne, heap_set_ne _ _ hne, heap_set_ne _ _ hne, h]
/-- Boxes one behind the other, behind what was there. -/
structure Ds (w W : World) (xs : List Sp) : Prop where
  below : Below w.heap.size w W
  at' : ∀ i x, xs[i]? = some x → D3 W (w.heap.size + i) x
theorem Ds.later {w W W' : World} {xs : List Sp} (h : Ds w W xs) (hb : Below W.heap.size W W') : Ds w W' xs := ⟨h.below.trans (hb.mono h.below.size), fun i x hx => (h.at' i x hx).below hb⟩
theorem Ds.drew {w W : World} {xs : List Sp} (h : Ds w W xs) : Ds w W.drew xs := ⟨h.below.drew, h.at'⟩
theorem ds_nil (w : World) : Ds w w [] := ⟨Below.refl _ _, nofun⟩
theorem Ds.put {w W : World} {xs : List Sp} (h : Ds w W xs) (i : Nat) (hi : i < xs.length) (y : Sp) :
    Ds w (((W.setCell ⟨w.heap.size + i, 0, none⟩ (.int .i64 y.lo)).setCell ⟨w.heap.size + i, 1, none⟩ (.int .i64 y.hi)).setCell ⟨w.heap.size + i, 2, none⟩ (.bool y.all)) (xs.set i y) := by
  refine ⟨((h.below.setCell (p := ⟨w.heap.size + i, 0, none⟩) (Nat.le_add_right _ _) _).setCell (p := ⟨w.heap.size + i, 1, none⟩) (Nat.le_add_right _ _) _).setCell (p := ⟨w.heap.size + i, 2, none⟩) (Nat.le_add_right _ _) _, fun j x hj => ?_⟩
  by_cases h0 : i = j
  · subst h0
    rw [List.getElem?_set_self hi] at hj
    cases hj
    exact (h.at' i _ (List.getElem?_eq_getElem hi)).self y
  · rw [List.getElem?_set_ne h0] at hj
    exact (h.at' j x hj).other (by omega) _ _ _
/-- What has been made, in one block more. -/
theorem Ds.more {w W : World} {xs : List Sp} (h : Ds w W xs) (hs : W.heap.size = w.heap.size + xs.length) (x : Sp) : Ds w (W.alloc (.cells #[.int .i64 x.lo, .int .i64 x.hi, .bool x.all] 25)) (xs ++ [x]) := by
  refine ⟨h.below.alloc h.below.size _, fun j y hj => ?_⟩
  by_cases h0 : j < xs.length
  · rw [List.getElem?_append_left h0] at hj
    exact (h.at' j y hj).below ((Below.refl _ _).alloc (Nat.le_refl _) _)
  · rw [List.getElem?_append_right (by omega)] at hj
    have e : j = xs.length := by
      have := (List.getElem?_eq_some_iff.1 hj).1
      simp at this
      omega
    subst e
    rw [Nat.sub_self] at hj
    cases hj
    rw [← hs]
    exact d3_new W x
theorem ds1 (w : World) (a b : Int) (c : Bool) : Ds w (w.alloc (.cells #[.int .i64 a, .int .i64 b, .bool c] 25)) [⟨a, b, c⟩] := (ds_nil w).more rfl ⟨a, b, c⟩
theorem ds2 (w : World) (a b : Int) (c : Bool) (a' b' : Int) (c' : Bool) : Ds w ((w.alloc (.cells #[.int .i64 a, .int .i64 b, .bool c] 25)).alloc (.cells #[.int .i64 a', .int .i64 b', .bool c'] 25)) [⟨a, b, c⟩, ⟨a', b', c'⟩] := (ds1 w a b c).more (by simp) ⟨a', b', c'⟩
theorem ds3 (w : World) (a b : Int) (c : Bool) (a' b' : Int) (c' : Bool) (a2 b2 : Int) (c2 : Bool) : Ds w (((w.alloc (.cells #[.int .i64 a, .int .i64 b, .bool c] 25)).alloc (.cells #[.int .i64 a', .int .i64 b', .bool c'] 25)).alloc (.cells #[.int .i64 a2, .int .i64 b2, .bool c2] 25)) [⟨a, b, c⟩, ⟨a', b', c'⟩, ⟨a2, b2, c2⟩] := (ds2 w a b c a' b' c').more (by simp) ⟨a2, b2, c2⟩
theorem Ds.c0 {w W : World} {x : Sp} {xs : List Sp} (h : Ds w W (x :: xs)) : W.cell? ⟨w.heap.size, 0, none⟩ = some (.int .i64 x.lo) ∧ W.cell? ⟨w.heap.size, 1, none⟩ = some (.int .i64 x.hi) ∧ W.cell? ⟨w.heap.size, 2, none⟩ = some (.bool x.all) ∧ W.frozen? ⟨w.heap.size, 0, none⟩ = false ∧ W.frozen? ⟨w.heap.size, 1, none⟩ = false ∧ W.frozen? ⟨w.heap.size, 2, none⟩ = false := (h.at' 0 x rfl).cells
theorem Ds.c1 {w W : World} {y x : Sp} {xs : List Sp} (h : Ds w W (y :: x :: xs)) : W.cell? ⟨w.heap.size + 1, 0, none⟩ = some (.int .i64 x.lo) ∧ W.cell? ⟨w.heap.size + 1, 1, none⟩ = some (.int .i64 x.hi) ∧ W.cell? ⟨w.heap.size + 1, 2, none⟩ = some (.bool x.all) ∧ W.frozen? ⟨w.heap.size + 1, 0, none⟩ = false ∧ W.frozen? ⟨w.heap.size + 1, 1, none⟩ = false ∧ W.frozen? ⟨w.heap.size + 1, 2, none⟩ = false := (h.at' 1 x rfl).cells
theorem Ds.c2 {w W : World} {y z x : Sp} {xs : List Sp} (h : Ds w W (y :: z :: x :: xs)) : W.cell? ⟨w.heap.size + 2, 0, none⟩ = some (.int .i64 x.lo) ∧ W.cell? ⟨w.heap.size + 2, 1, none⟩ = some (.int .i64 x.hi) ∧ W.cell? ⟨w.heap.size + 2, 2, none⟩ = some (.bool x.all) ∧ W.frozen? ⟨w.heap.size + 2, 0, none⟩ = false ∧ W.frozen? ⟨w.heap.size + 2, 1, none⟩ = false ∧ W.frozen? ⟨w.heap.size + 2, 2, none⟩ = false := (h.at' 2 x rfl).cells
/-- A span is handed back, and nothing that was there has turned. -/
def PDp (x : Sp) (w : World) (e : Ending) (w' : World) : Prop := e = .returned (.agg #[.int .i64 x.lo, .int .i64 x.hi, .bool x.all]) ∧ Below w.heap.size w w'
theorem run_eqD (a b : Int) (c : Bool) (a' b' : Int) (c' : Bool) (w : World) : (Op.equalIn 10000 25 (.agg #[.int .i64 a, .int .i64 b, .bool c]) (.agg #[.int .i64 a', .int .i64 b', .bool c'])).run Try.prog w = .ok (eqS a b c a' b' c') w := by
  have ht : Try.prog.underlying 25 = some (.struct (Try.prog.fieldsOf 25)) := by kernel_rfl
  have hp : Try.prog.stoodInHeld 25 = false := by kernel_rfl
  have u1 := Try.underlying2
  have u2 := Try.underlying4
  have a1 := Try.isAgg2
  have a2 := Try.isAgg4
  have z1 := Try.sizeOf2
  have z2 := Try.sizeOf4
  rw [show (10000 : Nat) = 9999 + 1 from rfl, run_equalIn_struct w 9999 25 _ _ ht hp]
  simp only [Program.fieldsOf, Try.underlying25]
  unfold eqS
  go_simp
  by_cases h1 : a = a' <;> by_cases h2 : b = b' <;> cases c <;> cases c' <;> simp [h1, h2]
theorem run_eqlD (a b : Int) (c : Bool) (a' b' : Int) (c' : Bool) (w : World) : (binOp .eql 25 (.agg #[.int .i64 a, .int .i64 b, .bool c]) (.agg #[.int .i64 a', .int .i64 b', .bool c'])).run Try.prog w = .ok (.bool (eqS a b c a' b' c')) w := by
  rw [run_eql_struct, run_eqD]
  rfl
theorem run_neqD (a b : Int) (c : Bool) (a' b' : Int) (c' : Bool) (w : World) : (binOp .neq 25 (.agg #[.int .i64 a, .int .i64 b, .bool c]) (.agg #[.int .i64 a', .int .i64 b', .bool c'])).run Try.prog w = .ok (.bool (!eqS a b c a' b' c')) w := by
  rw [run_neq_struct, run_eqD]
  rfl
end Go.Proofs.Ytpahkpcoinbgcaa

/- Regions in which variables are made and stored in, in any order; variables of any kind, wherever they lie. No statement of the seat is proved here. -/
namespace Go.Proofs.Ytpahkpcoinbgcaa
open Go Go.RowKit

section
variable {P : Program}
def OpY (P : Program) (Q : Exit → Act → World → Prop) (o : Oper) (ops : Array Oper) (A : Act) (VP : Nat → Value → World → Prop) (J : (Nat → Bool) → (Nat → Value) → World → Prop) (n i : Nat) (L : Nat → Bool) (u : Nat → Value) (W : World) : Prop :=
  (Region.wanted o (yielded ops A.tmps) = false ∧ VP i undef W ∧ J (upd L i) (updV u i undef) W) ∨
  (Region.wanted o (yielded ops A.tmps) = true ∧ ∀ K' : Act → World → Prop, (∀ v W', J (upd L i) (updV u i v) W' → VP i v W' → (∀ j, j < n → VP j (u j) W → VP j (u j) W') → K' (A.put o.dst v) W') → Oper.wp P o A W K' Q)
theorem wp_region_y {Q : Exit → Act → World → Prop} {id : Nat} {a : Act} {w : World} {l : List Oper} (n : Nat) (ds : List (Option Tmp)) (VP : Nat → Value → World → Prop) (J : (Nat → Bool) → (Nat → Value) → World → Prop) (hm : P.follows .mixedOrders = true) (hB : tailsB2 .any l.toArray n = true) (hds : ds = (l.take n).map (·.dst)) (hs : slotsB ds = true)
    (hz : ds.all (fun d => match d with | some t => decide (t < a.tmps.size) | none => true) = true)
    (h0 : ∀ u, J (fun _ => false) u w.drew)
    (step : ∀ i (hi : i < l.length), i < n → ∀ (L : Nat → Bool) (u : Nat → Value) (W : World) (A : Act), L i = false → J L u W → (∀ j, j < n → Region.waitsFor .any l.toArray i j = true → L j = true ∧ VP j (u j) W) →
      (∀ t, some t ∉ ds → A.tmps[t]? = a.tmps[t]?) → (∀ j d, ds[j]? = some (some d) → A.tmps[d]? = some (u j)) → OpY P Q l[i] l.toArray A VP J n i L u W)
    (fin : ∀ (L : Nat → Bool) (u : Nat → Value) (W : World), (∀ j, j < n → L j = true) → J L u W → (∀ j, j < n → VP j (u j) W) → wpList P l.toArray Q (l.drop n) (layS a ds u 0) W) : (Code.region id l.toArray true).wp P Q a w := by
  have hl : n ≤ l.length := by
    have hB' := hB
    unfold tailsB2 at hB'
    simp only [Bool.and_eq_true, decide_eq_true_eq] at hB'
    simpa using hB'.1.1.1
  have hlen : ds.length = n := by rw [hds]; simp; omega
  refine wp_region_inv2 n (fun L a' W => ∃ u : Nat → Value, J L u W ∧ (∀ j, j < n → L j = true → VP j (u j) W) ∧ a' = layS a ds u 0) hm hB ⟨fun k => ((ds.getD k none).map fun t => a.tmps.getD t undef).getD undef, h0 _, nofun, ?_⟩ ?_ ?_
  · refine (layS_self a ds _ 0 (fun j d hj => ?_)).symm
    have : ds.getD (0 + j) none = d := by rw [Nat.zero_add, List.getD_eq_getElem?_getD, hj]; rfl
    rw [this]
  · rintro L a' W i hi ⟨u, hJ, hu, rfl⟩ hLi hw
    have hil : i < l.length := Nat.lt_of_lt_of_le hi hl
    have hid : ds[i]? = some l[i].dst := by
      rw [hds]
      simp [List.getElem?_take, hi, hil]
    have hinn : ∀ j d, ds[j]? = some (some d) → (layS a ds u 0).tmps[d]? = some (u j) := by
      intro j d hj
      have hd' : d < a.tmps.size := by
        have := List.all_eq_true.1 hz _ (List.mem_of_getElem? hj)
        simpa using this
      have h1 := layS_in ds a u 0 j d hs hj hd'
      rwa [Nat.zero_add] at h1
    refine wpOp_step (o := l[i]) (by simp [hil]) (fun K' hK => ?_)
    have key : ∀ W' v, J (upd L i) (updV u i v) W' → VP i v W' → (∀ j, j < n → VP j (u j) W → VP j (u j) W') → K' ((layS a ds u 0).put l[i].dst v) W' := by
      intro W' v hj hv hb
      rw [layS_put hs hid]
      refine hK _ _ ⟨updV u i v, hj, fun j hjn hLj => ?_, rfl⟩
      unfold updV
      by_cases h : j = i
      · rw [if_pos h, h]; exact hv
      · rw [if_neg h]
        rw [upd_ne h] at hLj
        exact hb j hjn (hu j hjn hLj)
    rcases step i hil hi L u W _ hLi hJ (fun j hjn hj => ⟨hw j hj, hu j hjn (hw j hj)⟩) (fun t ht => layS_out _ _ _ _ _ ht) hinn with ⟨h1, h2, h3⟩ | ⟨h1, h2⟩
    · rw [if_neg (by rw [h1]; decide)]
      exact key W undef h3 h2 (fun _ _ h => h)
    · rw [if_pos h1]
      exact h2 K' (fun v W' hj hv hb => key W' v hj hv hb)
  · rintro a' W ⟨L, hL, u, hJ, hu, rfl⟩
    exact fin L u W hL hJ (fun j hj => hu j hj (hL j hj))
end
/-- Variables and what they hold. -/
def Cl (W : World) (p : Nat × Array Value × TypeId) : Prop := W.heap[p.1]? = some (.cells p.2.1 p.2.2 (0, 0))
theorem Cl.below {W W' : World} {p : Nat × Array Value × TypeId} (h : Cl W p) (hb : Below W.heap.size W W') : Cl W' p := by
  unfold Cl at h ⊢
  rw [hb.block _ (Array.getElem?_eq_some_iff.1 h).1]
  exact h
theorem Cl.far {W : World} {p : Nat × Array Value × TypeId} (h : Cl W p) {b : Nat} (hb : p.1 ≠ b) (x y : Value) : Cl ((W.setCell ⟨b, 0, none⟩ x).setCell ⟨b, 1, none⟩ y) p := by
  unfold Cl at h ⊢
  rw [heap_set_ne _ _ hb, heap_set_ne _ _ hb]
  exact h
/-- A number of the document's: its parts, its value. -/
structure NR where
  b : Bool
  a : Option Addr
  n : Nat
  c : Nat
  z : Int
def NR.v (p : NR) : Value := .agg #[.bool p.b, .slice p.a p.n p.c]
def NR.is (p : NR) (W : World) : Prop := RNum W p.b p.a p.n p.c p.z
/-- What is known between regions: the variables, the numbers. -/
structure Cs (w W : World) (l : List (Nat × Array Value × TypeId)) (ns : List NR) : Prop where
  below : Below w.heap.size w W
  at' : ∀ p, p ∈ l → Cl W p
  num : ∀ p, p ∈ ns → p.is W
theorem cs_nil (w : World) : Cs w w [] [] := ⟨Below.refl _ _, nofun, nofun⟩
theorem Cs.later {w W W' : World} {l : List (Nat × Array Value × TypeId)} {ns : List NR} (h : Cs w W l ns) (hb : Below W.heap.size W W') : Cs w W' l ns := ⟨h.below.trans (hb.mono h.below.size), fun p hp => (h.at' p hp).below hb, fun p hp => RNum.below (h.num p hp) hb⟩
theorem Cs.drew {w W : World} {l : List (Nat × Array Value × TypeId)} {ns : List NR} (h : Cs w W l ns) : Cs w W.drew l ns := h.later (Below.refl _ _).drew
theorem Cs.new {w W : World} {l : List (Nat × Array Value × TypeId)} {ns : List NR} (h : Cs w W l ns) (C : Array Value) (T : TypeId) : Cs w (W.alloc (.cells C T)) ((W.heap.size, C, T) :: l) ns := by
  have hb : Below W.heap.size W (W.alloc (.cells C T)) := (Below.refl _ _).alloc (Nat.le_refl _) _
  refine ⟨(h.later hb).below, fun p hp => ?_, (h.later hb).num⟩
  rcases List.mem_cons.1 hp with rfl | hp
  · exact heap_new W _
  · exact (h.later hb).at' p hp
theorem Cs.lt {w W : World} {l : List (Nat × Array Value × TypeId)} {ns : List NR} (h : Cs w W l ns) : ∀ p, p ∈ l → p.1 < W.heap.size := fun p hp => (Array.getElem?_eq_some_iff.1 (h.at' p hp)).1
theorem Cs.more {w W : World} {l : List (Nat × Array Value × TypeId)} {ns : List NR} (h : Cs w W l ns) {p : NR} (hp : p.is W) : Cs w W l (p :: ns) := ⟨h.below, h.at', fun q hq => by
  rcases List.mem_cons.1 hq with rfl | hq
  · exact hp
  · exact h.num q hq⟩
/-- In a region: all of them ahead of m. -/
structure Cm (w : World) (m : Nat) (l : List (Nat × Array Value × TypeId)) (ns : List NR) (W : World) : Prop where
  cs : Cs w W l ns
  le : m ≤ W.heap.size
  lt : ∀ p, p ∈ l → p.1 < m
  ge : w.heap.size ≤ m
theorem Cs.cm {w W : World} {l : List (Nat × Array Value × TypeId)} {ns : List NR} (h : Cs w W l ns) : Cm w W.heap.size l ns W.drew := ⟨h.drew, Nat.le_refl _, h.lt, h.below.size⟩
theorem Cm.later {w W W' : World} {m : Nat} {l : List (Nat × Array Value × TypeId)} {ns : List NR} (h : Cm w m l ns W) (hb : Below W.heap.size W W') : Cm w m l ns W' := ⟨h.cs.later hb, Nat.le_trans h.le hb.size, h.lt, h.ge⟩
theorem Cm.far {w W : World} {m b : Nat} {l : List (Nat × Array Value × TypeId)} {ns : List NR} (h : Cm w m l ns W) (hb : m ≤ b) {t : TypeId} {bk : Bool} {ak : Option Addr} {nk ck : Nat} (hk : Bx W t b (.bool bk) (.slice ak nk ck)) (x y : Value) : Cm w m l ns ((W.setCell ⟨b, 0, none⟩ x).setCell ⟨b, 1, none⟩ y) := by
  have h1 := h.le
  have h2 := h.ge
  refine ⟨⟨(h.cs.below.setCell (p := ⟨b, 0, none⟩) (by show w.heap.size ≤ b; omega) _).setCell (p := ⟨b, 1, none⟩) (by show w.heap.size ≤ b; omega) _, fun p hp => (h.cs.at' p hp).far (by have := h.lt p hp; omega) _ _, fun p hp => RNum.store (h.cs.num p hp) hk _ _⟩, ?_, h.lt, h.ge⟩
  rw [World.size_setCell, World.size_setCell]
  exact h1
/-- The invariant of a region: al the operations that make variables of numbers, sts those that store: (the store, where, what). -/
structure Jy (w : World) (m : Nat) (l : List (Nat × Array Value × TypeId)) (ns : List NR) (T : TypeId) (al : List Nat) (sts : List (Nat × Nat × Nat)) (L : Nat → Bool) (u : Nat → Value) (W : World) : Prop where
  cm : Cm w m l ns W
  bx : ∀ a, a ∈ al → L a = true → ∃ (b : Nat) (bk : Bool) (ak : Option Addr) (nk ck : Nat), u a = .pointer (some ⟨b, 0, none⟩) ∧ m ≤ b ∧ Bx W T b (.bool bk) (.slice ak nk ck)
  ne : ∀ a a', a ∈ al → a' ∈ al → a ≠ a' → L a = true → L a' = true → u a ≠ u a'
  st : ∀ s, s ∈ sts → L s.1 = true → L s.2.1 = true ∧ L s.2.2 = true ∧ ∃ (b : Nat) (p q : Value), u s.2.1 = .pointer (some ⟨b, 0, none⟩) ∧ u s.2.2 = .agg #[p, q] ∧ Bx W T b p q
section
variable {w W : World} {m : Nat} {l : List (Nat × Array Value × TypeId)} {ns : List NR} {T : TypeId} {al : List Nat} {sts : List (Nat × Nat × Nat)} {L : Nat → Bool} {u : Nat → Value}
theorem Jy.start (h : Cs w W l ns) (u : Nat → Value) : Jy w W.heap.size l ns T al sts (fun _ => false) u W.drew := ⟨h.cm, nofun, nofun, nofun⟩
theorem upd_mono {i j : Nat} (h : L j = true) : upd L i j = true := by
  unfold upd
  split
  · rfl
  · exact h
theorem updV_ne {i j : Nat} {v : Value} (h : j ≠ i) : updV u i v j = u j := if_neg h
theorem ne_of {i j : Nat} (h1 : L i = false) (h2 : L j = true) : j ≠ i := fun e => by rw [e, h1] at h2; cases h2
/-- An operation that only makes memory grow. -/
theorem Jy.grow {W' : World} {i : Nat} {v : Value} (h : Jy w m l ns T al sts L u W) (hLi : L i = false) (ha : i ∉ al) (hs : ∀ s, s ∈ sts → s.1 ≠ i) (hb : Below W.heap.size W W') : Jy w m l ns T al sts (upd L i) (updV u i v) W' := by
  refine ⟨h.cm.later hb, fun a ha' hL => ?_, fun a a' h1 h2 hne hL1 hL2 => ?_, fun s hs' hL => ?_⟩
  · have e : a ≠ i := fun e => ha (e ▸ ha')
    rw [upd_ne e] at hL
    obtain ⟨b, bk, ak, nk, ck, e1, e2, e3⟩ := h.bx a ha' hL
    exact ⟨b, bk, ak, nk, ck, by rw [updV_ne e]; exact e1, e2, e3.below hb⟩
  · have e : a ≠ i := fun e => ha (e ▸ h1)
    have e' : a' ≠ i := fun e => ha (e ▸ h2)
    rw [upd_ne e] at hL1
    rw [upd_ne e'] at hL2
    rw [updV_ne e, updV_ne e']
    exact h.ne a a' h1 h2 hne hL1 hL2
  · rw [upd_ne (hs s hs')] at hL
    obtain ⟨k1, k2, b, p, q, e1, e2, e3⟩ := h.st s hs' hL
    exact ⟨upd_mono k1, upd_mono k2, b, p, q, by rw [updV_ne (ne_of hLi k1)]; exact e1, by rw [updV_ne (ne_of hLi k2)]; exact e2, e3.below hb⟩
/-- An operation that makes a variable. -/
theorem Jy.alloc {i : Nat} (h : Jy w m l ns T al sts L u W) (hLi : L i = false) (hs : ∀ s, s ∈ sts → s.1 ≠ i) : Jy w m l ns T al sts (upd L i) (updV u i (.pointer (some ⟨W.heap.size, 0, none⟩))) (W.alloc (.cells #[.bool false, .slice none 0 0] T)) := by
  have hb : Below W.heap.size W (W.alloc (.cells #[.bool false, .slice none 0 0] T)) := (Below.refl _ _).alloc (Nat.le_refl _) _
  refine ⟨h.cm.later hb, fun a ha' hL => ?_, fun a a' h1 h2 hne hL1 hL2 => ?_, fun s hs' hL => ?_⟩
  · by_cases e : a = i
    · subst e
      exact ⟨W.heap.size, false, none, 0, 0, by simp [updV], h.cm.le, bx_new _ _ _ _⟩
    · rw [upd_ne e] at hL
      obtain ⟨b, bk, ak, nk, ck, e1, e2, e3⟩ := h.bx a ha' hL
      exact ⟨b, bk, ak, nk, ck, by rw [updV_ne e]; exact e1, e2, e3.below hb⟩
  · have old : ∀ a, a ∈ al → a ≠ i → upd L i a = true → updV u i (.pointer (some ⟨W.heap.size, 0, none⟩)) a ≠ .pointer (some ⟨W.heap.size, 0, none⟩) := by
      intro a ha e hL hc
      rw [upd_ne e] at hL
      obtain ⟨b, _, _, _, _, e1, _, e3⟩ := h.bx a ha hL
      rw [updV_ne e, e1] at hc
      have := e3.lt
      injection hc with hc
      injection hc with hc
      injection hc with hc
      omega
    by_cases e : a = i
    · have e' : a' ≠ i := fun x => hne (e.trans x.symm)
      intro hc
      refine old a' h2 e' hL2 ?_
      rw [← hc, e]
      simp [updV]
    · by_cases e' : a' = i
      · intro hc
        refine old a h1 e hL1 ?_
        rw [hc, e']
        simp [updV]
      · rw [upd_ne e] at hL1
        rw [upd_ne e'] at hL2
        rw [updV_ne e, updV_ne e']
        exact h.ne a a' h1 h2 hne hL1 hL2
  · rw [upd_ne (hs s hs')] at hL
    obtain ⟨k1, k2, b, p, q, e1, e2, e3⟩ := h.st s hs' hL
    exact ⟨upd_mono k1, upd_mono k2, b, p, q, by rw [updV_ne (ne_of hLi k1)]; exact e1, by rw [updV_ne (ne_of hLi k2)]; exact e2, e3.below hb⟩
/-- An operation that stores a number in a variable that was made. -/
theorem Jy.store {i a x b : Nat} {bk : Bool} {ak : Option Addr} {nk ck : Nat} {b' : Bool} {a' : Option Addr} {n' c' : Nat} {v : Value} (h : Jy w m l ns T al sts L u W) (hLi : L i = false) (ha : i ∉ al) (hin : a ∈ al) (hua : ∀ s, s ∈ sts → s.1 = i → s = (i, a, x)) (hal : ∀ s, s ∈ sts → s.2.1 ∈ al) (hun : ∀ s, s ∈ sts → s.1 ≠ i → s.2.1 ≠ a) (hLa : L a = true) (hLx : L x = true) (eu : u a = .pointer (some ⟨b, 0, none⟩)) (hm : m ≤ b) (hB : Bx W T b (.bool bk) (.slice ak nk ck)) (ex : u x = .agg #[.bool b', .slice a' n' c']) :
    Jy w m l ns T al sts (upd L i) (updV u i v) ((W.setCell ⟨b, 0, none⟩ (.bool b')).setCell ⟨b, 1, none⟩ (.slice a' n' c')) := by
  refine ⟨h.cm.far hm hB _ _, fun a1 ha' hL => ?_, fun a1 a2 h1 h2 hne hL1 hL2 => ?_, fun s hs' hL => ?_⟩
  · have e : a1 ≠ i := fun e => ha (e ▸ ha')
    rw [upd_ne e] at hL
    obtain ⟨b1, bk1, ak1, nk1, ck1, e1, e2, e3⟩ := h.bx a1 ha' hL
    by_cases hb : b1 = b
    · subst hb
      exact ⟨b1, b', a', n', c', by rw [updV_ne e]; exact e1, e2, e3.self _ _⟩
    · exact ⟨b1, bk1, ak1, nk1, ck1, by rw [updV_ne e]; exact e1, e2, e3.other hb _ _⟩
  · have e : a1 ≠ i := fun e => ha (e ▸ h1)
    have e' : a2 ≠ i := fun e => ha (e ▸ h2)
    rw [upd_ne e] at hL1
    rw [upd_ne e'] at hL2
    rw [updV_ne e, updV_ne e']
    exact h.ne a1 a2 h1 h2 hne hL1 hL2
  · by_cases hs : s.1 = i
    · rw [hua s hs' hs]
      refine ⟨upd_mono hLa, upd_mono hLx, b, _, _, by rw [updV_ne (ne_of hLi hLa)]; exact eu, by rw [updV_ne (ne_of hLi hLx)]; exact ex, hB.self _ _⟩
    · rw [upd_ne hs] at hL
      obtain ⟨k1, k2, b1, p, q, e1, e2, e3⟩ := h.st s hs' hL
      have hb : b1 ≠ b := by
        intro hc
        refine h.ne s.2.1 a (hal s hs') hin (hun s hs' hs) k1 hLa ?_
        rw [e1, eu, hc]
      exact ⟨upd_mono k1, upd_mono k2, b1, p, q, by rw [updV_ne (ne_of hLi k1)]; exact e1, by rw [updV_ne (ne_of hLi k2)]; exact e2, e3.other hb _ _⟩
end
/-- A value is a number of the document's. -/
def VR (z : Int) (v : Value) (W : World) : Prop := ∃ (b : Bool) (a : Option Addr) (n c : Nat), v = .agg #[.bool b, .slice a n c] ∧ RNum W b a n c z
/-- A value is what Quo hands back: the quotient, a rest, an error's number. -/
def VQ (q er : Int) (v : Value) (W : World) : Prop := ∃ (b : Bool) (a : Option Addr) (n c : Nat) (r : Int) (b' : Bool) (a' : Option Addr) (n' c' : Nat), v = .tuple #[.agg #[.bool b, .slice a n c], .agg #[.bool b', .slice a' n' c'], .int .i64 er] ∧ RNum W b a n c q ∧ RNum W b' a' n' c' r
/-- A value is a number, whichever. -/
def VA (v : Value) (W : World) : Prop := ∃ z, VR z v W
inductive VY where
  | eq (v : Value)
  | num (z : Int)
  | some_
  | quo (q er : Int)
  | any
def vyP : VY → Value → World → Prop
  | .eq c, v, _ => v = c
  | .num z, v, W => VR z v W
  | .some_, v, W => VA v W
  | .quo q er, v, W => VQ q er v W
  | .any, _, _ => True
def vyL (ks : List VY) (j : Nat) : Value → World → Prop := vyP (ks.getD j .any)
theorem vy_later {k : VY} {v : Value} {W W' : World} (h : vyP k v W) (hb : Below W.heap.size W W') : vyP k v W' := by
  cases k with
  | eq c => exact h
  | num z => obtain ⟨b, a, n, c, e, g⟩ := h; exact ⟨b, a, n, c, e, g.below hb⟩
  | some_ => obtain ⟨z, b, a, n, c, e, g⟩ := h; exact ⟨z, b, a, n, c, e, g.below hb⟩
  | quo q er => obtain ⟨b, a, n, c, r, b', a', n', c', e, g, g'⟩ := h; exact ⟨b, a, n, c, r, b', a', n', c', e, g.below hb, g'.below hb⟩
  | any => trivial
theorem vy_store {k : VY} {v : Value} {W : World} (h : vyP k v W) {t : TypeId} {b0 : Nat} {bk : Bool} {ak : Option Addr} {nk ck : Nat} (hk : Bx W t b0 (.bool bk) (.slice ak nk ck)) (x y : Value) : vyP k v ((W.setCell ⟨b0, 0, none⟩ x).setCell ⟨b0, 1, none⟩ y) := by
  cases k with
  | eq c => exact h
  | num z => obtain ⟨b, a, n, c, e, g⟩ := h; exact ⟨b, a, n, c, e, g.store hk _ _⟩
  | some_ => obtain ⟨z, b, a, n, c, e, g⟩ := h; exact ⟨z, b, a, n, c, e, g.store hk _ _⟩
  | quo q er => obtain ⟨b, a, n, c, r, b', a', n', c', e, g, g'⟩ := h; exact ⟨b, a, n, c, r, b', a', n', c', e, g.store hk _ _, g'.store hk _ _⟩
  | any => trivial
theorem vyL_later {n : Nat} {ks : List VY} {u : Nat → Value} {W W' : World} (hb : Below W.heap.size W W') : ∀ j, j < n → vyL ks j (u j) W → vyL ks j (u j) W' := fun _ _ h => vy_later h hb
theorem vyL_same {n : Nat} {ks : List VY} {u : Nat → Value} {W : World} : ∀ j, j < n → vyL ks j (u j) W → vyL ks j (u j) W := fun _ _ h => h
theorem vyL_store {n : Nat} {ks : List VY} {u : Nat → Value} {W : World} {t : TypeId} {b0 : Nat} {bk : Bool} {ak : Option Addr} {nk ck : Nat} (hk : Bx W t b0 (.bool bk) (.slice ak nk ck)) (x y : Value) : ∀ j, j < n → vyL ks j (u j) W → vyL ks j (u j) ((W.setCell ⟨b0, 0, none⟩ x).setCell ⟨b0, 1, none⟩ y) := fun _ _ h => vy_store h hk x y
theorem cl2 {W : World} {b : Nat} {x y : Value} {T : TypeId} (h : Cl W (b, #[x, y], T)) : W.cell? ⟨b, 0, none⟩ = some x ∧ W.cell? ⟨b, 1, none⟩ = some y ∧ W.frozen? ⟨b, 0, none⟩ = false ∧ W.frozen? ⟨b, 1, none⟩ = false := Bx.cells (t := T) h
theorem cl3 {W : World} {b : Nat} {x y z : Value} {T : TypeId} (h : Cl W (b, #[x, y, z], T)) : W.cell? ⟨b, 0, none⟩ = some x ∧ W.cell? ⟨b, 1, none⟩ = some y ∧ W.cell? ⟨b, 2, none⟩ = some z ∧ W.frozen? ⟨b, 0, none⟩ = false ∧ W.frozen? ⟨b, 1, none⟩ = false ∧ W.frozen? ⟨b, 2, none⟩ = false := by
  unfold Cl at h
  refine ⟨?_, ?_, ?_, ?_, ?_, ?_⟩ <;> simp [World.cell?, World.frozen?, h]
end Go.Proofs.Ytpahkpcoinbgcaa

/- The document's numbers: the walk of Small. -/
namespace Go.Proofs.Ytpahkpcoinbgcaa
open Go.RowKit

set_option maxRecDepth 100000 in
set_option maxHeartbeats 3200000 in
theorem rSmall_any (bl : Bool) (a : Option Addr) (n c : Nat) (z : Int) (w : World) (h : RNum w bl a n c z) (hn : n ≤ 1000000) :
    Calls Try.prog 109 #[.agg #[.bool bl, .slice a n c]] w (PVal2 (.int .i64 (smallV z)) (.bool (smallB z)) w) := by
  have hal1 : Below w.heap.size w (w.alloc (.cells #[.bool bl, .slice a n c] 71)) := (Below.refl _ _).alloc (Nat.le_refl _) _
  have hX1 := bx_new w 71 (.bool bl) (.slice a n c)
  have hN1 := h.below hal1
  have hB1 := hal1
  clear h hal1
  go_enter Try.func109, Try.ntmps109
  go_wp2_with fail
  generalize w.alloc (.cells #[.bool bl, .slice a n c] 71) = w1 at *
  refine (rOf_any (-9223372036854775808) _ (by omega) (by omega)).mono ?_
  rintro e w2 ⟨b2, a2, n2, c2, rfl, hN2, _, hb2⟩
  have hal2 : Below w2.heap.size w2 (w2.alloc (.cells #[.bool b2, .slice a2 n2 c2] 71)) := (Below.refl _ _).alloc (Nat.le_refl _) _
  have hX2 := (hX1.below hb2).below hal2
  have hM2 := (hN1.below hb2).below hal2
  have hL2 := bx_new w2 71 (.bool b2) (.slice a2 n2 c2)
  have hK2 := hN2.below hal2
  have hB2 : Below w.heap.size w (w2.alloc (.cells #[.bool b2, .slice a2 n2 c2] 71)) := (hB1.trans (hb2.mono hB1.size)).trans (hal2.mono (hB1.trans (hb2.mono hB1.size)).size)
  clear hX1 hN1 hB1 hN2 hb2 hal2
  go_wp2_with fail
  generalize w2.alloc (.cells #[.bool b2, .slice a2 n2 c2] 71) = w3 at *
  generalize w2.heap.size = i2 at *
  refine (rOf_any 9223372036854775807 _ (by omega) (by omega)).mono ?_
  rintro e w4 ⟨b4, a4, n4, c4, rfl, hN4, _, hb4⟩
  have hal4 : Below w4.heap.size w4 (w4.alloc (.cells #[.bool b4, .slice a4 n4 c4] 71)) := (Below.refl _ _).alloc (Nat.le_refl _) _
  have hX4 := (hX2.below hb4).below hal4
  have hM4 := (hM2.below hb4).below hal4
  have hL4 := (hL2.below hb4).below hal4
  have hK4 := (hK2.below hb4).below hal4
  have hH4 := bx_new w4 71 (.bool b4) (.slice a4 n4 c4)
  have hJ4 := hN4.below hal4
  have hB4 : Below w.heap.size w (w4.alloc (.cells #[.bool b4, .slice a4 n4 c4] 71)) := (hB2.trans (hb4.mono hB2.size)).trans (hal4.mono (hB2.trans (hb4.mono hB2.size)).size)
  clear hX2 hM2 hL2 hK2 hB2 hN4 hb4 hal4
  obtain ⟨x0, x1, _, _⟩ := hX4.cells
  obtain ⟨l0, l1, _, _⟩ := hL4.cells
  go_wp2_with fail
  generalize w4.alloc (.cells #[.bool b4, .slice a4 n4 c4] 71) = w5 at *
  generalize w4.heap.size = i4 at *
  refine (rCmp_any bl a n c z b2 a2 n2 c2 _ _ hM4 hK4).mono ?_
  rintro e w6 ⟨rfl, hb6⟩
  have hX6 := hX4.below hb6
  have hM6 := hM4.below hb6
  have hH6 := hH4.below hb6
  have hJ6 := hJ4.below hb6
  have hB6 : Below w.heap.size w w6 := hB4.trans (hb6.mono hB4.size)
  clear hX4 hM4 hL4 hK4 hH4 hJ4 hB4 hb6 x0 x1 l0 l1
  by_cases hlo : z < -9223372036854775808
  · have HS : Hid (smallV z = 0 ∧ smallB z = false) := by
      show _ ∧ _
      unfold smallV smallB
      exact ⟨if_neg (by omega), decide_eq_false (by omega)⟩
    rw [show cmpI z (-9223372036854775808) = -1 from if_pos hlo]
    clear hlo hX6 hM6 hH6 hJ6
    go_wp2
    go_ret2
    exact ⟨ret2 HS.out.1.symm HS.out.2.symm, hB6⟩
  · obtain ⟨cc, hcc⟩ : ∃ cc, cc = cmpI z (-9223372036854775808) := ⟨_, rfl⟩
    have dcc : decide (cc < 0) = false := by
      refine decide_eq_false ?_
      rw [hcc]
      unfold cmpI
      rw [if_neg hlo]
      split <;> decide
    rw [← hcc]
    clear hcc
    obtain ⟨x0, x1, _, _⟩ := hX6.cells
    obtain ⟨l0, l1, _, _⟩ := hH6.cells
    go_wp2_with fail
    refine (rCmp_any bl a n c z b4 a4 n4 c4 _ _ hM6 hJ6).mono ?_
    rintro e w7 ⟨rfl, hb7⟩
    have hX7 := hX6.below hb7
    have hM7 := hM6.below hb7
    have hB7 : Below w.heap.size w w7 := hB6.trans (hb7.mono hB6.size)
    clear hX6 hM6 hH6 hJ6 hB6 hb7 x0 x1 l0 l1
    by_cases hhi : 9223372036854775807 < z
    · have HS : Hid (smallV z = 0 ∧ smallB z = false) := by
        show _ ∧ _
        unfold smallV smallB
        exact ⟨if_neg (by omega), decide_eq_false (by omega)⟩
      rw [show cmpI z 9223372036854775807 = 1 from by unfold cmpI; rw [if_neg (by omega), if_pos hhi]]
      clear hhi hlo hX7 hM7
      go_wp2
      go_ret2
      exact ⟨ret2 HS.out.1.symm HS.out.2.symm, hB7⟩
    · have HS : Hid (smallV z = z ∧ smallB z = true) := by
        show _ ∧ _
        unfold smallV smallB
        exact ⟨if_pos (by omega), decide_eq_true (by omega)⟩
      obtain ⟨dd, hdd⟩ : ∃ dd, dd = cmpI z 9223372036854775807 := ⟨_, rfl⟩
      have ddd : decide (0 < dd) = false := by
        refine decide_eq_false ?_
        rw [hdd]
        unfold cmpI
        rw [if_neg hhi]
        split <;> decide
      rw [← hdd]
      clear hdd
      have HSG := Lib.hid hM7.sgn
      have HFT := Lib.hid hM7.fit
      have hlie := hM7.lie
      have HZ : Hid (-9223372036854775808 ≤ z ∧ z ≤ 9223372036854775807) := show _ ∧ _ from ⟨by omega, by omega⟩
      obtain ⟨x0, x1, _, _⟩ := hX7.cells
      clear hlo hhi hM7 x0 x1
      cases bl
      · have HN : Hid ((((z.natAbs : Nat) : Int)) = z ∧ z.natAbs ≤ 9223372036854775807) := by
          show _ ∧ _
          have h1 := HSG.out
          have h2 := HZ.out
          simp at h1
          omega
        clear HSG HZ
        generalize z.natAbs = N at *
        obtain ⟨x0, x1, _, _⟩ := hX7.cells
        go_wp2
        clear x0 x1
        go_loopw [6, 7] (fun nv iv wr => ∃ k : Nat, k ≤ n ∧ iv = .int .i64 ((k : Int) - 1) ∧ nv = .int .i64 (((N / 10 ^ k : Nat) : Int)) ∧ Below w7.heap.size w7 wr) (fun _ iv _ => (intOf iv + 1).toNat)
        case atStart => exact ⟨n, Nat.le_refl _, by go_num, by rw [Nat.div_eq_of_lt HFT.out.1]; rfl, Below.refl _ _⟩
        case round =>
          obtain ⟨k, hk, rfl, rfl, hbl⟩ := hrel
          obtain ⟨x0, x1, _, _⟩ := (hX7.below hbl).cells
          cases k with
          | zero =>
            have hfin : Below w.heap.size w wr := hB7.trans (hbl.mono hB7.size)
            have HV : Hid (((N / 10 ^ 0 : Nat) : Int) = z) := by show _ = _; rw [Nat.pow_zero, Nat.div_one]; exact HN.out.1
            generalize ((N / 10 ^ 0 : Nat) : Int) = V at *
            clear hlie hbl
            go_wp2
            go_ret2
            exact ⟨ret2 (HV.out.trans HS.out.1.symm) HS.out.2.symm, hfin⟩
          | succ k =>
            rw [show (((k + 1 : Nat) : Int) - 1) = (k : Int) by omega]
            obtain ⟨bb, oo, rfl, hbb⟩ := hlie.some_of_pos (by omega)
            have c1 := (hlie.below hbl).at k (by omega)
            have hup := part_up N k
            have hdl := dig_lt N k
            have hle := Nat.div_le_self N (10 ^ k)
            have hNl := HN.out.2
            obtain ⟨D, hD⟩ : ∃ D : Int, D = ((dig N k : Nat) : Int) := ⟨_, rfl⟩
            obtain ⟨V, hV⟩ : ∃ V : Int, V = ((N / 10 ^ (k + 1) : Nat) : Int) := ⟨_, rfl⟩
            have HU : Hid (10 * V + D = ((N / 10 ^ k : Nat) : Int)) := by show _ = _; omega
            have hD0 : 0 ≤ D := by omega
            have hD1 : D ≤ 9 := by omega
            have hV0 : 0 ≤ V := by omega
            have hV1 : 10 * V + D ≤ 9223372036854775807 := by omega
            rw [← hD] at c1
            rw [← hV]
            clear hup hdl hle hNl hD hV
            go_wp2
            go_roundw
            case rel => exact ⟨k, by omega, by go_num, by rw [HU.out], hbl⟩
            case measure => simp [intOf]
      · have HN : Hid ((-((z.natAbs : Nat) : Int)) = z ∧ z.natAbs ≤ 9223372036854775808) := by
          show _ ∧ _
          have h1 := HSG.out
          have h2 := HZ.out
          simp at h1
          omega
        clear HSG HZ
        generalize z.natAbs = N at *
        obtain ⟨x0, x1, _, _⟩ := hX7.cells
        go_wp2
        clear x0 x1
        go_loopw [6, 7] (fun nv iv wr => ∃ k : Nat, k ≤ n ∧ iv = .int .i64 ((k : Int) - 1) ∧ nv = .int .i64 (-((N / 10 ^ k : Nat) : Int)) ∧ Below w7.heap.size w7 wr) (fun _ iv _ => (intOf iv + 1).toNat)
        case atStart => exact ⟨n, Nat.le_refl _, by go_num, by rw [Nat.div_eq_of_lt HFT.out.1]; rfl, Below.refl _ _⟩
        case round =>
          obtain ⟨k, hk, rfl, rfl, hbl⟩ := hrel
          obtain ⟨x0, x1, _, _⟩ := (hX7.below hbl).cells
          cases k with
          | zero =>
            have hfin : Below w.heap.size w wr := hB7.trans (hbl.mono hB7.size)
            have HV : Hid (-((N / 10 ^ 0 : Nat) : Int) = z) := by show _ = _; rw [Nat.pow_zero, Nat.div_one]; exact HN.out.1
            generalize -((N / 10 ^ 0 : Nat) : Int) = V at *
            clear hlie hbl
            go_wp2
            go_ret2
            exact ⟨ret2 (HV.out.trans HS.out.1.symm) HS.out.2.symm, hfin⟩
          | succ k =>
            rw [show (((k + 1 : Nat) : Int) - 1) = (k : Int) by omega]
            obtain ⟨bb, oo, rfl, hbb⟩ := hlie.some_of_pos (by omega)
            have c1 := (hlie.below hbl).at k (by omega)
            have hup := part_up N k
            have hdl := dig_lt N k
            have hle := Nat.div_le_self N (10 ^ k)
            have hNl := HN.out.2
            obtain ⟨D, hD⟩ : ∃ D : Int, D = ((dig N k : Nat) : Int) := ⟨_, rfl⟩
            obtain ⟨V, hV⟩ : ∃ V : Int, V = ((N / 10 ^ (k + 1) : Nat) : Int) := ⟨_, rfl⟩
            have HU : Hid (10 * -V - D = -((N / 10 ^ k : Nat) : Int)) := by show _ = _; omega
            have hD0 : 0 ≤ D := by omega
            have hD1 : D ≤ 9 := by omega
            have hV0 : 0 ≤ V := by omega
            have hV1 : 10 * V + D ≤ 9223372036854775808 := by omega
            rw [← hD] at c1
            rw [← hV]
            clear hup hdl hle hNl hD hV
            go_wp2
            go_roundw
            case rel => exact ⟨k, by omega, by go_num, by rw [HU.out], hbl⟩
            case measure => simp [intOf]
end Go.Proofs.Ytpahkpcoinbgcaa

/- The document's numbers by their names: contracts; variables of two numbers. No statement of the seat is proved here. -/
namespace Go.Proofs.Ytpahkpcoinbgcaa
open Go Go.RowKit

/-- A number is handed back. -/
def PN (z : Int) (w : World) (e : Ending) (w' : World) : Prop := ∃ p : NR, p.z = z ∧ e = .returned (.agg #[.bool p.b, .slice p.a p.n p.c]) ∧ p.is w' ∧ Below w.heap.size w w'
theorem NR.len {p : NR} {W : World} (h : p.is W) {k : Nat} (hz : p.z.natAbs < 10 ^ k) : p.n ≤ k := fit10_le h.fit hz
theorem NR.below {p : NR} {W W' : World} (h : p.is W) (hb : Below W.heap.size W W') : p.is W' := RNum.below h hb
theorem nOf (z : Int) (h1 : -9223372036854775808 ≤ z) (h2 : z ≤ 9223372036854775807) (w : World) : Calls Try.prog 80 #[.int .i64 z] w (PN z w) :=
  (rOf_any z w h1 h2).mono fun _ _ ⟨b, a, n, c, e, g, _, hB⟩ => ⟨⟨b, a, n, c, z⟩, rfl, e, g, hB⟩
theorem nMul (p q : NR) (w : World) (hp : p.is w) (hq : q.is w) (h1 : p.n ≤ 1000000) (h2 : q.n ≤ 1000000) : Calls Try.prog 86 #[.agg #[.bool p.b, .slice p.a p.n p.c], .agg #[.bool q.b, .slice q.a q.n q.c]] w (PN (p.z * q.z) w) :=
  (rMul_any p.b p.a p.n p.c p.z q.b q.a q.n q.c q.z w hp hq (by omega) (by omega)).mono fun _ _ ⟨b, a, n, c, e, g, _, hB⟩ => ⟨⟨b, a, n, c, p.z * q.z⟩, rfl, e, g, hB⟩
theorem nAdd (p q : NR) (w : World) (hp : p.is w) (hq : q.is w) (h1 : p.n ≤ 1000000) (h2 : q.n ≤ 1000000) : Calls Try.prog 89 #[.agg #[.bool p.b, .slice p.a p.n p.c], .agg #[.bool q.b, .slice q.a q.n q.c]] w (PN (p.z + q.z) w) :=
  (rAdd_any p.b p.a p.n p.c p.z q.b q.a q.n q.c q.z w hp hq (by omega) (by omega)).mono fun _ _ ⟨b, a, n, c, e, g, _, hB⟩ => ⟨⟨b, a, n, c, p.z + q.z⟩, rfl, e, g, hB⟩
theorem nMinus (p : NR) (w : World) (hp : p.is w) : Calls Try.prog 108 #[.agg #[.bool p.b, .slice p.a p.n p.c]] w (PN (-p.z) w) :=
  (rMinus_any p.b p.a p.n p.c p.z w hp).mono fun _ _ ⟨b, a, n, c, e, g, hB⟩ => ⟨⟨b, a, n, c, -p.z⟩, rfl, e, g, hB⟩
/-- A quotient, a rest and an error's number are handed back. -/
def PNQ (q er : Int) (w : World) (e : Ending) (w' : World) : Prop := ∃ p r : NR, p.z = q ∧ e = .returned (.tuple #[.agg #[.bool p.b, .slice p.a p.n p.c], .agg #[.bool r.b, .slice r.a r.n r.c], .int .i64 er]) ∧ p.is w' ∧ r.is w' ∧ Below w.heap.size w w'
theorem quo_flo' {x y q r : Int} (h : IsQuo x y q r) (hy : y ≠ 0) : q = flo x y := (flo_of (by rw [Int.mul_comm]; exact h.1.symm) h.2.1 h.2.2 hy).symm
theorem nQuo (p q : NR) (w : World) (hp : p.is w) (hq : q.is w) (h1 : p.n ≤ 1000000) (h2 : q.n ≤ 1000000) (hz : q.z ≠ 0) : Calls Try.prog 107 #[.agg #[.bool p.b, .slice p.a p.n p.c], .agg #[.bool q.b, .slice q.a q.n q.c]] w (PNQ (flo p.z q.z) 0 w) :=
  (rQuo_any p.b p.a p.n p.c p.z q.b q.a q.n q.c q.z w hp hq h1 h2 hz).mono fun _ _ ⟨q', r, hq', b, a, n, c, b2, a2, n2, c2, e, g, g2, hB⟩ => ⟨⟨b, a, n, c, q'⟩, ⟨b2, a2, n2, c2, r⟩, quo_flo' hq' hz, e, g, g2, hB⟩
theorem nSmall (p : NR) (w : World) (hp : p.is w) (h1 : p.n ≤ 1000000) : Calls Try.prog 109 #[.agg #[.bool p.b, .slice p.a p.n p.c]] w (PVal2 (.int .i64 (smallV p.z)) (.bool (smallB p.z)) w) := rSmall_any p.b p.a p.n p.c p.z w hp h1
/-- A variable of two numbers. -/
def F4 (W : World) (T : TypeId) (k : Nat) (p q : NR) : Prop := W.heap[k]? = some (.cells #[.bool p.b, .slice p.a p.n p.c, .bool q.b, .slice q.a q.n q.c] T (0, 0))
theorem F4.below {W W' : World} {T : TypeId} {k : Nat} {p q : NR} (h : F4 W T k p q) (hb : Below W.heap.size W W') : F4 W' T k p q := by
  unfold F4 at h ⊢
  rw [hb.block _ (Array.getElem?_eq_some_iff.1 h).1]
  exact h
theorem F4.cells {W : World} {T : TypeId} {k : Nat} {p q : NR} (h : F4 W T k p q) : W.cell? ⟨k, 0, none⟩ = some (.bool p.b) ∧ W.cell? ⟨k, 1, none⟩ = some (.slice p.a p.n p.c) ∧ W.cell? ⟨k, 2, none⟩ = some (.bool q.b) ∧ W.cell? ⟨k, 3, none⟩ = some (.slice q.a q.n q.c) ∧ W.frozen? ⟨k, 0, none⟩ = false ∧ W.frozen? ⟨k, 1, none⟩ = false ∧ W.frozen? ⟨k, 2, none⟩ = false ∧ W.frozen? ⟨k, 3, none⟩ = false := by
  unfold F4 at h
  refine ⟨?_, ?_, ?_, ?_, ?_, ?_, ?_, ?_⟩ <;> simp [World.cell?, World.frozen?, h]
theorem f4_new (W : World) (T : TypeId) (p q : NR) : F4 (W.alloc (.cells #[.bool p.b, .slice p.a p.n p.c, .bool q.b, .slice q.a q.n q.c] T)) T W.heap.size p q := heap_new W _
theorem F4.fst {W : World} {T : TypeId} {k : Nat} {p q : NR} (h : F4 W T k p q) (r : NR) : F4 ((W.setCell ⟨k, 0, none⟩ (.bool r.b)).setCell ⟨k, 1, none⟩ (.slice r.a r.n r.c)) T k r q := by
  unfold F4 at h ⊢
  simp only [World.setCell, Array.getElem?_modify, if_true, h, Option.map_some]
  rfl
theorem F4.snd {W : World} {T : TypeId} {k : Nat} {p q : NR} (h : F4 W T k p q) (r : NR) : F4 ((W.setCell ⟨k, 2, none⟩ (.bool r.b)).setCell ⟨k, 3, none⟩ (.slice r.a r.n r.c)) T k p r := by
  unfold F4 at h ⊢
  simp only [World.setCell, Array.getElem?_modify, if_true, h, Option.map_some]
  rfl
theorem F4.far {W : World} {T : TypeId} {k j o o' : Nat} {p q : NR} (h : F4 W T k p q) (hne : k ≠ j) (x y : Value) : F4 ((W.setCell ⟨j, o, none⟩ x).setCell ⟨j, o', none⟩ y) T k p q := by
  unfold F4 at h ⊢
  rw [heap_set_ne _ _ hne, heap_set_ne _ _ hne]
  exact h
theorem only_o (W : World) (k o o' : Nat) (x y : Value) : Only k W ((W.setCell ⟨k, o, none⟩ x).setCell ⟨k, o', none⟩ y) := by
  refine ⟨rfl, rfl, rfl, by rw [World.size_setCell, World.size_setCell], fun j hj => by rw [heap_set_ne _ _ hj, heap_set_ne _ _ hj]⟩
theorem NR.store4 {r : NR} {W : World} (h : r.is W) {T : TypeId} {k : Nat} {p q : NR} (hk : F4 W T k p q) (o o' : Nat) (x y : Value) : r.is ((W.setCell ⟨k, o, none⟩ x).setCell ⟨k, o', none⟩ y) := by
  unfold NR.is at *
  by_cases hn : r.n = 0
  · rw [hn] at h ⊢
    exact ⟨⟨h.lie.cap, h.lie.capm, h.lie.nil, fun p hp => ⟨(h.lie.spot p hp).1, by rw [(only_o W k o o' x y).size]; exact (h.lie.spot p hp).2⟩, fun p hp i hi => by omega⟩, h.fit, h.sgn⟩
  · refine h.only (only_o W k o o' x y) (fun p hp e => ?_)
    have h1 := h.lie.cell p hp 0 (by omega)
    rw [e] at h1
    unfold F4 at hk
    simp only [World.cell?, hk, Nat.add_zero] at h1
    rcases hpo : p.off with _ | _ | _ | _ | o
    all_goals
      rw [hpo] at h1
      simp at h1
theorem NR.store2 {r : NR} {W : World} (h : r.is W) {t : TypeId} {k : Nat} {bk : Bool} {ak : Option Addr} {nk ck : Nat} (hk : Bx W t k (.bool bk) (.slice ak nk ck)) (x y : Value) : r.is ((W.setCell ⟨k, 0, none⟩ x).setCell ⟨k, 1, none⟩ y) := RNum.store h hk x y
theorem below_o {w W : World} (h : Below w.heap.size w W) {k : Nat} (hk : w.heap.size ≤ k) (o o' : Nat) (x y : Value) : Below w.heap.size w ((W.setCell ⟨k, o, none⟩ x).setCell ⟨k, o', none⟩ y) := (h.setCell (p := ⟨k, o, none⟩) hk _).setCell (p := ⟨k, o', none⟩) hk _
end Go.Proofs.Ytpahkpcoinbgcaa
