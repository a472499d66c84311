/- Variables of spans, wherever they lie. No statement of the seat is proved here. -/
import Derived.Test.YtohdfialnaegcaaRegr
import Derived.Test.YtohdfialnaegcaaRegx
import Derived.Test.YtohdfialnaegcaaSb
namespace Go.Proofs.Ytohdfialnaegcaa
open Go Go.RowKit

section
variable {P : Program}
def OpZ (P : Program) (Q : Exit → Act → World → Prop) (o : Oper) (ops : Array Oper) (A : Act) (VP : Nat → Value → World → Prop) (J : World → Prop) (n i : Nat) (u : Nat → Value) (W : World) : Prop :=
  (Region.wanted o (yielded ops A.tmps) = false ∧ VP i undef W) ∨
  (Region.wanted o (yielded ops A.tmps) = true ∧ ∀ K' : Act → World → Prop, (∀ v W', J W' → VP i v W' → (∀ j, j < n → VP j (u j) W → VP j (u j) W') → K' (A.put o.dst v) W') → Oper.wp P o A W K' Q)
theorem wp_region_z {Q : Exit → Act → World → Prop} {id : Nat} {a : Act} {w : World} {l : List Oper} (n : Nat) (ds : List (Option Tmp)) (VP : Nat → Value → World → Prop) (J : World → Prop) (hm : P.follows .mixedOrders = true) (hB : tailsB2 .any l.toArray n = true) (hds : ds = (l.take n).map (·.dst)) (hs : slotsB ds = true)
    (hz : ds.all (fun d => match d with | some t => decide (t < a.tmps.size) | none => true) = true)
    (h0 : J w.drew)
    (step : ∀ i (hi : i < l.length), i < n → ∀ (u : Nat → Value) (W : World) (A : Act), J W → (∀ j, j < n → Region.waitsFor .any l.toArray i j = true → VP j (u j) W) →
      (∀ t, some t ∉ ds → A.tmps[t]? = a.tmps[t]?) → (∀ j d, ds[j]? = some (some d) → A.tmps[d]? = some (u j)) → OpZ P Q l[i] l.toArray A VP J n i u W)
    (fin : ∀ (u : Nat → Value) (W : World), J W → (∀ j, j < n → VP j (u j) W) → wpList P l.toArray Q (l.drop n) (layS a ds u 0) W) : (Code.region id l.toArray true).wp P Q a w := by
  have hl : n ≤ l.length := by
    have hB' := hB
    unfold tailsB2 at hB'
    simp only [Bool.and_eq_true, decide_eq_true_eq] at hB'
    simpa using hB'.1.1.1
  have hlen : ds.length = n := by rw [hds]; simp; omega
  refine wp_region_inv2 n (fun L a' W => ∃ u : Nat → Value, J W ∧ (∀ j, j < n → L j = true → VP j (u j) W) ∧ a' = layS a ds u 0) hm hB ⟨fun k => ((ds.getD k none).map fun t => a.tmps.getD t undef).getD undef, h0, nofun, ?_⟩ ?_ ?_
  · refine (layS_self a ds _ 0 (fun j d hj => ?_)).symm
    have : ds.getD (0 + j) none = d := by rw [Nat.zero_add, List.getD_eq_getElem?_getD, hj]; rfl
    rw [this]
  · rintro L a' W i hi ⟨u, hJ, hu, rfl⟩ _ hw
    have hil : i < l.length := Nat.lt_of_lt_of_le hi hl
    have hid : ds[i]? = some l[i].dst := by
      rw [hds]
      simp [List.getElem?_take, hi, hil]
    have hinn : ∀ j d, ds[j]? = some (some d) → (layS a ds u 0).tmps[d]? = some (u j) := by
      intro j d hj
      have hd' : d < a.tmps.size := by
        have := List.all_eq_true.1 hz _ (List.mem_of_getElem? hj)
        simpa using this
      have h1 := layS_in ds a u 0 j d hs hj hd'
      rwa [Nat.zero_add] at h1
    refine wpOp_step (o := l[i]) (by simp [hil]) (fun K' hK => ?_)
    have key : ∀ W' v, J W' → VP i v W' → (∀ j, j < n → VP j (u j) W → VP j (u j) W') → K' ((layS a ds u 0).put l[i].dst v) W' := by
      intro W' v hj hv hb
      rw [layS_put hs hid]
      refine hK _ _ ⟨updV u i v, hj, fun j hjn hLj => ?_, rfl⟩
      unfold updV
      by_cases h : j = i
      · rw [if_pos h, h]; exact hv
      · rw [if_neg h]
        rw [upd_ne h] at hLj
        exact hb j hjn (hu j hjn hLj)
    rcases step i hil hi u W _ hJ (fun j hjn hj => hu j hjn (hw j hj)) (fun t ht => layS_out _ _ _ _ _ ht) hinn with ⟨h1, h2⟩ | ⟨h1, h2⟩
    · rw [if_neg (by rw [h1]; decide)]
      exact key W undef hJ h2 (fun _ _ h => h)
    · rw [if_pos h1]
      exact h2 K' (fun v W' hj hv hb => key W' v hj hv hb)
  · rintro a' W ⟨L, hL, u, hJ, hu, rfl⟩
    exact fin u W hJ (fun j hj => hu j hj (hL j hj))
end
/-- What an operation gives, when values are known, or are new variables, or nothing. -/
inductive VK where
  | eq (v : Value)
  | box
  | any

structure Bl (w W : World) (l : List (Nat × Sp)) : Prop where
  below : Below w.heap.size w W
  at' : ∀ p, p ∈ l → B3 W p.1 p.2
theorem bl_nil (w : World) : Bl w w [] := ⟨Below.refl _ _, nofun⟩
theorem Bl.later {w W W' : World} {l : List (Nat × Sp)} (h : Bl w W l) (hb : Below W.heap.size W W') : Bl w W' l := ⟨h.below.trans (hb.mono h.below.size), fun p hp => (h.at' p hp).below hb⟩
theorem Bl.drew {w W : World} {l : List (Nat × Sp)} (h : Bl w W l) : Bl w W.drew l := ⟨h.below.drew, h.at'⟩
theorem Bl.new {w W : World} {l : List (Nat × Sp)} (h : Bl w W l) (x : Sp) : Bl w (W.alloc (.cells #[.int .i64 x.lo, .int .i64 x.hi, .bool x.all] 23)) ((W.heap.size, x) :: l) := by
  have hb : Below W.heap.size W (W.alloc (.cells #[.int .i64 x.lo, .int .i64 x.hi, .bool x.all] 23)) := (Below.refl _ _).alloc (Nat.le_refl _) _
  refine ⟨(h.later hb).below, fun p hp => ?_⟩
  rcases List.mem_cons.1 hp with rfl | hp
  · exact b3_new W x
  · exact (h.later hb).at' p hp
theorem Bl.lt {w W : World} {l : List (Nat × Sp)} (h : Bl w W l) : ∀ p, p ∈ l → p.1 < W.heap.size := fun p hp => (Array.getElem?_eq_some_iff.1 (h.at' p hp)).1
/-- In a region: the variables, all of them ahead of m. -/
structure Bm (w : World) (m : Nat) (l : List (Nat × Sp)) (W : World) : Prop where
  bl : Bl w W l
  le : m ≤ W.heap.size
  lt : ∀ p, p ∈ l → p.1 < m
  ge : w.heap.size ≤ m
theorem Bl.bm {w W : World} {l : List (Nat × Sp)} (h : Bl w W l) : Bm w W.heap.size l W.drew := ⟨h.drew, Nat.le_refl _, h.lt, h.below.size⟩
theorem Bm.later {w W W' : World} {m : Nat} {l : List (Nat × Sp)} (h : Bm w m l W) (hb : Below W.heap.size W W') : Bm w m l W' := ⟨h.bl.later hb, Nat.le_trans h.le hb.size, h.lt, h.ge⟩
theorem Bm.far {w W : World} {m b : Nat} {l : List (Nat × Sp)} (h : Bm w m l W) (hb : m ≤ b) (x y z : Value) : Bm w m l (((W.setCell ⟨b, 0, none⟩ x).setCell ⟨b, 1, none⟩ y).setCell ⟨b, 2, none⟩ z) := by
  have h1 := h.le
  have h2 := h.ge
  refine ⟨⟨((h.bl.below.setCell (p := ⟨b, 0, none⟩) (by show w.heap.size ≤ b; omega) _).setCell (p := ⟨b, 1, none⟩) (by show w.heap.size ≤ b; omega) _).setCell (p := ⟨b, 2, none⟩) (by show w.heap.size ≤ b; omega) _, fun p hp => (h.bl.at' p hp).other (by have := h.lt p hp; omega) _ _ _⟩, ?_, h.lt, h.ge⟩
  rw [World.size_setCell, World.size_setCell, World.size_setCell]
  exact h1
/-- A value is a new variable's place. -/
def Pbox (m : Nat) (v : Value) (W : World) : Prop := ∃ (b : Nat) (x : Sp), v = .pointer (some ⟨b, 0, none⟩) ∧ m ≤ b ∧ B3 W b x
theorem Pbox.later {m : Nat} {v : Value} {W W' : World} (h : Pbox m v W) (hb : Below W.heap.size W W') : Pbox m v W' := by
  obtain ⟨b, x, e, h1, h2⟩ := h
  exact ⟨b, x, e, h1, h2.below hb⟩
theorem pbox_new {m : Nat} {W : World} (h : m ≤ W.heap.size) : Pbox m (.pointer (some ⟨W.heap.size, 0, none⟩)) (W.alloc (.cells #[.int .i64 0, .int .i64 0, .bool false] 23)) := ⟨_, ⟨0, 0, false⟩, rfl, h, b3_new W ⟨0, 0, false⟩⟩
/-- What is known of an operation's value, by its kind. -/
def vkP (m : Nat) : VK → Value → World → Prop
  | .eq c, v, _ => v = c
  | .box, v, W => Pbox m v W
  | .any, _, _ => True
def vkL (m : Nat) (ks : List VK) (j : Nat) : Value → World → Prop := vkP m (ks.getD j .any)
theorem vk_later {m : Nat} {k : VK} {v : Value} {W W' : World} (h : vkP m k v W) (hb : Below W.heap.size W W') : vkP m k v W' := by
  cases k with
  | eq c => exact h
  | box => exact Pbox.later h hb
  | any => trivial
theorem vkL_later {m n : Nat} {ks : List VK} {u : Nat → Value} {W W' : World} (hb : Below W.heap.size W W') : ∀ j, j < n → vkL m ks j (u j) W → vkL m ks j (u j) W' := fun _ _ h => vk_later h hb
theorem vkL_same {m n : Nat} {ks : List VK} {u : Nat → Value} {W : World} : ∀ j, j < n → vkL m ks j (u j) W → vkL m ks j (u j) W := fun _ _ h => h
theorem B3.any {W : World} {k b : Nat} {x y : Sp} (h : B3 W k x) (h' : B3 W b y) (z : Sp) : ∃ x', B3 (((W.setCell ⟨b, 0, none⟩ (.int .i64 z.lo)).setCell ⟨b, 1, none⟩ (.int .i64 z.hi)).setCell ⟨b, 2, none⟩ (.bool z.all)) k x' := by
  by_cases e : k = b
  · subst e; exact ⟨z, h.self z⟩
  · exact ⟨x, h.other e _ _ _⟩
theorem vkL_store {m n b : Nat} {ks : List VK} {u : Nat → Value} {W : World} {y : Sp} (hb : B3 W b y) (z : Sp) : ∀ j, j < n → vkL m ks j (u j) W → vkL m ks j (u j) (((W.setCell ⟨b, 0, none⟩ (.int .i64 z.lo)).setCell ⟨b, 1, none⟩ (.int .i64 z.hi)).setCell ⟨b, 2, none⟩ (.bool z.all)) := by
  intro j _ h
  unfold vkL at *
  generalize ks.getD j .any = k at *
  cases k with
  | eq c => exact h
  | box =>
    obtain ⟨k, x, e, h1, h2⟩ := h
    obtain ⟨x', h3⟩ := h2.any hb z
    exact ⟨k, x', e, h1, h3⟩
  | any => trivial
theorem bl_put {w W : World} {m b : Nat} {l : List (Nat × Sp)} (h : Bm w m l W) (hb : m ≤ b) {y : Sp} (hB : B3 W b y) (z : Sp) : Bl w (((W.setCell ⟨b, 0, none⟩ (.int .i64 z.lo)).setCell ⟨b, 1, none⟩ (.int .i64 z.hi)).setCell ⟨b, 2, none⟩ (.bool z.all)) ((b, z) :: l) := by
  have h1 := (h.far hb (.int .i64 z.lo) (.int .i64 z.hi) (.bool z.all)).bl
  refine ⟨h1.below, fun p hp => ?_⟩
  rcases List.mem_cons.1 hp with rfl | hp
  · exact hB.self z
  · exact h1.at' p hp
end Go.Proofs.Ytohdfialnaegcaa
