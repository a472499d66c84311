/- As part Regv, with one operation that makes a variable wherever it comes in the order. No statement of the seat is proved here. -/
import Derived.Test.YtpahkpcoinbgcaaGr1
import Derived.Test.YtpahkpcoinbgcaaProg
import Derived.KernelRfl
import Derived.Laws.BitsAllLaws
namespace Go.Proofs.Ytpahkpcoinbgcaa
open Go Go.RowKit

section
variable {P : Program}
def OpA (P : Program) (Q : Exit → Act → World → Prop) (o : Oper) (ops : Array Oper) (a : Act) (ds : List (Option Tmp)) (V : Nat → Value) (J : World → Prop) (A : Value → World → Prop) (i : Nat) (u : Nat → Value) (W : World) : Prop :=
  (Region.wanted o (yielded ops (layS a ds u 0).tmps) = false ∧ (layS a ds u 0).put o.dst undef = layS a ds (updV u i (V i)) 0) ∨
  (Region.wanted o (yielded ops (layS a ds u 0).tmps) = true ∧ ∀ K' : Act → World → Prop, (∀ a' W', a' = layS a ds (updV u i (V i)) 0 → J W' → (∀ v, A v W → A v W') → K' a' W') → Oper.wp P o (layS a ds u 0) W K' Q)
def OpN (P : Program) (Q : Exit → Act → World → Prop) (o : Oper) (a : Act) (ds : List (Option Tmp)) (J : World → Prop) (A : Value → World → Prop) (i : Nat) (u : Nat → Value) (W : World) : Prop :=
  o.guard = none ∧ ∀ K' : Act → World → Prop, (∀ a' W' v, a' = layS a ds (updV u i v) 0 → J W' → A v W' → K' a' W') → Oper.wp P o (layS a ds u 0) W K' Q
/-- The first n operations may come in any order, their values known ahead but for operation k, which makes a variable; the others come behind them, in one order. -/
theorem wp_region_valsA {Q : Exit → Act → World → Prop} {id : Nat} {a : Act} {w : World} {l : List Oper} (n k : Nat) (ds : List (Option Tmp)) (V : Nat → Value) (J : World → Prop) (A : Value → World → Prop) (hm : P.follows .mixedOrders = true) (hB : tailsB2 .any l.toArray n = true) (hn : ds.length ≤ n) (hk : k < n)
    (h0 : J w.drew)
    (make : ∀ (hi : k < l.length) (u : Nat → Value) (W : World), J W → OpN P Q l[k] a ds J A k u W)
    (step : ∀ i (hi : i < l.length), i < n → i ≠ k → ∀ (u : Nat → Value) (W : World), J W → (∀ j, j ≠ k → Region.waitsFor .any l.toArray i j = true → u j = V j) → OpA P Q l[i] l.toArray a ds V J A i u W)
    (fin : ∀ W v, J W → A v W → wpList P l.toArray Q (l.drop n) (layS a ds (updV V k v) 0) W) : (Code.region id l.toArray true).wp P Q a w := by
  have hl : n ≤ l.length := by
    have hB' := hB
    unfold tailsB2 at hB'
    simp only [Bool.and_eq_true, decide_eq_true_eq] at hB'
    simpa using hB'.1.1.1
  refine wp_region_inv2 n (fun L a' W => J W ∧ ∃ u : Nat → Value, (∀ j, j ≠ k → L j = true → u j = V j) ∧ (L k = true → A (u k) W) ∧ a' = layS a ds u 0) hm hB ⟨h0, fun k => ((ds.getD k none).map fun t => a.tmps.getD t undef).getD undef, nofun, nofun, ?_⟩ ?_ ?_
  · refine (layS_self a ds _ 0 (fun j d hj => ?_)).symm
    have : ds.getD (0 + j) none = d := by rw [Nat.zero_add, List.getD_eq_getElem?_getD, hj]; rfl
    rw [this]
  · rintro L a' W i hi ⟨hJ, u, hu, hA, rfl⟩ _ hw
    have hil : i < l.length := Nat.lt_of_lt_of_le hi hl
    refine wpOp_step (o := l[i]) (by simp [hil]) (fun K' hK => ?_)
    by_cases hik : i = k
    · subst hik
      obtain ⟨h1, h2⟩ := make hil u W hJ
      rw [if_pos (by simp [Region.wanted, h1])]
      refine h2 K' (fun a' W' v e hj hv => hK _ _ ⟨hj, updV u i v, fun j hji hj => ?_, fun _ => by simpa [updV] using hv, e⟩)
      unfold updV
      rw [if_neg hji]
      exact hu j hji (by rw [upd_ne hji] at hj; exact hj)
    · have key : ∀ W', J W' → (∀ v, A v W → A v W') → J W' ∧ ∃ u' : Nat → Value, (∀ j, j ≠ k → upd L i j = true → u' j = V j) ∧ (upd L i k = true → A (u' k) W') ∧ layS a ds (updV u i (V i)) 0 = layS a ds u' 0 := by
        intro W' hj hv
        refine ⟨hj, updV u i (V i), fun j hjk hj => ?_, fun hj => ?_, rfl⟩
        · unfold updV
          by_cases h : j = i
          · rw [if_pos h, h]
          · rw [if_neg h]
            exact hu j hjk (by rw [upd_ne h] at hj; exact hj)
        · unfold updV
          rw [if_neg (fun h => hik h.symm)]
          exact hv _ (hA (by rw [upd_ne (fun h => hik h.symm)] at hj; exact hj))
      rcases step i hil hi hik u W hJ (fun j hjk hj => hu j hjk (hw j hj)) with ⟨h1, h2⟩ | ⟨h1, h2⟩
      · rw [if_neg (by rw [h1]; decide), h2]
        exact hK _ _ (key W hJ (fun _ h => h))
      · rw [if_pos h1]
        refine h2 K' (fun a' W' e hj hv => ?_)
        subst e
        exact hK _ _ (key W' hj hv)
  · rintro a' W ⟨L, hL, hJ, u, hu, hA, rfl⟩
    have e : layS a ds u 0 = layS a ds (updV V k (u k)) 0 := layS_congr ds a u _ 0 (fun j hj => by
      rw [Nat.zero_add]
      unfold updV
      by_cases h : j = k
      · rw [if_pos h, h]
      · rw [if_neg h]; exact hu j h (hL j (by omega)))
    rw [e]
    exact fin W _ hJ (hA (hL k hk))
end
/-- A variable made since, as it was made. -/
def Abox (m : Nat) (C : Array Value) (T : TypeId) (v : Value) (W : World) : Prop := ∃ b, v = .pointer (some ⟨b, 0, none⟩) ∧ m ≤ b ∧ W.heap[b]? = some (.cells C T (0, 0))
theorem Abox.later {m : Nat} {C : Array Value} {T : TypeId} {v : Value} {W W' : World} (h : Abox m C T v W) (hb : Below W.heap.size W W') : Abox m C T v W' := by
  obtain ⟨b, e, h1, h2⟩ := h
  exact ⟨b, e, h1, by rw [hb.block b (Array.getElem?_eq_some_iff.1 h2).1, h2]⟩
theorem abox_new {m : Nat} {C : Array Value} {T : TypeId} {W : World} (h : m ≤ W.heap.size) : Abox m C T (.pointer (some ⟨W.heap.size, 0, none⟩)) (W.alloc (.cells C T)) := ⟨_, rfl, h, by rw [heap_alloc_new]⟩
end Go.Proofs.Ytpahkpcoinbgcaa

/- As part Regv, where what an operation gives is known by a property that stays when memory grows; operations that make variables make unlike ones. No statement of the seat is proved here. -/
namespace Go.Proofs.Ytpahkpcoinbgcaa
open Go Go.RowKit

/-- Properties of values, by place. -/
def lstP (ps : List (Value → World → Prop)) (j : Nat) : Value → World → Prop := ps.getD j (fun _ _ => True)
/-- A value is a given one. -/
def Veq (c : Value) (v : Value) (_ : World) : Prop := v = c
theorem Veq.later {c v : Value} {W W' : World} (h : Veq c v W) (_ : Below W.heap.size W W') : Veq c v W' := h
section
variable {P : Program}
def OpR (P : Program) (Q : Exit → Act → World → Prop) (o : Oper) (ops : Array Oper) (a : Act) (ds : List (Option Tmp)) (VP : Nat → Value → World → Prop) (J : World → Prop) (al : List Nat) (i : Nat) (u : Nat → Value) (W : World) : Prop :=
  (i ∉ al ∧ Region.wanted o (yielded ops (layS a ds u 0).tmps) = false ∧ VP i undef W ∧ (layS a ds u 0).put o.dst undef = layS a ds (updV u i undef) 0) ∨
  (Region.wanted o (yielded ops (layS a ds u 0).tmps) = true ∧ ∀ K' : Act → World → Prop, (∀ a' W' v, a' = layS a ds (updV u i v) 0 → J W' → VP i v W' → Below W.heap.size W W' → (i ∈ al → v = .pointer (some ⟨W.heap.size, 0, none⟩)) → K' a' W') → Oper.wp P o (layS a ds u 0) W K' Q)
theorem wp_region_rel {Q : Exit → Act → World → Prop} {id : Nat} {a : Act} {w : World} {l : List Oper} (n : Nat) (ds : List (Option Tmp)) (VP : Nat → Value → World → Prop) (J : World → Prop) (al : List Nat) (hm : P.follows .mixedOrders = true) (hB : tailsB2 .any l.toArray n = true)
    (mono : ∀ j v W W', j < n → VP j v W → Below W.heap.size W W' → VP j v W')
    (hal : ∀ j v W, j < n → j ∈ al → VP j v W → ∃ b, v = .pointer (some ⟨b, 0, none⟩) ∧ b < W.heap.size)
    (h0 : J w.drew)
    (step : ∀ i (hi : i < l.length), i < n → ∀ (u : Nat → Value) (W : World), J W → (∀ j, j < n → Region.waitsFor .any l.toArray i j = true → VP j (u j) W) → OpR P Q l[i] l.toArray a ds VP J al i u W)
    (fin : ∀ (u : Nat → Value) (W : World), J W → (∀ j, j < n → VP j (u j) W) → (∀ i j, i < n → j < n → i ∈ al → j ∈ al → i ≠ j → u i ≠ u j) → wpList P l.toArray Q (l.drop n) (layS a ds u 0) W) : (Code.region id l.toArray true).wp P Q a w := by
  have hl : n ≤ l.length := by
    have hB' := hB
    unfold tailsB2 at hB'
    simp only [Bool.and_eq_true, decide_eq_true_eq] at hB'
    simpa using hB'.1.1.1
  refine wp_region_inv2 n (fun L a' W => J W ∧ ∃ u : Nat → Value, (∀ j, j < n → L j = true → VP j (u j) W) ∧ (∀ i j, i < n → j < n → i ∈ al → j ∈ al → i ≠ j → L i = true → L j = true → u i ≠ u j) ∧ a' = layS a ds u 0) hm hB ⟨h0, fun k => ((ds.getD k none).map fun t => a.tmps.getD t undef).getD undef, nofun, nofun, ?_⟩ ?_ ?_
  · refine (layS_self a ds _ 0 (fun j d hj => ?_)).symm
    have : ds.getD (0 + j) none = d := by rw [Nat.zero_add, List.getD_eq_getElem?_getD, hj]; rfl
    rw [this]
  · rintro L a' W i hi ⟨hJ, u, hu, hne, rfl⟩ _ hw
    have hil : i < l.length := Nat.lt_of_lt_of_le hi hl
    have key : ∀ W' v, J W' → VP i v W' → Below W.heap.size W W' → (i ∈ al → v = .pointer (some ⟨W.heap.size, 0, none⟩)) →
        J W' ∧ ∃ u' : Nat → Value, (∀ j, j < n → upd L i j = true → VP j (u' j) W') ∧ (∀ i' j, i' < n → j < n → i' ∈ al → j ∈ al → i' ≠ j → upd L i i' = true → upd L i j = true → u' i' ≠ u' j) ∧ layS a ds (updV u i v) 0 = layS a ds u' 0 := by
      intro W' v hj hv hb hnew
      refine ⟨hj, updV u i v, fun j hjn hj => ?_, fun i' j hi' hj' hia hja hij h1 h2 => ?_, rfl⟩
      · unfold updV
        by_cases h : j = i
        · rw [if_pos h, h]; exact hv
        · rw [if_neg h]
          exact mono j _ W W' hjn (hu j hjn (by rw [upd_ne h] at hj; exact hj)) hb
      · unfold updV
        by_cases e1 : i' = i
        · by_cases e2 : j = i
          · exact absurd (e1.trans e2.symm) hij
          · rw [if_pos e1, if_neg e2]
            obtain ⟨b, hbv, hlt⟩ := hal j _ W hj' hja (hu j hj' (by rw [upd_ne e2] at h2; exact h2))
            rw [hnew (e1 ▸ hia), hbv]
            intro hc
            injection hc with hc
            injection hc with hc
            injection hc with hc
            omega
        · by_cases e2 : j = i
          · rw [if_neg e1, if_pos e2]
            obtain ⟨b, hbv, hlt⟩ := hal i' _ W hi' hia (hu i' hi' (by rw [upd_ne e1] at h1; exact h1))
            rw [hnew (e2 ▸ hja), hbv]
            intro hc
            injection hc with hc
            injection hc with hc
            injection hc with hc
            omega
          · rw [if_neg e1, if_neg e2]
            exact hne i' j hi' hj' hia hja hij (by rw [upd_ne e1] at h1; exact h1) (by rw [upd_ne e2] at h2; exact h2)
    refine wpOp_step (o := l[i]) (by simp [hil]) (fun K' hK => ?_)
    rcases step i hil hi u W hJ (fun j hjn hj => hu j hjn (hw j hj)) with ⟨h0, h1, h2, h3⟩ | ⟨h1, h2⟩
    · rw [if_neg (by rw [h1]; decide), h3]
      exact hK _ _ (key W undef hJ h2 (Below.refl _ _) (fun h => absurd h h0))
    · rw [if_pos h1]
      refine h2 K' (fun a' W' v e hj hv hb hnew => ?_)
      subst e
      exact hK _ _ (key W' v hj hv hb hnew)
  · rintro a' W ⟨L, hL, hJ, u, hu, hne, rfl⟩
    exact fin u W hJ (fun j hj => hu j hj (hL j hj)) (fun i j hi hj hia hja hij => hne i j hi hj hia hja hij (hL i hi) (hL j hj))
end
theorem Abox.lt {m : Nat} {C : Array Value} {T : TypeId} {v : Value} {W : World} (h : Abox m C T v W) : ∃ b, v = .pointer (some ⟨b, 0, none⟩) ∧ b < W.heap.size := by
  obtain ⟨b, e, _, h2⟩ := h
  exact ⟨b, e, (Array.getElem?_eq_some_iff.1 h2).1⟩
/- Where operations may also store: the invariant names which operations are done and what they gave. -/
section
variable {P : Program}
def OpS (P : Program) (Q : Exit → Act → World → Prop) (o : Oper) (ops : Array Oper) (a : Act) (ds : List (Option Tmp)) (VP : Nat → Value → World → Prop) (J : (Nat → Bool) → (Nat → Value) → World → Prop) (n i : Nat) (L : Nat → Bool) (u : Nat → Value) (W : World) : Prop :=
  Region.wanted o (yielded ops (layS a ds u 0).tmps) = true ∧ ∀ K' : Act → World → Prop, (∀ a' W' v, a' = layS a ds (updV u i v) 0 → J (upd L i) (updV u i v) W' → VP i v W' → (Below W.heap.size W W' ∨ ∀ j, j < n → VP j (u j) W → VP j (u j) W') → K' a' W') → Oper.wp P o (layS a ds u 0) W K' Q
theorem wp_region_st {Q : Exit → Act → World → Prop} {id : Nat} {a : Act} {w : World} {l : List Oper} (n : Nat) (ds : List (Option Tmp)) (VP : Nat → Value → World → Prop) (J : (Nat → Bool) → (Nat → Value) → World → Prop) (hm : P.follows .mixedOrders = true) (hB : tailsB2 .any l.toArray n = true)
    (mono : ∀ j v W W', j < n → VP j v W → Below W.heap.size W W' → VP j v W')
    (h0 : ∀ u, J (fun _ => false) u w.drew)
    (step : ∀ i (hi : i < l.length), i < n → ∀ (L : Nat → Bool) (u : Nat → Value) (W : World), L i = false → J L u W → (∀ j, j < n → Region.waitsFor .any l.toArray i j = true → L j = true ∧ VP j (u j) W) → OpS P Q l[i] l.toArray a ds VP J n i L u W)
    (fin : ∀ (L : Nat → Bool) (u : Nat → Value) (W : World), (∀ j, j < n → L j = true) → J L u W → (∀ j, j < n → VP j (u j) W) → wpList P l.toArray Q (l.drop n) (layS a ds u 0) W) : (Code.region id l.toArray true).wp P Q a w := by
  have hl : n ≤ l.length := by
    have hB' := hB
    unfold tailsB2 at hB'
    simp only [Bool.and_eq_true, decide_eq_true_eq] at hB'
    simpa using hB'.1.1.1
  refine wp_region_inv2 n (fun L a' W => ∃ u : Nat → Value, J L u W ∧ (∀ j, j < n → L j = true → VP j (u j) W) ∧ a' = layS a ds u 0) hm hB ⟨fun k => ((ds.getD k none).map fun t => a.tmps.getD t undef).getD undef, h0 _, nofun, ?_⟩ ?_ ?_
  · refine (layS_self a ds _ 0 (fun j d hj => ?_)).symm
    have : ds.getD (0 + j) none = d := by rw [Nat.zero_add, List.getD_eq_getElem?_getD, hj]; rfl
    rw [this]
  · rintro L a' W i hi ⟨u, hJ, hu, rfl⟩ hLi hw
    have hil : i < l.length := Nat.lt_of_lt_of_le hi hl
    refine wpOp_step (o := l[i]) (by simp [hil]) (fun K' hK => ?_)
    obtain ⟨h1, h2⟩ := step i hil hi L u W hLi hJ (fun j hjn hj => ⟨hw j hj, hu j hjn (hw j hj)⟩)
    rw [if_pos h1]
    refine h2 K' (fun a' W' v e hj hv hb => ?_)
    subst e
    refine hK _ _ ⟨updV u i v, hj, fun j hjn hLj => ?_, rfl⟩
    unfold updV
    by_cases h : j = i
    · rw [if_pos h, h]; exact hv
    · rw [if_neg h]
      rw [upd_ne h] at hLj
      rcases hb with hb | hb
      · exact mono j _ W W' hjn (hu j hjn hLj) hb
      · exact hb j hjn (hu j hjn hLj)
  · rintro a' W ⟨L, hL, u, hJ, hu, rfl⟩
    exact fin L u W hL hJ (fun j hj => hu j hj (hL j hj))
end
end Go.Proofs.Ytpahkpcoinbgcaa

/- As part Regv, but an operation is shown with a frame of which only what it reads is known: its cost does not hang on the frame's size. No statement of the seat is proved here. -/
namespace Go.Proofs.Ytpahkpcoinbgcaa
open Go

theorem layS_size : ∀ (ds : List (Option Tmp)) (a : Act) (u : Nat → Value) (k : Nat), (layS a ds u k).tmps.size = a.tmps.size := by
  intro ds
  induction ds with
  | nil => intro a u k; rfl
  | cons d ds ih =>
    intro a u k
    show (layS (a.put d (u k)) ds u (k + 1)).tmps.size = _
    rw [ih]
    cases d <;> simp [Act.put]
theorem layS_defers : ∀ (ds : List (Option Tmp)) (a : Act) (u : Nat → Value) (k : Nat), (layS a ds u k).defers = a.defers := by
  intro ds
  induction ds with
  | nil => intro a u k; rfl
  | cons d ds ih =>
    intro a u k
    show (layS (a.put d (u k)) ds u (k + 1)).defers = _
    rw [ih]
    cases d <;> rfl
theorem put_get_ne (a : Act) (d : Option Tmp) (v : Value) (t : Nat) (h : d ≠ some t) : (a.put d v).tmps[t]? = a.tmps[t]? := by
  cases d with
  | none => rfl
  | some d =>
    show (a.tmps.setIfInBounds d v)[t]? = _
    rw [Array.getElem?_setIfInBounds_ne (fun e => h (by rw [e]))]
theorem layS_out : ∀ (ds : List (Option Tmp)) (a : Act) (u : Nat → Value) (k t : Nat), some t ∉ ds → (layS a ds u k).tmps[t]? = a.tmps[t]? := by
  intro ds
  induction ds with
  | nil => intro a u k t _; rfl
  | cons d ds ih =>
    intro a u k t h
    show (layS (a.put d (u k)) ds u (k + 1)).tmps[t]? = _
    rw [ih _ _ _ _ (fun hm => h (List.mem_cons_of_mem _ hm)), put_get_ne _ _ _ _ (fun e => h (by rw [e]; exact List.mem_cons_self))]
/-- No slot stands twice. -/
def slotsB : List (Option Tmp) → Bool
  | [] => true
  | none :: ds => slotsB ds
  | some d :: ds => !(ds.contains (some d)) && slotsB ds
theorem layS_in : ∀ (ds : List (Option Tmp)) (a : Act) (u : Nat → Value) (k j d : Nat), slotsB ds = true → ds[j]? = some (some d) → d < a.tmps.size → (layS a ds u k).tmps[d]? = some (u (k + j)) := by
  intro ds
  induction ds with
  | nil => intro a u k j d _ h; simp at h
  | cons e ds ih =>
    intro a u k j d hs h hd
    show (layS (a.put e (u k)) ds u (k + 1)).tmps[d]? = _
    have hs' : slotsB ds = true := by
      cases e with
      | none => exact hs
      | some e => unfold slotsB at hs; simp only [Bool.and_eq_true] at hs; exact hs.2
    cases j with
    | zero =>
      simp only [List.getElem?_cons_zero, Option.some.injEq] at h
      subst h
      have hn : some d ∉ ds := by
        unfold slotsB at hs
        simp only [Bool.and_eq_true, Bool.not_eq_true', List.contains_eq_mem, decide_eq_false_iff_not] at hs
        exact hs.1
      rw [layS_out _ _ _ _ _ hn]
      show (a.tmps.setIfInBounds d (u k))[d]? = _
      rw [Array.getElem?_setIfInBounds_self_of_lt hd]
      rfl
    | succ j =>
      have := ih (a.put e (u k)) u (k + 1) j d hs' (by simpa using h) (by cases e <;> simpa [Act.put] using hd)
      rw [this, Nat.add_assoc, Nat.add_comm 1 j]
theorem layS_put {ds : List (Option Tmp)} {a : Act} {u : Nat → Value} {i : Nat} {o : Option Tmp} (hs : slotsB ds = true) (hi : ds[i]? = some o) (v : Value) : (layS a ds u 0).put o v = layS a ds (updV u i v) 0 := by
  have hext : ∀ A B : Act, A.tmps = B.tmps → A.defers = B.defers → A = B := by
    intro A B h1 h2
    cases A; cases B; simp_all
  refine hext _ _ ?_ ?_
  · apply Array.ext'
    apply List.ext_getElem?
    intro t
    rw [Array.getElem?_toList, Array.getElem?_toList]
    by_cases hm : some t ∈ ds
    · obtain ⟨j, hj⟩ := List.mem_iff_getElem?.1 hm
      by_cases ht : t < a.tmps.size
      · rw [layS_in ds a (updV u i v) 0 j t hs hj ht]
        by_cases hji : j = i
        · subst hji
          rw [hi] at hj
          cases hj
          show ((layS a ds u 0).tmps.setIfInBounds t v)[t]? = _
          rw [Array.getElem?_setIfInBounds_self_of_lt (by rw [layS_size]; exact ht)]
          simp [updV]
        · have hne : o ≠ some t := by
            intro e
            subst e
            have h1 := layS_in ds a (fun q => .int .i64 (q : Int)) 0 j t hs hj ht
            have h2 := layS_in ds a (fun q => .int .i64 (q : Int)) 0 i t hs hi ht
            rw [h1] at h2
            simp at h2
            omega
          rw [put_get_ne _ _ _ _ hne, layS_in ds a u 0 j t hs hj ht]
          simp [updV, hji]
      · have h1 : ∀ A : Act, A.tmps.size = a.tmps.size → A.tmps[t]? = none := fun A hA => Array.getElem?_eq_none (by omega)
        rw [h1 _ (by cases o <;> simp [Act.put, layS_size]), h1 _ (layS_size _ _ _ _)]
    · have hne : o ≠ some t := fun e => hm (by rw [← e]; exact List.mem_of_getElem? hi)
      rw [put_get_ne _ _ _ _ hne, layS_out _ _ _ _ _ hm, layS_out _ _ _ _ _ hm]
  · rw [layS_defers]
    cases o <;> exact layS_defers _ _ _ _
section
variable {P : Program}
/-- What is to be shown of an operation, with a frame of which what it reads is known. -/
def OpX (P : Program) (Q : Exit → Act → World → Prop) (o : Oper) (ops : Array Oper) (A : Act) (V : Nat → Value) (J : World → Prop) (i : Nat) (W : World) : Prop :=
  (Region.wanted o (yielded ops A.tmps) = false ∧ V i = undef) ∨
  (Region.wanted o (yielded ops A.tmps) = true ∧ ∀ K' : Act → World → Prop, (∀ W', J W' → K' (A.put o.dst (V i)) W') → Oper.wp P o A W K' Q)
theorem wp_region_valsX {Q : Exit → Act → World → Prop} {id : Nat} {a : Act} {w : World} {l : List Oper} (n : Nat) (ds : List (Option Tmp)) (V : Nat → Value) (J : World → Prop) (hm : P.follows .mixedOrders = true) (hB : tailsB2 .any l.toArray n = true) (hds : ds = (l.take n).map (·.dst)) (hs : slotsB ds = true)
    (hz : ds.all (fun d => match d with | some t => decide (t < a.tmps.size) | none => true) = true)
    (h0 : J w.drew)
    (step : ∀ i (hi : i < l.length), i < n → ∀ (u : Nat → Value) (W : World) (A : Act), J W → (∀ j, Region.waitsFor .any l.toArray i j = true → u j = V j) →
      (∀ t, some t ∉ ds → A.tmps[t]? = a.tmps[t]?) → (∀ j d, ds[j]? = some (some d) → A.eval (.tmp d) = u j ∧ A.tmps[d]? = some (u j)) → OpX P Q l[i] l.toArray A V J i W)
    (fin : ∀ W, J W → wpList P l.toArray Q (l.drop n) (layS a ds V 0) W) : (Code.region id l.toArray true).wp P Q a w := by
  have hl : n ≤ l.length := by
    have hB' := hB
    unfold tailsB2 at hB'
    simp only [Bool.and_eq_true, decide_eq_true_eq] at hB'
    simpa using hB'.1.1.1
  have hlen : ds.length = n := by rw [hds]; simp; omega
  refine wp_region_vals n ds V J hm hB (by omega) h0 ?_ fin
  intro i hi hin u W hJ hd
  have hout : ∀ t, some t ∉ ds → (layS a ds u 0).tmps[t]? = a.tmps[t]? := fun t ht => layS_out _ _ _ _ _ ht
  have hinn : ∀ j d, ds[j]? = some (some d) → (layS a ds u 0).eval (.tmp d) = u j ∧ (layS a ds u 0).tmps[d]? = some (u j) := by
    intro j d hj
    have hd' : d < a.tmps.size := by
      have := List.all_eq_true.1 hz _ (List.mem_of_getElem? hj)
      simpa using this
    have h1 := layS_in ds a u 0 j d hs hj hd'
    rw [Nat.zero_add] at h1
    refine ⟨?_, h1⟩
    show (layS a ds u 0).tmps.getD d undef = _
    rw [Array.getD_eq_getD_getElem?, h1]
    rfl
  have hid : ds[i]? = some l[i].dst := by
    rw [hds]
    simp [List.getElem?_take, hin, hi]
  rcases step i hi hin u W (layS a ds u 0) hJ hd hout hinn with ⟨h1, h2⟩ | ⟨h1, h2⟩
  · exact .inl ⟨h1, by rw [layS_put hs hid, h2]⟩
  · exact .inr ⟨h1, fun K' hK => h2 K' (fun W' hj => hK _ _ (layS_put hs hid _) hj)⟩
end
end Go.Proofs.Ytpahkpcoinbgcaa

/- The walks of trimmed, copied, made and their kin. -/
namespace Go.Proofs.Ytpahkpcoinbgcaa
open Go.RowKit

def PTrim (a : Option Addr) (c n N : Nat) (w : World) (e : Ending) (w' : World) : Prop := ∃ m : Nat, e = .returned (.slice a m c) ∧ m ≤ n ∧ Fit m N ∧ w = w'

set_option maxHeartbeats 400000 in
theorem trimmed_any (a : Option Addr) (n c N : Nat) (w : World) (hl : Lie .u32 w a n c (lmb N)) (hN : N < BB ^ n) :
    Calls Try.prog 140 #[.slice a n c] w (PTrim a c n N w) := by
  have hcm := hl.capm
  have hnc := hl.cap
  unfold maxLen at hcm
  go_enter Try.func140, Try.ntmps140
  go_wp2
  go_loop [3] (fun i => ∃ k : Nat, k ≤ n ∧ i = .int .i64 k ∧ N < BB ^ k) (fun i => (intOf i).toNat)
  case atStart => exact ⟨n, Nat.le_refl _, rfl, hN⟩
  case round =>
    obtain ⟨k, hk, rfl, hNk⟩ := hrel
    by_cases hp : 0 < k
    · obtain ⟨b, o, rfl, hb⟩ := hl.some_of_pos (by omega)
      have hcell := hl.at (k - 1) (by omega)
      by_cases hz : lmb N (k - 1) = 0
      · have hz' : ((lmb N (k - 1) : Int) == 0) = true := by rw [hz]; rfl
        have HZ := Lib.hid hz
        have HN := Lib.hid hNk
        clear hz hNk hl hN
        go_wp2
        go_round
        case rel => exact ⟨k - 1, by omega, by go_num, fit_step (by omega) HN.out HZ.out⟩
        case measure => simp [intOf]; omega
      · have hz' : ((lmb N (k - 1) : Int) == 0) = false := by simpa using hz
        have HZ := Lib.hid hz
        have HN := Lib.hid hNk
        clear hz hNk hl hN
        go_wp2
        go_ret
        exact ⟨k, rfl, hk, ⟨HN.out, .inr (fit_end HZ.out)⟩, rfl⟩
    · obtain rfl : k = 0 := by omega
      have HN := Lib.hid hNk
      clear hNk hN
      rcases a with _ | ⟨b, o, s⟩
      · obtain ⟨rfl, rfl⟩ := hl.nil rfl
        go_wp2
        go_ret
        exact ⟨0, rfl, hk, ⟨HN.out, .inl rfl⟩, rfl⟩
      · obtain ⟨h1, h2⟩ := hl.spot _ rfl
        simp only at h1 h2
        subst h1
        go_wp2
        go_ret
        exact ⟨0, rfl, hk, ⟨HN.out, .inl rfl⟩, rfl⟩


theorem Try.u111 : Try.prog.underlying 111 = some (.slice 134) := by kernel_rfl
theorem Try.info134 : (Try.prog.info? 134).map (fun i => (i.zero, i.size, i.bytes)) = some (some (.int .u32 0), 1, 4) := by kernel_rfl
theorem Try.size134 : (Try.prog.info? 134).map (·.size) = some 1 := by kernel_rfl

/-- A new block of n numbers is handed back whole. -/
def PNew (k : IntKind) (t : TypeId) (n : Nat) (f : Nat → Nat) (w : World) (e : Ending) (w' : World) : Prop :=
  ∃ g : Nat, e = .returned (.slice (some ⟨g, 0, none⟩) n n) ∧ w.heap.size ≤ g ∧ Own k t w' g n f ∧ Below w.heap.size w w'

set_option maxHeartbeats 400000 in
theorem copied_any (a : Option Addr) (n c : Nat) (f : Nat → Nat) (w : World) (hl : Lie .u32 w a n c f) (hn : n ≤ 1000000000) :
    Calls Try.prog 131 #[.slice a n c] w (PNew .u32 134 n f w) := by
  have hn4 : 4 * n ≤ 281474976710656 := by omega
  have hn6 : n ≤ 9223372036854775807 := by omega
  go_enter Try.func131, Try.ntmps131
  go_wp2_with (first | (at_make; refine wpList_mk _ rfl (.tmp 5) (.tmp 5) 111 rfl 134 .u32 4 Try.u111 Try.info134 (n : Int) (n : Int) n rfl rfl rfl rfl hn4 hn6 ?_; intro g w1 hg hown hb; have hl1 := hl.below hb) | (with_reducible refine wpList_cp rfl (.tmp 7) (.tmp 8) 111 rfl 134 Try.u111 Try.size134 g n n .u32 _ f a n c rfl rfl hown hl1 (Nat.le_refl _) ?_; intro w2 hown2 ho2))
  go_ret
  exact ⟨g, rfl, hg, hown2.congr (fun i hi => by simp [hi]), hb.trans (ho2.below hg)⟩


set_option maxHeartbeats 400000 in
theorem made_any (bl : Bool) (a : Option Addr) (n c N : Nat) (w : World) (hl : Lie .u32 w a n c (lmb N)) (hN : N < BB ^ n) :
    Calls Try.prog 130 #[.bool bl, .slice a n c] w (PMade a (sg bl N) w) := by
  have hcm := hl.capm
  have hnc := hl.cap
  unfold maxLen at hcm
  go_enter Try.func130, Try.ntmps130
  go_wp2_with fail
  refine (trimmed_any a n c N _ ?_ hN).mono ?_
  · exact hl.below ((Below.refl _ _).alloc (Nat.le_refl _) _)
  rintro e w1 ⟨m, rfl, hm, hfit, rfl⟩
  by_cases h0 : m = 0
  · subst h0
    go_wp2
    obtain rfl := (fit_pos hfit).1 rfl
    refine bodyPost_ret (v := .agg #[.bool false, .slice none 0 0]) (by simp [results, Try.results130, go_sem]) rfl ⟨false, none, 0, 0, rfl, ?_, .inl rfl, ?_⟩
    · unfold sg; cases bl <;> exact num_zero _
    · exact (Below.refl _ _).alloc (Nat.le_refl _) _
  · have h0' : ((m : Int) == 0) = false := by simpa using h0
    have H0 := Lib.hid h0
    clear h0
    go_wp2
    refine bodyPost_ret (v := .agg #[.bool bl, .slice a m c]) (by simp [results, Try.results130, go_sem]) rfl ⟨bl, a, m, c, rfl, ⟨?_, ?_, ?_⟩, .inr rfl, ?_⟩
    · rw [sg_abs]; exact (hl.cut hm).below ((Below.refl _ _).alloc (Nat.le_refl _) _)
    · rw [sg_abs]; exact hfit
    · rw [sg_neg]; refine Nat.pos_of_ne_zero fun h => H0.out ((fit_pos hfit).2 h)
    · exact (Below.refl _ _).alloc (Nat.le_refl _) _

end Go.Proofs.Ytpahkpcoinbgcaa

/- The walk of divideBy. -/
namespace Go.Proofs.Ytpahkpcoinbgcaa
open Go.RowKit

/-- Parts from q on (below m) out of S, the others out of f. -/
def hiF (S q m : Nat) (f : Nat → Nat) (p : Nat) : Nat := if q ≤ p ∧ p < m then lmb S p else f p
/-- A number of kind u32 is handed back; block g holds n numbers F. -/
def PDiv (t : TypeId) (g n R : Nat) (F : Nat → Nat) (w : World) (e : Ending) (w' : World) : Prop :=
  e = .returned (.int .u32 (R : Nat)) ∧ Own .u32 t w' g n F ∧ Only g w w'

theorem hiF_next (S j m n : Nat) (f : Nat → Nat) : ∀ i, i < n → i ≠ j → hiF S (j + 1) m f i = hiF S j m f i := by
  intro i _ hne
  unfold hiF
  by_cases h1 : j + 1 ≤ i ∧ i < m
  · rw [if_pos h1, if_pos (by omega)]
  · rw [if_neg h1, if_neg (by omega)]
theorem or64 {L x : Nat} (hL : L < 4294967296) (hx : x < 4294967296) : bits .or .u64 ((L : Int) * 4294967296) (x : Int) = ((L * 4294967296 + x : Nat) : Int) := by
  have h := u64_or_nat (L * 4294967296) x (by omega) (by omega)
  have e : ((L * 4294967296 : Nat) : Int) = (L : Int) * 4294967296 := by omega
  rw [e] at h
  rw [h]
  have h2 := Nat.two_pow_add_eq_or_of_lt (b := x) (i := 32) (by omega) L
  rw [show (2 : Nat) ^ 32 = 4294967296 from rfl, Nat.mul_comm] at h2
  rw [← h2]
theorem div_step {N D j : Nat} (hD : 0 < D) :
    ((N / BB ^ (j + 1) % D) * 4294967296 + lmb N j) / D = lmb (N / D) j ∧ ((N / BB ^ (j + 1) % D) * 4294967296 + lmb N j) % D = N / BB ^ j % D ∧
    ((N / BB ^ (j + 1) % D) * 4294967296 + lmb N j) / D < 4294967296 := by
  have hup := up_split N j
  have e0 : lmb (N / D) j = N / BB ^ j / D % BB := by unfold lmb; rw [Nat.div_div_eq_div_mul, Nat.mul_comm, ← Nat.div_div_eq_div_mul]
  have hl := lmb_lt N j
  generalize N / BB ^ (j + 1) = M at *
  have hM := Nat.div_add_mod M D
  have hlt := Nat.mod_lt M hD
  generalize M % D = L at *
  generalize M / D = q at *
  have e1 : N / BB ^ j = (L * 4294967296 + lmb N j) + D * (4294967296 * q) := by
    rw [hup, ← hM]; show _ + 4294967296 * _ = _
    rw [Nat.mul_add, Nat.mul_left_comm]; omega
  have hq : (L * 4294967296 + lmb N j) / D < 4294967296 := Nat.div_lt_of_lt_mul (by
    have := Nat.mul_le_mul_right 4294967296 (show L + 1 ≤ D from hlt)
    omega)
  refine ⟨?_, ?_, hq⟩
  · rw [e0, e1, Nat.add_mul_div_left _ _ hD, ← Nat.mul_comm q]
    show _ = (_ + q * BB) % BB
    rw [Nat.add_mul_mod_self_right]
    exact (Nat.mod_eq_of_lt hq).symm
  · rw [e1, Nat.add_mul_mod_self_left]

set_option maxHeartbeats 1600000 in
theorem divideBy_any (g n m N D : Nat) (f : Nat → Nat) (w : World) (hown : Own .u32 134 w g n f) (hm : m ≤ n) (hf : ∀ i, i < m → f i = lmb N i) (hN : N < BB ^ m) (hD0 : 0 < D) (hD : D < 4294967296) (hn : n ≤ 1000000000) :
    Calls Try.prog 144 #[.slice (some ⟨g, 0, none⟩) m n, .int .u32 D] w (PDiv 134 g n (N % D) (hiF (N / D) 0 m f) w) := by
  have HF := Lib.hid hf
  have HN := Lib.hid hN
  clear hf hN
  go_enter Try.func144, Try.ntmps144
  go_wp2
  go_loopw [5, 6] (fun lv iv wr => ∃ k : Nat, k ≤ m ∧ iv = .int .i64 ((k : Int) - 1) ∧ lv = .int .u64 ((N / BB ^ k % D : Nat) : Int) ∧ Own .u32 134 wr g n (hiF (N / D) k m f) ∧ Only g w wr) (fun _ iv _ => (intOf iv + 1).toNat)
  case atStart => exact ⟨m, Nat.le_refl _, rfl, by rw [Nat.div_eq_of_lt HN.out]; simp, hown.congr (fun j hj => by unfold hiF; rw [if_neg (by omega)]), Only.refl _ _⟩
  case round =>
    obtain ⟨k, hk, rfl, rfl, hown1, ho1⟩ := hrel
    by_cases hp : 0 < k
    · obtain ⟨j, rfl⟩ : ∃ j, k = j + 1 := ⟨k - 1, by omega⟩
      have c1 : wr.cell? ⟨g, j, none⟩ = some (.int .u32 (lmb N j)) := by rw [hown1.cell j (by omega), hiF, if_neg (by omega), HF.out j (by omega)]
      have c2 := hown1.free j
      have hla := lmb_lt N j
      obtain ⟨L, hL⟩ : ∃ L, L = N / BB ^ (j + 1) % D := ⟨_, rfl⟩
      rw [← hL]
      have HL := Lib.hid hL
      have hLD : L < D := by rw [hL]; exact Nat.mod_lt _ hD0
      have hor := or64 (show L < 4294967296 by omega) hla
      obtain ⟨s1, s2, s3⟩ := div_step (N := N) (j := j) hD0
      rw [← hL] at s1 s2 s3
      have hXu : L * 4294967296 + lmb N j < 18446744073709551616 := by omega
      generalize L * 4294967296 + lmb N j = X at *
      have hX0 : (0 : Int) ≤ (X : Int) / (D : Int) := by rw [← Int.natCast_ediv]; omega
      have hX1 : (X : Int) / (D : Int) ≤ 4294967295 := by rw [← Int.natCast_ediv]; omega
      have hX2 : (0 : Int) ≤ (X : Int) % (D : Int) := by rw [← Int.natCast_emod]; omega
      have hX3 : (X : Int) % (D : Int) ≤ 4294967295 := by rw [← Int.natCast_emod]; have := Nat.mod_lt X hD0; omega
      have HX : Hid ((X : Int) / (D : Int) = ((lmb (N / D) j : Nat) : Int) ∧ (X : Int) % (D : Int) = ((N / BB ^ j % D : Nat) : Int)) := by
        show _ ∧ _; rw [← s1, ← s2, Int.natCast_ediv, Int.natCast_emod]; exact ⟨rfl, rfl⟩
      clear hL s1 s2 s3
      go_wp2
      go_roundw
      case rel => exact ⟨j, by omega, by go_num, by rw [HX.out.2], hown1.put (by omega) (by rw [HX.out.1, hiF, if_pos (by omega)]) (hiF_next _ j m n f), ho1.trans (Only.setCell _ _ _ _)⟩
      case measure => simp [intOf]
    · obtain rfl : k = 0 := by omega
      have hRD : N % D < D := Nat.mod_lt _ hD0
      simp only [Nat.pow_zero, Nat.div_one]
      go_wp2
      go_ret
      exact ⟨rfl, hown1, ho1⟩
end Go.Proofs.Ytpahkpcoinbgcaa

/- The walk of product. -/
namespace Go.Proofs.Ytpahkpcoinbgcaa
open Go.RowKit

/-- Parts below q out of S, the others out of T. -/
def mixF (S T q : Nat) (p : Nat) : Nat := if p < q then lmb S p else lmb T p
/-- What is reached within a row: the rows ahead, and j parts of this one. -/
def rowS (A B i j : Nat) : Nat := (A % BB ^ i) * B + BB ^ i * (lmb A i * (B % BB ^ j))
/-- What is carried within a row. -/
def rowC (A B i j : Nat) : Nat := rowS A B i j / BB ^ (i + j) - (A % BB ^ i) * B / BB ^ (i + j)

theorem rowS_zero (A B i : Nat) : rowS A B i 0 = (A % BB ^ i) * B := by simp [rowS, Nat.mod_one]
theorem rowC_zero (A B i : Nat) : rowC A B i 0 = 0 := by simp [rowC, rowS_zero]
theorem rowS_next (A B i j : Nat) : rowS A B i (j + 1) = rowS A B i j + BB ^ (i + j) * (lmb A i * lmb B j) := by
  unfold rowS
  rw [mod_succ, Nat.pow_add]
  generalize lmb A i = x
  generalize lmb B j = y
  rw [Nat.mul_add, Nat.mul_add, ← Nat.add_assoc]
  congr 1
  simp only [Nat.mul_assoc, Nat.mul_left_comm, Nat.mul_comm]
theorem rowS_le (A B i j : Nat) : (A % BB ^ i) * B ≤ rowS A B i j := Nat.le_add_right _ _
theorem rowC_eq (A B i j : Nat) : rowS A B i j / BB ^ (i + j) = rowC A B i j + (A % BB ^ i) * B / BB ^ (i + j) := by
  unfold rowC
  have := Nat.div_le_div_right (c := BB ^ (i + j)) (rowS_le A B i j)
  omega
theorem rowC_lt (A B i j : Nat) : rowC A B i j < 4294967296 := by
  have hlt : rowS A B i j < (A % BB ^ i) * B + BB ^ (i + j) * 4294967295 + 1 := by
    have h1 : lmb A i * (B % BB ^ j) ≤ 4294967295 * BB ^ j := Nat.mul_le_mul (by have := lmb_lt A i; omega) (Nat.le_of_lt (Nat.mod_lt _ (BBp j)))
    have h2 : BB ^ i * (lmb A i * (B % BB ^ j)) ≤ BB ^ i * (4294967295 * BB ^ j) := Nat.mul_le_mul_left _ h1
    have h3 : BB ^ i * (4294967295 * BB ^ j) = BB ^ (i + j) * 4294967295 := by rw [Nat.pow_add, Nat.mul_comm 4294967295, Nat.mul_assoc]
    unfold rowS
    omega
  have hle : rowS A B i j / BB ^ (i + j) ≤ (A % BB ^ i) * B / BB ^ (i + j) + 4294967295 := by
    rw [← Nat.add_mul_div_left _ _ (BBp (i + j))]
    exact Nat.div_le_div_right (by omega)
  unfold rowC
  omega
theorem rowC_step (A B i j : Nat) :
    (rowC A B i j + (lmb A i * lmb B j + lmb ((A % BB ^ i) * B) (i + j))) % 4294967296 = lmb (rowS A B i (j + 1)) (i + j) ∧
    (rowC A B i j + (lmb A i * lmb B j + lmb ((A % BB ^ i) * B) (i + j))) / 4294967296 = rowC A B i (j + 1) := by
  have e1 : rowS A B i (j + 1) / BB ^ (i + j) = rowC A B i j + (A % BB ^ i) * B / BB ^ (i + j) + lmb A i * lmb B j := by
    rw [rowS_next, Nat.add_mul_div_left _ _ (BBp _), rowC_eq]
  have e2 := rowC_eq A B i (j + 1)
  rw [show i + (j + 1) = (i + j) + 1 from by omega, Nat.pow_succ, ← Nat.div_div_eq_div_mul, ← Nat.div_div_eq_div_mul, e1] at e2
  constructor
  · show _ = rowS A B i (j + 1) / BB ^ (i + j) % BB
    rw [e1]
    show (_ + (_ + (A % BB ^ i) * B / BB ^ (i + j) % BB)) % BB = _
    simp only [BB] at *
    omega
  · show (_ + (_ + (A % BB ^ i) * B / BB ^ (i + j) % BB)) / BB = _
    simp only [BB] at *
    omega
theorem lmb_add_hi (S x q p : Nat) (h : p < q) : lmb (S + BB ^ q * x) p = lmb S p := by
  unfold lmb
  obtain ⟨d, rfl⟩ : ∃ d, q = p + 1 + d := ⟨q - (p + 1), by omega⟩
  rw [Nat.pow_add, Nat.pow_succ, Nat.mul_assoc, Nat.mul_assoc, Nat.add_mul_div_left _ _ (BBp p), Nat.add_mul_mod_self_left]
theorem mix_next (A B i j n : Nat) : ∀ p, p < n → p ≠ i + j → mixF (rowS A B i j) ((A % BB ^ i) * B) (i + j) p = mixF (rowS A B i (j + 1)) ((A % BB ^ i) * B) (i + (j + 1)) p := by
  intro p _ hne
  unfold mixF
  by_cases h1 : p < i + j
  · rw [if_pos h1, if_pos (by omega), rowS_next, lmb_add_hi _ _ _ _ h1]
  · rw [if_neg h1, if_neg (by omega)]
theorem rowS_end (A B i m : Nat) (hB : B < BB ^ m) : rowS A B i m = (A % BB ^ (i + 1)) * B := by
  unfold rowS
  rw [Nat.mod_eq_of_lt hB, mod_succ, Nat.add_mul, Nat.mul_assoc]
theorem row_lt (A B i m : Nat) (hB : B < BB ^ m) : (A % BB ^ i) * B < BB ^ (i + m) := by
  rw [Nat.pow_add]
  exact Nat.mul_lt_mul'' (Nat.mod_lt _ (BBp i)) hB
theorem rowC_end (A B i m : Nat) (hB : B < BB ^ m) : rowC A B i m = lmb ((A % BB ^ (i + 1)) * B) (i + m) := by
  unfold rowC
  rw [rowS_end A B i m hB, Nat.div_eq_of_lt (row_lt A B i m hB), Nat.sub_zero]
  have h : (A % BB ^ (i + 1)) * B < BB ^ (i + m + 1) := by
    have := row_lt A B (i + 1) m hB
    rwa [show i + 1 + m = i + m + 1 from by omega] at this
  rw [lmb_top h]
theorem mix_end (A B i m n : Nat) (hB : B < BB ^ m) : ∀ p, p < n → p ≠ i + m → mixF (rowS A B i m) ((A % BB ^ i) * B) (i + m) p = lmb ((A % BB ^ (i + 1)) * B) p := by
  intro p _ hne
  unfold mixF
  by_cases h1 : p < i + m
  · rw [if_pos h1, rowS_end A B i m hB]
  · rw [if_neg h1, lmb_zero (row_lt A B i m hB) (by omega)]
    have := row_lt A B (i + 1) m hB
    rw [lmb_zero this (by omega)]

theorem mul_u32 {x y : Nat} (hx : x < 4294967296) (hy : y < 4294967296) : (0 : Int) ≤ (x : Int) * (y : Int) ∧ (x : Int) * (y : Int) ≤ 18446744065119617025 := by
  have := Nat.mul_le_mul (show x ≤ 4294967295 by omega) (show y ≤ 4294967295 by omega)
  rw [← Int.natCast_mul]
  omega

set_option maxHeartbeats 1600000 in
theorem product_any (a b : Option Addr) (n c m d A B : Nat) (w : World) (ha : Lie .u32 w a n c (lmb A)) (hb : Lie .u32 w b m d (lmb B)) (fa : Fit n A) (fb : Fit m B) (hn : n ≤ 1000000000) (hm : m ≤ 1000000000) :
    Calls Try.prog 133 #[.slice a n c, .slice b m d] w (PPart (A * B) w) := by
  have hcm := ha.capm
  have hnc := ha.cap
  have hdm := hb.capm
  have hmd := hb.cap
  unfold maxLen at hcm hdm
  have hn4 : 4 * (n + m) ≤ 281474976710656 := by omega
  have hn6 : n + m ≤ 9223372036854775807 := by omega
  have HA := Lib.hid fa
  have HB := Lib.hid fb
  clear fa fb
  go_enter Try.func133, Try.ntmps133
  go_wp2_with (first | (at_make; refine wpList_mk _ rfl (.tmp 15) (.tmp 15) 111 rfl 134 .u32 4 Try.u111 Try.info134 _ _ (n + m) rfl rfl (by omega) (by omega) hn4 hn6 ?_; intro g w1 hg hown hb1))
  go_loopw [19] (fun i wr => ∃ k : Nat, k ≤ n ∧ i = .int .i64 k ∧ Own .u32 134 wr g (n + m) (lmb ((A % BB ^ k) * B)) ∧ Below w.heap.size w wr) (fun i _ => n - (intOf i).toNat)
  case atStart => exact ⟨0, Nat.zero_le _, rfl, hown.congr (fun j hj => by simp [Nat.mod_one, lmb]), hb1⟩
  case round =>
    obtain ⟨k, hk, rfl, hown, hbl⟩ := hrel
    by_cases hlt : k < n
    · obtain ⟨b1, o1, rfl, hb1'⟩ := ha.some_of_pos (by omega)
      have c1 := (ha.below hbl).at k hlt
      obtain ⟨wo, rfl⟩ : ∃ wo : World, wo = wr := ⟨_, rfl⟩
      go_wp2
      go_loopw [8, 26] (fun cv jv wr => ∃ j : Nat, j ≤ m ∧ jv = .int .i64 j ∧ cv = .int .u64 (rowC A B k j) ∧ Own .u32 134 wr g (n + m) (mixF (rowS A B k j) ((A % BB ^ k) * B) (k + j)) ∧ Below w.heap.size w wr) (fun _ jv _ => m - (intOf jv).toNat)
      case atStart => exact ⟨0, Nat.zero_le _, rfl, by rw [rowC_zero]; rfl, hown.congr (fun p hp => by unfold mixF; rw [rowS_zero]; split <;> rfl), hbl⟩
      case round =>
        obtain ⟨j, hj, rfl, rfl, hown2, hbl2⟩ := hrel
        have hcl := rowC_lt A B k j
        have hst := Lib.hid (rowC_step A B k j)
        have hla := lmb_lt A k
        have hlb := lmb_lt B j
        have hlt2 := lmb_lt ((A % BB ^ k) * B) (k + j)
        by_cases hjm : j < m
        · obtain ⟨b2, o2, rfl, hb2⟩ := hb.some_of_pos (by omega)
          have c3 := (hb.below hbl2).at j hjm
          have c4 : wr.cell? ⟨g, k + j, none⟩ = some (.int .u32 (lmb ((A % BB ^ k) * B) (k + j))) := by rw [hown2.cell (k + j) (by omega)]; simp [mixF]
          have c5 := hown2.free (k + j)
          obtain ⟨hpm0, hpm⟩ := mul_u32 hla hlb
          have HX : Hid (((rowC A B k j : Int) + ((lmb A k : Int) * (lmb B j : Int) + (lmb ((A % BB ^ k) * B) (k + j) : Int))) % 4294967296 = ((lmb (rowS A B k (j + 1)) (k + j) : Nat) : Int) ∧ ((rowC A B k j : Int) + ((lmb A k : Int) * (lmb B j : Int) + (lmb ((A % BB ^ k) * B) (k + j) : Int))) / 4294967296 = ((rowC A B k (j + 1) : Nat) : Int)) := by
            have := hst.out; show _ ∧ _; rw [← Int.natCast_mul]; omega
          have hbs := hbl2.setCell (p := ⟨g, k + j, none⟩) hg
          clear ha hb hst
          go_wp2
          go_roundw
          case rel => exact ⟨j + 1, by omega, by go_num, by rw [HX.out.2], hown2.put (by omega) (by rw [HX.out.1]; rw [mixF, if_pos (by omega)]) (mix_next A B k j (n + m)), hbs _⟩
          case measure => simp [intOf]; omega
        · obtain rfl : j = m := by omega
          have c4 : wr.cell? ⟨g, k + j, none⟩ = some (.int .u32 (lmb ((A % BB ^ k) * B) (k + j))) := by rw [hown2.cell (k + j) (by omega)]; simp [mixF]
          have c5 := hown2.free (k + j)
          have hE := Lib.hid (rowC_end A B k j HB.out.1)
          have hbs := hbl2.setCell (p := ⟨g, k + j, none⟩) hg
          clear ha hb hst
          go_wp2
          go_roundw
          case rel => exact ⟨k + 1, by omega, by go_num, hown2.put (by omega) (by rw [hE.out]) (mix_end A B k j (n + j) HB.out.1), hbs _⟩
          case measure => simp [intOf]; omega
    · obtain rfl : k = n := by omega
      have hO : Own .u32 134 wr g (k + m) (lmb (A * B)) := by rw [Nat.mod_eq_of_lt HA.out.1] at hown; exact hown
      have hAB : A * B < BB ^ (k + m) := by rw [Nat.pow_add]; exact Nat.mul_lt_mul'' HA.out.1 HB.out.1
      have HAB := Lib.hid hAB
      clear ha hb hAB
      go_wp2_with fail
      refine (trimmed_any _ _ _ (A * B) _ (hO.lie (Nat.le_refl _) (by unfold maxLen; omega)) HAB.out).mono ?_
      rintro e w3 ⟨mm, rfl, hmm, hfit, rfl⟩
      go_wp2
      go_ret
      exact ppart_own hO hg hbl hmm hn6 hfit
end Go.Proofs.Ytpahkpcoinbgcaa
