/- As part Regv, but an operation is shown with a frame of which only what it reads is known: its cost does not hang on the frame's size. No statement of the seat is proved here. -/
import Derived.Test.YtohdfialnaegcaaRegv
namespace Go.Proofs.Ytohdfialnaegcaa
open Go

theorem layS_size : ∀ (ds : List (Option Tmp)) (a : Act) (u : Nat → Value) (k : Nat), (layS a ds u k).tmps.size = a.tmps.size := by
  intro ds
  induction ds with
  | nil => intro a u k; rfl
  | cons d ds ih =>
    intro a u k
    show (layS (a.put d (u k)) ds u (k + 1)).tmps.size = _
    rw [ih]
    cases d <;> simp [Act.put]
theorem layS_defers : ∀ (ds : List (Option Tmp)) (a : Act) (u : Nat → Value) (k : Nat), (layS a ds u k).defers = a.defers := by
  intro ds
  induction ds with
  | nil => intro a u k; rfl
  | cons d ds ih =>
    intro a u k
    show (layS (a.put d (u k)) ds u (k + 1)).defers = _
    rw [ih]
    cases d <;> rfl
theorem put_get_ne (a : Act) (d : Option Tmp) (v : Value) (t : Nat) (h : d ≠ some t) : (a.put d v).tmps[t]? = a.tmps[t]? := by
  cases d with
  | none => rfl
  | some d =>
    show (a.tmps.setIfInBounds d v)[t]? = _
    rw [Array.getElem?_setIfInBounds_ne (fun e => h (by rw [e]))]
theorem layS_out : ∀ (ds : List (Option Tmp)) (a : Act) (u : Nat → Value) (k t : Nat), some t ∉ ds → (layS a ds u k).tmps[t]? = a.tmps[t]? := by
  intro ds
  induction ds with
  | nil => intro a u k t _; rfl
  | cons d ds ih =>
    intro a u k t h
    show (layS (a.put d (u k)) ds u (k + 1)).tmps[t]? = _
    rw [ih _ _ _ _ (fun hm => h (List.mem_cons_of_mem _ hm)), put_get_ne _ _ _ _ (fun e => h (by rw [e]; exact List.mem_cons_self))]
/-- No slot stands twice. -/
def slotsB : List (Option Tmp) → Bool
  | [] => true
  | none :: ds => slotsB ds
  | some d :: ds => !(ds.contains (some d)) && slotsB ds
theorem layS_in : ∀ (ds : List (Option Tmp)) (a : Act) (u : Nat → Value) (k j d : Nat), slotsB ds = true → ds[j]? = some (some d) → d < a.tmps.size → (layS a ds u k).tmps[d]? = some (u (k + j)) := by
  intro ds
  induction ds with
  | nil => intro a u k j d _ h; simp at h
  | cons e ds ih =>
    intro a u k j d hs h hd
    show (layS (a.put e (u k)) ds u (k + 1)).tmps[d]? = _
    have hs' : slotsB ds = true := by
      cases e with
      | none => exact hs
      | some e => unfold slotsB at hs; simp only [Bool.and_eq_true] at hs; exact hs.2
    cases j with
    | zero =>
      simp only [List.getElem?_cons_zero, Option.some.injEq] at h
      subst h
      have hn : some d ∉ ds := by
        unfold slotsB at hs
        simp only [Bool.and_eq_true, Bool.not_eq_true', List.contains_eq_mem, decide_eq_false_iff_not] at hs
        exact hs.1
      rw [layS_out _ _ _ _ _ hn]
      show (a.tmps.setIfInBounds d (u k))[d]? = _
      rw [Array.getElem?_setIfInBounds_self_of_lt hd]
      rfl
    | succ j =>
      have := ih (a.put e (u k)) u (k + 1) j d hs' (by simpa using h) (by cases e <;> simpa [Act.put] using hd)
      rw [this, Nat.add_assoc, Nat.add_comm 1 j]
theorem layS_put {ds : List (Option Tmp)} {a : Act} {u : Nat → Value} {i : Nat} {o : Option Tmp} (hs : slotsB ds = true) (hi : ds[i]? = some o) (v : Value) : (layS a ds u 0).put o v = layS a ds (updV u i v) 0 := by
  have hext : ∀ A B : Act, A.tmps = B.tmps → A.defers = B.defers → A = B := by
    intro A B h1 h2
    cases A; cases B; simp_all
  refine hext _ _ ?_ ?_
  · apply Array.ext'
    apply List.ext_getElem?
    intro t
    rw [Array.getElem?_toList, Array.getElem?_toList]
    by_cases hm : some t ∈ ds
    · obtain ⟨j, hj⟩ := List.mem_iff_getElem?.1 hm
      by_cases ht : t < a.tmps.size
      · rw [layS_in ds a (updV u i v) 0 j t hs hj ht]
        by_cases hji : j = i
        · subst hji
          rw [hi] at hj
          cases hj
          show ((layS a ds u 0).tmps.setIfInBounds t v)[t]? = _
          rw [Array.getElem?_setIfInBounds_self_of_lt (by rw [layS_size]; exact ht)]
          simp [updV]
        · have hne : o ≠ some t := by
            intro e
            subst e
            have h1 := layS_in ds a (fun q => .int .i64 (q : Int)) 0 j t hs hj ht
            have h2 := layS_in ds a (fun q => .int .i64 (q : Int)) 0 i t hs hi ht
            rw [h1] at h2
            simp at h2
            omega
          rw [put_get_ne _ _ _ _ hne, layS_in ds a u 0 j t hs hj ht]
          simp [updV, hji]
      · have h1 : ∀ A : Act, A.tmps.size = a.tmps.size → A.tmps[t]? = none := fun A hA => Array.getElem?_eq_none (by omega)
        rw [h1 _ (by cases o <;> simp [Act.put, layS_size]), h1 _ (layS_size _ _ _ _)]
    · have hne : o ≠ some t := fun e => hm (by rw [← e]; exact List.mem_of_getElem? hi)
      rw [put_get_ne _ _ _ _ hne, layS_out _ _ _ _ _ hm, layS_out _ _ _ _ _ hm]
  · rw [layS_defers]
    cases o <;> exact layS_defers _ _ _ _
section
variable {P : Program}
/-- What is to be shown of an operation, with a frame of which what it reads is known. -/
def OpX (P : Program) (Q : Exit → Act → World → Prop) (o : Oper) (ops : Array Oper) (A : Act) (V : Nat → Value) (J : World → Prop) (i : Nat) (W : World) : Prop :=
  (Region.wanted o (yielded ops A.tmps) = false ∧ V i = undef) ∨
  (Region.wanted o (yielded ops A.tmps) = true ∧ ∀ K' : Act → World → Prop, (∀ W', J W' → K' (A.put o.dst (V i)) W') → Oper.wp P o A W K' Q)
theorem wp_region_valsX {Q : Exit → Act → World → Prop} {id : Nat} {a : Act} {w : World} {l : List Oper} (n : Nat) (ds : List (Option Tmp)) (V : Nat → Value) (J : World → Prop) (hm : P.follows .mixedOrders = true) (hB : tailsB2 .any l.toArray n = true) (hds : ds = (l.take n).map (·.dst)) (hs : slotsB ds = true)
    (hz : ds.all (fun d => match d with | some t => decide (t < a.tmps.size) | none => true) = true)
    (h0 : J w.drew)
    (step : ∀ i (hi : i < l.length), i < n → ∀ (u : Nat → Value) (W : World) (A : Act), J W → (∀ j, Region.waitsFor .any l.toArray i j = true → u j = V j) →
      (∀ t, some t ∉ ds → A.tmps[t]? = a.tmps[t]?) → (∀ j d, ds[j]? = some (some d) → A.eval (.tmp d) = u j ∧ A.tmps[d]? = some (u j)) → OpX P Q l[i] l.toArray A V J i W)
    (fin : ∀ W, J W → wpList P l.toArray Q (l.drop n) (layS a ds V 0) W) : (Code.region id l.toArray true).wp P Q a w := by
  have hl : n ≤ l.length := by
    have hB' := hB
    unfold tailsB2 at hB'
    simp only [Bool.and_eq_true, decide_eq_true_eq] at hB'
    simpa using hB'.1.1.1
  have hlen : ds.length = n := by rw [hds]; simp; omega
  refine wp_region_vals n ds V J hm hB (by omega) h0 ?_ fin
  intro i hi hin u W hJ hd
  have hout : ∀ t, some t ∉ ds → (layS a ds u 0).tmps[t]? = a.tmps[t]? := fun t ht => layS_out _ _ _ _ _ ht
  have hinn : ∀ j d, ds[j]? = some (some d) → (layS a ds u 0).eval (.tmp d) = u j ∧ (layS a ds u 0).tmps[d]? = some (u j) := by
    intro j d hj
    have hd' : d < a.tmps.size := by
      have := List.all_eq_true.1 hz _ (List.mem_of_getElem? hj)
      simpa using this
    have h1 := layS_in ds a u 0 j d hs hj hd'
    rw [Nat.zero_add] at h1
    refine ⟨?_, h1⟩
    show (layS a ds u 0).tmps.getD d undef = _
    rw [Array.getD_eq_getD_getElem?, h1]
    rfl
  have hid : ds[i]? = some l[i].dst := by
    rw [hds]
    simp [List.getElem?_take, hin, hi]
  rcases step i hi hin u W (layS a ds u 0) hJ hd hout hinn with ⟨h1, h2⟩ | ⟨h1, h2⟩
  · exact .inl ⟨h1, by rw [layS_put hs hid, h2]⟩
  · exact .inr ⟨h1, fun K' hK => h2 K' (fun W' hj => hK _ _ (layS_put hs hid _) hj)⟩
end
end Go.Proofs.Ytohdfialnaegcaa
