/- Parts of the proof. -/
import Derived.StillTail
import Derived.Deep.RegionHeld3
import Derived.KernelRfl
/- A law for regions that draw their order: a head whose operations may come in any order, each shown once under an invariant that says what has been done, and a tail in one order. No statement of the seat is proved here. -/
namespace Go.Proofs.YtpahkpcoinbgcaaGreatDoor
open Go
section
variable {P : Program} {ops : Array Oper} {md : Region.Mode}
/-- Heads wait for what stands ahead of them alone; each operation of the tail waits for all ahead of it; behind the head the tail goes in its order. -/
def tailsB (md : Region.Mode) (ops : Array Oper) (n : Nat) : Bool :=
 decide (n ≤ ops.size) &&
 ((List.range n).all fun i => match ops[i]? with
  | some o => o.after.all fun e => !Region.binds md e || decide (e.on < i)
  | none => false) &&
 ((List.range ops.size).all fun j => decide (j < n) || (List.range n).all fun i => Region.waitsFor md ops j i) &&
 Region.seqB md ops (ops.size - n) n (Array.replicate n true ++ Array.replicate (ops.size - n) false)
/-- What has been done, and i. -/
def upd (L : Nat → Bool) (i : Nat) : Nat → Bool := fun j => if j = i then true else L j
theorem upd_self (L : Nat → Bool) (i : Nat) : upd L i i = true := by simp [upd]
theorem upd_ne {L : Nat → Bool} {i j : Nat} (h : j ≠ i) : upd L i j = L j := by simp [upd, h]
theorem getD_upd {listed : Array Bool} {i : Nat} (hi : i < listed.size) : (fun j => (listed.setIfInBounds i true).getD j false) = upd (fun j => listed.getD j false) i := by
 funext j
 unfold upd
 by_cases h : j = i
 ·
  subst h; simp [hi]
 ·
  rw [if_neg h]; exact getD_set_ne false (fun e => h e.symm)
/-- How many of the first n are not listed. -/
def unl (listed : Array Bool) (n : Nat) : Nat := ((List.range n).filter fun i => !listed.getD i false).length
theorem unl_set {listed : Array Bool} {n i : Nat} (hi : i < n) (hs : n ≤ listed.size) (hu : listed.getD i false = false) : unl listed n = unl (listed.setIfInBounds i true) n + 1 := by
 unfold unl
 induction n with
 | zero => omega
 | succ n ih =>
  rw [List.range_succ, List.filter_append, List.filter_append, List.length_append, List.length_append]
  by_cases h : i = n
  ·
   subst h
   have e1 : (List.range i).filter (fun j => !listed.getD j false) = (List.range i).filter (fun j => !(listed.setIfInBounds i true).getD j false) := by
    refine List.filter_congr fun j hj => ?_
    rw [getD_set_ne false (by have := List.mem_range.1 hj; omega)]
   have e2 : (listed.setIfInBounds i true).getD i false = true := by simp [show i < listed.size by omega]
   rw [e1]
   simp only [List.filter_cons, List.filter_nil, hu, e2]
   simp
  ·
   have := ih (by omega) (by omega)
   rw [this]
   have e3 : (listed.setIfInBounds i true).getD n false = listed.getD n false := getD_set_ne false h
   simp only [List.filter_cons, List.filter_nil, e3]
   omega
theorem unl_zero {listed : Array Bool} {n : Nat} (h : unl listed n = 0) : ∀ i, i < n → listed.getD i false = true := by
 intro i hi
 unfold unl at h
 have h1 := List.filter_eq_nil_iff.1 (List.eq_nil_of_length_eq_zero h) i (List.mem_range.2 hi)
 simpa using h1
theorem unl_pos {listed : Array Bool} {n : Nat} (h : 0 < unl listed n) : ∃ i, i < n ∧ listed.getD i false = false ∧ ∀ j, j < i → listed.getD j false = true := by
 induction n with
 | zero => simp [unl] at h
 | succ n ih =>
  by_cases h0 : 0 < unl listed n
  ·
   obtain ⟨i, h1, h2, h3⟩ := ih h0
   exact ⟨i, by omega, h2, h3⟩
  ·
   have hz := unl_zero (listed := listed) (n := n) (by omega)
   refine ⟨n, by omega, ?_, hz⟩
   cases hl : listed.getD n false with
   | false => rfl
   | true =>
    exfalso
    have e : unl listed (n + 1) = unl listed n := by
     unfold unl
     rw [List.range_succ, List.filter_append, List.length_append]
     simp only [List.filter_cons, List.filter_nil, hl]
     simp
    omega
theorem wpAny_inv {Q : Exit → Act → World → Prop} {n : Nat} {I : (Nat → Bool) → Act → World → Prop} {l : List Oper} (hl : l.toArray = ops) (hB : tailsB md ops n = true)
  (step : ∀ L a w i, i < n → I L a w → L i = false → (∀ j, Region.waitsFor md ops i j = true → L j = true) → wpOp P ops Q i (I (upd L i)) a w)
  (fin : ∀ a w, (∃ L, (∀ j, j < n → L j = true) ∧ I L a w) → wpList P ops Q (l.drop n) a w) :
  ∀ (f : Nat) (listed : Array Bool) (a : Act) (w : World), listed.size = ops.size → (∀ t, n ≤ t → listed.getD t false = false) → unl listed n = f → I (fun j => listed.getD j false) a w →
   wpAny P md ops Q (f + (ops.size - n)) listed a w := by
 unfold tailsB at hB
 simp only [Bool.and_eq_true, decide_eq_true_eq] at hB
 obtain ⟨⟨⟨hn, hhead⟩, htail⟩, hseq⟩ := hB
 have hdl : (l.drop n).length = ops.size - n := by rw [← hl]; simp
 intro f
 induction f with
 | zero =>
  intro listed a w hs ht hu hI
  have hz := unl_zero hu
  have e : listed = Array.replicate n true ++ Array.replicate (ops.size - n) false := by
   apply Array.ext
   ·
    simp; omega
   ·
    intro i h1 h2
    have hg : listed[i] = listed.getD i false := by simp [h1]
    rw [hg]
    by_cases hi : i < n
    ·
     rw [hz i hi, Array.getElem_append_left (by simpa using hi)]; simp
    ·
     rw [ht i (by omega), Array.getElem_append_right (by simpa using hi)]; simp
  rw [Nat.zero_add]
  have := wpAny_of_seq (P := P) (md := md) (ops := ops) (Q' := Q) (l.drop n) n listed a w (fun j => by rw [← hl]; simp [List.getElem?_drop]) (by rw [hdl, e]; exact hseq) (fin a w ⟨_, hz, hI⟩)
  rwa [hdl] at this
 | succ f ih =>
  intro listed a w hs ht hu hI
  obtain ⟨i0, hi0, hi0u, hi0l⟩ := unl_pos (listed := listed) (n := n) (by omega)
  have hne : Region.ready md ops listed ≠ [] := by
   intro h0
   have hm : i0 ∈ Region.ready md ops listed := by
    have h1 := List.all_eq_true.1 hhead i0 (List.mem_range.2 hi0)
    have hlt : i0 < ops.size := by omega
    rw [Array.getElem?_eq_getElem hlt] at h1
    refine mem_ready.2 ⟨getD_in (by omega) hi0u, ops[i0], Array.getElem?_eq_getElem hlt, fun e he hb => ?_⟩
    have h2 := Array.all_eq_true'.1 h1 e he
    simp only [hb, Bool.not_true, Bool.false_or, decide_eq_true_eq] at h2
    exact hi0l _ h2
   rw [h0] at hm; cases hm
  rw [show f + 1 + (ops.size - n) = (f + (ops.size - n)) + 1 by omega]
  refine ⟨fun h0 => absurd h0 hne, fun i hi => ?_⟩
  obtain ⟨hiu, oi, hoi, hall⟩ := mem_ready.1 hi
  have hilt : i < ops.size := (Array.getElem?_eq_some_iff.1 hoi).1
  have hiu' := getD_both hiu
  have hin : i < n := by
   rcases Nat.lt_or_ge i n with h | h
   ·
    exact h
   ·
    exfalso
    have h1 := List.all_eq_true.1 htail i (List.mem_range.2 hilt)
    simp only [Bool.or_eq_true, decide_eq_true_eq] at h1
    rcases h1 with h1 | h1
    ·
     omega
    ·
     have h2 := List.all_eq_true.1 h1 i0 (List.mem_range.2 hi0)
     obtain ⟨o', ho', e, he, hb, hon⟩ := Region.waitsFor_spec h2
     have : o' = oi := Option.some.inj (ho'.symm.trans hoi)
     subst this
     have h3 := hall e he hb
     rw [hon, hi0u] at h3; cases h3
  have hst := step _ a w i hin hI hiu' (fun j hj => by
   obtain ⟨o', ho', e, he, hb, hon⟩ := Region.waitsFor_spec hj
   have : o' = oi := Option.some.inj (ho'.symm.trans hoi)
   subst this
   rw [← hon]; exact hall e he hb)
  refine wpOp_mono (fun a' w' h' => ?_) hst
  refine ih (listed.setIfInBounds i true) a' w' (by simp [hs]) (fun t h => by rw [getD_set_ne false (by omega)]; exact ht t h) ?_ ?_
  ·
   have := unl_set hin (by omega) hiu'; omega
  ·
   rw [getD_upd (by omega)]; exact h'
theorem wp_region_inv {Q : Exit → Act → World → Prop} {id : Nat} {a : Act} {w : World} {l : List Oper} (n : Nat) (I : (Nat → Bool) → Act → World → Prop) (hm : P.follows .mixedOrders = true) (hB : tailsB .any l.toArray n = true)
  (h0 : I (fun _ => false) a w.drew)
  (step : ∀ L a w i, i < n → I L a w → L i = false → (∀ j, Region.waitsFor .any l.toArray i j = true → L j = true) → wpOp P l.toArray Q i (I (upd L i)) a w)
  (fin : ∀ a w, (∃ L, (∀ j, j < n → L j = true) ∧ I L a w) → wpList P l.toArray Q (l.drop n) a w) : (Code.region id l.toArray true).wp P Q a w := by
 refine wp_region_any hm ?_
 have hB' := hB
 unfold tailsB at hB'
 simp only [Bool.and_eq_true, decide_eq_true_eq] at hB'
 have hn := hB'.1.1.1
 have hu : unl (Array.replicate l.toArray.size false) n = n := by
  unfold unl
  rw [List.filter_eq_self.2 (fun i _ => by rw [getD_replicate_false]; rfl), List.length_range]
 have := wpAny_inv (P := P) (md := .any) (Q := Q) (n := n) (I := I) (l := l) rfl hB step fin n (Array.replicate l.toArray.size false) a w.drew (by simp) (fun t _ => getD_replicate_false _ _) hu (by
  rw [show (fun j => (Array.replicate l.toArray.size false).getD j false) = fun _ => false from funext fun j => getD_replicate_false _ _]; exact h0)
 rwa [show n + (l.toArray.size - n) = l.toArray.size by omega] at this
/-- The same, the invariant given the act with which the region begins; no tail. -/
theorem wp_region_inv0 {Q : Exit → Act → World → Prop} {id : Nat} {a : Act} {w : World} {l : List Oper} (I : Act → (Nat → Bool) → Act → World → Prop) (hm : P.follows .mixedOrders = true) (hB : tailsB .any l.toArray l.length = true)
  (h0 : I a (fun _ => false) a w.drew)
  (step : ∀ L a' w i, i < l.length → I a L a' w → L i = false → (∀ j, Region.waitsFor .any l.toArray i j = true → L j = true) → wpOp P l.toArray Q i (I a (upd L i)) a' w)
  (fin : ∀ a' w L, (∀ j, j < l.length → L j = true) → I a L a' w → Q .normal a' w) : (Code.region id l.toArray true).wp P Q a w :=
 wp_region_inv l.length (I a) hm hB h0 step (fun a' w ⟨L, h1, h2⟩ => by rw [List.drop_length]; exact fin a' w L h1 h2)
/-- An operation of a list, that is not guarded, at its place. -/
theorem wpOp_at {l : List Oper} {i : Nat} {o : Oper} {K : Act → World → Prop} {Q : Exit → Act → World → Prop} {a : Act} {w : World} (ho : l[i]? = some o) (hg : o.guard = none)
  (h : ∀ K' : Act → World → Prop, (∀ a w, K a w → K' a w) → Oper.wp P o a w K' Q) : wpOp P l.toArray Q i K a w := by
 refine wpOp_step (by simpa using ho) (fun K' hK => ?_)
 rw [if_pos (by simp [Region.wanted, hg])]
 exact h K' hK
end
end Go.Proofs.YtpahkpcoinbgcaaGreatDoor

/- A law for regions that draw their order and whose operations' values are known ahead: each operation is shown once; what the world keeps is one invariant. No statement of the seat is proved here. -/
namespace Go.Proofs.YtpahkpcoinbgcaaGreatDoor
open Go
def updV (u : Nat → Value) (i : Nat) (v : Value) : Nat → Value := fun j => if j = i then v else u j
section
variable {P : Program} {ops : Array Oper} {md : Region.Mode}
end
section
variable {P : Program}
end
end Go.Proofs.YtpahkpcoinbgcaaGreatDoor
