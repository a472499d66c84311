/- Parts of the proof. -/
import Derived.StillTail
import Derived.Deep.RegionHeld3
import Derived.KernelRfl
import Derived.WalkKit
import Derived.WalkSpells
import Derived.WalkLawsBesides
import Derived.Lib.Hide
import Derived.Laws.CopyOwn
import Derived.Deep.OwnRows
import Derived.Deep.QuietTactic
import Derived.BigQuiet
import Derived.Deep.DeepCutAuto
import Derived.Test.YtpahkpcoinbgcaaGreatDoorProg
import Derived.Laws.BitsAllLaws
/- A law for regions that draw their order: a head whose operations may come in any order, each shown once under an invariant that says what has been done, and a tail in one order. No statement of the seat is proved here. -/
namespace Go.Proofs.YtpahkpcoinbgcaaGreatDoor
open Go
section
variable {P : Program} {ops : Array Oper} {md : Region.Mode}
/-- Heads wait for what stands ahead of them alone; each operation of the tail waits for all ahead of it; behind the head the tail goes in its order. -/
def tailsB (md : Region.Mode) (ops : Array Oper) (n : Nat) : Bool :=
 decide (n ≤ ops.size) &&
 ((List.range n).all fun i => match ops[i]? with
  | some o => o.after.all fun e => !Region.binds md e || decide (e.on < i)
  | none => false) &&
 ((List.range ops.size).all fun j => decide (j < n) || (List.range n).all fun i => Region.waitsFor md ops j i) &&
 Region.seqB md ops (ops.size - n) n (Array.replicate n true ++ Array.replicate (ops.size - n) false)
/-- What has been done, and i. -/
def upd (L : Nat → Bool) (i : Nat) : Nat → Bool := fun j => if j = i then true else L j
theorem upd_self (L : Nat → Bool) (i : Nat) : upd L i i = true := by simp [upd]
theorem upd_ne {L : Nat → Bool} {i j : Nat} (h : j ≠ i) : upd L i j = L j := by simp [upd, h]
theorem getD_upd {listed : Array Bool} {i : Nat} (hi : i < listed.size) : (fun j => (listed.setIfInBounds i true).getD j false) = upd (fun j => listed.getD j false) i := by
 funext j
 unfold upd
 by_cases h : j = i
 ·
  subst h; simp [hi]
 ·
  rw [if_neg h]; exact getD_set_ne false (fun e => h e.symm)
/-- How many of the first n are not listed. -/
def unl (listed : Array Bool) (n : Nat) : Nat := ((List.range n).filter fun i => !listed.getD i false).length
theorem unl_set {listed : Array Bool} {n i : Nat} (hi : i < n) (hs : n ≤ listed.size) (hu : listed.getD i false = false) : unl listed n = unl (listed.setIfInBounds i true) n + 1 := by
 unfold unl
 induction n with
 | zero => omega
 | succ n ih =>
  rw [List.range_succ, List.filter_append, List.filter_append, List.length_append, List.length_append]
  by_cases h : i = n
  ·
   subst h
   have e1 : (List.range i).filter (fun j => !listed.getD j false) = (List.range i).filter (fun j => !(listed.setIfInBounds i true).getD j false) := by
    refine List.filter_congr fun j hj => ?_
    rw [getD_set_ne false (by have := List.mem_range.1 hj; omega)]
   have e2 : (listed.setIfInBounds i true).getD i false = true := by simp [show i < listed.size by omega]
   rw [e1]
   simp only [List.filter_cons, List.filter_nil, hu, e2]
   simp
  ·
   have := ih (by omega) (by omega)
   rw [this]
   have e3 : (listed.setIfInBounds i true).getD n false = listed.getD n false := getD_set_ne false h
   simp only [List.filter_cons, List.filter_nil, e3]
   omega
theorem unl_zero {listed : Array Bool} {n : Nat} (h : unl listed n = 0) : ∀ i, i < n → listed.getD i false = true := by
 intro i hi
 unfold unl at h
 have h1 := List.filter_eq_nil_iff.1 (List.eq_nil_of_length_eq_zero h) i (List.mem_range.2 hi)
 simpa using h1
theorem unl_pos {listed : Array Bool} {n : Nat} (h : 0 < unl listed n) : ∃ i, i < n ∧ listed.getD i false = false ∧ ∀ j, j < i → listed.getD j false = true := by
 induction n with
 | zero => simp [unl] at h
 | succ n ih =>
  by_cases h0 : 0 < unl listed n
  ·
   obtain ⟨i, h1, h2, h3⟩ := ih h0
   exact ⟨i, by omega, h2, h3⟩
  ·
   have hz := unl_zero (listed := listed) (n := n) (by omega)
   refine ⟨n, by omega, ?_, hz⟩
   cases hl : listed.getD n false with
   | false => rfl
   | true =>
    exfalso
    have e : unl listed (n + 1) = unl listed n := by
     unfold unl
     rw [List.range_succ, List.filter_append, List.length_append]
     simp only [List.filter_cons, List.filter_nil, hl]
     simp
    omega
theorem wpAny_inv {Q : Exit → Act → World → Prop} {n : Nat} {I : (Nat → Bool) → Act → World → Prop} {l : List Oper} (hl : l.toArray = ops) (hB : tailsB md ops n = true)
  (step : ∀ L a w i, i < n → I L a w → L i = false → (∀ j, Region.waitsFor md ops i j = true → L j = true) → wpOp P ops Q i (I (upd L i)) a w)
  (fin : ∀ a w, (∃ L, (∀ j, j < n → L j = true) ∧ I L a w) → wpList P ops Q (l.drop n) a w) :
  ∀ (f : Nat) (listed : Array Bool) (a : Act) (w : World), listed.size = ops.size → (∀ t, n ≤ t → listed.getD t false = false) → unl listed n = f → I (fun j => listed.getD j false) a w →
   wpAny P md ops Q (f + (ops.size - n)) listed a w := by
 unfold tailsB at hB
 simp only [Bool.and_eq_true, decide_eq_true_eq] at hB
 obtain ⟨⟨⟨hn, hhead⟩, htail⟩, hseq⟩ := hB
 have hdl : (l.drop n).length = ops.size - n := by rw [← hl]; simp
 intro f
 induction f with
 | zero =>
  intro listed a w hs ht hu hI
  have hz := unl_zero hu
  have e : listed = Array.replicate n true ++ Array.replicate (ops.size - n) false := by
   apply Array.ext
   ·
    simp; omega
   ·
    intro i h1 h2
    have hg : listed[i] = listed.getD i false := by simp [h1]
    rw [hg]
    by_cases hi : i < n
    ·
     rw [hz i hi, Array.getElem_append_left (by simpa using hi)]; simp
    ·
     rw [ht i (by omega), Array.getElem_append_right (by simpa using hi)]; simp
  rw [Nat.zero_add]
  have := wpAny_of_seq (P := P) (md := md) (ops := ops) (Q' := Q) (l.drop n) n listed a w (fun j => by rw [← hl]; simp [List.getElem?_drop]) (by rw [hdl, e]; exact hseq) (fin a w ⟨_, hz, hI⟩)
  rwa [hdl] at this
 | succ f ih =>
  intro listed a w hs ht hu hI
  obtain ⟨i0, hi0, hi0u, hi0l⟩ := unl_pos (listed := listed) (n := n) (by omega)
  have hne : Region.ready md ops listed ≠ [] := by
   intro h0
   have hm : i0 ∈ Region.ready md ops listed := by
    have h1 := List.all_eq_true.1 hhead i0 (List.mem_range.2 hi0)
    have hlt : i0 < ops.size := by omega
    rw [Array.getElem?_eq_getElem hlt] at h1
    refine mem_ready.2 ⟨getD_in (by omega) hi0u, ops[i0], Array.getElem?_eq_getElem hlt, fun e he hb => ?_⟩
    have h2 := Array.all_eq_true'.1 h1 e he
    simp only [hb, Bool.not_true, Bool.false_or, decide_eq_true_eq] at h2
    exact hi0l _ h2
   rw [h0] at hm; cases hm
  rw [show f + 1 + (ops.size - n) = (f + (ops.size - n)) + 1 by omega]
  refine ⟨fun h0 => absurd h0 hne, fun i hi => ?_⟩
  obtain ⟨hiu, oi, hoi, hall⟩ := mem_ready.1 hi
  have hilt : i < ops.size := (Array.getElem?_eq_some_iff.1 hoi).1
  have hiu' := getD_both hiu
  have hin : i < n := by
   rcases Nat.lt_or_ge i n with h | h
   ·
    exact h
   ·
    exfalso
    have h1 := List.all_eq_true.1 htail i (List.mem_range.2 hilt)
    simp only [Bool.or_eq_true, decide_eq_true_eq] at h1
    rcases h1 with h1 | h1
    ·
     omega
    ·
     have h2 := List.all_eq_true.1 h1 i0 (List.mem_range.2 hi0)
     obtain ⟨o', ho', e, he, hb, hon⟩ := Region.waitsFor_spec h2
     have : o' = oi := Option.some.inj (ho'.symm.trans hoi)
     subst this
     have h3 := hall e he hb
     rw [hon, hi0u] at h3; cases h3
  have hst := step _ a w i hin hI hiu' (fun j hj => by
   obtain ⟨o', ho', e, he, hb, hon⟩ := Region.waitsFor_spec hj
   have : o' = oi := Option.some.inj (ho'.symm.trans hoi)
   subst this
   rw [← hon]; exact hall e he hb)
  refine wpOp_mono (fun a' w' h' => ?_) hst
  refine ih (listed.setIfInBounds i true) a' w' (by simp [hs]) (fun t h => by rw [getD_set_ne false (by omega)]; exact ht t h) ?_ ?_
  ·
   have := unl_set hin (by omega) hiu'; omega
  ·
   rw [getD_upd (by omega)]; exact h'
theorem wp_region_inv {Q : Exit → Act → World → Prop} {id : Nat} {a : Act} {w : World} {l : List Oper} (n : Nat) (I : (Nat → Bool) → Act → World → Prop) (hm : P.follows .mixedOrders = true) (hB : tailsB .any l.toArray n = true)
  (h0 : I (fun _ => false) a w.drew)
  (step : ∀ L a w i, i < n → I L a w → L i = false → (∀ j, Region.waitsFor .any l.toArray i j = true → L j = true) → wpOp P l.toArray Q i (I (upd L i)) a w)
  (fin : ∀ a w, (∃ L, (∀ j, j < n → L j = true) ∧ I L a w) → wpList P l.toArray Q (l.drop n) a w) : (Code.region id l.toArray true).wp P Q a w := by
 refine wp_region_any hm ?_
 have hB' := hB
 unfold tailsB at hB'
 simp only [Bool.and_eq_true, decide_eq_true_eq] at hB'
 have hn := hB'.1.1.1
 have hu : unl (Array.replicate l.toArray.size false) n = n := by
  unfold unl
  rw [List.filter_eq_self.2 (fun i _ => by rw [getD_replicate_false]; rfl), List.length_range]
 have := wpAny_inv (P := P) (md := .any) (Q := Q) (n := n) (I := I) (l := l) rfl hB step fin n (Array.replicate l.toArray.size false) a w.drew (by simp) (fun t _ => getD_replicate_false _ _) hu (by
  rw [show (fun j => (Array.replicate l.toArray.size false).getD j false) = fun _ => false from funext fun j => getD_replicate_false _ _]; exact h0)
 rwa [show n + (l.toArray.size - n) = l.toArray.size by omega] at this
/-- The same, the invariant given the act with which the region begins; no tail. -/
theorem wp_region_inv0 {Q : Exit → Act → World → Prop} {id : Nat} {a : Act} {w : World} {l : List Oper} (I : Act → (Nat → Bool) → Act → World → Prop) (hm : P.follows .mixedOrders = true) (hB : tailsB .any l.toArray l.length = true)
  (h0 : I a (fun _ => false) a w.drew)
  (step : ∀ L a' w i, i < l.length → I a L a' w → L i = false → (∀ j, Region.waitsFor .any l.toArray i j = true → L j = true) → wpOp P l.toArray Q i (I a (upd L i)) a' w)
  (fin : ∀ a' w L, (∀ j, j < l.length → L j = true) → I a L a' w → Q .normal a' w) : (Code.region id l.toArray true).wp P Q a w :=
 wp_region_inv l.length (I a) hm hB h0 step (fun a' w ⟨L, h1, h2⟩ => by rw [List.drop_length]; exact fin a' w L h1 h2)
/-- An operation of a list, that is not guarded, at its place. -/
theorem wpOp_at {l : List Oper} {i : Nat} {o : Oper} {K : Act → World → Prop} {Q : Exit → Act → World → Prop} {a : Act} {w : World} (ho : l[i]? = some o) (hg : o.guard = none)
  (h : ∀ K' : Act → World → Prop, (∀ a w, K a w → K' a w) → Oper.wp P o a w K' Q) : wpOp P l.toArray Q i K a w := by
 refine wpOp_step (by simpa using ho) (fun K' hK => ?_)
 rw [if_pos (by simp [Region.wanted, hg])]
 exact h K' hK
end
end Go.Proofs.YtpahkpcoinbgcaaGreatDoor

/- A law for regions that draw their order and whose operations' values are known ahead: each operation is shown once; what the world keeps is one invariant. No statement of the seat is proved here. -/
namespace Go.Proofs.YtpahkpcoinbgcaaGreatDoor
open Go
/-- A frame with the region's slots laid in. -/
def layS (a : Act) : List (Option Tmp) → (Nat → Value) → Nat → Act
 | [], _, _ => a
 | d :: ds, u, k => layS (a.put d (u k)) ds u (k + 1)
def updV (u : Nat → Value) (i : Nat) (v : Value) : Nat → Value := fun j => if j = i then v else u j
theorem put_self (a : Act) (d : Option Tmp) : a.put d ((d.map fun t => a.tmps.getD t undef).getD undef) = a := by
 cases d with
 | none => rfl
 | some t =>
  obtain ⟨tmps, defers⟩ := a
  simp only [Act.put, Option.map_some, Option.getD_some, Act.mk.injEq, and_true]
  apply Array.ext
  ·
   simp
  ·
   intro i h1 h2
   by_cases h : t = i
   ·
    subst h; simp [h2]
   ·
    rw [Array.getElem_setIfInBounds h2, if_neg h]
theorem layS_self (a : Act) : ∀ (ds : List (Option Tmp)) (u : Nat → Value) (k : Nat), (∀ j d, ds[j]? = some d → u (k + j) = (d.map fun t => a.tmps.getD t undef).getD undef) → layS a ds u k = a := by
 intro ds
 induction ds with
 | nil => intro u k _; rfl
 | cons d ds ih =>
  intro u k h
  have h0 := h 0 d rfl
  rw [Nat.add_zero] at h0
  show layS (a.put d (u k)) ds u (k + 1) = a
  rw [h0, put_self]
  exact ih u (k + 1) (fun j d' hj => by rw [Nat.add_assoc, Nat.add_comm 1 j]; exact h (j + 1) d' (by simpa using hj))
section
variable {P : Program} {ops : Array Oper} {md : Region.Mode}
/-- Does operation j wait for i, or for what waits for it? -/
def waitsB (md : Region.Mode) (ops : Array Oper) : Nat → Nat → Nat → Bool
 | 0, j, i => Region.waitsFor md ops j i
 | f + 1, j, i => Region.waitsFor md ops j i || (List.range ops.size).any fun k => Region.waitsFor md ops j k && waitsB md ops f k i
theorem waitsB_done {L : Nat → Bool} (hc : ∀ k j, L k = true → Region.waitsFor md ops k j = true → L j = true) : ∀ (f j i : Nat), (∀ k, Region.waitsFor md ops j k = true → L k = true) → waitsB md ops f j i = true → L i = true := by
 intro f
 induction f with
 | zero => intro j i h hw; exact h i hw
 | succ f ih =>
  intro j i h hw
  unfold waitsB at hw
  rw [Bool.or_eq_true] at hw
  rcases hw with h0 | h0
  ·
   exact h i h0
  ·
   obtain ⟨k, _, hk⟩ := List.any_eq_true.1 h0
   simp only [Bool.and_eq_true] at hk
   exact ih k i (fun m hm => hc k m (h k hk.1) hm) hk.2
/-- As tailsB; but the tail may wait for the head through others. -/
def tailsB2 (md : Region.Mode) (ops : Array Oper) (n : Nat) : Bool :=
 decide (n ≤ ops.size) &&
 ((List.range n).all fun i => match ops[i]? with
  | some o => o.after.all fun e => !Region.binds md e || decide (e.on < i)
  | none => false) &&
 ((List.range ops.size).all fun j => decide (j < n) || (List.range n).all fun i => waitsB md ops 3 j i) &&
 Region.seqB md ops (ops.size - n) n (Array.replicate n true ++ Array.replicate (ops.size - n) false)
theorem wpAny_inv2 {Q : Exit → Act → World → Prop} {n : Nat} {I : (Nat → Bool) → Act → World → Prop} {l : List Oper} (hl : l.toArray = ops) (hB : tailsB2 md ops n = true)
  (step : ∀ L a w i, i < n → I L a w → L i = false → (∀ j, Region.waitsFor md ops i j = true → L j = true) → wpOp P ops Q i (I (upd L i)) a w)
  (fin : ∀ a w, (∃ L, (∀ j, j < n → L j = true) ∧ I L a w) → wpList P ops Q (l.drop n) a w) :
  ∀ (f : Nat) (listed : Array Bool) (a : Act) (w : World), listed.size = ops.size → (∀ t, n ≤ t → listed.getD t false = false) → unl listed n = f → (∀ k j, listed.getD k false = true → Region.waitsFor md ops k j = true → listed.getD j false = true) → I (fun j => listed.getD j false) a w →
   wpAny P md ops Q (f + (ops.size - n)) listed a w := by
 unfold tailsB2 at hB
 simp only [Bool.and_eq_true, decide_eq_true_eq] at hB
 obtain ⟨⟨⟨hn, hhead⟩, htail⟩, hseq⟩ := hB
 have hdl : (l.drop n).length = ops.size - n := by rw [← hl]; simp
 intro f
 induction f with
 | zero =>
  intro listed a w hs ht hu hcl hI
  have hz := unl_zero hu
  have e : listed = Array.replicate n true ++ Array.replicate (ops.size - n) false := by
   apply Array.ext
   ·
    simp; omega
   ·
    intro i h1 h2
    have hg : listed[i] = listed.getD i false := by simp [h1]
    rw [hg]
    by_cases hi : i < n
    ·
     rw [hz i hi, Array.getElem_append_left (by simpa using hi)]; simp
    ·
     rw [ht i (by omega), Array.getElem_append_right (by simpa using hi)]; simp
  rw [Nat.zero_add]
  have := wpAny_of_seq (P := P) (md := md) (ops := ops) (Q' := Q) (l.drop n) n listed a w (fun j => by rw [← hl]; simp [List.getElem?_drop]) (by rw [hdl, e]; exact hseq) (fin a w ⟨_, hz, hI⟩)
  rwa [hdl] at this
 | succ f ih =>
  intro listed a w hs ht hu hcl hI
  obtain ⟨i0, hi0, hi0u, hi0l⟩ := unl_pos (listed := listed) (n := n) (by omega)
  have hne : Region.ready md ops listed ≠ [] := by
   intro h0
   have hm : i0 ∈ Region.ready md ops listed := by
    have h1 := List.all_eq_true.1 hhead i0 (List.mem_range.2 hi0)
    have hlt : i0 < ops.size := by omega
    rw [Array.getElem?_eq_getElem hlt] at h1
    refine mem_ready.2 ⟨getD_in (by omega) hi0u, ops[i0], Array.getElem?_eq_getElem hlt, fun e he hb => ?_⟩
    have h2 := Array.all_eq_true'.1 h1 e he
    simp only [hb, Bool.not_true, Bool.false_or, decide_eq_true_eq] at h2
    exact hi0l _ h2
   rw [h0] at hm; cases hm
  rw [show f + 1 + (ops.size - n) = (f + (ops.size - n)) + 1 by omega]
  refine ⟨fun h0 => absurd h0 hne, fun i hi => ?_⟩
  obtain ⟨hiu, oi, hoi, hall⟩ := mem_ready.1 hi
  have hilt : i < ops.size := (Array.getElem?_eq_some_iff.1 hoi).1
  have hiu' := getD_both hiu
  have hin : i < n := by
   rcases Nat.lt_or_ge i n with h | h
   ·
    exact h
   ·
    exfalso
    have h1 := List.all_eq_true.1 htail i (List.mem_range.2 hilt)
    simp only [Bool.or_eq_true, decide_eq_true_eq] at h1
    rcases h1 with h1 | h1
    ·
     omega
    ·
     have h2 := List.all_eq_true.1 h1 i0 (List.mem_range.2 hi0)
     have h3 := waitsB_done (L := fun j => listed.getD j false) hcl 3 i i0 (fun k hk => by
      obtain ⟨o', ho', e, he, hb, hon⟩ := Region.waitsFor_spec hk
      have : o' = oi := Option.some.inj (ho'.symm.trans hoi)
      subst this
      show listed.getD k false = true
      rw [← hon]; exact hall e he hb) h2
     change listed.getD i0 false = true at h3
     rw [hi0u] at h3; cases h3
  have hst := step _ a w i hin hI hiu' (fun j hj => by
   obtain ⟨o', ho', e, he, hb, hon⟩ := Region.waitsFor_spec hj
   have : o' = oi := Option.some.inj (ho'.symm.trans hoi)
   subst this
   rw [← hon]; exact hall e he hb)
  refine wpOp_mono (fun a' w' h' => ?_) hst
  refine ih (listed.setIfInBounds i true) a' w' (by simp [hs]) (fun t h => by rw [getD_set_ne false (by omega)]; exact ht t h) ?_ ?_ ?_
  ·
   have := unl_set hin (by omega) hiu'; omega
  ·
   intro k j hk hw
   have hkl : listed.getD k false = true ∨ k = i := by
    by_cases e : k = i
    ·
     exact .inr e
    ·
     rw [getD_set_ne false (fun x => e x.symm)] at hk; exact .inl hk
   have hj : listed.getD j false = true := by
    rcases hkl with h | rfl
    ·
     exact hcl k j h hw
    ·
     obtain ⟨o', ho', e, he, hb, hon⟩ := Region.waitsFor_spec hw
     have : o' = oi := Option.some.inj (ho'.symm.trans hoi)
     subst this
     rw [← hon]; exact hall e he hb
   by_cases e : j = i
   ·
    subst e; simp [show j < listed.size by omega]
   ·
    rw [getD_set_ne false (fun x => e x.symm)]; exact hj
  ·
   rw [getD_upd (by omega)]; exact h'
theorem wp_region_inv2 {Q : Exit → Act → World → Prop} {id : Nat} {a : Act} {w : World} {l : List Oper} (n : Nat) (I : (Nat → Bool) → Act → World → Prop) (hm : P.follows .mixedOrders = true) (hB : tailsB2 .any l.toArray n = true)
  (h0 : I (fun _ => false) a w.drew)
  (step : ∀ L a w i, i < n → I L a w → L i = false → (∀ j, Region.waitsFor .any l.toArray i j = true → L j = true) → wpOp P l.toArray Q i (I (upd L i)) a w)
  (fin : ∀ a w, (∃ L, (∀ j, j < n → L j = true) ∧ I L a w) → wpList P l.toArray Q (l.drop n) a w) : (Code.region id l.toArray true).wp P Q a w := by
 refine wp_region_any hm ?_
 have hB' := hB
 unfold tailsB2 at hB'
 simp only [Bool.and_eq_true, decide_eq_true_eq] at hB'
 have hn := hB'.1.1.1
 have hu : unl (Array.replicate l.toArray.size false) n = n := by
  unfold unl
  rw [List.filter_eq_self.2 (fun i _ => by rw [getD_replicate_false]; rfl), List.length_range]
 have := wpAny_inv2 (P := P) (md := .any) (Q := Q) (n := n) (I := I) (l := l) rfl hB step fin n (Array.replicate l.toArray.size false) a w.drew (by simp) (fun t _ => getD_replicate_false _ _) hu (fun k j hk => by rw [getD_replicate_false] at hk; cases hk) (by
  rw [show (fun j => (Array.replicate l.toArray.size false).getD j false) = fun _ => false from funext fun j => getD_replicate_false _ _]; exact h0)
 rwa [show n + (l.toArray.size - n) = l.toArray.size by omega] at this
end
section
variable {P : Program}
end
end Go.Proofs.YtpahkpcoinbgcaaGreatDoor

/- What the walks of this seat lean on: numbers that lie in slices of memory, part by part; no statement of the seat is proved here. -/
namespace Go.Proofs.YtpahkpcoinbgcaaGreatDoor
open Go.RowKit
/-- The base of the parts: 2^32. -/
def BB : Nat := 4294967296
/-- The i-th part of a number. -/
def lmb (N i : Nat) : Nat := N / BB ^ i % BB
theorem BB_pos : 0 < BB := by decide
theorem BBp (i : Nat) : 0 < BB ^ i := Nat.pow_pos BB_pos
theorem lmb_lt (N i : Nat) : lmb N i < 4294967296 := Nat.mod_lt _ BB_pos
theorem lmb_top {N k : Nat} (h : N < BB ^ (k + 1)) : lmb N k = N / BB ^ k := by
 unfold lmb
 exact Nat.mod_eq_of_lt (Nat.div_lt_of_lt_mul (by rw [← Nat.pow_succ]; exact h))
theorem mod_succ (N i : Nat) : N % BB ^ (i + 1) = N % BB ^ i + BB ^ i * lmb N i := Nat.mod_pow_succ
/-- n is how many parts N has. -/
def Fit (n N : Nat) : Prop := N < BB ^ n ∧ (n = 0 ∨ BB ^ (n - 1) ≤ N)
theorem fit_step {N k : Nat} (hk : 1 ≤ k) (h : N < BB ^ k) (hz : lmb N (k - 1) = 0) : N < BB ^ (k - 1) := by
 obtain ⟨j, rfl⟩ : ∃ j, k = j + 1 := ⟨k - 1, by omega⟩
 simp only [Nat.add_sub_cancel] at hz ⊢
 rw [lmb_top h] at hz
 rcases Nat.div_eq_zero_iff.1 hz with h0 | h0
 ·
  have := BBp j; omega
 ·
  exact h0
theorem fit_end {N k : Nat} (hz : lmb N (k - 1) ≠ 0) : BB ^ (k - 1) ≤ N := by
 refine Nat.le_of_not_lt fun h => hz ?_
 unfold lmb
 rw [Nat.div_eq_of_lt h]; rfl
theorem fit_uniq {n m N : Nat} (h : Fit n N) (k : Fit m N) : n = m := by
 have key : ∀ a b : Nat, Fit a N → Fit b N → ¬ a < b := by
  intro a b ha hb hlt
  rcases hb.2 with h0 | h0
  ·
   omega
  ·
   have h1 : BB ^ a ≤ BB ^ (b - 1) := Nat.pow_le_pow_right BB_pos (by omega)
   have := ha.1
   omega
 have h1 := key n m h k
 have h2 := key m n k h
 omega
theorem fit_le {n m N : Nat} (h : Fit n N) (k : N < BB ^ m) : n ≤ m := by
 rcases h.2 with h0 | h0
 ·
  omega
 ·
  refine Nat.le_of_not_lt fun hlt => ?_
  have h1 : BB ^ m ≤ BB ^ (n - 1) := Nat.pow_le_pow_right BB_pos (by omega)
  omega
theorem fit_zero : Fit 0 0 := ⟨by simp, .inl rfl⟩
theorem fit_pos {n N : Nat} (h : Fit n N) : n = 0 ↔ N = 0 := by
 constructor
 ·
  intro e; subst e; have := h.1; simp at this; exact this
 ·
  intro e; subst e
  rcases h.2 with h0 | h0
  ·
   exact h0
  ·
   have := BBp (n - 1); omega
/-- How two sizes stand to one another: -1, 0, 1. -/
def cmpN (a b : Nat) : Int := if a < b then -1 else if b < a then 1 else 0
theorem cmp_len_lt {n m A B : Nat} (ha : Fit n A) (hb : Fit m B) (h : n < m) : cmpN A B = -1 := by
 have : A < B := by
  rcases hb.2 with h0 | h0
  ·
   omega
  ·
   have h1 : BB ^ n ≤ BB ^ (m - 1) := Nat.pow_le_pow_right BB_pos (by omega)
   have := ha.1
   omega
 simp [cmpN, this]
theorem cmp_len_gt {n m A B : Nat} (ha : Fit n A) (hb : Fit m B) (h : m < n) : cmpN A B = 1 := by
 have : B < A := by
  rcases ha.2 with h0 | h0
  ·
   omega
  ·
   have h1 : BB ^ m ≤ BB ^ (n - 1) := Nat.pow_le_pow_right BB_pos (by omega)
   have := hb.1
   omega
 have h2 : ¬ A < B := by omega
 simp [cmpN, this, h2]
theorem up_split (N k : Nat) : N / BB ^ k = lmb N k + BB * (N / BB ^ (k + 1)) := by
 unfold lmb
 rw [Nat.pow_succ, ← Nat.div_div_eq_div_mul]
 exact (Nat.mod_add_div _ _).symm
theorem cmp_up {A B k : Nat} (h : A / BB ^ (k + 1) = B / BB ^ (k + 1)) :
  (lmb A k < lmb B k → cmpN A B = -1) ∧ (lmb B k < lmb A k → cmpN A B = 1) ∧ (lmb A k = lmb B k → A / BB ^ k = B / BB ^ k) := by
 have ha := up_split A k
 have hb := up_split B k
 rw [h] at ha
 refine ⟨fun hl => ?_, fun hl => ?_, fun he => by rw [ha, hb, he]⟩
 ·
  have h1 : A / BB ^ k < B / BB ^ k := by omega
  have h2 : A < B := Nat.lt_of_not_le fun hc => by have := Nat.div_le_div_right (c := BB ^ k) hc; omega
  simp [cmpN, h2]
 ·
  have h1 : B / BB ^ k < A / BB ^ k := by omega
  have h2 : B < A := Nat.lt_of_not_le fun hc => by have := Nat.div_le_div_right (c := BB ^ k) hc; omega
  have h3 : ¬ A < B := by omega
  simp [cmpN, h2, h3]
theorem cmp_all {A B : Nat} (h : A / BB ^ 0 = B / BB ^ 0) : cmpN A B = 0 := by
 simp at h; subst h; simp [cmpN]
/-- What a sum carries into its i-th part. -/
def cy (A B i : Nat) : Nat := (A % BB ^ i + B % BB ^ i) / BB ^ i
theorem cy_zero (A B : Nat) : cy A B 0 = 0 := by simp [cy, Nat.mod_one]
theorem cy_le (A B i : Nat) : cy A B i ≤ 1 := by
 unfold cy
 have h1 := Nat.mod_lt A (BBp i)
 have h2 := Nat.mod_lt B (BBp i)
 exact Nat.le_of_lt_succ (Nat.div_lt_of_lt_mul (by omega))
theorem cy_step (A B i : Nat) : (cy A B i + lmb A i + lmb B i) % 4294967296 = lmb (A + B) i ∧ (cy A B i + lmb A i + lmb B i) / 4294967296 = cy A B (i + 1) := by
 have hP := BBp i
 have e1 : (A + B) / BB ^ i = A / BB ^ i + B / BB ^ i + cy A B i := by
  unfold cy
  have ha := Nat.div_add_mod A (BB ^ i)
  have hb := Nat.div_add_mod B (BB ^ i)
  have hs : A + B = (A % BB ^ i + B % BB ^ i) + BB ^ i * (A / BB ^ i + B / BB ^ i) := by rw [Nat.mul_add]; omega
  rw [hs, Nat.add_mul_div_left _ _ hP]; omega
 have e2 : (A % BB ^ (i + 1) + B % BB ^ (i + 1)) / BB ^ i = cy A B i + lmb A i + lmb B i := by
  rw [mod_succ, mod_succ]
  have hs : A % BB ^ i + BB ^ i * lmb A i + (B % BB ^ i + BB ^ i * lmb B i) = (A % BB ^ i + B % BB ^ i) + BB ^ i * (lmb A i + lmb B i) := by rw [Nat.mul_add]; omega
  rw [hs, Nat.add_mul_div_left _ _ hP]; unfold cy; omega
 constructor
 ·
  show _ % BB = _
  conv => rhs; unfold lmb
  rw [e1]
  have ha : A / BB ^ i % BB = lmb A i := rfl
  have hb : B / BB ^ i % BB = lmb B i := rfl
  rw [← ha, ← hb]
  simp only [BB] at *
  omega
 ·
  show _ / BB = _
  rw [← e2, Nat.div_div_eq_div_mul]; rfl
theorem lmb_zero {B m i : Nat} (h : B < BB ^ m) (hi : m ≤ i) : lmb B i = 0 := by
 unfold lmb
 rw [Nat.div_eq_of_lt (Nat.lt_of_lt_of_le h (Nat.pow_le_pow_right BB_pos hi))]; rfl
theorem cy_end {A B n : Nat} (ha : A < BB ^ n) (hb : B < BB ^ n) : cy A B n = lmb (A + B) n ∧ A + B < BB ^ (n + 1) := by
 constructor
 ·
  unfold cy lmb
  rw [Nat.mod_eq_of_lt ha, Nat.mod_eq_of_lt hb]
  refine (Nat.mod_eq_of_lt ?_).symm
  exact Nat.lt_of_le_of_lt (Nat.le_of_lt_succ (Nat.div_lt_of_lt_mul (by omega : A + B < BB ^ n * 2))) (by decide)
 ·
  rw [Nat.pow_succ]
  have : BB ^ n * 2 ≤ BB ^ n * BB := Nat.mul_le_mul_left _ (by decide)
  omega
theorem fit_mono {m n B : Nat} (h : B < BB ^ m) (hm : m ≤ n) : B < BB ^ n := Nat.lt_of_lt_of_le h (Nat.pow_le_pow_right BB_pos hm)
/-- What a difference borrows from its i-th part. -/
def bw (A B i : Nat) : Nat := if A % BB ^ i < B % BB ^ i then 1 else 0
theorem bw_zero (A B : Nat) : bw A B 0 = 0 := by simp [bw, Nat.mod_one]
theorem bw_le (A B i : Nat) : bw A B i ≤ 1 := by unfold bw; split <;> omega
theorem bw_next (A B i : Nat) : bw A B (i + 1) = if lmb A i < bw A B i + lmb B i then 1 else 0 := by
 have h1 := Nat.mod_lt A (BBp i)
 have h2 := Nat.mod_lt B (BBp i)
 have key : A % BB ^ (i + 1) < B % BB ^ (i + 1) ↔ lmb A i < bw A B i + lmb B i := by
  rw [mod_succ, mod_succ]
  unfold bw
  generalize lmb A i = a
  generalize lmb B i = b
  generalize hP : BB ^ i = P at *
  generalize A % P = x at *
  generalize B % P = y at *
  rcases Nat.lt_trichotomy a b with h | h | h
  ·
   have := Nat.mul_le_mul_left P (show a + 1 ≤ b from h)
   rw [Nat.mul_add] at this
   split <;> omega
  ·
   subst h; split <;> omega
  ·
   have := Nat.mul_le_mul_left P (show b + 1 ≤ a from h)
   rw [Nat.mul_add] at this
   split <;> omega
 unfold bw at key ⊢
 simp only [key]
theorem bw_part {A B : Nat} (h : B ≤ A) (i : Nat) : lmb (A - B) i = (lmb A i + 8589934592 - (bw A B i + lmb B i)) % 4294967296 := by
 have h1 := Nat.mod_lt A (BBp i)
 have h2 := Nat.mod_lt B (BBp i)
 have ha := Nat.div_add_mod A (BB ^ i)
 have hb := Nat.div_add_mod B (BB ^ i)
 have hd : (A - B) / BB ^ i = A / BB ^ i - B / BB ^ i - bw A B i ∧ B / BB ^ i + bw A B i ≤ A / BB ^ i := by
  have hle : B / BB ^ i ≤ A / BB ^ i := Nat.div_le_div_right h
  unfold bw
  generalize hP : BB ^ i = P at *
  generalize A % P = x at *
  generalize B % P = y at *
  generalize A / P = qa at *
  generalize B / P = qb at *
  obtain ⟨d, rfl⟩ := Nat.exists_eq_add_of_le hle
  rw [Nat.mul_add] at ha
  by_cases hxy : x < y
  ·
   simp only [hxy, if_true]
   have hd : 1 ≤ d := by
    refine Nat.one_le_iff_ne_zero.2 fun h0 => ?_
    subst h0; simp at ha; omega
   obtain ⟨d', rfl⟩ := Nat.exists_eq_add_of_le hd
   rw [Nat.mul_add] at ha
   refine ⟨?_, by omega⟩
   rw [show A - B = (P + x - y) + P * d' from by omega, Nat.add_mul_div_left _ _ (by omega), Nat.div_eq_of_lt (by omega)]
   omega
  ·
   simp only [hxy, if_false]
   refine ⟨?_, by omega⟩
   rw [show A - B = (x - y) + P * d from by omega, Nat.add_mul_div_left _ _ (by omega), Nat.div_eq_of_lt (by omega)]
   omega
 have hbw := bw_le A B i
 unfold lmb
 rw [hd.1]
 have := hd.2
 simp only [BB] at *
 omega
/-- A slice (address a, length n, capacity c) of n numbers of kind k: the i-th one is f i. -/
structure Lie (k : IntKind) (w : World) (a : Option Addr) (n c : Nat) (f : Nat → Nat) : Prop where
 cap : n ≤ c
 capm : c ≤ maxLen
 nil : a = none → n = 0 ∧ c = 0
 spot : ∀ p, a = some p → p.spot = none ∧ p.block < w.heap.size
 cell : ∀ p, a = some p → ∀ i, i < n → w.cell? ⟨p.block, p.off + i, none⟩ = some (.int k (f i : Nat))
theorem Lie.some_of_pos {k : IntKind} {w : World} {a : Option Addr} {n c : Nat} {f : Nat → Nat} (h : Lie k w a n c f) (hn : 0 < n) :
  ∃ b o, a = some ⟨b, o, none⟩ ∧ b < w.heap.size := by
 cases a with
 | none => have := (h.nil rfl).1; omega
 | some p =>
  obtain ⟨b, o, s⟩ := p
  obtain ⟨h1, h2⟩ := h.spot _ rfl
  simp only at h1 h2
  subst h1
  exact ⟨b, o, rfl, h2⟩
theorem Lie.at {k : IntKind} {w : World} {b o n c : Nat} {f : Nat → Nat} (h : Lie k w (some ⟨b, o, none⟩) n c f) (i : Nat) (hi : i < n) :
  w.cell? ⟨b, o + i, none⟩ = some (.int k (f i : Nat)) := h.cell _ rfl i hi
theorem Lie.below {k : IntKind} {w w' : World} {a : Option Addr} {n c : Nat} {f : Nat → Nat} (h : Lie k w a n c f) (hb : Below w.heap.size w w') : Lie k w' a n c f :=
 ⟨h.cap, h.capm, h.nil, fun p hp => ⟨(h.spot p hp).1, Nat.lt_of_lt_of_le (h.spot p hp).2 hb.size⟩,
  fun p hp i hi => by rw [hb.cell (p := ⟨p.block, p.off + i, none⟩) (h.spot p hp).2]; exact h.cell p hp i hi⟩
theorem Lie.cut {k : IntKind} {w : World} {a : Option Addr} {n c m : Nat} {f : Nat → Nat} (h : Lie k w a n c f) (hm : m ≤ n) : Lie k w a m c f :=
 ⟨Nat.le_trans hm h.cap, h.capm, fun e => ⟨by have := (h.nil e).1; omega, (h.nil e).2⟩, h.spot, fun p hp i hi => h.cell p hp i (by omega)⟩
theorem ret_int {k : IntKind} {a b : Int} (h : a = b) : Ending.returned (.int k a) = .returned (.int k b) := by rw [h]
/-- The number with this sign and size. -/
def sg (bl : Bool) (N : Nat) : Int := if bl then -(N : Int) else (N : Int)
theorem sg_abs (bl : Bool) (N : Nat) : (sg bl N).natAbs = N := by unfold sg; cases bl <;> simp
theorem sg_neg (bl : Bool) (N : Nat) (h : 0 < N) : decide (sg bl N < 0) = bl := by unfold sg; cases bl <;> simp <;> omega
/-- A number of package long: its sign, its parts in memory. -/
structure Num (w : World) (bl : Bool) (a : Option Addr) (n c : Nat) (z : Int) : Prop where
 lie : Lie .u32 w a n c (lmb z.natAbs)
 fit : Fit n z.natAbs
 sgn : bl = decide (z < 0)
theorem Num.below {w w' : World} {bl : Bool} {a : Option Addr} {n c : Nat} {z : Int} (h : Num w bl a n c z) (hb : Below w.heap.size w w') : Num w' bl a n c z := ⟨h.lie.below hb, h.fit, h.sgn⟩
theorem lie_nil (k : IntKind) (w : World) (f : Nat → Nat) : Lie k w none 0 0 f :=
 ⟨Nat.le_refl _, Nat.zero_le _, (fun _ => ⟨rfl, rfl⟩), (fun _ h => by cases h), (fun _ h => by cases h)⟩
theorem num_zero (w : World) : Num w false none 0 0 0 := ⟨lie_nil _ _ _, fit_zero, rfl⟩
/-- A number is handed back whose parts lie in the memory of a, or that has none. -/
def PMade (a : Option Addr) (z : Int) (w : World) (e : Ending) (w' : World) : Prop :=
 ∃ (bl : Bool) (a' : Option Addr) (n c : Nat), e = .returned (.agg #[.bool bl, .slice a' n c]) ∧ Num w' bl a' n c z ∧ (a' = none ∨ a' = a) ∧ Below w.heap.size w w'
/-- A number is handed back whose parts lie in new memory, or that has none. -/
def PNum (z : Int) (w : World) (e : Ending) (w' : World) : Prop :=
 ∃ (bl : Bool) (a' : Option Addr) (n c : Nat), e = .returned (.agg #[.bool bl, .slice a' n c]) ∧ Num w' bl a' n c z ∧ (∀ p, a' = some p → w.heap.size ≤ p.block) ∧ Below w.heap.size w w'
/-- Parts of a number are handed back, in new memory. -/
def PPart (R : Nat) (w : World) (e : Ending) (w' : World) : Prop :=
 ∃ (a : Option Addr) (m c : Nat), e = .returned (.slice a m c) ∧ Lie .u32 w' a m c (lmb R) ∧ Fit m R ∧ (∀ p, a = some p → w.heap.size ≤ p.block) ∧ Below w.heap.size w w'
/-- A value is handed back, and no memory that was there is turned. -/
def PVal (v : Value) (w : World) (e : Ending) (w' : World) : Prop := e = .returned v ∧ Below w.heap.size w w'
/-- Two values are handed back, and no memory that was there is turned. -/
def PVal2 (v u : Value) (w : World) (e : Ending) (w' : World) : Prop := e = .returned (.tuple #[v, u]) ∧ Below w.heap.size w w'
/-- Three values are handed back, and no memory that was there is turned. -/
def PVal3 (v u x : Value) (w : World) (e : Ending) (w' : World) : Prop := e = .returned (.tuple #[v, u, x]) ∧ Below w.heap.size w w'
theorem Fit.lt {n N : Nat} (h : Fit n N) : N < BB ^ n := h.1
/-- Block g alone is turned between two worlds. -/
structure Only (g : Nat) (w w' : World) : Prop where
 os : w'.os = w.os
 tape : w'.tape = w.tape
 output : w'.output = w.output
 size : w'.heap.size = w.heap.size
 block : ∀ k, k ≠ g → w'.heap[k]? = w.heap[k]?
theorem Only.refl (g : Nat) (w : World) : Only g w w := ⟨rfl, rfl, rfl, rfl, fun _ _ => rfl⟩
theorem Only.trans {g : Nat} {a b c : World} (h : Only g a b) (k : Only g b c) : Only g a c :=
 ⟨k.os.trans h.os, k.tape.trans h.tape, k.output.trans h.output, k.size.trans h.size, fun i hi => (k.block i hi).trans (h.block i hi)⟩
theorem Only.below {g B : Nat} {w w' : World} (h : Only g w w') (hB : B ≤ g) : Below B w w' :=
 ⟨h.os, h.tape, h.output, by rw [h.size]; exact Nat.le_refl _, fun k hk => h.block k (by omega)⟩
theorem Only.drew {g : Nat} {a w : World} (h : Only g a w) : Only g a w.drew := ⟨h.os, h.tape, h.output, h.size, h.block⟩
theorem Only.setCell (w : World) (g i : Nat) (v : Value) : Only g w (w.setCell ⟨g, i, none⟩ v) :=
 ⟨rfl, rfl, rfl, by simp [World.setCell], fun k hk => Below.heap_setCell _ _ _ _ hk⟩
theorem Lie.only {k : IntKind} {w w' : World} {a : Option Addr} {n c g : Nat} {f : Nat → Nat} (h : Lie k w a n c f) (ho : Only g w w') (hg : ∀ p, a = some p → p.block ≠ g) : Lie k w' a n c f :=
 ⟨h.cap, h.capm, h.nil, fun p hp => ⟨(h.spot p hp).1, by rw [ho.size]; exact (h.spot p hp).2⟩,
  fun p hp i hi => by rw [World.cell?_of_block (w := w) (a := ⟨p.block, p.off + i, none⟩) (ho.block p.block (hg p hp))]; exact h.cell p hp i hi⟩
/-- Block g is a row of n numbers of kind k (elements of type e) that may be written: the i-th one is f i. -/
def Own (k : IntKind) (e : TypeId) (w : World) (g n : Nat) (f : Nat → Nat) : Prop :=
 w.heap[g]? = some (.cells ((List.range n).map fun i => Value.int k (f i : Nat)).toArray e (0, 0))
section
variable {k : IntKind} {e : TypeId} {w : World} {g n : Nat} {f : Nat → Nat}
theorem Own.lt (h : Own k e w g n f) : g < w.heap.size := (Array.getElem?_eq_some_iff.1 h).1
theorem Own.cell (h : Own k e w g n f) (i : Nat) (hi : i < n) : w.cell? ⟨g, i, none⟩ = some (.int k (f i : Nat)) := by
 rw [cell_of_row w g i _ e (0, 0) h]
 simp [hi]
theorem Own.free (h : Own k e w g n f) (i : Nat) : w.frozen? ⟨g, i, none⟩ = false := by
 unfold Own at h
 simp [World.frozen?, h]
theorem Own.lie (h : Own k e w g n f) {m : Nat} (hm : m ≤ n) (hn : n ≤ maxLen) : Lie k w (some ⟨g, 0, none⟩) m n f :=
 ⟨hm, hn, (fun e => by cases e), (fun p hp => by cases hp; exact ⟨rfl, h.lt⟩), (fun p hp i hi => by cases hp; simpa using h.cell i (by omega))⟩
theorem Own.congr (h : Own k e w g n f) {f' : Nat → Nat} (hf : ∀ i, i < n → f i = f' i) : Own k e w g n f' := by
 unfold Own at h ⊢
 rw [h]
 congr 3
 refine List.map_congr_left fun i hi => ?_
 rw [hf i (by simpa using hi)]
theorem Own.below {w' : World} (h : Own k e w g n f) (hb : Below w.heap.size w w') : Own k e w' g n f := by
 unfold Own at h ⊢
 rw [hb.block g (Array.getElem?_eq_some_iff.1 h).1]; exact h
theorem Own.only {w' : World} {g' : Nat} (h : Own k e w g n f) (ho : Only g' w w') (hg : g ≠ g') : Own k e w' g n f := by
 unfold Own at h ⊢
 rw [ho.block g hg]; exact h
theorem Own.drew (h : Own k e w g n f) : Own k e w.drew g n f := h
theorem Own.set (h : Own k e w g n f) {i : Nat} (x : Nat) (hi : i < n) : Own k e (w.setCell ⟨g, i, none⟩ (.int k (x : Nat))) g n (fun j => if j = i then x else f j) := by
 unfold Own at h ⊢
 have hlt := (Array.getElem?_eq_some_iff.1 h).1
 simp only [World.setCell, Array.getElem?_modify, if_true, h, Option.map_some]
 congr 2
 apply Array.ext
 ·
  simp
 ·
  intro j h1 h2
  by_cases hj : j = i
  ·
   subst hj; simp
  ·
   simp [hj, Ne.symm hj, Array.getElem_setIfInBounds]
theorem Own.put (h : Own k e w g n f) {i : Nat} {x : Int} {F : Nat → Nat} (hi : i < n) (hx : x = (F i : Nat)) (hf : ∀ j, j < n → j ≠ i → f j = F j) : Own k e (w.setCell ⟨g, i, none⟩ (.int k x)) g n F := by
 subst hx
 refine (h.set (F i) hi).congr fun j hj => ?_
 by_cases e : j = i
 ·
  subst e; simp
 ·
  simp [e, hf j hj e]
end
theorem ppart_own {e : TypeId} {w w' : World} {g n R m : Nat} (hown : Own .u32 e w' g n (lmb R)) (hg : w.heap.size ≤ g) (hb : Below w.heap.size w w') (hm : m ≤ n) (hn : n ≤ 9223372036854775807) (hfit : Fit m R) :
  PPart R w (.returned (.slice (some ⟨g, 0, none⟩) m n)) w' :=
 ⟨_, m, n, rfl, hown.lie hm (by unfold maxLen; omega), hfit, (fun p hp => by cases hp; exact hg), hb⟩
/-- 'make([]T, n)': a new block of n noughts. -/
theorem wpList_mk {P : Program} (w : World) {ops : Array Oper} {rest : List Oper} {o : Oper} {a : Act} {Q : Exit → Act → World → Prop}
  (hg : o.guard = none) (l c : Operand) (t : TypeId) (hop : o.op = Op.makeSlice t l c)
  (e : TypeId) (k : IntKind) (bytes : Nat) (ht : P.underlying t = some (.slice e)) (hinfo : (P.info? e).map (fun i => (i.zero, i.size, i.bytes)) = some (some (.int k 0), 1, bytes))
  (L C : Int) (n : Nat) (hl : a.eval l = .int .i64 L) (hc : a.eval c = .int .i64 C) (hL : L = (n : Int)) (hC : C = (n : Int)) (hbytes : bytes * n ≤ 281474976710656) (hn : n ≤ 9223372036854775807)
  (hK : ∀ (g : Nat) (w' : World), w.heap.size ≤ g → Own k e w' g n (fun _ => 0) → Below w.heap.size w w' → wpList P ops Q rest (a.put o.dst (.slice (some ⟨g, 0, none⟩) n n)) w') :
  wpList P ops Q (o :: rest) a w := by
 refine wpList_plain hg fun K hK' => ?_
 subst hL
 subst hC
 have hrun := run_make_row' (P := P) t e (.int k 0) bytes ht hinfo rfl .i64 .i64 n hbytes hn w
 unfold Oper.wp
 simp [execOp, hop, hl, hc, hrun, Result.andThen]
 refine hK' _ _ (hK _ _ (Nat.le_refl _) ?_ ((Below.refl _ _).alloc (Nat.le_refl _) _))
 unfold Own
 rw [heap_alloc_new]
 congr 2
 apply Array.ext
 ·
  simp [madeCells]
 ·
  intro j h1 h2
  simp [madeCells, Nat.mod_one]
/-- 'copy(out, src)' into a block of the call's own, from its head on. -/
theorem wpList_cp {P : Program} {w : World} {ops : Array Oper} {rest : List Oper} {o : Oper} {a : Act} {Q : Exit → Act → World → Prop} (hgd : o.guard = none) (d s : Operand) (t : TypeId)
  (ho : o.op = .call { callee := .builtin .copy, args := #[d, s], argTypes := #[t, t] }) (e : TypeId) (hu : P.underlying t = some (.slice e)) (hsz : (P.info? e).map (·.size) = some 1)
  (g n cD : Nat) (k : IntKind) (f h : Nat → Nat) (sp : Option Addr) (m cS : Nat) (hd : a.eval d = .slice (some ⟨g, 0, none⟩) n cD) (hs : a.eval s = .slice sp m cS)
  (hown : Own k e w g n f) (hlie : Lie k w sp m cS h) (hmn : m ≤ n)
  (hK : ∀ w', Own k e w' g n (fun i => if i < m then h i else f i) → Only g w w' → wpList P ops Q rest (a.put o.dst (.int .i64 (m : Int))) w') :
  wpList P ops Q (o :: rest) a w := by
 by_cases h0 : m = 0
 ·
  subst h0
  refine wpList_copy_nothing hgd d s t t ho e hu hsz _ _ _ _ _ _ hd hs (by simp) ?_
  exact hK w (hown.congr (fun i _ => by simp)) (Only.refl _ _)
 ·
  obtain ⟨b, off, rfl, hb⟩ := hlie.some_of_pos (by omega)
  have hown' := hown
  unfold Own at hown'
  have hlen : ((List.range m).map fun i => Value.int k (h i : Nat)).length = m := by simp
  have := wpList_copy_own (P := P) (ops := ops) (rest := rest) (o := o) (a := a) (Q := Q) hgd d s t t ho e hu hsz g 0 n cD ⟨b, off, none⟩ m cS hd hs _ e hown' ((List.range m).map fun i => Value.int k (h i : Nat))
   (by rw [hlen]; exact (Nat.min_eq_left hmn).symm) ?src (by simp; exact hmn) ?one ?_
  ·
   exact this
  case src =>
   intro j v hj
   simp only [List.getElem?_map, Option.map_eq_some_iff] at hj
   obtain ⟨i, hi, rfl⟩ := hj
   obtain ⟨hlt, rfl⟩ := List.getElem?_eq_some_iff.1 hi
   simp only [List.length_range] at hlt
   simp only [List.getElem_range]
   have := hlie.at j hlt
   rw [show (⟨b, off, none⟩ : Addr).add j = ⟨b, off + j, none⟩ from by unfold Addr.add; split <;> simp_all]
   exact this
  case one =>
   intro v hv
   simp only [List.mem_map] at hv
   obtain ⟨i, _, rfl⟩ := hv
   rfl
  ·
   rw [hlen]
   refine hK _ ?_ ⟨rfl, rfl, rfl, by simp [World.setRow], fun i hi => setRow_other w g i _ hi⟩
   unfold Own
   rw [setRow_heap w g _ _ e _ hown']
   congr 2
   apply Array.ext
   ·
    simp; omega
   ·
    intro j h1 h2
    simp only [List.take_zero, List.nil_append, Nat.zero_add, List.getElem_toArray, List.getElem_map, List.getElem_range]
    simp only [List.size_toArray, List.length_map, List.length_range] at h2
    by_cases hj : j < m
    ·
     rw [List.getElem_append_left (by simpa using hj)]; simp [hj]
    ·
     rw [List.getElem_append_right (by simp; omega)]; simp [hj]; congr 2; omega
end Go.Proofs.YtpahkpcoinbgcaaGreatDoor

/- As part Regv, with one operation that makes a variable wherever it comes in the order. No statement of the seat is proved here. -/
namespace Go.Proofs.YtpahkpcoinbgcaaGreatDoor
open Go Go.RowKit
section
variable {P : Program}
end
/-- A variable made since, as it was made. -/
def Abox (m : Nat) (C : Array Value) (T : TypeId) (v : Value) (W : World) : Prop := ∃ b, v = .pointer (some ⟨b, 0, none⟩) ∧ m ≤ b ∧ W.heap[b]? = some (.cells C T (0, 0))
theorem Abox.later {m : Nat} {C : Array Value} {T : TypeId} {v : Value} {W W' : World} (h : Abox m C T v W) (hb : Below W.heap.size W W') : Abox m C T v W' := by
 obtain ⟨b, e, h1, h2⟩ := h
 exact ⟨b, e, h1, by rw [hb.block b (Array.getElem?_eq_some_iff.1 h2).1, h2]⟩
end Go.Proofs.YtpahkpcoinbgcaaGreatDoor

/- As part Regv, where what an operation gives is known by a property that stays when memory grows; operations that make variables make unlike ones. No statement of the seat is proved here. -/
namespace Go.Proofs.YtpahkpcoinbgcaaGreatDoor
open Go Go.RowKit
/-- A value is a given one. -/
def Veq (c : Value) (v : Value) (_ : World) : Prop := v = c
theorem Veq.later {c v : Value} {W W' : World} (h : Veq c v W) (_ : Below W.heap.size W W') : Veq c v W' := h
section
variable {P : Program}
end
theorem Abox.lt {m : Nat} {C : Array Value} {T : TypeId} {v : Value} {W : World} (h : Abox m C T v W) : ∃ b, v = .pointer (some ⟨b, 0, none⟩) ∧ b < W.heap.size := by
 obtain ⟨b, e, _, h2⟩ := h
 exact ⟨b, e, (Array.getElem?_eq_some_iff.1 h2).1⟩
/- Where operations may also store: the invariant names which operations are done and what they gave. -/
section
variable {P : Program}
end
end Go.Proofs.YtpahkpcoinbgcaaGreatDoor

/- As part Regv, but an operation is shown with a frame of which only what it reads is known: its cost does not hang on the frame's size. No statement of the seat is proved here. -/
namespace Go.Proofs.YtpahkpcoinbgcaaGreatDoor
open Go
theorem layS_size : ∀ (ds : List (Option Tmp)) (a : Act) (u : Nat → Value) (k : Nat), (layS a ds u k).tmps.size = a.tmps.size := by
 intro ds
 induction ds with
 | nil => intro a u k; rfl
 | cons d ds ih =>
  intro a u k
  show (layS (a.put d (u k)) ds u (k + 1)).tmps.size = _
  rw [ih]
  cases d <;> simp [Act.put]
theorem layS_defers : ∀ (ds : List (Option Tmp)) (a : Act) (u : Nat → Value) (k : Nat), (layS a ds u k).defers = a.defers := by
 intro ds
 induction ds with
 | nil => intro a u k; rfl
 | cons d ds ih =>
  intro a u k
  show (layS (a.put d (u k)) ds u (k + 1)).defers = _
  rw [ih]
  cases d <;> rfl
theorem put_get_ne (a : Act) (d : Option Tmp) (v : Value) (t : Nat) (h : d ≠ some t) : (a.put d v).tmps[t]? = a.tmps[t]? := by
 cases d with
 | none => rfl
 | some d =>
  show (a.tmps.setIfInBounds d v)[t]? = _
  rw [Array.getElem?_setIfInBounds_ne (fun e => h (by rw [e]))]
theorem layS_out : ∀ (ds : List (Option Tmp)) (a : Act) (u : Nat → Value) (k t : Nat), some t ∉ ds → (layS a ds u k).tmps[t]? = a.tmps[t]? := by
 intro ds
 induction ds with
 | nil => intro a u k t _; rfl
 | cons d ds ih =>
  intro a u k t h
  show (layS (a.put d (u k)) ds u (k + 1)).tmps[t]? = _
  rw [ih _ _ _ _ (fun hm => h (List.mem_cons_of_mem _ hm)), put_get_ne _ _ _ _ (fun e => h (by rw [e]; exact List.mem_cons_self))]
/-- No slot stands twice. -/
def slotsB : List (Option Tmp) → Bool
 | [] => true
 | none :: ds => slotsB ds
 | some d :: ds => !(ds.contains (some d)) && slotsB ds
theorem layS_in : ∀ (ds : List (Option Tmp)) (a : Act) (u : Nat → Value) (k j d : Nat), slotsB ds = true → ds[j]? = some (some d) → d < a.tmps.size → (layS a ds u k).tmps[d]? = some (u (k + j)) := by
 intro ds
 induction ds with
 | nil => intro a u k j d _ h; simp at h
 | cons e ds ih =>
  intro a u k j d hs h hd
  show (layS (a.put e (u k)) ds u (k + 1)).tmps[d]? = _
  have hs' : slotsB ds = true := by
   cases e with
   | none => exact hs
   | some e => unfold slotsB at hs; simp only [Bool.and_eq_true] at hs; exact hs.2
  cases j with
  | zero =>
   simp only [List.getElem?_cons_zero, Option.some.injEq] at h
   subst h
   have hn : some d ∉ ds := by
    unfold slotsB at hs
    simp only [Bool.and_eq_true, Bool.not_eq_true', List.contains_eq_mem, decide_eq_false_iff_not] at hs
    exact hs.1
   rw [layS_out _ _ _ _ _ hn]
   show (a.tmps.setIfInBounds d (u k))[d]? = _
   rw [Array.getElem?_setIfInBounds_self_of_lt hd]
   rfl
  | succ j =>
   have := ih (a.put e (u k)) u (k + 1) j d hs' (by simpa using h) (by cases e <;> simpa [Act.put] using hd)
   rw [this, Nat.add_assoc, Nat.add_comm 1 j]
theorem layS_put {ds : List (Option Tmp)} {a : Act} {u : Nat → Value} {i : Nat} {o : Option Tmp} (hs : slotsB ds = true) (hi : ds[i]? = some o) (v : Value) : (layS a ds u 0).put o v = layS a ds (updV u i v) 0 := by
 have hext : ∀ A B : Act, A.tmps = B.tmps → A.defers = B.defers → A = B := by
  intro A B h1 h2
  cases A; cases B; simp_all
 refine hext _ _ ?_ ?_
 ·
  apply Array.ext'
  apply List.ext_getElem?
  intro t
  rw [Array.getElem?_toList, Array.getElem?_toList]
  by_cases hm : some t ∈ ds
  ·
   obtain ⟨j, hj⟩ := List.mem_iff_getElem?.1 hm
   by_cases ht : t < a.tmps.size
   ·
    rw [layS_in ds a (updV u i v) 0 j t hs hj ht]
    by_cases hji : j = i
    ·
     subst hji
     rw [hi] at hj
     cases hj
     show ((layS a ds u 0).tmps.setIfInBounds t v)[t]? = _
     rw [Array.getElem?_setIfInBounds_self_of_lt (by rw [layS_size]; exact ht)]
     simp [updV]
    ·
     have hne : o ≠ some t := by
      intro e
      subst e
      have h1 := layS_in ds a (fun q => .int .i64 (q : Int)) 0 j t hs hj ht
      have h2 := layS_in ds a (fun q => .int .i64 (q : Int)) 0 i t hs hi ht
      rw [h1] at h2
      simp at h2
      omega
     rw [put_get_ne _ _ _ _ hne, layS_in ds a u 0 j t hs hj ht]
     simp [updV, hji]
   ·
    have h1 : ∀ A : Act, A.tmps.size = a.tmps.size → A.tmps[t]? = none := fun A hA => Array.getElem?_eq_none (by omega)
    rw [h1 _ (by cases o <;> simp [Act.put, layS_size]), h1 _ (layS_size _ _ _ _)]
  ·
   have hne : o ≠ some t := fun e => hm (by rw [← e]; exact List.mem_of_getElem? hi)
   rw [put_get_ne _ _ _ _ hne, layS_out _ _ _ _ _ hm, layS_out _ _ _ _ _ hm]
 ·
  rw [layS_defers]
  cases o <;> exact layS_defers _ _ _ _
section
variable {P : Program}
end
end Go.Proofs.YtpahkpcoinbgcaaGreatDoor

/- The walks of trimmed, copied, made and their kin. -/
namespace Go.Proofs.YtpahkpcoinbgcaaGreatDoor
open Go.RowKit
def PTrim (a : Option Addr) (c n N : Nat) (w : World) (e : Ending) (w' : World) : Prop := ∃ m : Nat, e = .returned (.slice a m c) ∧ m ≤ n ∧ Fit m N ∧ w = w'
set_option maxHeartbeats 400000 in
theorem trimmed_any (a : Option Addr) (n c N : Nat) (w : World) (hl : Lie .u32 w a n c (lmb N)) (hN : N < BB ^ n) :
  Calls Tryz.prog 63 #[.slice a n c] w (PTrim a c n N w) := by
 have hcm := hl.capm
 have hnc := hl.cap
 unfold maxLen at hcm
 go_enter Tryz.func63, Tryz.ntmps63
 go_wp2
 go_loop [3] (fun i => ∃ k : Nat, k ≤ n ∧ i = .int .i64 k ∧ N < BB ^ k) (fun i => (intOf i).toNat)
 case atStart => exact ⟨n, Nat.le_refl _, rfl, hN⟩
 case round =>
  obtain ⟨k, hk, rfl, hNk⟩ := hrel
  by_cases hp : 0 < k
  ·
   obtain ⟨b, o, rfl, hb⟩ := hl.some_of_pos (by omega)
   have hcell := hl.at (k - 1) (by omega)
   by_cases hz : lmb N (k - 1) = 0
   ·
    have hz' : ((lmb N (k - 1) : Int) == 0) = true := by rw [hz]; rfl
    have HZ := Lib.hid hz
    have HN := Lib.hid hNk
    clear hz hNk hl hN
    go_wp2
    go_round
    case rel => exact ⟨k - 1, by omega, by go_num, fit_step (by omega) HN.out HZ.out⟩
    case measure => simp [intOf]; omega
   ·
    have hz' : ((lmb N (k - 1) : Int) == 0) = false := by simpa using hz
    have HZ := Lib.hid hz
    have HN := Lib.hid hNk
    clear hz hNk hl hN
    go_wp2
    go_ret
    exact ⟨k, rfl, hk, ⟨HN.out, .inr (fit_end HZ.out)⟩, rfl⟩
  ·
   obtain rfl : k = 0 := by omega
   have HN := Lib.hid hNk
   clear hNk hN
   rcases a with _ | ⟨b, o, s⟩
   ·
    obtain ⟨rfl, rfl⟩ := hl.nil rfl
    go_wp2
    go_ret
    exact ⟨0, rfl, hk, ⟨HN.out, .inl rfl⟩, rfl⟩
   ·
    obtain ⟨h1, h2⟩ := hl.spot _ rfl
    simp only at h1 h2
    subst h1
    go_wp2
    go_ret
    exact ⟨0, rfl, hk, ⟨HN.out, .inl rfl⟩, rfl⟩
theorem Tryz.u51 : Tryz.prog.underlying 51 = some (.slice 77) := by kernel_rfl
theorem Tryz.info77 : (Tryz.prog.info? 77).map (fun i => (i.zero, i.size, i.bytes)) = some (some (.int .u32 0), 1, 4) := by kernel_rfl
theorem Tryz.size77 : (Tryz.prog.info? 77).map (·.size) = some 1 := by kernel_rfl
/-- A new block of n numbers is handed back whole. -/
def PNew (k : IntKind) (t : TypeId) (n : Nat) (f : Nat → Nat) (w : World) (e : Ending) (w' : World) : Prop :=
 ∃ g : Nat, e = .returned (.slice (some ⟨g, 0, none⟩) n n) ∧ w.heap.size ≤ g ∧ Own k t w' g n f ∧ Below w.heap.size w w'
set_option maxHeartbeats 400000 in
theorem copied_any (a : Option Addr) (n c : Nat) (f : Nat → Nat) (w : World) (hl : Lie .u32 w a n c f) (hn : n ≤ 1000000000) :
  Calls Tryz.prog 81 #[.slice a n c] w (PNew .u32 77 n f w) := by
 have hn4 : 4 * n ≤ 281474976710656 := by omega
 have hn6 : n ≤ 9223372036854775807 := by omega
 go_enter Tryz.func81, Tryz.ntmps81
 go_wp2_with (first | (at_make; refine wpList_mk _ rfl (.tmp 5) (.tmp 5) 51 rfl 77 .u32 4 Tryz.u51 Tryz.info77 (n : Int) (n : Int) n rfl rfl rfl rfl hn4 hn6 ?_; intro g w1 hg hown hb; have hl1 := hl.below hb) | (with_reducible refine wpList_cp rfl (.tmp 7) (.tmp 8) 51 rfl 77 Tryz.u51 Tryz.size77 g n n .u32 _ f a n c rfl rfl hown hl1 (Nat.le_refl _) ?_; intro w2 hown2 ho2))
 go_ret
 exact ⟨g, rfl, hg, hown2.congr (fun i hi => by simp [hi]), hb.trans (ho2.below hg)⟩
set_option maxHeartbeats 400000 in
theorem made_any (bl : Bool) (a : Option Addr) (n c N : Nat) (w : World) (hl : Lie .u32 w a n c (lmb N)) (hN : N < BB ^ n) :
  Calls Tryz.prog 51 #[.bool bl, .slice a n c] w (PMade a (sg bl N) w) := by
 have hcm := hl.capm
 have hnc := hl.cap
 unfold maxLen at hcm
 go_enter Tryz.func51, Tryz.ntmps51
 go_wp2_with fail
 refine (trimmed_any a n c N _ ?_ hN).mono ?_
 ·
  exact hl.below ((Below.refl _ _).alloc (Nat.le_refl _) _)
 rintro e w1 ⟨m, rfl, hm, hfit, rfl⟩
 by_cases h0 : m = 0
 ·
  subst h0
  go_wp2
  obtain rfl := (fit_pos hfit).1 rfl
  refine bodyPost_ret (v := .agg #[.bool false, .slice none 0 0]) (by simp [results, Tryz.results51, go_sem]) rfl ⟨false, none, 0, 0, rfl, ?_, .inl rfl, ?_⟩
  ·
   unfold sg; cases bl <;> exact num_zero _
  ·
   exact (Below.refl _ _).alloc (Nat.le_refl _) _
 ·
  have h0' : ((m : Int) == 0) = false := by simpa using h0
  have H0 := Lib.hid h0
  clear h0
  go_wp2
  refine bodyPost_ret (v := .agg #[.bool bl, .slice a m c]) (by simp [results, Tryz.results51, go_sem]) rfl ⟨bl, a, m, c, rfl, ⟨?_, ?_, ?_⟩, .inr rfl, ?_⟩
  ·
   rw [sg_abs]; exact (hl.cut hm).below ((Below.refl _ _).alloc (Nat.le_refl _) _)
  ·
   rw [sg_abs]; exact hfit
  ·
   rw [sg_neg]; refine Nat.pos_of_ne_zero fun h => H0.out ((fit_pos hfit).2 h)
  ·
   exact (Below.refl _ _).alloc (Nat.le_refl _) _
end Go.Proofs.YtpahkpcoinbgcaaGreatDoor

/- The walk of divideBy. -/
namespace Go.Proofs.YtpahkpcoinbgcaaGreatDoor
open Go.RowKit
/-- Parts from q on (below m) out of S, the others out of f. -/
def hiF (S q m : Nat) (f : Nat → Nat) (p : Nat) : Nat := if q ≤ p ∧ p < m then lmb S p else f p
/-- A number of kind u32 is handed back; block g holds n numbers F. -/
def PDiv (t : TypeId) (g n R : Nat) (F : Nat → Nat) (w : World) (e : Ending) (w' : World) : Prop :=
 e = .returned (.int .u32 (R : Nat)) ∧ Own .u32 t w' g n F ∧ Only g w w'
theorem hiF_next (S j m n : Nat) (f : Nat → Nat) : ∀ i, i < n → i ≠ j → hiF S (j + 1) m f i = hiF S j m f i := by
 intro i _ hne
 unfold hiF
 by_cases h1 : j + 1 ≤ i ∧ i < m
 ·
  rw [if_pos h1, if_pos (by omega)]
 ·
  rw [if_neg h1, if_neg (by omega)]
theorem or64 {L x : Nat} (hL : L < 4294967296) (hx : x < 4294967296) : bits .or .u64 ((L : Int) * 4294967296) (x : Int) = ((L * 4294967296 + x : Nat) : Int) := by
 have h := u64_or_nat (L * 4294967296) x (by omega) (by omega)
 have e : ((L * 4294967296 : Nat) : Int) = (L : Int) * 4294967296 := by omega
 rw [e] at h
 rw [h]
 have h2 := Nat.two_pow_add_eq_or_of_lt (b := x) (i := 32) (by omega) L
 rw [show (2 : Nat) ^ 32 = 4294967296 from rfl, Nat.mul_comm] at h2
 rw [← h2]
theorem div_step {N D j : Nat} (hD : 0 < D) :
  ((N / BB ^ (j + 1) % D) * 4294967296 + lmb N j) / D = lmb (N / D) j ∧ ((N / BB ^ (j + 1) % D) * 4294967296 + lmb N j) % D = N / BB ^ j % D ∧
  ((N / BB ^ (j + 1) % D) * 4294967296 + lmb N j) / D < 4294967296 := by
 have hup := up_split N j
 have e0 : lmb (N / D) j = N / BB ^ j / D % BB := by unfold lmb; rw [Nat.div_div_eq_div_mul, Nat.mul_comm, ← Nat.div_div_eq_div_mul]
 have hl := lmb_lt N j
 generalize N / BB ^ (j + 1) = M at *
 have hM := Nat.div_add_mod M D
 have hlt := Nat.mod_lt M hD
 generalize M % D = L at *
 generalize M / D = q at *
 have e1 : N / BB ^ j = (L * 4294967296 + lmb N j) + D * (4294967296 * q) := by
  rw [hup, ← hM]; show _ + 4294967296 * _ = _
  rw [Nat.mul_add, Nat.mul_left_comm]; omega
 have hq : (L * 4294967296 + lmb N j) / D < 4294967296 := Nat.div_lt_of_lt_mul (by
  have := Nat.mul_le_mul_right 4294967296 (show L + 1 ≤ D from hlt)
  omega)
 refine ⟨?_, ?_, hq⟩
 ·
  rw [e0, e1, Nat.add_mul_div_left _ _ hD, ← Nat.mul_comm q]
  show _ = (_ + q * BB) % BB
  rw [Nat.add_mul_mod_self_right]
  exact (Nat.mod_eq_of_lt hq).symm
 ·
  rw [e1, Nat.add_mul_mod_self_left]
set_option maxHeartbeats 1600000 in
theorem divideBy_any (g n m N D : Nat) (f : Nat → Nat) (w : World) (hown : Own .u32 77 w g n f) (hm : m ≤ n) (hf : ∀ i, i < m → f i = lmb N i) (hN : N < BB ^ m) (hD0 : 0 < D) (hD : D < 4294967296) (hn : n ≤ 1000000000) :
  Calls Tryz.prog 91 #[.slice (some ⟨g, 0, none⟩) m n, .int .u32 D] w (PDiv 77 g n (N % D) (hiF (N / D) 0 m f) w) := by
 have HF := Lib.hid hf
 have HN := Lib.hid hN
 clear hf hN
 go_enter Tryz.func91, Tryz.ntmps91
 go_wp2
 go_loopw [5, 6] (fun lv iv wr => ∃ k : Nat, k ≤ m ∧ iv = .int .i64 ((k : Int) - 1) ∧ lv = .int .u64 ((N / BB ^ k % D : Nat) : Int) ∧ Own .u32 77 wr g n (hiF (N / D) k m f) ∧ Only g w wr) (fun _ iv _ => (intOf iv + 1).toNat)
 case atStart => exact ⟨m, Nat.le_refl _, rfl, by rw [Nat.div_eq_of_lt HN.out]; simp, hown.congr (fun j hj => by unfold hiF; rw [if_neg (by omega)]), Only.refl _ _⟩
 case round =>
  obtain ⟨k, hk, rfl, rfl, hown1, ho1⟩ := hrel
  by_cases hp : 0 < k
  ·
   obtain ⟨j, rfl⟩ : ∃ j, k = j + 1 := ⟨k - 1, by omega⟩
   have c1 : wr.cell? ⟨g, j, none⟩ = some (.int .u32 (lmb N j)) := by rw [hown1.cell j (by omega), hiF, if_neg (by omega), HF.out j (by omega)]
   have c2 := hown1.free j
   have hla := lmb_lt N j
   obtain ⟨L, hL⟩ : ∃ L, L = N / BB ^ (j + 1) % D := ⟨_, rfl⟩
   rw [← hL]
   have HL := Lib.hid hL
   have hLD : L < D := by rw [hL]; exact Nat.mod_lt _ hD0
   have hor := or64 (show L < 4294967296 by omega) hla
   obtain ⟨s1, s2, s3⟩ := div_step (N := N) (j := j) hD0
   rw [← hL] at s1 s2 s3
   have hXu : L * 4294967296 + lmb N j < 18446744073709551616 := by omega
   generalize L * 4294967296 + lmb N j = X at *
   have hX0 : (0 : Int) ≤ (X : Int) / (D : Int) := by rw [← Int.natCast_ediv]; omega
   have hX1 : (X : Int) / (D : Int) ≤ 4294967295 := by rw [← Int.natCast_ediv]; omega
   have hX2 : (0 : Int) ≤ (X : Int) % (D : Int) := by rw [← Int.natCast_emod]; omega
   have hX3 : (X : Int) % (D : Int) ≤ 4294967295 := by rw [← Int.natCast_emod]; have := Nat.mod_lt X hD0; omega
   have HX : Hid ((X : Int) / (D : Int) = ((lmb (N / D) j : Nat) : Int) ∧ (X : Int) % (D : Int) = ((N / BB ^ j % D : Nat) : Int)) := by
    show _ ∧ _; rw [← s1, ← s2, Int.natCast_ediv, Int.natCast_emod]; exact ⟨rfl, rfl⟩
   clear hL s1 s2 s3
   go_wp2
   go_roundw
   case rel => exact ⟨j, by omega, by go_num, by rw [HX.out.2], hown1.put (by omega) (by rw [HX.out.1, hiF, if_pos (by omega)]) (hiF_next _ j m n f), ho1.trans (Only.setCell _ _ _ _)⟩
   case measure => simp [intOf]
  ·
   obtain rfl : k = 0 := by omega
   have hRD : N % D < D := Nat.mod_lt _ hD0
   simp only [Nat.pow_zero, Nat.div_one]
   go_wp2
   go_ret
   exact ⟨rfl, hown1, ho1⟩
end Go.Proofs.YtpahkpcoinbgcaaGreatDoor
