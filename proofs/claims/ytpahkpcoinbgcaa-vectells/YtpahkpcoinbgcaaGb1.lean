/- Parts of the proof. -/
import Derived.StillTail
import Derived.Deep.RegionHeld3
import Derived.KernelRfl
import Derived.WalkKit
import Derived.WalkSpells
import Derived.WalkLawsBesides
import Derived.Lib.Hide
import Derived.Laws.CopyOwn
import Derived.Deep.OwnRows
import Derived.Deep.QuietTactic
import Derived.BigQuiet
import Derived.Deep.DeepCutAuto
import Derived.Test.YtpahkpcoinbgcaaProg
import Derived.Laws.BitsAllLaws
import Derived.Deep.LoopGhost
import Derived.Test.YtpahkpcoinbgcaaShelf
import Derived.Lib.Strings
import Derived.Lib.ItoaNum
/- A law for regions that draw their order: a head whose operations may come in any order, each shown once under an invariant that says what has been done, and a tail in one order. No statement of the seat is proved here. -/
namespace Go.Proofs.Ytpahkpcoinbgcaa
open Go
section
variable {P : Program} {ops : Array Oper} {md : Region.Mode}
/-- Heads wait for what stands ahead of them alone; each operation of the tail waits for all ahead of it; behind the head the tail goes in its order. -/
def tailsB (md : Region.Mode) (ops : Array Oper) (n : Nat) : Bool :=
 decide (n ≤ ops.size) &&
 ((List.range n).all fun i => match ops[i]? with
  | some o => o.after.all fun e => !Region.binds md e || decide (e.on < i)
  | none => false) &&
 ((List.range ops.size).all fun j => decide (j < n) || (List.range n).all fun i => Region.waitsFor md ops j i) &&
 Region.seqB md ops (ops.size - n) n (Array.replicate n true ++ Array.replicate (ops.size - n) false)
/-- What has been done, and i. -/
def upd (L : Nat → Bool) (i : Nat) : Nat → Bool := fun j => if j = i then true else L j
theorem upd_self (L : Nat → Bool) (i : Nat) : upd L i i = true := by simp [upd]
theorem upd_ne {L : Nat → Bool} {i j : Nat} (h : j ≠ i) : upd L i j = L j := by simp [upd, h]
theorem getD_upd {listed : Array Bool} {i : Nat} (hi : i < listed.size) : (fun j => (listed.setIfInBounds i true).getD j false) = upd (fun j => listed.getD j false) i := by
 funext j
 unfold upd
 by_cases h : j = i
 ·
  subst h; simp [hi]
 ·
  rw [if_neg h]; exact getD_set_ne false (fun e => h e.symm)
/-- How many of the first n are not listed. -/
def unl (listed : Array Bool) (n : Nat) : Nat := ((List.range n).filter fun i => !listed.getD i false).length
theorem unl_set {listed : Array Bool} {n i : Nat} (hi : i < n) (hs : n ≤ listed.size) (hu : listed.getD i false = false) : unl listed n = unl (listed.setIfInBounds i true) n + 1 := by
 unfold unl
 induction n with
 | zero => omega
 | succ n ih =>
  rw [List.range_succ, List.filter_append, List.filter_append, List.length_append, List.length_append]
  by_cases h : i = n
  ·
   subst h
   have e1 : (List.range i).filter (fun j => !listed.getD j false) = (List.range i).filter (fun j => !(listed.setIfInBounds i true).getD j false) := by
    refine List.filter_congr fun j hj => ?_
    rw [getD_set_ne false (by have := List.mem_range.1 hj; omega)]
   have e2 : (listed.setIfInBounds i true).getD i false = true := by simp [show i < listed.size by omega]
   rw [e1]
   simp only [List.filter_cons, List.filter_nil, hu, e2]
   simp
  ·
   have := ih (by omega) (by omega)
   rw [this]
   have e3 : (listed.setIfInBounds i true).getD n false = listed.getD n false := getD_set_ne false h
   simp only [List.filter_cons, List.filter_nil, e3]
   omega
theorem unl_zero {listed : Array Bool} {n : Nat} (h : unl listed n = 0) : ∀ i, i < n → listed.getD i false = true := by
 intro i hi
 unfold unl at h
 have h1 := List.filter_eq_nil_iff.1 (List.eq_nil_of_length_eq_zero h) i (List.mem_range.2 hi)
 simpa using h1
theorem unl_pos {listed : Array Bool} {n : Nat} (h : 0 < unl listed n) : ∃ i, i < n ∧ listed.getD i false = false ∧ ∀ j, j < i → listed.getD j false = true := by
 induction n with
 | zero => simp [unl] at h
 | succ n ih =>
  by_cases h0 : 0 < unl listed n
  ·
   obtain ⟨i, h1, h2, h3⟩ := ih h0
   exact ⟨i, by omega, h2, h3⟩
  ·
   have hz := unl_zero (listed := listed) (n := n) (by omega)
   refine ⟨n, by omega, ?_, hz⟩
   cases hl : listed.getD n false with
   | false => rfl
   | true =>
    exfalso
    have e : unl listed (n + 1) = unl listed n := by
     unfold unl
     rw [List.range_succ, List.filter_append, List.length_append]
     simp only [List.filter_cons, List.filter_nil, hl]
     simp
    omega
end
end Go.Proofs.Ytpahkpcoinbgcaa

/- A law for regions that draw their order and whose operations' values are known ahead: each operation is shown once; what the world keeps is one invariant. No statement of the seat is proved here. -/
namespace Go.Proofs.Ytpahkpcoinbgcaa
open Go
/-- A frame with the region's slots laid in. -/
def layS (a : Act) : List (Option Tmp) → (Nat → Value) → Nat → Act
 | [], _, _ => a
 | d :: ds, u, k => layS (a.put d (u k)) ds u (k + 1)
def updV (u : Nat → Value) (i : Nat) (v : Value) : Nat → Value := fun j => if j = i then v else u j
def lstV (vs : List Value) (k : Nat) : Value := vs.getD k undef
theorem put_self (a : Act) (d : Option Tmp) : a.put d ((d.map fun t => a.tmps.getD t undef).getD undef) = a := by
 cases d with
 | none => rfl
 | some t =>
  obtain ⟨tmps, defers⟩ := a
  simp only [Act.put, Option.map_some, Option.getD_some, Act.mk.injEq, and_true]
  apply Array.ext
  ·
   simp
  ·
   intro i h1 h2
   by_cases h : t = i
   ·
    subst h; simp [h2]
   ·
    rw [Array.getElem_setIfInBounds h2, if_neg h]
theorem layS_self (a : Act) : ∀ (ds : List (Option Tmp)) (u : Nat → Value) (k : Nat), (∀ j d, ds[j]? = some d → u (k + j) = (d.map fun t => a.tmps.getD t undef).getD undef) → layS a ds u k = a := by
 intro ds
 induction ds with
 | nil => intro u k _; rfl
 | cons d ds ih =>
  intro u k h
  have h0 := h 0 d rfl
  rw [Nat.add_zero] at h0
  show layS (a.put d (u k)) ds u (k + 1) = a
  rw [h0, put_self]
  exact ih u (k + 1) (fun j d' hj => by rw [Nat.add_assoc, Nat.add_comm 1 j]; exact h (j + 1) d' (by simpa using hj))
theorem layS_congr : ∀ (ds : List (Option Tmp)) (a : Act) (u v : Nat → Value) (k : Nat), (∀ j, j < ds.length → u (k + j) = v (k + j)) → layS a ds u k = layS a ds v k := by
 intro ds
 induction ds with
 | nil => intro a u v k _; rfl
 | cons d ds ih =>
  intro a u v k h
  show layS (a.put d (u k)) ds u (k + 1) = layS (a.put d (v k)) ds v (k + 1)
  have h0 := h 0 (by simp)
  rw [Nat.add_zero] at h0
  rw [h0]
  exact ih _ u v (k + 1) (fun j hj => by rw [Nat.add_assoc, Nat.add_comm 1 j]; exact h (j + 1) (by simpa using hj))
section
variable {P : Program} {ops : Array Oper} {md : Region.Mode}
/-- Does operation j wait for i, or for what waits for it? -/
def waitsB (md : Region.Mode) (ops : Array Oper) : Nat → Nat → Nat → Bool
 | 0, j, i => Region.waitsFor md ops j i
 | f + 1, j, i => Region.waitsFor md ops j i || (List.range ops.size).any fun k => Region.waitsFor md ops j k && waitsB md ops f k i
theorem waitsB_done {L : Nat → Bool} (hc : ∀ k j, L k = true → Region.waitsFor md ops k j = true → L j = true) : ∀ (f j i : Nat), (∀ k, Region.waitsFor md ops j k = true → L k = true) → waitsB md ops f j i = true → L i = true := by
 intro f
 induction f with
 | zero => intro j i h hw; exact h i hw
 | succ f ih =>
  intro j i h hw
  unfold waitsB at hw
  rw [Bool.or_eq_true] at hw
  rcases hw with h0 | h0
  ·
   exact h i h0
  ·
   obtain ⟨k, _, hk⟩ := List.any_eq_true.1 h0
   simp only [Bool.and_eq_true] at hk
   exact ih k i (fun m hm => hc k m (h k hk.1) hm) hk.2
/-- As tailsB; but the tail may wait for the head through others. -/
def tailsB2 (md : Region.Mode) (ops : Array Oper) (n : Nat) : Bool :=
 decide (n ≤ ops.size) &&
 ((List.range n).all fun i => match ops[i]? with
  | some o => o.after.all fun e => !Region.binds md e || decide (e.on < i)
  | none => false) &&
 ((List.range ops.size).all fun j => decide (j < n) || (List.range n).all fun i => waitsB md ops 3 j i) &&
 Region.seqB md ops (ops.size - n) n (Array.replicate n true ++ Array.replicate (ops.size - n) false)
theorem wpAny_inv2 {Q : Exit → Act → World → Prop} {n : Nat} {I : (Nat → Bool) → Act → World → Prop} {l : List Oper} (hl : l.toArray = ops) (hB : tailsB2 md ops n = true)
  (step : ∀ L a w i, i < n → I L a w → L i = false → (∀ j, Region.waitsFor md ops i j = true → L j = true) → wpOp P ops Q i (I (upd L i)) a w)
  (fin : ∀ a w, (∃ L, (∀ j, j < n → L j = true) ∧ I L a w) → wpList P ops Q (l.drop n) a w) :
  ∀ (f : Nat) (listed : Array Bool) (a : Act) (w : World), listed.size = ops.size → (∀ t, n ≤ t → listed.getD t false = false) → unl listed n = f → (∀ k j, listed.getD k false = true → Region.waitsFor md ops k j = true → listed.getD j false = true) → I (fun j => listed.getD j false) a w →
   wpAny P md ops Q (f + (ops.size - n)) listed a w := by
 unfold tailsB2 at hB
 simp only [Bool.and_eq_true, decide_eq_true_eq] at hB
 obtain ⟨⟨⟨hn, hhead⟩, htail⟩, hseq⟩ := hB
 have hdl : (l.drop n).length = ops.size - n := by rw [← hl]; simp
 intro f
 induction f with
 | zero =>
  intro listed a w hs ht hu hcl hI
  have hz := unl_zero hu
  have e : listed = Array.replicate n true ++ Array.replicate (ops.size - n) false := by
   apply Array.ext
   ·
    simp; omega
   ·
    intro i h1 h2
    have hg : listed[i] = listed.getD i false := by simp [h1]
    rw [hg]
    by_cases hi : i < n
    ·
     rw [hz i hi, Array.getElem_append_left (by simpa using hi)]; simp
    ·
     rw [ht i (by omega), Array.getElem_append_right (by simpa using hi)]; simp
  rw [Nat.zero_add]
  have := wpAny_of_seq (P := P) (md := md) (ops := ops) (Q' := Q) (l.drop n) n listed a w (fun j => by rw [← hl]; simp [List.getElem?_drop]) (by rw [hdl, e]; exact hseq) (fin a w ⟨_, hz, hI⟩)
  rwa [hdl] at this
 | succ f ih =>
  intro listed a w hs ht hu hcl hI
  obtain ⟨i0, hi0, hi0u, hi0l⟩ := unl_pos (listed := listed) (n := n) (by omega)
  have hne : Region.ready md ops listed ≠ [] := by
   intro h0
   have hm : i0 ∈ Region.ready md ops listed := by
    have h1 := List.all_eq_true.1 hhead i0 (List.mem_range.2 hi0)
    have hlt : i0 < ops.size := by omega
    rw [Array.getElem?_eq_getElem hlt] at h1
    refine mem_ready.2 ⟨getD_in (by omega) hi0u, ops[i0], Array.getElem?_eq_getElem hlt, fun e he hb => ?_⟩
    have h2 := Array.all_eq_true'.1 h1 e he
    simp only [hb, Bool.not_true, Bool.false_or, decide_eq_true_eq] at h2
    exact hi0l _ h2
   rw [h0] at hm; cases hm
  rw [show f + 1 + (ops.size - n) = (f + (ops.size - n)) + 1 by omega]
  refine ⟨fun h0 => absurd h0 hne, fun i hi => ?_⟩
  obtain ⟨hiu, oi, hoi, hall⟩ := mem_ready.1 hi
  have hilt : i < ops.size := (Array.getElem?_eq_some_iff.1 hoi).1
  have hiu' := getD_both hiu
  have hin : i < n := by
   rcases Nat.lt_or_ge i n with h | h
   ·
    exact h
   ·
    exfalso
    have h1 := List.all_eq_true.1 htail i (List.mem_range.2 hilt)
    simp only [Bool.or_eq_true, decide_eq_true_eq] at h1
    rcases h1 with h1 | h1
    ·
     omega
    ·
     have h2 := List.all_eq_true.1 h1 i0 (List.mem_range.2 hi0)
     have h3 := waitsB_done (L := fun j => listed.getD j false) hcl 3 i i0 (fun k hk => by
      obtain ⟨o', ho', e, he, hb, hon⟩ := Region.waitsFor_spec hk
      have : o' = oi := Option.some.inj (ho'.symm.trans hoi)
      subst this
      show listed.getD k false = true
      rw [← hon]; exact hall e he hb) h2
     change listed.getD i0 false = true at h3
     rw [hi0u] at h3; cases h3
  have hst := step _ a w i hin hI hiu' (fun j hj => by
   obtain ⟨o', ho', e, he, hb, hon⟩ := Region.waitsFor_spec hj
   have : o' = oi := Option.some.inj (ho'.symm.trans hoi)
   subst this
   rw [← hon]; exact hall e he hb)
  refine wpOp_mono (fun a' w' h' => ?_) hst
  refine ih (listed.setIfInBounds i true) a' w' (by simp [hs]) (fun t h => by rw [getD_set_ne false (by omega)]; exact ht t h) ?_ ?_ ?_
  ·
   have := unl_set hin (by omega) hiu'; omega
  ·
   intro k j hk hw
   have hkl : listed.getD k false = true ∨ k = i := by
    by_cases e : k = i
    ·
     exact .inr e
    ·
     rw [getD_set_ne false (fun x => e x.symm)] at hk; exact .inl hk
   have hj : listed.getD j false = true := by
    rcases hkl with h | rfl
    ·
     exact hcl k j h hw
    ·
     obtain ⟨o', ho', e, he, hb, hon⟩ := Region.waitsFor_spec hw
     have : o' = oi := Option.some.inj (ho'.symm.trans hoi)
     subst this
     rw [← hon]; exact hall e he hb
   by_cases e : j = i
   ·
    subst e; simp [show j < listed.size by omega]
   ·
    rw [getD_set_ne false (fun x => e x.symm)]; exact hj
  ·
   rw [getD_upd (by omega)]; exact h'
theorem wp_region_inv2 {Q : Exit → Act → World → Prop} {id : Nat} {a : Act} {w : World} {l : List Oper} (n : Nat) (I : (Nat → Bool) → Act → World → Prop) (hm : P.follows .mixedOrders = true) (hB : tailsB2 .any l.toArray n = true)
  (h0 : I (fun _ => false) a w.drew)
  (step : ∀ L a w i, i < n → I L a w → L i = false → (∀ j, Region.waitsFor .any l.toArray i j = true → L j = true) → wpOp P l.toArray Q i (I (upd L i)) a w)
  (fin : ∀ a w, (∃ L, (∀ j, j < n → L j = true) ∧ I L a w) → wpList P l.toArray Q (l.drop n) a w) : (Code.region id l.toArray true).wp P Q a w := by
 refine wp_region_any hm ?_
 have hB' := hB
 unfold tailsB2 at hB'
 simp only [Bool.and_eq_true, decide_eq_true_eq] at hB'
 have hn := hB'.1.1.1
 have hu : unl (Array.replicate l.toArray.size false) n = n := by
  unfold unl
  rw [List.filter_eq_self.2 (fun i _ => by rw [getD_replicate_false]; rfl), List.length_range]
 have := wpAny_inv2 (P := P) (md := .any) (Q := Q) (n := n) (I := I) (l := l) rfl hB step fin n (Array.replicate l.toArray.size false) a w.drew (by simp) (fun t _ => getD_replicate_false _ _) hu (fun k j hk => by rw [getD_replicate_false] at hk; cases hk) (by
  rw [show (fun j => (Array.replicate l.toArray.size false).getD j false) = fun _ => false from funext fun j => getD_replicate_false _ _]; exact h0)
 rwa [show n + (l.toArray.size - n) = l.toArray.size by omega] at this
end
section
variable {P : Program}
/-- What is to be shown of an operation of such a region: it is skipped, or it runs and gives its value. -/
def OpV (P : Program) (Q : Exit → Act → World → Prop) (o : Oper) (ops : Array Oper) (a : Act) (ds : List (Option Tmp)) (V : Nat → Value) (J : World → Prop) (i : Nat) (u : Nat → Value) (W : World) : Prop :=
 (Region.wanted o (yielded ops (layS a ds u 0).tmps) = false ∧ (layS a ds u 0).put o.dst undef = layS a ds (updV u i (V i)) 0) ∨
 (Region.wanted o (yielded ops (layS a ds u 0).tmps) = true ∧ ∀ K' : Act → World → Prop, (∀ a' W', a' = layS a ds (updV u i (V i)) 0 → J W' → K' a' W') → Oper.wp P o (layS a ds u 0) W K' Q)
theorem opV_step {Q : Exit → Act → World → Prop} {l : List Oper} {a : Act} {ds : List (Option Tmp)} {V : Nat → Value} {J : World → Prop} {i : Nat} {u : Nat → Value} {W : World} (hi : i < l.length) (hJ : J W) (h : OpV P Q l[i] l.toArray a ds V J i u W) :
  wpOp P l.toArray Q i (fun a' W' => a' = layS a ds (updV u i (V i)) 0 ∧ J W') (layS a ds u 0) W := by
 refine wpOp_step (o := l[i]) (by simp [hi]) (fun K' hK => ?_)
 rcases h with ⟨h1, h2⟩ | ⟨h1, h2⟩
 ·
  rw [if_neg (by rw [h1]; decide), h2]
  exact hK _ _ ⟨rfl, hJ⟩
 ·
  rw [if_pos h1]
  exact h2 K' (fun a' W' e hj => hK _ _ ⟨e, hj⟩)
/-- The first n operations may come in any order, their values known ahead; the others come behind them, in one order. -/
theorem wp_region_vals {Q : Exit → Act → World → Prop} {id : Nat} {a : Act} {w : World} {l : List Oper} (n : Nat) (ds : List (Option Tmp)) (V : Nat → Value) (J : World → Prop) (hm : P.follows .mixedOrders = true) (hB : tailsB2 .any l.toArray n = true) (hn : ds.length ≤ n)
  (h0 : J w.drew)
  (step : ∀ i (hi : i < l.length), i < n → ∀ (u : Nat → Value) (W : World), J W → (∀ j, Region.waitsFor .any l.toArray i j = true → u j = V j) → OpV P Q l[i] l.toArray a ds V J i u W)
  (fin : ∀ W, J W → wpList P l.toArray Q (l.drop n) (layS a ds V 0) W) : (Code.region id l.toArray true).wp P Q a w := by
 have hl : n ≤ l.length := by
  have hB' := hB
  unfold tailsB2 at hB'
  simp only [Bool.and_eq_true, decide_eq_true_eq] at hB'
  simpa using hB'.1.1.1
 refine wp_region_inv2 n (fun L a' W => J W ∧ ∃ u : Nat → Value, (∀ j, L j = true → u j = V j) ∧ a' = layS a ds u 0) hm hB ⟨h0, fun k => ((ds.getD k none).map fun t => a.tmps.getD t undef).getD undef, nofun, ?_⟩ ?_ ?_
 ·
  refine (layS_self a ds _ 0 (fun j d hj => ?_)).symm
  have : ds.getD (0 + j) none = d := by rw [Nat.zero_add, List.getD_eq_getElem?_getD, hj]; rfl
  rw [this]
 ·
  rintro L a' W i hi ⟨hJ, u, hu, rfl⟩ _ hw
  refine wpOp_mono ?_ (opV_step (Nat.lt_of_lt_of_le hi hl) hJ (step i (Nat.lt_of_lt_of_le hi hl) hi u W hJ (fun j hj => hu j (hw j hj))))
  rintro a' W' ⟨rfl, hJ'⟩
  refine ⟨hJ', updV u i (V i), fun j hj => ?_, rfl⟩
  unfold updV
  by_cases h : j = i
  ·
   rw [if_pos h, h]
  ·
   rw [if_neg h]
   exact hu j (by rw [upd_ne h] at hj; exact hj)
 ·
  rintro a' W ⟨L, hL, hJ, u, hu, rfl⟩
  rw [layS_congr ds a u V 0 (fun j hj => by rw [Nat.zero_add]; exact hu j (hL j (by omega)))]
  exact fin W hJ
end
end Go.Proofs.Ytpahkpcoinbgcaa

/- What the walks of this seat lean on: numbers that lie in slices of memory, part by part; no statement of the seat is proved here. -/
namespace Go.Proofs.Ytpahkpcoinbgcaa
open Go.RowKit
/-- The base of the parts: 2^32. -/
def BB : Nat := 4294967296
/-- The i-th part of a number. -/
def lmb (N i : Nat) : Nat := N / BB ^ i % BB
theorem BB_pos : 0 < BB := by decide
theorem BBp (i : Nat) : 0 < BB ^ i := Nat.pow_pos BB_pos
/-- n is how many parts N has. -/
def Fit (n N : Nat) : Prop := N < BB ^ n ∧ (n = 0 ∨ BB ^ (n - 1) ≤ N)
theorem fit_pos {n N : Nat} (h : Fit n N) : n = 0 ↔ N = 0 := by
 constructor
 ·
  intro e; subst e; have := h.1; simp at this; exact this
 ·
  intro e; subst e
  rcases h.2 with h0 | h0
  ·
   exact h0
  ·
   have := BBp (n - 1); omega
/-- How two sizes stand to one another: -1, 0, 1. -/
def cmpN (a b : Nat) : Int := if a < b then -1 else if b < a then 1 else 0
/-- A slice (address a, length n, capacity c) of n numbers of kind k: the i-th one is f i. -/
structure Lie (k : IntKind) (w : World) (a : Option Addr) (n c : Nat) (f : Nat → Nat) : Prop where
 cap : n ≤ c
 capm : c ≤ maxLen
 nil : a = none → n = 0 ∧ c = 0
 spot : ∀ p, a = some p → p.spot = none ∧ p.block < w.heap.size
 cell : ∀ p, a = some p → ∀ i, i < n → w.cell? ⟨p.block, p.off + i, none⟩ = some (.int k (f i : Nat))
theorem Lie.some_of_pos {k : IntKind} {w : World} {a : Option Addr} {n c : Nat} {f : Nat → Nat} (h : Lie k w a n c f) (hn : 0 < n) :
  ∃ b o, a = some ⟨b, o, none⟩ ∧ b < w.heap.size := by
 cases a with
 | none => have := (h.nil rfl).1; omega
 | some p =>
  obtain ⟨b, o, s⟩ := p
  obtain ⟨h1, h2⟩ := h.spot _ rfl
  simp only at h1 h2
  subst h1
  exact ⟨b, o, rfl, h2⟩
theorem Lie.at {k : IntKind} {w : World} {b o n c : Nat} {f : Nat → Nat} (h : Lie k w (some ⟨b, o, none⟩) n c f) (i : Nat) (hi : i < n) :
  w.cell? ⟨b, o + i, none⟩ = some (.int k (f i : Nat)) := h.cell _ rfl i hi
theorem Lie.below {k : IntKind} {w w' : World} {a : Option Addr} {n c : Nat} {f : Nat → Nat} (h : Lie k w a n c f) (hb : Below w.heap.size w w') : Lie k w' a n c f :=
 ⟨h.cap, h.capm, h.nil, fun p hp => ⟨(h.spot p hp).1, Nat.lt_of_lt_of_le (h.spot p hp).2 hb.size⟩,
  fun p hp i hi => by rw [hb.cell (p := ⟨p.block, p.off + i, none⟩) (h.spot p hp).2]; exact h.cell p hp i hi⟩
theorem Lie.cut {k : IntKind} {w : World} {a : Option Addr} {n c m : Nat} {f : Nat → Nat} (h : Lie k w a n c f) (hm : m ≤ n) : Lie k w a m c f :=
 ⟨Nat.le_trans hm h.cap, h.capm, fun e => ⟨by have := (h.nil e).1; omega, (h.nil e).2⟩, h.spot, fun p hp i hi => h.cell p hp i (by omega)⟩
theorem ret_int {k : IntKind} {a b : Int} (h : a = b) : Ending.returned (.int k a) = .returned (.int k b) := by rw [h]
/-- The number with this sign and size. -/
def sg (bl : Bool) (N : Nat) : Int := if bl then -(N : Int) else (N : Int)
theorem sg_abs (bl : Bool) (N : Nat) : (sg bl N).natAbs = N := by unfold sg; cases bl <;> simp
theorem sg_neg (bl : Bool) (N : Nat) (h : 0 < N) : decide (sg bl N < 0) = bl := by unfold sg; cases bl <;> simp <;> omega
/-- A number of package long: its sign, its parts in memory. -/
structure Num (w : World) (bl : Bool) (a : Option Addr) (n c : Nat) (z : Int) : Prop where
 lie : Lie .u32 w a n c (lmb z.natAbs)
 fit : Fit n z.natAbs
 sgn : bl = decide (z < 0)
theorem Num.below {w w' : World} {bl : Bool} {a : Option Addr} {n c : Nat} {z : Int} (h : Num w bl a n c z) (hb : Below w.heap.size w w') : Num w' bl a n c z := ⟨h.lie.below hb, h.fit, h.sgn⟩
theorem lie_nil (k : IntKind) (w : World) (f : Nat → Nat) : Lie k w none 0 0 f :=
 ⟨Nat.le_refl _, Nat.zero_le _, (fun _ => ⟨rfl, rfl⟩), (fun _ h => by cases h), (fun _ h => by cases h)⟩
/-- A value is handed back, and no memory that was there is turned. -/
def PVal (v : Value) (w : World) (e : Ending) (w' : World) : Prop := e = .returned v ∧ Below w.heap.size w w'
/-- Two values are handed back, and no memory that was there is turned. -/
def PVal2 (v u : Value) (w : World) (e : Ending) (w' : World) : Prop := e = .returned (.tuple #[v, u]) ∧ Below w.heap.size w w'
/-- Three values are handed back, and no memory that was there is turned. -/
def PVal3 (v u x : Value) (w : World) (e : Ending) (w' : World) : Prop := e = .returned (.tuple #[v, u, x]) ∧ Below w.heap.size w w'
theorem Fit.lt {n N : Nat} (h : Fit n N) : N < BB ^ n := h.1
/-- Block g alone is turned between two worlds. -/
structure Only (g : Nat) (w w' : World) : Prop where
 os : w'.os = w.os
 tape : w'.tape = w.tape
 output : w'.output = w.output
 size : w'.heap.size = w.heap.size
 block : ∀ k, k ≠ g → w'.heap[k]? = w.heap[k]?
theorem Only.refl (g : Nat) (w : World) : Only g w w := ⟨rfl, rfl, rfl, rfl, fun _ _ => rfl⟩
theorem Only.trans {g : Nat} {a b c : World} (h : Only g a b) (k : Only g b c) : Only g a c :=
 ⟨k.os.trans h.os, k.tape.trans h.tape, k.output.trans h.output, k.size.trans h.size, fun i hi => (k.block i hi).trans (h.block i hi)⟩
theorem Only.below {g B : Nat} {w w' : World} (h : Only g w w') (hB : B ≤ g) : Below B w w' :=
 ⟨h.os, h.tape, h.output, by rw [h.size]; exact Nat.le_refl _, fun k hk => h.block k (by omega)⟩
theorem Only.drew {g : Nat} {a w : World} (h : Only g a w) : Only g a w.drew := ⟨h.os, h.tape, h.output, h.size, h.block⟩
theorem Only.setCell (w : World) (g i : Nat) (v : Value) : Only g w (w.setCell ⟨g, i, none⟩ v) :=
 ⟨rfl, rfl, rfl, by simp [World.setCell], fun k hk => Below.heap_setCell _ _ _ _ hk⟩
theorem Lie.only {k : IntKind} {w w' : World} {a : Option Addr} {n c g : Nat} {f : Nat → Nat} (h : Lie k w a n c f) (ho : Only g w w') (hg : ∀ p, a = some p → p.block ≠ g) : Lie k w' a n c f :=
 ⟨h.cap, h.capm, h.nil, fun p hp => ⟨(h.spot p hp).1, by rw [ho.size]; exact (h.spot p hp).2⟩,
  fun p hp i hi => by rw [World.cell?_of_block (w := w) (a := ⟨p.block, p.off + i, none⟩) (ho.block p.block (hg p hp))]; exact h.cell p hp i hi⟩
/-- Block g is a row of n numbers of kind k (elements of type e) that may be written: the i-th one is f i. -/
def Own (k : IntKind) (e : TypeId) (w : World) (g n : Nat) (f : Nat → Nat) : Prop :=
 w.heap[g]? = some (.cells ((List.range n).map fun i => Value.int k (f i : Nat)).toArray e (0, 0))
section
variable {k : IntKind} {e : TypeId} {w : World} {g n : Nat} {f : Nat → Nat}
theorem Own.lt (h : Own k e w g n f) : g < w.heap.size := (Array.getElem?_eq_some_iff.1 h).1
theorem Own.cell (h : Own k e w g n f) (i : Nat) (hi : i < n) : w.cell? ⟨g, i, none⟩ = some (.int k (f i : Nat)) := by
 rw [cell_of_row w g i _ e (0, 0) h]
 simp [hi]
theorem Own.free (h : Own k e w g n f) (i : Nat) : w.frozen? ⟨g, i, none⟩ = false := by
 unfold Own at h
 simp [World.frozen?, h]
theorem Own.lie (h : Own k e w g n f) {m : Nat} (hm : m ≤ n) (hn : n ≤ maxLen) : Lie k w (some ⟨g, 0, none⟩) m n f :=
 ⟨hm, hn, (fun e => by cases e), (fun p hp => by cases hp; exact ⟨rfl, h.lt⟩), (fun p hp i hi => by cases hp; simpa using h.cell i (by omega))⟩
theorem Own.congr (h : Own k e w g n f) {f' : Nat → Nat} (hf : ∀ i, i < n → f i = f' i) : Own k e w g n f' := by
 unfold Own at h ⊢
 rw [h]
 congr 3
 refine List.map_congr_left fun i hi => ?_
 rw [hf i (by simpa using hi)]
theorem Own.below {w' : World} (h : Own k e w g n f) (hb : Below w.heap.size w w') : Own k e w' g n f := by
 unfold Own at h ⊢
 rw [hb.block g (Array.getElem?_eq_some_iff.1 h).1]; exact h
theorem Own.only {w' : World} {g' : Nat} (h : Own k e w g n f) (ho : Only g' w w') (hg : g ≠ g') : Own k e w' g n f := by
 unfold Own at h ⊢
 rw [ho.block g hg]; exact h
theorem Own.drew (h : Own k e w g n f) : Own k e w.drew g n f := h
theorem Own.set (h : Own k e w g n f) {i : Nat} (x : Nat) (hi : i < n) : Own k e (w.setCell ⟨g, i, none⟩ (.int k (x : Nat))) g n (fun j => if j = i then x else f j) := by
 unfold Own at h ⊢
 have hlt := (Array.getElem?_eq_some_iff.1 h).1
 simp only [World.setCell, Array.getElem?_modify, if_true, h, Option.map_some]
 congr 2
 apply Array.ext
 ·
  simp
 ·
  intro j h1 h2
  by_cases hj : j = i
  ·
   subst hj; simp
  ·
   simp [hj, Ne.symm hj, Array.getElem_setIfInBounds]
theorem Own.put (h : Own k e w g n f) {i : Nat} {x : Int} {F : Nat → Nat} (hi : i < n) (hx : x = (F i : Nat)) (hf : ∀ j, j < n → j ≠ i → f j = F j) : Own k e (w.setCell ⟨g, i, none⟩ (.int k x)) g n F := by
 subst hx
 refine (h.set (F i) hi).congr fun j hj => ?_
 by_cases e : j = i
 ·
  subst e; simp
 ·
  simp [e, hf j hj e]
end
/-- 'make([]T, n)': a new block of n noughts. -/
theorem wpList_mk {P : Program} (w : World) {ops : Array Oper} {rest : List Oper} {o : Oper} {a : Act} {Q : Exit → Act → World → Prop}
  (hg : o.guard = none) (l c : Operand) (t : TypeId) (hop : o.op = Op.makeSlice t l c)
  (e : TypeId) (k : IntKind) (bytes : Nat) (ht : P.underlying t = some (.slice e)) (hinfo : (P.info? e).map (fun i => (i.zero, i.size, i.bytes)) = some (some (.int k 0), 1, bytes))
  (L C : Int) (n : Nat) (hl : a.eval l = .int .i64 L) (hc : a.eval c = .int .i64 C) (hL : L = (n : Int)) (hC : C = (n : Int)) (hbytes : bytes * n ≤ 281474976710656) (hn : n ≤ 9223372036854775807)
  (hK : ∀ (g : Nat) (w' : World), w.heap.size ≤ g → Own k e w' g n (fun _ => 0) → Below w.heap.size w w' → wpList P ops Q rest (a.put o.dst (.slice (some ⟨g, 0, none⟩) n n)) w') :
  wpList P ops Q (o :: rest) a w := by
 refine wpList_plain hg fun K hK' => ?_
 subst hL
 subst hC
 have hrun := run_make_row' (P := P) t e (.int k 0) bytes ht hinfo rfl .i64 .i64 n hbytes hn w
 unfold Oper.wp
 simp [execOp, hop, hl, hc, hrun, Result.andThen]
 refine hK' _ _ (hK _ _ (Nat.le_refl _) ?_ ((Below.refl _ _).alloc (Nat.le_refl _) _))
 unfold Own
 rw [heap_alloc_new]
 congr 2
 apply Array.ext
 ·
  simp [madeCells]
 ·
  intro j h1 h2
  simp [madeCells, Nat.mod_one]
end Go.Proofs.Ytpahkpcoinbgcaa

/- As part Regv, with one operation that makes a variable wherever it comes in the order. No statement of the seat is proved here. -/
namespace Go.Proofs.Ytpahkpcoinbgcaa
open Go Go.RowKit
section
variable {P : Program}
def OpA (P : Program) (Q : Exit → Act → World → Prop) (o : Oper) (ops : Array Oper) (a : Act) (ds : List (Option Tmp)) (V : Nat → Value) (J : World → Prop) (A : Value → World → Prop) (i : Nat) (u : Nat → Value) (W : World) : Prop :=
 (Region.wanted o (yielded ops (layS a ds u 0).tmps) = false ∧ (layS a ds u 0).put o.dst undef = layS a ds (updV u i (V i)) 0) ∨
 (Region.wanted o (yielded ops (layS a ds u 0).tmps) = true ∧ ∀ K' : Act → World → Prop, (∀ a' W', a' = layS a ds (updV u i (V i)) 0 → J W' → (∀ v, A v W → A v W') → K' a' W') → Oper.wp P o (layS a ds u 0) W K' Q)
def OpN (P : Program) (Q : Exit → Act → World → Prop) (o : Oper) (a : Act) (ds : List (Option Tmp)) (J : World → Prop) (A : Value → World → Prop) (i : Nat) (u : Nat → Value) (W : World) : Prop :=
 o.guard = none ∧ ∀ K' : Act → World → Prop, (∀ a' W' v, a' = layS a ds (updV u i v) 0 → J W' → A v W' → K' a' W') → Oper.wp P o (layS a ds u 0) W K' Q
/-- The first n operations may come in any order, their values known ahead but for operation k, which makes a variable; the others come behind them, in one order. -/
theorem wp_region_valsA {Q : Exit → Act → World → Prop} {id : Nat} {a : Act} {w : World} {l : List Oper} (n k : Nat) (ds : List (Option Tmp)) (V : Nat → Value) (J : World → Prop) (A : Value → World → Prop) (hm : P.follows .mixedOrders = true) (hB : tailsB2 .any l.toArray n = true) (hn : ds.length ≤ n) (hk : k < n)
  (h0 : J w.drew)
  (make : ∀ (hi : k < l.length) (u : Nat → Value) (W : World), J W → OpN P Q l[k] a ds J A k u W)
  (step : ∀ i (hi : i < l.length), i < n → i ≠ k → ∀ (u : Nat → Value) (W : World), J W → (∀ j, j ≠ k → Region.waitsFor .any l.toArray i j = true → u j = V j) → OpA P Q l[i] l.toArray a ds V J A i u W)
  (fin : ∀ W v, J W → A v W → wpList P l.toArray Q (l.drop n) (layS a ds (updV V k v) 0) W) : (Code.region id l.toArray true).wp P Q a w := by
 have hl : n ≤ l.length := by
  have hB' := hB
  unfold tailsB2 at hB'
  simp only [Bool.and_eq_true, decide_eq_true_eq] at hB'
  simpa using hB'.1.1.1
 refine wp_region_inv2 n (fun L a' W => J W ∧ ∃ u : Nat → Value, (∀ j, j ≠ k → L j = true → u j = V j) ∧ (L k = true → A (u k) W) ∧ a' = layS a ds u 0) hm hB ⟨h0, fun k => ((ds.getD k none).map fun t => a.tmps.getD t undef).getD undef, nofun, nofun, ?_⟩ ?_ ?_
 ·
  refine (layS_self a ds _ 0 (fun j d hj => ?_)).symm
  have : ds.getD (0 + j) none = d := by rw [Nat.zero_add, List.getD_eq_getElem?_getD, hj]; rfl
  rw [this]
 ·
  rintro L a' W i hi ⟨hJ, u, hu, hA, rfl⟩ _ hw
  have hil : i < l.length := Nat.lt_of_lt_of_le hi hl
  refine wpOp_step (o := l[i]) (by simp [hil]) (fun K' hK => ?_)
  by_cases hik : i = k
  ·
   subst hik
   obtain ⟨h1, h2⟩ := make hil u W hJ
   rw [if_pos (by simp [Region.wanted, h1])]
   refine h2 K' (fun a' W' v e hj hv => hK _ _ ⟨hj, updV u i v, fun j hji hj => ?_, fun _ => by simpa [updV] using hv, e⟩)
   unfold updV
   rw [if_neg hji]
   exact hu j hji (by rw [upd_ne hji] at hj; exact hj)
  ·
   have key : ∀ W', J W' → (∀ v, A v W → A v W') → J W' ∧ ∃ u' : Nat → Value, (∀ j, j ≠ k → upd L i j = true → u' j = V j) ∧ (upd L i k = true → A (u' k) W') ∧ layS a ds (updV u i (V i)) 0 = layS a ds u' 0 := by
    intro W' hj hv
    refine ⟨hj, updV u i (V i), fun j hjk hj => ?_, fun hj => ?_, rfl⟩
    ·
     unfold updV
     by_cases h : j = i
     ·
      rw [if_pos h, h]
     ·
      rw [if_neg h]
      exact hu j hjk (by rw [upd_ne h] at hj; exact hj)
    ·
     unfold updV
     rw [if_neg (fun h => hik h.symm)]
     exact hv _ (hA (by rw [upd_ne (fun h => hik h.symm)] at hj; exact hj))
   rcases step i hil hi hik u W hJ (fun j hjk hj => hu j hjk (hw j hj)) with ⟨h1, h2⟩ | ⟨h1, h2⟩
   ·
    rw [if_neg (by rw [h1]; decide), h2]
    exact hK _ _ (key W hJ (fun _ h => h))
   ·
    rw [if_pos h1]
    refine h2 K' (fun a' W' e hj hv => ?_)
    subst e
    exact hK _ _ (key W' hj hv)
 ·
  rintro a' W ⟨L, hL, hJ, u, hu, hA, rfl⟩
  have e : layS a ds u 0 = layS a ds (updV V k (u k)) 0 := layS_congr ds a u _ 0 (fun j hj => by
   rw [Nat.zero_add]
   unfold updV
   by_cases h : j = k
   ·
    rw [if_pos h, h]
   ·
    rw [if_neg h]; exact hu j h (hL j (by omega)))
  rw [e]
  exact fin W _ hJ (hA (hL k hk))
end
/-- A variable made since, as it was made. -/
def Abox (m : Nat) (C : Array Value) (T : TypeId) (v : Value) (W : World) : Prop := ∃ b, v = .pointer (some ⟨b, 0, none⟩) ∧ m ≤ b ∧ W.heap[b]? = some (.cells C T (0, 0))
theorem Abox.later {m : Nat} {C : Array Value} {T : TypeId} {v : Value} {W W' : World} (h : Abox m C T v W) (hb : Below W.heap.size W W') : Abox m C T v W' := by
 obtain ⟨b, e, h1, h2⟩ := h
 exact ⟨b, e, h1, by rw [hb.block b (Array.getElem?_eq_some_iff.1 h2).1, h2]⟩
theorem abox_new {m : Nat} {C : Array Value} {T : TypeId} {W : World} (h : m ≤ W.heap.size) : Abox m C T (.pointer (some ⟨W.heap.size, 0, none⟩)) (W.alloc (.cells C T)) := ⟨_, rfl, h, by rw [heap_alloc_new]⟩
end Go.Proofs.Ytpahkpcoinbgcaa

/- As part Regv, where what an operation gives is known by a property that stays when memory grows; operations that make variables make unlike ones. No statement of the seat is proved here. -/
namespace Go.Proofs.Ytpahkpcoinbgcaa
open Go Go.RowKit
/-- A value is a given one. -/
def Veq (c : Value) (v : Value) (_ : World) : Prop := v = c
theorem Veq.later {c v : Value} {W W' : World} (h : Veq c v W) (_ : Below W.heap.size W W') : Veq c v W' := h
section
variable {P : Program}
end
theorem Abox.lt {m : Nat} {C : Array Value} {T : TypeId} {v : Value} {W : World} (h : Abox m C T v W) : ∃ b, v = .pointer (some ⟨b, 0, none⟩) ∧ b < W.heap.size := by
 obtain ⟨b, e, _, h2⟩ := h
 exact ⟨b, e, (Array.getElem?_eq_some_iff.1 h2).1⟩
/- Where operations may also store: the invariant names which operations are done and what they gave. -/
section
variable {P : Program}
end
end Go.Proofs.Ytpahkpcoinbgcaa

/- As part Regv, but an operation is shown with a frame of which only what it reads is known: its cost does not hang on the frame's size. No statement of the seat is proved here. -/
namespace Go.Proofs.Ytpahkpcoinbgcaa
open Go
theorem layS_size : ∀ (ds : List (Option Tmp)) (a : Act) (u : Nat → Value) (k : Nat), (layS a ds u k).tmps.size = a.tmps.size := by
 intro ds
 induction ds with
 | nil => intro a u k; rfl
 | cons d ds ih =>
  intro a u k
  show (layS (a.put d (u k)) ds u (k + 1)).tmps.size = _
  rw [ih]
  cases d <;> simp [Act.put]
theorem layS_defers : ∀ (ds : List (Option Tmp)) (a : Act) (u : Nat → Value) (k : Nat), (layS a ds u k).defers = a.defers := by
 intro ds
 induction ds with
 | nil => intro a u k; rfl
 | cons d ds ih =>
  intro a u k
  show (layS (a.put d (u k)) ds u (k + 1)).defers = _
  rw [ih]
  cases d <;> rfl
theorem put_get_ne (a : Act) (d : Option Tmp) (v : Value) (t : Nat) (h : d ≠ some t) : (a.put d v).tmps[t]? = a.tmps[t]? := by
 cases d with
 | none => rfl
 | some d =>
  show (a.tmps.setIfInBounds d v)[t]? = _
  rw [Array.getElem?_setIfInBounds_ne (fun e => h (by rw [e]))]
theorem layS_out : ∀ (ds : List (Option Tmp)) (a : Act) (u : Nat → Value) (k t : Nat), some t ∉ ds → (layS a ds u k).tmps[t]? = a.tmps[t]? := by
 intro ds
 induction ds with
 | nil => intro a u k t _; rfl
 | cons d ds ih =>
  intro a u k t h
  show (layS (a.put d (u k)) ds u (k + 1)).tmps[t]? = _
  rw [ih _ _ _ _ (fun hm => h (List.mem_cons_of_mem _ hm)), put_get_ne _ _ _ _ (fun e => h (by rw [e]; exact List.mem_cons_self))]
/-- No slot stands twice. -/
def slotsB : List (Option Tmp) → Bool
 | [] => true
 | none :: ds => slotsB ds
 | some d :: ds => !(ds.contains (some d)) && slotsB ds
theorem layS_in : ∀ (ds : List (Option Tmp)) (a : Act) (u : Nat → Value) (k j d : Nat), slotsB ds = true → ds[j]? = some (some d) → d < a.tmps.size → (layS a ds u k).tmps[d]? = some (u (k + j)) := by
 intro ds
 induction ds with
 | nil => intro a u k j d _ h; simp at h
 | cons e ds ih =>
  intro a u k j d hs h hd
  show (layS (a.put e (u k)) ds u (k + 1)).tmps[d]? = _
  have hs' : slotsB ds = true := by
   cases e with
   | none => exact hs
   | some e => unfold slotsB at hs; simp only [Bool.and_eq_true] at hs; exact hs.2
  cases j with
  | zero =>
   simp only [List.getElem?_cons_zero, Option.some.injEq] at h
   subst h
   have hn : some d ∉ ds := by
    unfold slotsB at hs
    simp only [Bool.and_eq_true, Bool.not_eq_true', List.contains_eq_mem, decide_eq_false_iff_not] at hs
    exact hs.1
   rw [layS_out _ _ _ _ _ hn]
   show (a.tmps.setIfInBounds d (u k))[d]? = _
   rw [Array.getElem?_setIfInBounds_self_of_lt hd]
   rfl
  | succ j =>
   have := ih (a.put e (u k)) u (k + 1) j d hs' (by simpa using h) (by cases e <;> simpa [Act.put] using hd)
   rw [this, Nat.add_assoc, Nat.add_comm 1 j]
theorem layS_put {ds : List (Option Tmp)} {a : Act} {u : Nat → Value} {i : Nat} {o : Option Tmp} (hs : slotsB ds = true) (hi : ds[i]? = some o) (v : Value) : (layS a ds u 0).put o v = layS a ds (updV u i v) 0 := by
 have hext : ∀ A B : Act, A.tmps = B.tmps → A.defers = B.defers → A = B := by
  intro A B h1 h2
  cases A; cases B; simp_all
 refine hext _ _ ?_ ?_
 ·
  apply Array.ext'
  apply List.ext_getElem?
  intro t
  rw [Array.getElem?_toList, Array.getElem?_toList]
  by_cases hm : some t ∈ ds
  ·
   obtain ⟨j, hj⟩ := List.mem_iff_getElem?.1 hm
   by_cases ht : t < a.tmps.size
   ·
    rw [layS_in ds a (updV u i v) 0 j t hs hj ht]
    by_cases hji : j = i
    ·
     subst hji
     rw [hi] at hj
     cases hj
     show ((layS a ds u 0).tmps.setIfInBounds t v)[t]? = _
     rw [Array.getElem?_setIfInBounds_self_of_lt (by rw [layS_size]; exact ht)]
     simp [updV]
    ·
     have hne : o ≠ some t := by
      intro e
      subst e
      have h1 := layS_in ds a (fun q => .int .i64 (q : Int)) 0 j t hs hj ht
      have h2 := layS_in ds a (fun q => .int .i64 (q : Int)) 0 i t hs hi ht
      rw [h1] at h2
      simp at h2
      omega
     rw [put_get_ne _ _ _ _ hne, layS_in ds a u 0 j t hs hj ht]
     simp [updV, hji]
   ·
    have h1 : ∀ A : Act, A.tmps.size = a.tmps.size → A.tmps[t]? = none := fun A hA => Array.getElem?_eq_none (by omega)
    rw [h1 _ (by cases o <;> simp [Act.put, layS_size]), h1 _ (layS_size _ _ _ _)]
  ·
   have hne : o ≠ some t := fun e => hm (by rw [← e]; exact List.mem_of_getElem? hi)
   rw [put_get_ne _ _ _ _ hne, layS_out _ _ _ _ _ hm, layS_out _ _ _ _ _ hm]
 ·
  rw [layS_defers]
  cases o <;> exact layS_defers _ _ _ _
section
variable {P : Program}
end
end Go.Proofs.Ytpahkpcoinbgcaa

/- The walk of guessed. -/
namespace Go.Proofs.Ytpahkpcoinbgcaa
open Go.RowKit
/-- What is known of the upper parts: D has tp, nx at its head, R has H, r2. -/
structure Heads (R D tp nx H r2 : Nat) : Prop where
 top : 1 ≤ tp
 qlt : R / D < 4294967296
 k1 : R / D * (tp * 4294967296 + nx) ≤ H * 4294967296 + r2
 k2 : H * 4294967296 + r2 < (R / D + 1) * (tp * 4294967296 + nx + 1)
 nxl : nx < 4294967296
 r2l : r2 < 4294967296
end Go.Proofs.Ytpahkpcoinbgcaa

/- The walk of groupsOf. -/
namespace Go.Proofs.Ytpahkpcoinbgcaa
open Go.RowKit
/-- The values of a list's numbers. -/
def vals (k : IntKind) (f : Nat → Nat) (n : Nat) : List Value := (List.range n).map fun i => Value.int k (f i : Nat)
theorem vals_len (k : IntKind) (f : Nat → Nat) (n : Nat) : (vals k f n).length = n := by simp [vals]
theorem vals_succ (k : IntKind) (f : Nat → Nat) (n : Nat) : vals k f n ++ [Value.int k (f n : Nat)] = vals k f (n + 1) := by simp [vals, List.range_succ]
theorem vals_get (k : IntKind) (f : Nat → Nat) (n i : Nat) (h : i < n) : (vals k f n)[i]? = some (Value.int k (f i : Nat)) := by simp [vals, h]
/-- What is owned by append's laws lies there. -/
theorem lie_owned {k : IntKind} {w : World} {base : Nat} {e : TypeId} {v : Value} {n : Nat} {f : Nat → Nat} (h : w.ownsRow base e 1 v n (vals k f n)) :
  ∃ (a : Option Addr) (c : Nat), v = .slice a n c ∧ Lie k w a n c f := by
 have hcs := h.2
 rcases hcs with ⟨rfl, rfl⟩ | ⟨g, cap, cur, rfl, hb, hg, hc, hm, hs, ht⟩
 ·
  exact ⟨none, 0, rfl, lie_nil _ _ _⟩
 ·
  refine ⟨_, cap, rfl, hc, hm, (fun e => by cases e), (fun p hp => by cases hp; exact ⟨rfl, (Array.getElem?_eq_some_iff.1 hg).1⟩), (fun p hp i hi => ?_)⟩
  cases hp
  have := h.cells (g := g) rfl i _ (vals_get k f n i hi)
  rw [show (⟨g, 0, none⟩ : Addr).add i = ⟨g, 0 + i, none⟩ from by unfold Addr.add; split <;> simp_all] at this
  exact this
theorem Lie.congr {k : IntKind} {w : World} {a : Option Addr} {n c : Nat} {f f' : Nat → Nat} (h : Lie k w a n c f) (hf : ∀ i, i < n → f i = f' i) : Lie k w a n c f' :=
 ⟨h.cap, h.capm, h.nil, h.spot, fun p hp i hi => by rw [← hf i hi]; exact h.cell p hp i hi⟩
end Go.Proofs.Ytpahkpcoinbgcaa

/- The walk of written. -/
namespace Go.Proofs.Ytpahkpcoinbgcaa
open Go.RowKit
/-- The k-th digit, from the lowest one on. -/
def dig (N k : Nat) : Nat := N / 10 ^ k % 10
theorem dig_lt (N k : Nat) : dig N k < 10 := Nat.mod_lt _ (by decide)
end Go.Proofs.Ytpahkpcoinbgcaa

/- The walks of raised and lowered. -/
namespace Go.Proofs.Ytpahkpcoinbgcaa
open Go.RowKit
/-- What is carried when a number is raised by s binary digits. -/
def rc (N s k : Nat) : Nat := N % BB ^ k * 2 ^ s / BB ^ k
end Go.Proofs.Ytpahkpcoinbgcaa

/- The walk of quotient, the case of a divisor of several parts. -/
namespace Go.Proofs.Ytpahkpcoinbgcaa
open Go.RowKit
theorem Own.grown {k : IntKind} {e : TypeId} {w w' : World} {g n : Nat} {f : Nat → Nat} {r : Option Nat} (h : Own k e w g n f) (hg : w.grownBy w' r) (hr : some g ≠ r) : Own k e w' g n f := by
 unfold Own at h ⊢
 rw [hg.block g (Array.getElem?_eq_some_iff.1 h).1 hr]; exact h
end Go.Proofs.Ytpahkpcoinbgcaa

/- The walks of package long's methods Sign, Cmp, Bits, Neg, Add, Mul. -/
namespace Go.Proofs.Ytpahkpcoinbgcaa
open Go.RowKit
theorem Num.zero_iff {w : World} {bl : Bool} {a : Option Addr} {n c : Nat} {z : Int} (h : Num w bl a n c z) : n = 0 ↔ z = 0 := by
 rw [fit_pos h.fit]; omega
/-- How two numbers stand to one another: -1, 0, 1. -/
def cmpI (x y : Int) : Int := if x < y then -1 else if y < x then 1 else 0
theorem only2 (w : World) (b : Nat) (u v : Value) : Only b w ((w.setCell ⟨b, 0, none⟩ u).setCell ⟨b, 1, none⟩ v) := (Only.setCell w b 0 u).trans (Only.setCell _ b 1 v)
theorem far2 {w : World} {b b' o : Nat} {u v x : Value} (h : w.cell? ⟨b, o, none⟩ = some x) (hne : b ≠ b') : ((w.setCell ⟨b', 0, none⟩ u).setCell ⟨b', 1, none⟩ v).cell? ⟨b, o, none⟩ = some x :=
 (World.cell?_of_block (w := w) (a := ⟨b, o, none⟩) ((only2 w b' u v).block b hne)).trans h
theorem Num.only {w w' : World} {bl : Bool} {a : Option Addr} {n c g : Nat} {z : Int} (h : Num w bl a n c z) (ho : Only g w w') (hg : ∀ p, a = some p → p.block ≠ g) : Num w' bl a n c z := ⟨h.lie.only ho hg, h.fit, h.sgn⟩
theorem sg_not {bl : Bool} {z : Int} (h : bl = decide (z < 0)) : sg (!bl) z.natAbs = -z := by
 subst h
 by_cases hz : z < 0
 ·
  simp [sg, hz]; omega
 ·
  simp [sg, hz]; omega
end Go.Proofs.Ytpahkpcoinbgcaa

/- The walks of Mul, Add, Sub. -/
namespace Go.Proofs.Ytpahkpcoinbgcaa
open Go.RowKit
/-- Two numbers in boxes of their own, and a place for the result, behind what was there. -/
structure Boxed (w w1 : World) (bl : Bool) (a : Option Addr) (n c : Nat) (bl' : Bool) (a' : Option Addr) (n' c' : Nat) : Prop where
 below : Below w.heap.size w w1
 k0 : w1.cell? ⟨w.heap.size, 0, none⟩ = some (.bool bl)
 k1 : w1.cell? ⟨w.heap.size, 1, none⟩ = some (.slice a n c)
 l0 : w1.cell? ⟨w.heap.size + 1, 0, none⟩ = some (.bool bl')
 l1 : w1.cell? ⟨w.heap.size + 1, 1, none⟩ = some (.slice a' n' c')
 r0 : w1.cell? ⟨w.heap.size + 2, 0, none⟩ = some (.bool false)
 r1 : w1.cell? ⟨w.heap.size + 2, 1, none⟩ = some (.slice none 0 0)
 f0 : w1.frozen? ⟨w.heap.size + 2, 0, none⟩ = false
 f1 : w1.frozen? ⟨w.heap.size + 2, 1, none⟩ = false
 sz : w.heap.size + 2 < w1.heap.size
theorem boxed_mk (w : World) (t : TypeId) (bl : Bool) (a : Option Addr) (n c : Nat) (bl' : Bool) (a' : Option Addr) (n' c' : Nat) :
  Boxed w (((w.alloc (.cells #[.bool bl, .slice a n c] t)).alloc (.cells #[.bool bl', .slice a' n' c'] t)).alloc (.cells #[.bool false, .slice none 0 0] t)) bl a n c bl' a' n' c' :=
 ⟨(((Below.refl w.heap.size w).alloc (Nat.le_refl _) _).alloc (by simp) _).alloc (by simp; omega) _, by simp [go_sem], by simp [go_sem], by simp [go_sem], by simp [go_sem], by simp [go_sem], by simp [go_sem], by simp [go_sem], by simp [go_sem], by simp⟩
theorem Boxed.later {w w1 w2 : World} {bl : Bool} {a : Option Addr} {n c : Nat} {bl' : Bool} {a' : Option Addr} {n' c' : Nat} (h : Boxed w w1 bl a n c bl' a' n' c') (hb : Below w1.heap.size w1 w2) : Boxed w w2 bl a n c bl' a' n' c' := by
 have hs := h.sz
 exact ⟨h.below.trans (hb.mono h.below.size), (hb.cell (p := ⟨w.heap.size, 0, none⟩) (by show w.heap.size < _; omega)).trans h.k0, (hb.cell (p := ⟨w.heap.size, 1, none⟩) (by show w.heap.size < _; omega)).trans h.k1,
  (hb.cell (p := ⟨w.heap.size + 1, 0, none⟩) (by show w.heap.size + 1 < _; omega)).trans h.l0, (hb.cell (p := ⟨w.heap.size + 1, 1, none⟩) (by show w.heap.size + 1 < _; omega)).trans h.l1,
  (hb.cell (p := ⟨w.heap.size + 2, 0, none⟩) hs).trans h.r0, (hb.cell (p := ⟨w.heap.size + 2, 1, none⟩) hs).trans h.r1, (hb.frozen (p := ⟨w.heap.size + 2, 0, none⟩) hs).trans h.f0, (hb.frozen (p := ⟨w.heap.size + 2, 1, none⟩) hs).trans h.f1,
  Nat.lt_of_lt_of_le hs hb.size⟩
theorem below_undrew {B : Nat} {w w' : World} (h : Below B w.drew w') : Below B w w' := ⟨h.os, h.tape, h.output, h.size, h.block⟩
theorem Boxed.drew {w w1 : World} {bl : Bool} {a : Option Addr} {n c : Nat} {bl' : Bool} {a' : Option Addr} {n' c' : Nat} (h : Boxed w w1 bl a n c bl' a' n' c') : Boxed w w1.drew bl a n c bl' a' n' c' := h.later (Below.refl _ _).drew
/-- What the loads of a region read, in a world of its run. -/
def HS (w : World) (bl : Bool) (a : Option Addr) (n c : Nat) (bl' : Bool) (a' : Option Addr) (n' c' : Nat) (w' : World) : Prop :=
 w'.cell? ⟨w.heap.size, 0, none⟩ = some (.bool bl) ∧ w'.cell? ⟨w.heap.size, 1, none⟩ = some (.slice a n c) ∧ w'.cell? ⟨w.heap.size + 1, 0, none⟩ = some (.bool bl') ∧ w'.cell? ⟨w.heap.size + 1, 1, none⟩ = some (.slice a' n' c')
theorem Boxed.hs {w w1 : World} {bl : Bool} {a : Option Addr} {n c : Nat} {bl' : Bool} {a' : Option Addr} {n' c' : Nat} (h : Boxed w w1 bl a n c bl' a' n' c') : HS w bl a n c bl' a' n' c' w1 := ⟨h.k0, h.k1, h.l0, h.l1⟩
theorem Boxed.hs2 {w w1 : World} {bl : Bool} {a : Option Addr} {n c : Nat} {bl' : Bool} {a' : Option Addr} {n' c' : Nat} (h : Boxed w w1 bl a n c bl' a' n' c') (u v : Value) : HS w bl a n c bl' a' n' c' ((w1.setCell ⟨w.heap.size + 2, 0, none⟩ u).setCell ⟨w.heap.size + 2, 1, none⟩ v) :=
 ⟨far2 h.k0 (by omega), far2 h.k1 (by omega), far2 h.l0 (by omega), far2 h.l1 (by omega)⟩
theorem sg_mul {bl bl' : Bool} {x y : Int} (h : bl = decide (x < 0)) (h' : bl' = decide (y < 0)) : sg (!(bl == bl')) (x.natAbs * y.natAbs) = x * y := by
 rw [← Int.natAbs_mul]
 unfold sg
 have e : (x * y).natAbs = x.natAbs * y.natAbs := Int.natAbs_mul x y
 by_cases hx : x < 0 <;> by_cases hy : y < 0
 ·
  have : 0 ≤ x * y := Int.mul_nonneg_of_nonpos_of_nonpos (by omega) (by omega)
  simp [h, h', hx, hy]; omega
 ·
  have : x * y ≤ 0 := Int.mul_nonpos_of_nonpos_of_nonneg (by omega) (by omega)
  simp [h, h', hx, hy]; omega
 ·
  have : x * y ≤ 0 := Int.mul_nonpos_of_nonneg_of_nonpos (by omega) (by omega)
  simp [h, h', hx, hy]; omega
 ·
  have : 0 ≤ x * y := Int.mul_nonneg (by omega) (by omega)
  simp [h, h', hx, hy]; omega
theorem sg_add1 {bl bl' : Bool} {x y : Int} (h : bl = decide (x < 0)) (h' : bl' = decide (y < 0)) (hb : (bl == bl') = true) : sg bl (x.natAbs + y.natAbs) = x + y := by
 by_cases hx : x < 0 <;> by_cases hy : y < 0 <;> simp [h, h', hx, hy] at hb <;> simp [sg, h, hx] <;> omega
theorem sg_add2 {bl bl' : Bool} {x y : Int} (h : bl = decide (x < 0)) (h' : bl' = decide (y < 0)) (hb : (bl == bl') = false) (hc : x.natAbs < y.natAbs) : sg bl' (y.natAbs - x.natAbs) = x + y := by
 by_cases hx : x < 0 <;> by_cases hy : y < 0 <;> simp [h, h', hx, hy] at hb <;> simp [sg, h', hy] <;> omega
theorem sg_add3 {bl bl' : Bool} {x y : Int} (h : bl = decide (x < 0)) (h' : bl' = decide (y < 0)) (hb : (bl == bl') = false) (hc : ¬ x.natAbs < y.natAbs) : sg bl (x.natAbs - y.natAbs) = x + y := by
 by_cases hx : x < 0 <;> by_cases hy : y < 0 <;> simp [h, h', hx, hy] at hb <;> simp [sg, h, hx] <;> omega
end Go.Proofs.Ytpahkpcoinbgcaa

/- The walks of Of, Root, Quo, Small. -/
namespace Go.Proofs.Ytpahkpcoinbgcaa
open Go.RowKit
/-- A place for a number that is a result, behind what was there. -/
structure ResAt (w w1 : World) (r : Nat) : Prop where
 below : Below w.heap.size w w1
 r0 : w1.cell? ⟨r, 0, none⟩ = some (.bool false)
 r1 : w1.cell? ⟨r, 1, none⟩ = some (.slice none 0 0)
 f0 : w1.frozen? ⟨r, 0, none⟩ = false
 f1 : w1.frozen? ⟨r, 1, none⟩ = false
 lo : w.heap.size ≤ r
 sz : r < w1.heap.size
theorem ResAt.later {w w1 w2 : World} {r : Nat} (h : ResAt w w1 r) (hb : Below w1.heap.size w1 w2) : ResAt w w2 r :=
 ⟨h.below.trans (hb.mono h.below.size), (hb.cell (p := ⟨r, 0, none⟩) h.sz).trans h.r0, (hb.cell (p := ⟨r, 1, none⟩) h.sz).trans h.r1, (hb.frozen (p := ⟨r, 0, none⟩) h.sz).trans h.f0, (hb.frozen (p := ⟨r, 1, none⟩) h.sz).trans h.f1, h.lo, Nat.lt_of_lt_of_le h.sz hb.size⟩
end Go.Proofs.Ytpahkpcoinbgcaa

/- The walk of Root. -/
namespace Go.Proofs.Ytpahkpcoinbgcaa
open Go.RowKit
theorem box_res (w : World) (t : TypeId) (o : Obj) : ResAt w ((w.alloc o).alloc (.cells #[.bool false, .slice none 0 0] t)) (w.heap.size + 1) :=
 ⟨((Below.refl w.heap.size w).alloc (Nat.le_refl _) _).alloc (by simp) _, by simp [go_sem], by simp [go_sem], by simp [go_sem], by simp [go_sem], by omega, by simp⟩
end Go.Proofs.Ytpahkpcoinbgcaa

/- The walk of Parse. -/
namespace Go.Proofs.Ytpahkpcoinbgcaa
open Go.RowKit
theorem res_one (w : World) (t : TypeId) : ResAt w (w.alloc (.cells #[.bool false, .slice none 0 0] t)) w.heap.size :=
 ⟨(Below.refl w.heap.size w).alloc (Nat.le_refl _) _, by simp [go_sem], by simp [go_sem], by simp [go_sem], by simp [go_sem], Nat.le_refl _, by simp⟩
end Go.Proofs.Ytpahkpcoinbgcaa

/- The document's own numbers: decimal digits, the lowest first. The walks of its made and Parse. -/
namespace Go.Proofs.Ytpahkpcoinbgcaa
open Go.RowKit
/-- n is how many digits N has. -/
def Fit10 (n N : Nat) : Prop := N < 10 ^ n ∧ (n = 0 ∨ 10 ^ (n - 1) ≤ N)
theorem p10 (k : Nat) : 0 < 10 ^ k := Nat.pow_pos (by decide)
theorem dig_top {N k : Nat} (h : N < 10 ^ (k + 1)) : dig N k = N / 10 ^ k := by
 unfold dig
 exact Nat.mod_eq_of_lt (Nat.div_lt_of_lt_mul (by rw [← Nat.pow_succ]; exact h))
theorem dig_zero {B m i : Nat} (h : B < 10 ^ m) (hi : m ≤ i) : dig B i = 0 := by
 unfold dig
 rw [Nat.div_eq_of_lt (Nat.lt_of_lt_of_le h (Nat.pow_le_pow_right (by decide) hi))]
theorem fit10_step {N k : Nat} (hk : 1 ≤ k) (h : N < 10 ^ k) (hz : dig N (k - 1) = 0) : N < 10 ^ (k - 1) := by
 obtain ⟨j, rfl⟩ : ∃ j, k = j + 1 := ⟨k - 1, by omega⟩
 simp only [Nat.add_sub_cancel] at hz ⊢
 rw [dig_top h] at hz
 rcases Nat.div_eq_zero_iff.1 hz with h0 | h0
 ·
  have := p10 j; omega
 ·
  exact h0
theorem fit10_end {N k : Nat} (hz : dig N (k - 1) ≠ 0) : 10 ^ (k - 1) ≤ N := by
 refine Nat.le_of_not_lt fun h => hz ?_
 unfold dig
 rw [Nat.div_eq_of_lt h]
theorem fit10_zero : Fit10 0 0 := ⟨by simp, .inl rfl⟩
theorem fit10_pos {n N : Nat} (h : Fit10 n N) : n = 0 ↔ N = 0 := by
 constructor
 ·
  intro e; subst e; have := h.1; simp at this; exact this
 ·
  intro e; subst e
  rcases h.2 with h0 | h0
  ·
   exact h0
  ·
   have := p10 (n - 1); omega
/-- A number of the document's: its sign, its digits in memory. -/
structure RNum (w : World) (bl : Bool) (a : Option Addr) (n c : Nat) (z : Int) : Prop where
 lie : Lie .i64 w a n c (dig z.natAbs)
 fit : Fit10 n z.natAbs
 sgn : bl = decide (z < 0)
theorem RNum.below {w w' : World} {bl : Bool} {a : Option Addr} {n c : Nat} {z : Int} (h : RNum w bl a n c z) (hb : Below w.heap.size w w') : RNum w' bl a n c z := ⟨h.lie.below hb, h.fit, h.sgn⟩
theorem RNum.only {w w' : World} {bl : Bool} {a : Option Addr} {n c g : Nat} {z : Int} (h : RNum w bl a n c z) (ho : Only g w w') (hg : ∀ p, a = some p → p.block ≠ g) : RNum w' bl a n c z := ⟨h.lie.only ho hg, h.fit, h.sgn⟩
theorem rnum_zero (w : World) : RNum w false none 0 0 0 := ⟨lie_nil _ _ _, fit10_zero, rfl⟩
/-- A number is handed back whose digits lie in the memory of a. -/
def PRMade (a : Option Addr) (z : Int) (w : World) (e : Ending) (w' : World) : Prop :=
 ∃ (bl : Bool) (n c : Nat), e = .returned (.agg #[.bool bl, .slice a n c]) ∧ RNum w' bl a n c z ∧ Below w.heap.size w w'
theorem below_one (w : World) (t : TypeId) : Below w.heap.size w (w.alloc (.cells #[.bool false, .slice none 0 0] t)) := (Below.refl _ _).alloc (Nat.le_refl _) _
set_option maxHeartbeats 800000 in
theorem rmade_any (bl : Bool) (a : Option Addr) (n c N : Nat) (w : World) (hl : Lie .i64 w a n c (dig N)) (hN : N < 10 ^ n) :
  Calls Try.prog 110 #[.bool bl, .slice a n c] w (PRMade a (sg bl N) w) := by
 have hcm := hl.capm
 have hnc := hl.cap
 unfold maxLen at hcm
 have hB := below_one w 71
 have hl1 := hl.below hB
 have hspot := hl.spot
 go_enter Try.func110, Try.ntmps110
 go_wp2
 go_loop [5] (fun i => ∃ k : Nat, k ≤ n ∧ i = .int .i64 k ∧ N < 10 ^ k) (fun i => (intOf i).toNat)
 case atStart => exact ⟨n, Nat.le_refl _, rfl, hN⟩
 case round =>
  obtain ⟨k, hk, rfl, hNk⟩ := hrel
  have HN := Lib.hid hNk
  clear hNk hN
  by_cases hp : 0 < k
  ·
   obtain ⟨b, o, rfl, hb⟩ := hl.some_of_pos (by omega)
   have hcell := hl1.at (k - 1) (by omega)
   by_cases hz : dig N (k - 1) = 0
   ·
    have hz' : ((dig N (k - 1) : Int) == 0) = true := by rw [hz]; rfl
    have HZ := Lib.hid hz
    clear hz hl hl1 hspot
    go_wp2
    go_round
    case rel => exact ⟨k - 1, by omega, by go_num, fit10_step (by omega) HN.out HZ.out⟩
    case measure => simp [intOf]; omega
   ·
    have hz' : ((dig N (k - 1) : Int) == 0) = false := by simpa using hz
    have HZ := Lib.hid hz
    have HL := Lib.hid (hl.cut hk)
    have HP : Hid (0 < N) := Nat.lt_of_lt_of_le (p10 _) (fit10_end HZ.out)
    clear hz hl hl1 hspot
    have hd : decide (0 < k) = true := decide_eq_true hp
    cases bl
    ·
     go_wp2
     refine bodyPost_ret (v := .agg #[.bool false, .slice (some ⟨b, o, none⟩) k c]) (by simp [results, Try.results110, go_sem]) rfl ?_
     exact ⟨false, k, c, rfl, ⟨by rw [sg_abs]; exact HL.out.below ((Below.refl _ _).alloc (Nat.le_refl _) _), by rw [sg_abs]; exact ⟨HN.out, .inr (fit10_end HZ.out)⟩, (sg_neg false N HP.out).symm⟩, (Below.refl _ _).alloc (Nat.le_refl _) _⟩
    ·
     go_wp2
     refine bodyPost_ret (v := .agg #[.bool true, .slice (some ⟨b, o, none⟩) k c]) (by simp [results, Try.results110, go_sem]) rfl ?_
     exact ⟨true, k, c, rfl, ⟨by rw [sg_abs]; exact HL.out.below ((Below.refl _ _).alloc (Nat.le_refl _) _), by rw [sg_abs]; exact ⟨HN.out, .inr (fit10_end HZ.out)⟩, (sg_neg true N HP.out).symm⟩, (Below.refl _ _).alloc (Nat.le_refl _) _⟩
  ·
   obtain rfl : k = 0 := by omega
   have hN0 : N = 0 := by have := HN.out; rw [Nat.pow_zero] at this; omega
   have HL := Lib.hid (hl.cut hk)
   have HV : Hid (sg bl N = 0) := by show _ = _; rw [hN0]; cases bl <;> rfl
   have hsp : ∃ a' : Option Addr, a' = a ∧ ∀ p, a' = some p → p.spot = none := ⟨a, rfl, fun p hp => (hspot p hp).1⟩
   clear hl1 hl hspot hN0
   rcases a with _ | ⟨b, o, s⟩
   ·
    obtain ⟨e1, e2⟩ := HL.out.nil rfl
    subst e2
    have hn0 : n = 0 := by omega
    subst hn0
    cases bl
    all_goals
     go_wp2
     refine bodyPost_ret (v := .agg #[.bool false, .slice none 0 0]) (by simp [results, Try.results110, go_sem]) rfl ?_
     exact ⟨false, 0, 0, rfl, by rw [HV.out]; exact rnum_zero _, (Below.refl _ _).alloc (Nat.le_refl _) _⟩
   ·
    obtain ⟨a', ha', hs'⟩ := hsp
    have hss : s = none := hs' ⟨b, o, s⟩ ha'
    subst hss
    clear ha' hs'
    cases bl
    all_goals
     go_wp2
     refine bodyPost_ret (v := .agg #[.bool false, .slice (some ⟨b, o, none⟩) 0 c]) (by simp [results, Try.results110, go_sem]) rfl ?_
     refine ⟨false, 0, c, rfl, ?_, (Below.refl _ _).alloc (Nat.le_refl _) _⟩
     rw [HV.out]
     exact ⟨(HL.out.below ((Below.refl _ _).alloc (Nat.le_refl _) _)).congr (fun i hi => by omega), fit10_zero, rfl⟩
end Go.Proofs.Ytpahkpcoinbgcaa
