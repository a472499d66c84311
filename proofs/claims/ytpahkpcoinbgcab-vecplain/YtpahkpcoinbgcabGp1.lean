/- Parts of the proof. -/
import Derived.StillTail
import Derived.Deep.RegionHeld3
import Derived.KernelRfl
import Derived.WalkKit
import Derived.WalkSpells
import Derived.WalkLawsBesides
import Derived.Lib.Hide
import Derived.Laws.CopyOwn
import Derived.Deep.OwnRows
import Derived.Deep.QuietTactic
import Derived.BigQuiet
import Derived.Deep.DeepCutAuto
import Derived.Test.YtpahkpcoinbgcabProg
import Derived.Laws.BitsAllLaws
import Derived.Deep.LoopGhost
import Derived.Test.YtpahkpcoinbgcabShelf
import Derived.Lib.Strings
import Derived.Lib.ItoaNum
import Derived.IntWalk
import Derived.Laws.AppendOwnNone
import Derived.Defers
import Derived.Lib.MinMax
/- A law for regions that draw their order: a head whose operations may come in any order, each shown once under an invariant that says what has been done, and a tail in one order. No statement of the seat is proved here. -/
namespace Go.Proofs.Ytpahkpcoinbgcab
open Go
section
variable {P : Program} {ops : Array Oper} {md : Region.Mode}
/-- Heads wait for what stands ahead of them alone; each operation of the tail waits for all ahead of it; behind the head the tail goes in its order. -/
def tailsB (md : Region.Mode) (ops : Array Oper) (n : Nat) : Bool :=
 decide (n ≤ ops.size) &&
 ((List.range n).all fun i => match ops[i]? with
  | some o => o.after.all fun e => !Region.binds md e || decide (e.on < i)
  | none => false) &&
 ((List.range ops.size).all fun j => decide (j < n) || (List.range n).all fun i => Region.waitsFor md ops j i) &&
 Region.seqB md ops (ops.size - n) n (Array.replicate n true ++ Array.replicate (ops.size - n) false)
/-- What has been done, and i. -/
def upd (L : Nat → Bool) (i : Nat) : Nat → Bool := fun j => if j = i then true else L j
theorem upd_ne {L : Nat → Bool} {i j : Nat} (h : j ≠ i) : upd L i j = L j := by simp [upd, h]
theorem getD_upd {listed : Array Bool} {i : Nat} (hi : i < listed.size) : (fun j => (listed.setIfInBounds i true).getD j false) = upd (fun j => listed.getD j false) i := by
 funext j
 unfold upd
 by_cases h : j = i
 ·
  subst h; simp [hi]
 ·
  rw [if_neg h]; exact getD_set_ne false (fun e => h e.symm)
/-- How many of the first n are not listed. -/
def unl (listed : Array Bool) (n : Nat) : Nat := ((List.range n).filter fun i => !listed.getD i false).length
theorem unl_set {listed : Array Bool} {n i : Nat} (hi : i < n) (hs : n ≤ listed.size) (hu : listed.getD i false = false) : unl listed n = unl (listed.setIfInBounds i true) n + 1 := by
 unfold unl
 induction n with
 | zero => omega
 | succ n ih =>
  rw [List.range_succ, List.filter_append, List.filter_append, List.length_append, List.length_append]
  by_cases h : i = n
  ·
   subst h
   have e1 : (List.range i).filter (fun j => !listed.getD j false) = (List.range i).filter (fun j => !(listed.setIfInBounds i true).getD j false) := by
    refine List.filter_congr fun j hj => ?_
    rw [getD_set_ne false (by have := List.mem_range.1 hj; omega)]
   have e2 : (listed.setIfInBounds i true).getD i false = true := by simp [show i < listed.size by omega]
   rw [e1]
   simp only [List.filter_cons, List.filter_nil, hu, e2]
   simp
  ·
   have := ih (by omega) (by omega)
   rw [this]
   have e3 : (listed.setIfInBounds i true).getD n false = listed.getD n false := getD_set_ne false h
   simp only [List.filter_cons, List.filter_nil, e3]
   omega
theorem unl_zero {listed : Array Bool} {n : Nat} (h : unl listed n = 0) : ∀ i, i < n → listed.getD i false = true := by
 intro i hi
 unfold unl at h
 have h1 := List.filter_eq_nil_iff.1 (List.eq_nil_of_length_eq_zero h) i (List.mem_range.2 hi)
 simpa using h1
theorem unl_pos {listed : Array Bool} {n : Nat} (h : 0 < unl listed n) : ∃ i, i < n ∧ listed.getD i false = false ∧ ∀ j, j < i → listed.getD j false = true := by
 induction n with
 | zero => simp [unl] at h
 | succ n ih =>
  by_cases h0 : 0 < unl listed n
  ·
   obtain ⟨i, h1, h2, h3⟩ := ih h0
   exact ⟨i, by omega, h2, h3⟩
  ·
   have hz := unl_zero (listed := listed) (n := n) (by omega)
   refine ⟨n, by omega, ?_, hz⟩
   cases hl : listed.getD n false with
   | false => rfl
   | true =>
    exfalso
    have e : unl listed (n + 1) = unl listed n := by
     unfold unl
     rw [List.range_succ, List.filter_append, List.length_append]
     simp only [List.filter_cons, List.filter_nil, hl]
     simp
    omega
end
end Go.Proofs.Ytpahkpcoinbgcab

/- A law for regions that draw their order and whose operations' values are known ahead: each operation is shown once; what the world keeps is one invariant. No statement of the seat is proved here. -/
namespace Go.Proofs.Ytpahkpcoinbgcab
open Go
/-- A frame with the region's slots laid in. -/
def layS (a : Act) : List (Option Tmp) → (Nat → Value) → Nat → Act
 | [], _, _ => a
 | d :: ds, u, k => layS (a.put d (u k)) ds u (k + 1)
def updV (u : Nat → Value) (i : Nat) (v : Value) : Nat → Value := fun j => if j = i then v else u j
def lstV (vs : List Value) (k : Nat) : Value := vs.getD k undef
theorem put_self (a : Act) (d : Option Tmp) : a.put d ((d.map fun t => a.tmps.getD t undef).getD undef) = a := by
 cases d with
 | none => rfl
 | some t =>
  obtain ⟨tmps, defers⟩ := a
  simp only [Act.put, Option.map_some, Option.getD_some, Act.mk.injEq, and_true]
  apply Array.ext
  ·
   simp
  ·
   intro i h1 h2
   by_cases h : t = i
   ·
    subst h; simp [h2]
   ·
    rw [Array.getElem_setIfInBounds h2, if_neg h]
theorem layS_self (a : Act) : ∀ (ds : List (Option Tmp)) (u : Nat → Value) (k : Nat), (∀ j d, ds[j]? = some d → u (k + j) = (d.map fun t => a.tmps.getD t undef).getD undef) → layS a ds u k = a := by
 intro ds
 induction ds with
 | nil => intro u k _; rfl
 | cons d ds ih =>
  intro u k h
  have h0 := h 0 d rfl
  rw [Nat.add_zero] at h0
  show layS (a.put d (u k)) ds u (k + 1) = a
  rw [h0, put_self]
  exact ih u (k + 1) (fun j d' hj => by rw [Nat.add_assoc, Nat.add_comm 1 j]; exact h (j + 1) d' (by simpa using hj))
theorem layS_congr : ∀ (ds : List (Option Tmp)) (a : Act) (u v : Nat → Value) (k : Nat), (∀ j, j < ds.length → u (k + j) = v (k + j)) → layS a ds u k = layS a ds v k := by
 intro ds
 induction ds with
 | nil => intro a u v k _; rfl
 | cons d ds ih =>
  intro a u v k h
  show layS (a.put d (u k)) ds u (k + 1) = layS (a.put d (v k)) ds v (k + 1)
  have h0 := h 0 (by simp)
  rw [Nat.add_zero] at h0
  rw [h0]
  exact ih _ u v (k + 1) (fun j hj => by rw [Nat.add_assoc, Nat.add_comm 1 j]; exact h (j + 1) (by simpa using hj))
section
variable {P : Program} {ops : Array Oper} {md : Region.Mode}
/-- Does operation j wait for i, or for what waits for it? -/
def waitsB (md : Region.Mode) (ops : Array Oper) : Nat → Nat → Nat → Bool
 | 0, j, i => Region.waitsFor md ops j i
 | f + 1, j, i => Region.waitsFor md ops j i || (List.range ops.size).any fun k => Region.waitsFor md ops j k && waitsB md ops f k i
theorem waitsB_done {L : Nat → Bool} (hc : ∀ k j, L k = true → Region.waitsFor md ops k j = true → L j = true) : ∀ (f j i : Nat), (∀ k, Region.waitsFor md ops j k = true → L k = true) → waitsB md ops f j i = true → L i = true := by
 intro f
 induction f with
 | zero => intro j i h hw; exact h i hw
 | succ f ih =>
  intro j i h hw
  unfold waitsB at hw
  rw [Bool.or_eq_true] at hw
  rcases hw with h0 | h0
  ·
   exact h i h0
  ·
   obtain ⟨k, _, hk⟩ := List.any_eq_true.1 h0
   simp only [Bool.and_eq_true] at hk
   exact ih k i (fun m hm => hc k m (h k hk.1) hm) hk.2
/-- As tailsB; but the tail may wait for the head through others. -/
def tailsB2 (md : Region.Mode) (ops : Array Oper) (n : Nat) : Bool :=
 decide (n ≤ ops.size) &&
 ((List.range n).all fun i => match ops[i]? with
  | some o => o.after.all fun e => !Region.binds md e || decide (e.on < i)
  | none => false) &&
 ((List.range ops.size).all fun j => decide (j < n) || (List.range n).all fun i => waitsB md ops 3 j i) &&
 Region.seqB md ops (ops.size - n) n (Array.replicate n true ++ Array.replicate (ops.size - n) false)
theorem wpAny_inv2 {Q : Exit → Act → World → Prop} {n : Nat} {I : (Nat → Bool) → Act → World → Prop} {l : List Oper} (hl : l.toArray = ops) (hB : tailsB2 md ops n = true)
  (step : ∀ L a w i, i < n → I L a w → L i = false → (∀ j, Region.waitsFor md ops i j = true → L j = true) → wpOp P ops Q i (I (upd L i)) a w)
  (fin : ∀ a w, (∃ L, (∀ j, j < n → L j = true) ∧ I L a w) → wpList P ops Q (l.drop n) a w) :
  ∀ (f : Nat) (listed : Array Bool) (a : Act) (w : World), listed.size = ops.size → (∀ t, n ≤ t → listed.getD t false = false) → unl listed n = f → (∀ k j, listed.getD k false = true → Region.waitsFor md ops k j = true → listed.getD j false = true) → I (fun j => listed.getD j false) a w →
   wpAny P md ops Q (f + (ops.size - n)) listed a w := by
 unfold tailsB2 at hB
 simp only [Bool.and_eq_true, decide_eq_true_eq] at hB
 obtain ⟨⟨⟨hn, hhead⟩, htail⟩, hseq⟩ := hB
 have hdl : (l.drop n).length = ops.size - n := by rw [← hl]; simp
 intro f
 induction f with
 | zero =>
  intro listed a w hs ht hu hcl hI
  have hz := unl_zero hu
  have e : listed = Array.replicate n true ++ Array.replicate (ops.size - n) false := by
   apply Array.ext
   ·
    simp; omega
   ·
    intro i h1 h2
    have hg : listed[i] = listed.getD i false := by simp [h1]
    rw [hg]
    by_cases hi : i < n
    ·
     rw [hz i hi, Array.getElem_append_left (by simpa using hi)]; simp
    ·
     rw [ht i (by omega), Array.getElem_append_right (by simpa using hi)]; simp
  rw [Nat.zero_add]
  have := wpAny_of_seq (P := P) (md := md) (ops := ops) (Q' := Q) (l.drop n) n listed a w (fun j => by rw [← hl]; simp [List.getElem?_drop]) (by rw [hdl, e]; exact hseq) (fin a w ⟨_, hz, hI⟩)
  rwa [hdl] at this
 | succ f ih =>
  intro listed a w hs ht hu hcl hI
  obtain ⟨i0, hi0, hi0u, hi0l⟩ := unl_pos (listed := listed) (n := n) (by omega)
  have hne : Region.ready md ops listed ≠ [] := by
   intro h0
   have hm : i0 ∈ Region.ready md ops listed := by
    have h1 := List.all_eq_true.1 hhead i0 (List.mem_range.2 hi0)
    have hlt : i0 < ops.size := by omega
    rw [Array.getElem?_eq_getElem hlt] at h1
    refine mem_ready.2 ⟨getD_in (by omega) hi0u, ops[i0], Array.getElem?_eq_getElem hlt, fun e he hb => ?_⟩
    have h2 := Array.all_eq_true'.1 h1 e he
    simp only [hb, Bool.not_true, Bool.false_or, decide_eq_true_eq] at h2
    exact hi0l _ h2
   rw [h0] at hm; cases hm
  rw [show f + 1 + (ops.size - n) = (f + (ops.size - n)) + 1 by omega]
  refine ⟨fun h0 => absurd h0 hne, fun i hi => ?_⟩
  obtain ⟨hiu, oi, hoi, hall⟩ := mem_ready.1 hi
  have hilt : i < ops.size := (Array.getElem?_eq_some_iff.1 hoi).1
  have hiu' := getD_both hiu
  have hin : i < n := by
   rcases Nat.lt_or_ge i n with h | h
   ·
    exact h
   ·
    exfalso
    have h1 := List.all_eq_true.1 htail i (List.mem_range.2 hilt)
    simp only [Bool.or_eq_true, decide_eq_true_eq] at h1
    rcases h1 with h1 | h1
    ·
     omega
    ·
     have h2 := List.all_eq_true.1 h1 i0 (List.mem_range.2 hi0)
     have h3 := waitsB_done (L := fun j => listed.getD j false) hcl 3 i i0 (fun k hk => by
      obtain ⟨o', ho', e, he, hb, hon⟩ := Region.waitsFor_spec hk
      have : o' = oi := Option.some.inj (ho'.symm.trans hoi)
      subst this
      show listed.getD k false = true
      rw [← hon]; exact hall e he hb) h2
     change listed.getD i0 false = true at h3
     rw [hi0u] at h3; cases h3
  have hst := step _ a w i hin hI hiu' (fun j hj => by
   obtain ⟨o', ho', e, he, hb, hon⟩ := Region.waitsFor_spec hj
   have : o' = oi := Option.some.inj (ho'.symm.trans hoi)
   subst this
   rw [← hon]; exact hall e he hb)
  refine wpOp_mono (fun a' w' h' => ?_) hst
  refine ih (listed.setIfInBounds i true) a' w' (by simp [hs]) (fun t h => by rw [getD_set_ne false (by omega)]; exact ht t h) ?_ ?_ ?_
  ·
   have := unl_set hin (by omega) hiu'; omega
  ·
   intro k j hk hw
   have hkl : listed.getD k false = true ∨ k = i := by
    by_cases e : k = i
    ·
     exact .inr e
    ·
     rw [getD_set_ne false (fun x => e x.symm)] at hk; exact .inl hk
   have hj : listed.getD j false = true := by
    rcases hkl with h | rfl
    ·
     exact hcl k j h hw
    ·
     obtain ⟨o', ho', e, he, hb, hon⟩ := Region.waitsFor_spec hw
     have : o' = oi := Option.some.inj (ho'.symm.trans hoi)
     subst this
     rw [← hon]; exact hall e he hb
   by_cases e : j = i
   ·
    subst e; simp [show j < listed.size by omega]
   ·
    rw [getD_set_ne false (fun x => e x.symm)]; exact hj
  ·
   rw [getD_upd (by omega)]; exact h'
theorem wp_region_inv2 {Q : Exit → Act → World → Prop} {id : Nat} {a : Act} {w : World} {l : List Oper} (n : Nat) (I : (Nat → Bool) → Act → World → Prop) (hm : P.follows .mixedOrders = true) (hB : tailsB2 .any l.toArray n = true)
  (h0 : I (fun _ => false) a w.drew)
  (step : ∀ L a w i, i < n → I L a w → L i = false → (∀ j, Region.waitsFor .any l.toArray i j = true → L j = true) → wpOp P l.toArray Q i (I (upd L i)) a w)
  (fin : ∀ a w, (∃ L, (∀ j, j < n → L j = true) ∧ I L a w) → wpList P l.toArray Q (l.drop n) a w) : (Code.region id l.toArray true).wp P Q a w := by
 refine wp_region_any hm ?_
 have hB' := hB
 unfold tailsB2 at hB'
 simp only [Bool.and_eq_true, decide_eq_true_eq] at hB'
 have hn := hB'.1.1.1
 have hu : unl (Array.replicate l.toArray.size false) n = n := by
  unfold unl
  rw [List.filter_eq_self.2 (fun i _ => by rw [getD_replicate_false]; rfl), List.length_range]
 have := wpAny_inv2 (P := P) (md := .any) (Q := Q) (n := n) (I := I) (l := l) rfl hB step fin n (Array.replicate l.toArray.size false) a w.drew (by simp) (fun t _ => getD_replicate_false _ _) hu (fun k j hk => by rw [getD_replicate_false] at hk; cases hk) (by
  rw [show (fun j => (Array.replicate l.toArray.size false).getD j false) = fun _ => false from funext fun j => getD_replicate_false _ _]; exact h0)
 rwa [show n + (l.toArray.size - n) = l.toArray.size by omega] at this
end
section
variable {P : Program}
/-- What is to be shown of an operation of such a region: it is skipped, or it runs and gives its value. -/
def OpV (P : Program) (Q : Exit → Act → World → Prop) (o : Oper) (ops : Array Oper) (a : Act) (ds : List (Option Tmp)) (V : Nat → Value) (J : World → Prop) (i : Nat) (u : Nat → Value) (W : World) : Prop :=
 (Region.wanted o (yielded ops (layS a ds u 0).tmps) = false ∧ (layS a ds u 0).put o.dst undef = layS a ds (updV u i (V i)) 0) ∨
 (Region.wanted o (yielded ops (layS a ds u 0).tmps) = true ∧ ∀ K' : Act → World → Prop, (∀ a' W', a' = layS a ds (updV u i (V i)) 0 → J W' → K' a' W') → Oper.wp P o (layS a ds u 0) W K' Q)
theorem opV_step {Q : Exit → Act → World → Prop} {l : List Oper} {a : Act} {ds : List (Option Tmp)} {V : Nat → Value} {J : World → Prop} {i : Nat} {u : Nat → Value} {W : World} (hi : i < l.length) (hJ : J W) (h : OpV P Q l[i] l.toArray a ds V J i u W) :
  wpOp P l.toArray Q i (fun a' W' => a' = layS a ds (updV u i (V i)) 0 ∧ J W') (layS a ds u 0) W := by
 refine wpOp_step (o := l[i]) (by simp [hi]) (fun K' hK => ?_)
 rcases h with ⟨h1, h2⟩ | ⟨h1, h2⟩
 ·
  rw [if_neg (by rw [h1]; decide), h2]
  exact hK _ _ ⟨rfl, hJ⟩
 ·
  rw [if_pos h1]
  exact h2 K' (fun a' W' e hj => hK _ _ ⟨e, hj⟩)
/-- The first n operations may come in any order, their values known ahead; the others come behind them, in one order. -/
theorem wp_region_vals {Q : Exit → Act → World → Prop} {id : Nat} {a : Act} {w : World} {l : List Oper} (n : Nat) (ds : List (Option Tmp)) (V : Nat → Value) (J : World → Prop) (hm : P.follows .mixedOrders = true) (hB : tailsB2 .any l.toArray n = true) (hn : ds.length ≤ n)
  (h0 : J w.drew)
  (step : ∀ i (hi : i < l.length), i < n → ∀ (u : Nat → Value) (W : World), J W → (∀ j, Region.waitsFor .any l.toArray i j = true → u j = V j) → OpV P Q l[i] l.toArray a ds V J i u W)
  (fin : ∀ W, J W → wpList P l.toArray Q (l.drop n) (layS a ds V 0) W) : (Code.region id l.toArray true).wp P Q a w := by
 have hl : n ≤ l.length := by
  have hB' := hB
  unfold tailsB2 at hB'
  simp only [Bool.and_eq_true, decide_eq_true_eq] at hB'
  simpa using hB'.1.1.1
 refine wp_region_inv2 n (fun L a' W => J W ∧ ∃ u : Nat → Value, (∀ j, L j = true → u j = V j) ∧ a' = layS a ds u 0) hm hB ⟨h0, fun k => ((ds.getD k none).map fun t => a.tmps.getD t undef).getD undef, nofun, ?_⟩ ?_ ?_
 ·
  refine (layS_self a ds _ 0 (fun j d hj => ?_)).symm
  have : ds.getD (0 + j) none = d := by rw [Nat.zero_add, List.getD_eq_getElem?_getD, hj]; rfl
  rw [this]
 ·
  rintro L a' W i hi ⟨hJ, u, hu, rfl⟩ _ hw
  refine wpOp_mono ?_ (opV_step (Nat.lt_of_lt_of_le hi hl) hJ (step i (Nat.lt_of_lt_of_le hi hl) hi u W hJ (fun j hj => hu j (hw j hj))))
  rintro a' W' ⟨rfl, hJ'⟩
  refine ⟨hJ', updV u i (V i), fun j hj => ?_, rfl⟩
  unfold updV
  by_cases h : j = i
  ·
   rw [if_pos h, h]
  ·
   rw [if_neg h]
   exact hu j (by rw [upd_ne h] at hj; exact hj)
 ·
  rintro a' W ⟨L, hL, hJ, u, hu, rfl⟩
  rw [layS_congr ds a u V 0 (fun j hj => by rw [Nat.zero_add]; exact hu j (hL j (by omega)))]
  exact fin W hJ
end
end Go.Proofs.Ytpahkpcoinbgcab

/- What the walks of this seat lean on: numbers that lie in slices of memory, part by part; no statement of the seat is proved here. -/
namespace Go.Proofs.Ytpahkpcoinbgcab
open Go.RowKit
/-- The base of the parts: 2^32. -/
def BB : Nat := 4294967296
/-- The i-th part of a number. -/
def lmb (N i : Nat) : Nat := N / BB ^ i % BB
/-- n is how many parts N has. -/
def Fit (n N : Nat) : Prop := N < BB ^ n ∧ (n = 0 ∨ BB ^ (n - 1) ≤ N)
/-- A slice (address a, length n, capacity c) of n numbers of kind k: the i-th one is f i. -/
structure Lie (k : IntKind) (w : World) (a : Option Addr) (n c : Nat) (f : Nat → Nat) : Prop where
 cap : n ≤ c
 capm : c ≤ maxLen
 nil : a = none → n = 0 ∧ c = 0
 spot : ∀ p, a = some p → p.spot = none ∧ p.block < w.heap.size
 cell : ∀ p, a = some p → ∀ i, i < n → w.cell? ⟨p.block, p.off + i, none⟩ = some (.int k (f i : Nat))
theorem Lie.at {k : IntKind} {w : World} {b o n c : Nat} {f : Nat → Nat} (h : Lie k w (some ⟨b, o, none⟩) n c f) (i : Nat) (hi : i < n) :
  w.cell? ⟨b, o + i, none⟩ = some (.int k (f i : Nat)) := h.cell _ rfl i hi
theorem Lie.below {k : IntKind} {w w' : World} {a : Option Addr} {n c : Nat} {f : Nat → Nat} (h : Lie k w a n c f) (hb : Below w.heap.size w w') : Lie k w' a n c f :=
 ⟨h.cap, h.capm, h.nil, fun p hp => ⟨(h.spot p hp).1, Nat.lt_of_lt_of_le (h.spot p hp).2 hb.size⟩,
  fun p hp i hi => by rw [hb.cell (p := ⟨p.block, p.off + i, none⟩) (h.spot p hp).2]; exact h.cell p hp i hi⟩
theorem Lie.cut {k : IntKind} {w : World} {a : Option Addr} {n c m : Nat} {f : Nat → Nat} (h : Lie k w a n c f) (hm : m ≤ n) : Lie k w a m c f :=
 ⟨Nat.le_trans hm h.cap, h.capm, fun e => ⟨by have := (h.nil e).1; omega, (h.nil e).2⟩, h.spot, fun p hp i hi => h.cell p hp i (by omega)⟩
theorem ret_int {k : IntKind} {a b : Int} (h : a = b) : Ending.returned (.int k a) = .returned (.int k b) := by rw [h]
/-- A number of package long: its sign, its parts in memory. -/
structure Num (w : World) (bl : Bool) (a : Option Addr) (n c : Nat) (z : Int) : Prop where
 lie : Lie .u32 w a n c (lmb z.natAbs)
 fit : Fit n z.natAbs
 sgn : bl = decide (z < 0)
theorem Num.below {w w' : World} {bl : Bool} {a : Option Addr} {n c : Nat} {z : Int} (h : Num w bl a n c z) (hb : Below w.heap.size w w') : Num w' bl a n c z := ⟨h.lie.below hb, h.fit, h.sgn⟩
/-- A value is handed back, and no memory that was there is turned. -/
def PVal (v : Value) (w : World) (e : Ending) (w' : World) : Prop := e = .returned v ∧ Below w.heap.size w w'
/-- Two values are handed back, and no memory that was there is turned. -/
def PVal2 (v u : Value) (w : World) (e : Ending) (w' : World) : Prop := e = .returned (.tuple #[v, u]) ∧ Below w.heap.size w w'
/-- Three values are handed back, and no memory that was there is turned. -/
def PVal3 (v u x : Value) (w : World) (e : Ending) (w' : World) : Prop := e = .returned (.tuple #[v, u, x]) ∧ Below w.heap.size w w'
theorem Fit.lt {n N : Nat} (h : Fit n N) : N < BB ^ n := h.1
/-- Block g alone is turned between two worlds. -/
structure Only (g : Nat) (w w' : World) : Prop where
 os : w'.os = w.os
 tape : w'.tape = w.tape
 output : w'.output = w.output
 size : w'.heap.size = w.heap.size
 block : ∀ k, k ≠ g → w'.heap[k]? = w.heap[k]?
theorem Only.refl (g : Nat) (w : World) : Only g w w := ⟨rfl, rfl, rfl, rfl, fun _ _ => rfl⟩
theorem Only.trans {g : Nat} {a b c : World} (h : Only g a b) (k : Only g b c) : Only g a c :=
 ⟨k.os.trans h.os, k.tape.trans h.tape, k.output.trans h.output, k.size.trans h.size, fun i hi => (k.block i hi).trans (h.block i hi)⟩
theorem Only.below {g B : Nat} {w w' : World} (h : Only g w w') (hB : B ≤ g) : Below B w w' :=
 ⟨h.os, h.tape, h.output, by rw [h.size]; exact Nat.le_refl _, fun k hk => h.block k (by omega)⟩
theorem Only.drew {g : Nat} {a w : World} (h : Only g a w) : Only g a w.drew := ⟨h.os, h.tape, h.output, h.size, h.block⟩
theorem Only.setCell (w : World) (g i : Nat) (v : Value) : Only g w (w.setCell ⟨g, i, none⟩ v) :=
 ⟨rfl, rfl, rfl, by simp [World.setCell], fun k hk => Below.heap_setCell _ _ _ _ hk⟩
theorem Lie.only {k : IntKind} {w w' : World} {a : Option Addr} {n c g : Nat} {f : Nat → Nat} (h : Lie k w a n c f) (ho : Only g w w') (hg : ∀ p, a = some p → p.block ≠ g) : Lie k w' a n c f :=
 ⟨h.cap, h.capm, h.nil, fun p hp => ⟨(h.spot p hp).1, by rw [ho.size]; exact (h.spot p hp).2⟩,
  fun p hp i hi => by rw [World.cell?_of_block (w := w) (a := ⟨p.block, p.off + i, none⟩) (ho.block p.block (hg p hp))]; exact h.cell p hp i hi⟩
/-- Block g is a row of n numbers of kind k (elements of type e) that may be written: the i-th one is f i. -/
def Own (k : IntKind) (e : TypeId) (w : World) (g n : Nat) (f : Nat → Nat) : Prop :=
 w.heap[g]? = some (.cells ((List.range n).map fun i => Value.int k (f i : Nat)).toArray e (0, 0))
section
variable {k : IntKind} {e : TypeId} {w : World} {g n : Nat} {f : Nat → Nat}
theorem Own.lt (h : Own k e w g n f) : g < w.heap.size := (Array.getElem?_eq_some_iff.1 h).1
theorem Own.cell (h : Own k e w g n f) (i : Nat) (hi : i < n) : w.cell? ⟨g, i, none⟩ = some (.int k (f i : Nat)) := by
 rw [cell_of_row w g i _ e (0, 0) h]
 simp [hi]
theorem Own.free (h : Own k e w g n f) (i : Nat) : w.frozen? ⟨g, i, none⟩ = false := by
 unfold Own at h
 simp [World.frozen?, h]
theorem Own.lie (h : Own k e w g n f) {m : Nat} (hm : m ≤ n) (hn : n ≤ maxLen) : Lie k w (some ⟨g, 0, none⟩) m n f :=
 ⟨hm, hn, (fun e => by cases e), (fun p hp => by cases hp; exact ⟨rfl, h.lt⟩), (fun p hp i hi => by cases hp; simpa using h.cell i (by omega))⟩
theorem Own.congr (h : Own k e w g n f) {f' : Nat → Nat} (hf : ∀ i, i < n → f i = f' i) : Own k e w g n f' := by
 unfold Own at h ⊢
 rw [h]
 congr 3
 refine List.map_congr_left fun i hi => ?_
 rw [hf i (by simpa using hi)]
theorem Own.below {w' : World} (h : Own k e w g n f) (hb : Below w.heap.size w w') : Own k e w' g n f := by
 unfold Own at h ⊢
 rw [hb.block g (Array.getElem?_eq_some_iff.1 h).1]; exact h
theorem Own.only {w' : World} {g' : Nat} (h : Own k e w g n f) (ho : Only g' w w') (hg : g ≠ g') : Own k e w' g n f := by
 unfold Own at h ⊢
 rw [ho.block g hg]; exact h
theorem Own.drew (h : Own k e w g n f) : Own k e w.drew g n f := h
theorem Own.set (h : Own k e w g n f) {i : Nat} (x : Nat) (hi : i < n) : Own k e (w.setCell ⟨g, i, none⟩ (.int k (x : Nat))) g n (fun j => if j = i then x else f j) := by
 unfold Own at h ⊢
 have hlt := (Array.getElem?_eq_some_iff.1 h).1
 simp only [World.setCell, Array.getElem?_modify, if_true, h, Option.map_some]
 congr 2
 apply Array.ext
 ·
  simp
 ·
  intro j h1 h2
  by_cases hj : j = i
  ·
   subst hj; simp
  ·
   simp [hj, Ne.symm hj, Array.getElem_setIfInBounds]
theorem Own.put (h : Own k e w g n f) {i : Nat} {x : Int} {F : Nat → Nat} (hi : i < n) (hx : x = (F i : Nat)) (hf : ∀ j, j < n → j ≠ i → f j = F j) : Own k e (w.setCell ⟨g, i, none⟩ (.int k x)) g n F := by
 subst hx
 refine (h.set (F i) hi).congr fun j hj => ?_
 by_cases e : j = i
 ·
  subst e; simp
 ·
  simp [e, hf j hj e]
end
end Go.Proofs.Ytpahkpcoinbgcab

/- As part Regv, with one operation that makes a variable wherever it comes in the order. No statement of the seat is proved here. -/
namespace Go.Proofs.Ytpahkpcoinbgcab
open Go Go.RowKit
section
variable {P : Program}
def OpA (P : Program) (Q : Exit → Act → World → Prop) (o : Oper) (ops : Array Oper) (a : Act) (ds : List (Option Tmp)) (V : Nat → Value) (J : World → Prop) (A : Value → World → Prop) (i : Nat) (u : Nat → Value) (W : World) : Prop :=
 (Region.wanted o (yielded ops (layS a ds u 0).tmps) = false ∧ (layS a ds u 0).put o.dst undef = layS a ds (updV u i (V i)) 0) ∨
 (Region.wanted o (yielded ops (layS a ds u 0).tmps) = true ∧ ∀ K' : Act → World → Prop, (∀ a' W', a' = layS a ds (updV u i (V i)) 0 → J W' → (∀ v, A v W → A v W') → K' a' W') → Oper.wp P o (layS a ds u 0) W K' Q)
def OpN (P : Program) (Q : Exit → Act → World → Prop) (o : Oper) (a : Act) (ds : List (Option Tmp)) (J : World → Prop) (A : Value → World → Prop) (i : Nat) (u : Nat → Value) (W : World) : Prop :=
 o.guard = none ∧ ∀ K' : Act → World → Prop, (∀ a' W' v, a' = layS a ds (updV u i v) 0 → J W' → A v W' → K' a' W') → Oper.wp P o (layS a ds u 0) W K' Q
/-- The first n operations may come in any order, their values known ahead but for operation k, which makes a variable; the others come behind them, in one order. -/
theorem wp_region_valsA {Q : Exit → Act → World → Prop} {id : Nat} {a : Act} {w : World} {l : List Oper} (n k : Nat) (ds : List (Option Tmp)) (V : Nat → Value) (J : World → Prop) (A : Value → World → Prop) (hm : P.follows .mixedOrders = true) (hB : tailsB2 .any l.toArray n = true) (hn : ds.length ≤ n) (hk : k < n)
  (h0 : J w.drew)
  (make : ∀ (hi : k < l.length) (u : Nat → Value) (W : World), J W → OpN P Q l[k] a ds J A k u W)
  (step : ∀ i (hi : i < l.length), i < n → i ≠ k → ∀ (u : Nat → Value) (W : World), J W → (∀ j, j ≠ k → Region.waitsFor .any l.toArray i j = true → u j = V j) → OpA P Q l[i] l.toArray a ds V J A i u W)
  (fin : ∀ W v, J W → A v W → wpList P l.toArray Q (l.drop n) (layS a ds (updV V k v) 0) W) : (Code.region id l.toArray true).wp P Q a w := by
 have hl : n ≤ l.length := by
  have hB' := hB
  unfold tailsB2 at hB'
  simp only [Bool.and_eq_true, decide_eq_true_eq] at hB'
  simpa using hB'.1.1.1
 refine wp_region_inv2 n (fun L a' W => J W ∧ ∃ u : Nat → Value, (∀ j, j ≠ k → L j = true → u j = V j) ∧ (L k = true → A (u k) W) ∧ a' = layS a ds u 0) hm hB ⟨h0, fun k => ((ds.getD k none).map fun t => a.tmps.getD t undef).getD undef, nofun, nofun, ?_⟩ ?_ ?_
 ·
  refine (layS_self a ds _ 0 (fun j d hj => ?_)).symm
  have : ds.getD (0 + j) none = d := by rw [Nat.zero_add, List.getD_eq_getElem?_getD, hj]; rfl
  rw [this]
 ·
  rintro L a' W i hi ⟨hJ, u, hu, hA, rfl⟩ _ hw
  have hil : i < l.length := Nat.lt_of_lt_of_le hi hl
  refine wpOp_step (o := l[i]) (by simp [hil]) (fun K' hK => ?_)
  by_cases hik : i = k
  ·
   subst hik
   obtain ⟨h1, h2⟩ := make hil u W hJ
   rw [if_pos (by simp [Region.wanted, h1])]
   refine h2 K' (fun a' W' v e hj hv => hK _ _ ⟨hj, updV u i v, fun j hji hj => ?_, fun _ => by simpa [updV] using hv, e⟩)
   unfold updV
   rw [if_neg hji]
   exact hu j hji (by rw [upd_ne hji] at hj; exact hj)
  ·
   have key : ∀ W', J W' → (∀ v, A v W → A v W') → J W' ∧ ∃ u' : Nat → Value, (∀ j, j ≠ k → upd L i j = true → u' j = V j) ∧ (upd L i k = true → A (u' k) W') ∧ layS a ds (updV u i (V i)) 0 = layS a ds u' 0 := by
    intro W' hj hv
    refine ⟨hj, updV u i (V i), fun j hjk hj => ?_, fun hj => ?_, rfl⟩
    ·
     unfold updV
     by_cases h : j = i
     ·
      rw [if_pos h, h]
     ·
      rw [if_neg h]
      exact hu j hjk (by rw [upd_ne h] at hj; exact hj)
    ·
     unfold updV
     rw [if_neg (fun h => hik h.symm)]
     exact hv _ (hA (by rw [upd_ne (fun h => hik h.symm)] at hj; exact hj))
   rcases step i hil hi hik u W hJ (fun j hjk hj => hu j hjk (hw j hj)) with ⟨h1, h2⟩ | ⟨h1, h2⟩
   ·
    rw [if_neg (by rw [h1]; decide), h2]
    exact hK _ _ (key W hJ (fun _ h => h))
   ·
    rw [if_pos h1]
    refine h2 K' (fun a' W' e hj hv => ?_)
    subst e
    exact hK _ _ (key W' hj hv)
 ·
  rintro a' W ⟨L, hL, hJ, u, hu, hA, rfl⟩
  have e : layS a ds u 0 = layS a ds (updV V k (u k)) 0 := layS_congr ds a u _ 0 (fun j hj => by
   rw [Nat.zero_add]
   unfold updV
   by_cases h : j = k
   ·
    rw [if_pos h, h]
   ·
    rw [if_neg h]; exact hu j h (hL j (by omega)))
  rw [e]
  exact fin W _ hJ (hA (hL k hk))
end
/-- A variable made since, as it was made. -/
def Abox (m : Nat) (C : Array Value) (T : TypeId) (v : Value) (W : World) : Prop := ∃ b, v = .pointer (some ⟨b, 0, none⟩) ∧ m ≤ b ∧ W.heap[b]? = some (.cells C T (0, 0))
theorem Abox.later {m : Nat} {C : Array Value} {T : TypeId} {v : Value} {W W' : World} (h : Abox m C T v W) (hb : Below W.heap.size W W') : Abox m C T v W' := by
 obtain ⟨b, e, h1, h2⟩ := h
 exact ⟨b, e, h1, by rw [hb.block b (Array.getElem?_eq_some_iff.1 h2).1, h2]⟩
theorem abox_new {m : Nat} {C : Array Value} {T : TypeId} {W : World} (h : m ≤ W.heap.size) : Abox m C T (.pointer (some ⟨W.heap.size, 0, none⟩)) (W.alloc (.cells C T)) := ⟨_, rfl, h, by rw [heap_alloc_new]⟩
end Go.Proofs.Ytpahkpcoinbgcab

/- As part Regv, where what an operation gives is known by a property that stays when memory grows; operations that make variables make unlike ones. No statement of the seat is proved here. -/
namespace Go.Proofs.Ytpahkpcoinbgcab
open Go Go.RowKit
/-- A value is a given one. -/
def Veq (c : Value) (v : Value) (_ : World) : Prop := v = c
theorem Veq.later {c v : Value} {W W' : World} (h : Veq c v W) (_ : Below W.heap.size W W') : Veq c v W' := h
section
variable {P : Program}
end
theorem Abox.lt {m : Nat} {C : Array Value} {T : TypeId} {v : Value} {W : World} (h : Abox m C T v W) : ∃ b, v = .pointer (some ⟨b, 0, none⟩) ∧ b < W.heap.size := by
 obtain ⟨b, e, _, h2⟩ := h
 exact ⟨b, e, (Array.getElem?_eq_some_iff.1 h2).1⟩
/- Where operations may also store: the invariant names which operations are done and what they gave. -/
section
variable {P : Program}
end
end Go.Proofs.Ytpahkpcoinbgcab

/- As part Regv, but an operation is shown with a frame of which only what it reads is known: its cost does not hang on the frame's size. No statement of the seat is proved here. -/
namespace Go.Proofs.Ytpahkpcoinbgcab
open Go
theorem layS_size : ∀ (ds : List (Option Tmp)) (a : Act) (u : Nat → Value) (k : Nat), (layS a ds u k).tmps.size = a.tmps.size := by
 intro ds
 induction ds with
 | nil => intro a u k; rfl
 | cons d ds ih =>
  intro a u k
  show (layS (a.put d (u k)) ds u (k + 1)).tmps.size = _
  rw [ih]
  cases d <;> simp [Act.put]
theorem layS_defers : ∀ (ds : List (Option Tmp)) (a : Act) (u : Nat → Value) (k : Nat), (layS a ds u k).defers = a.defers := by
 intro ds
 induction ds with
 | nil => intro a u k; rfl
 | cons d ds ih =>
  intro a u k
  show (layS (a.put d (u k)) ds u (k + 1)).defers = _
  rw [ih]
  cases d <;> rfl
theorem put_get_ne (a : Act) (d : Option Tmp) (v : Value) (t : Nat) (h : d ≠ some t) : (a.put d v).tmps[t]? = a.tmps[t]? := by
 cases d with
 | none => rfl
 | some d =>
  show (a.tmps.setIfInBounds d v)[t]? = _
  rw [Array.getElem?_setIfInBounds_ne (fun e => h (by rw [e]))]
theorem layS_out : ∀ (ds : List (Option Tmp)) (a : Act) (u : Nat → Value) (k t : Nat), some t ∉ ds → (layS a ds u k).tmps[t]? = a.tmps[t]? := by
 intro ds
 induction ds with
 | nil => intro a u k t _; rfl
 | cons d ds ih =>
  intro a u k t h
  show (layS (a.put d (u k)) ds u (k + 1)).tmps[t]? = _
  rw [ih _ _ _ _ (fun hm => h (List.mem_cons_of_mem _ hm)), put_get_ne _ _ _ _ (fun e => h (by rw [e]; exact List.mem_cons_self))]
/-- No slot stands twice. -/
def slotsB : List (Option Tmp) → Bool
 | [] => true
 | none :: ds => slotsB ds
 | some d :: ds => !(ds.contains (some d)) && slotsB ds
theorem layS_in : ∀ (ds : List (Option Tmp)) (a : Act) (u : Nat → Value) (k j d : Nat), slotsB ds = true → ds[j]? = some (some d) → d < a.tmps.size → (layS a ds u k).tmps[d]? = some (u (k + j)) := by
 intro ds
 induction ds with
 | nil => intro a u k j d _ h; simp at h
 | cons e ds ih =>
  intro a u k j d hs h hd
  show (layS (a.put e (u k)) ds u (k + 1)).tmps[d]? = _
  have hs' : slotsB ds = true := by
   cases e with
   | none => exact hs
   | some e => unfold slotsB at hs; simp only [Bool.and_eq_true] at hs; exact hs.2
  cases j with
  | zero =>
   simp only [List.getElem?_cons_zero, Option.some.injEq] at h
   subst h
   have hn : some d ∉ ds := by
    unfold slotsB at hs
    simp only [Bool.and_eq_true, Bool.not_eq_true', List.contains_eq_mem, decide_eq_false_iff_not] at hs
    exact hs.1
   rw [layS_out _ _ _ _ _ hn]
   show (a.tmps.setIfInBounds d (u k))[d]? = _
   rw [Array.getElem?_setIfInBounds_self_of_lt hd]
   rfl
  | succ j =>
   have := ih (a.put e (u k)) u (k + 1) j d hs' (by simpa using h) (by cases e <;> simpa [Act.put] using hd)
   rw [this, Nat.add_assoc, Nat.add_comm 1 j]
theorem layS_put {ds : List (Option Tmp)} {a : Act} {u : Nat → Value} {i : Nat} {o : Option Tmp} (hs : slotsB ds = true) (hi : ds[i]? = some o) (v : Value) : (layS a ds u 0).put o v = layS a ds (updV u i v) 0 := by
 have hext : ∀ A B : Act, A.tmps = B.tmps → A.defers = B.defers → A = B := by
  intro A B h1 h2
  cases A; cases B; simp_all
 refine hext _ _ ?_ ?_
 ·
  apply Array.ext'
  apply List.ext_getElem?
  intro t
  rw [Array.getElem?_toList, Array.getElem?_toList]
  by_cases hm : some t ∈ ds
  ·
   obtain ⟨j, hj⟩ := List.mem_iff_getElem?.1 hm
   by_cases ht : t < a.tmps.size
   ·
    rw [layS_in ds a (updV u i v) 0 j t hs hj ht]
    by_cases hji : j = i
    ·
     subst hji
     rw [hi] at hj
     cases hj
     show ((layS a ds u 0).tmps.setIfInBounds t v)[t]? = _
     rw [Array.getElem?_setIfInBounds_self_of_lt (by rw [layS_size]; exact ht)]
     simp [updV]
    ·
     have hne : o ≠ some t := by
      intro e
      subst e
      have h1 := layS_in ds a (fun q => .int .i64 (q : Int)) 0 j t hs hj ht
      have h2 := layS_in ds a (fun q => .int .i64 (q : Int)) 0 i t hs hi ht
      rw [h1] at h2
      simp at h2
      omega
     rw [put_get_ne _ _ _ _ hne, layS_in ds a u 0 j t hs hj ht]
     simp [updV, hji]
   ·
    have h1 : ∀ A : Act, A.tmps.size = a.tmps.size → A.tmps[t]? = none := fun A hA => Array.getElem?_eq_none (by omega)
    rw [h1 _ (by cases o <;> simp [Act.put, layS_size]), h1 _ (layS_size _ _ _ _)]
  ·
   have hne : o ≠ some t := fun e => hm (by rw [← e]; exact List.mem_of_getElem? hi)
   rw [put_get_ne _ _ _ _ hne, layS_out _ _ _ _ _ hm, layS_out _ _ _ _ _ hm]
 ·
  rw [layS_defers]
  cases o <;> exact layS_defers _ _ _ _
section
variable {P : Program}
end
end Go.Proofs.Ytpahkpcoinbgcab

/- The walk of guessed. -/
namespace Go.Proofs.Ytpahkpcoinbgcab
open Go.RowKit
/-- What is known of the upper parts: D has tp, nx at its head, R has H, r2. -/
structure Heads (R D tp nx H r2 : Nat) : Prop where
 top : 1 ≤ tp
 qlt : R / D < 4294967296
 k1 : R / D * (tp * 4294967296 + nx) ≤ H * 4294967296 + r2
 k2 : H * 4294967296 + r2 < (R / D + 1) * (tp * 4294967296 + nx + 1)
 nxl : nx < 4294967296
 r2l : r2 < 4294967296
end Go.Proofs.Ytpahkpcoinbgcab

/- The walk of groupsOf. -/
namespace Go.Proofs.Ytpahkpcoinbgcab
open Go.RowKit
theorem Lie.congr {k : IntKind} {w : World} {a : Option Addr} {n c : Nat} {f f' : Nat → Nat} (h : Lie k w a n c f) (hf : ∀ i, i < n → f i = f' i) : Lie k w a n c f' :=
 ⟨h.cap, h.capm, h.nil, h.spot, fun p hp i hi => by rw [← hf i hi]; exact h.cell p hp i hi⟩
end Go.Proofs.Ytpahkpcoinbgcab

/- The walk of written. -/
namespace Go.Proofs.Ytpahkpcoinbgcab
open Go.RowKit
/-- The k-th digit, from the lowest one on. -/
def dig (N k : Nat) : Nat := N / 10 ^ k % 10
end Go.Proofs.Ytpahkpcoinbgcab

/- The walks of raised and lowered. -/
namespace Go.Proofs.Ytpahkpcoinbgcab
open Go.RowKit
/-- What is carried when a number is raised by s binary digits. -/
def rc (N s k : Nat) : Nat := N % BB ^ k * 2 ^ s / BB ^ k
end Go.Proofs.Ytpahkpcoinbgcab

/- The walks of package long's methods Sign, Cmp, Bits, Neg, Add, Mul. -/
namespace Go.Proofs.Ytpahkpcoinbgcab
open Go.RowKit
theorem only2 (w : World) (b : Nat) (u v : Value) : Only b w ((w.setCell ⟨b, 0, none⟩ u).setCell ⟨b, 1, none⟩ v) := (Only.setCell w b 0 u).trans (Only.setCell _ b 1 v)
theorem Num.only {w w' : World} {bl : Bool} {a : Option Addr} {n c g : Nat} {z : Int} (h : Num w bl a n c z) (ho : Only g w w') (hg : ∀ p, a = some p → p.block ≠ g) : Num w' bl a n c z := ⟨h.lie.only ho hg, h.fit, h.sgn⟩
end Go.Proofs.Ytpahkpcoinbgcab

/- The walks of Mul, Add, Sub. -/
namespace Go.Proofs.Ytpahkpcoinbgcab
open Go.RowKit
/-- Two numbers in boxes of their own, and a place for the result, behind what was there. -/
structure Boxed (w w1 : World) (bl : Bool) (a : Option Addr) (n c : Nat) (bl' : Bool) (a' : Option Addr) (n' c' : Nat) : Prop where
 below : Below w.heap.size w w1
 k0 : w1.cell? ⟨w.heap.size, 0, none⟩ = some (.bool bl)
 k1 : w1.cell? ⟨w.heap.size, 1, none⟩ = some (.slice a n c)
 l0 : w1.cell? ⟨w.heap.size + 1, 0, none⟩ = some (.bool bl')
 l1 : w1.cell? ⟨w.heap.size + 1, 1, none⟩ = some (.slice a' n' c')
 r0 : w1.cell? ⟨w.heap.size + 2, 0, none⟩ = some (.bool false)
 r1 : w1.cell? ⟨w.heap.size + 2, 1, none⟩ = some (.slice none 0 0)
 f0 : w1.frozen? ⟨w.heap.size + 2, 0, none⟩ = false
 f1 : w1.frozen? ⟨w.heap.size + 2, 1, none⟩ = false
 sz : w.heap.size + 2 < w1.heap.size
theorem Boxed.later {w w1 w2 : World} {bl : Bool} {a : Option Addr} {n c : Nat} {bl' : Bool} {a' : Option Addr} {n' c' : Nat} (h : Boxed w w1 bl a n c bl' a' n' c') (hb : Below w1.heap.size w1 w2) : Boxed w w2 bl a n c bl' a' n' c' := by
 have hs := h.sz
 exact ⟨h.below.trans (hb.mono h.below.size), (hb.cell (p := ⟨w.heap.size, 0, none⟩) (by show w.heap.size < _; omega)).trans h.k0, (hb.cell (p := ⟨w.heap.size, 1, none⟩) (by show w.heap.size < _; omega)).trans h.k1,
  (hb.cell (p := ⟨w.heap.size + 1, 0, none⟩) (by show w.heap.size + 1 < _; omega)).trans h.l0, (hb.cell (p := ⟨w.heap.size + 1, 1, none⟩) (by show w.heap.size + 1 < _; omega)).trans h.l1,
  (hb.cell (p := ⟨w.heap.size + 2, 0, none⟩) hs).trans h.r0, (hb.cell (p := ⟨w.heap.size + 2, 1, none⟩) hs).trans h.r1, (hb.frozen (p := ⟨w.heap.size + 2, 0, none⟩) hs).trans h.f0, (hb.frozen (p := ⟨w.heap.size + 2, 1, none⟩) hs).trans h.f1,
  Nat.lt_of_lt_of_le hs hb.size⟩
theorem Boxed.drew {w w1 : World} {bl : Bool} {a : Option Addr} {n c : Nat} {bl' : Bool} {a' : Option Addr} {n' c' : Nat} (h : Boxed w w1 bl a n c bl' a' n' c') : Boxed w w1.drew bl a n c bl' a' n' c' := h.later (Below.refl _ _).drew
/-- What the loads of a region read, in a world of its run. -/
def HS (w : World) (bl : Bool) (a : Option Addr) (n c : Nat) (bl' : Bool) (a' : Option Addr) (n' c' : Nat) (w' : World) : Prop :=
 w'.cell? ⟨w.heap.size, 0, none⟩ = some (.bool bl) ∧ w'.cell? ⟨w.heap.size, 1, none⟩ = some (.slice a n c) ∧ w'.cell? ⟨w.heap.size + 1, 0, none⟩ = some (.bool bl') ∧ w'.cell? ⟨w.heap.size + 1, 1, none⟩ = some (.slice a' n' c')
theorem Boxed.hs {w w1 : World} {bl : Bool} {a : Option Addr} {n c : Nat} {bl' : Bool} {a' : Option Addr} {n' c' : Nat} (h : Boxed w w1 bl a n c bl' a' n' c') : HS w bl a n c bl' a' n' c' w1 := ⟨h.k0, h.k1, h.l0, h.l1⟩
end Go.Proofs.Ytpahkpcoinbgcab

/- The walks of Of, Root, Quo, Small. -/
namespace Go.Proofs.Ytpahkpcoinbgcab
open Go.RowKit
/-- A place for a number that is a result, behind what was there. -/
structure ResAt (w w1 : World) (r : Nat) : Prop where
 below : Below w.heap.size w w1
 r0 : w1.cell? ⟨r, 0, none⟩ = some (.bool false)
 r1 : w1.cell? ⟨r, 1, none⟩ = some (.slice none 0 0)
 f0 : w1.frozen? ⟨r, 0, none⟩ = false
 f1 : w1.frozen? ⟨r, 1, none⟩ = false
 lo : w.heap.size ≤ r
 sz : r < w1.heap.size
theorem ResAt.later {w w1 w2 : World} {r : Nat} (h : ResAt w w1 r) (hb : Below w1.heap.size w1 w2) : ResAt w w2 r :=
 ⟨h.below.trans (hb.mono h.below.size), (hb.cell (p := ⟨r, 0, none⟩) h.sz).trans h.r0, (hb.cell (p := ⟨r, 1, none⟩) h.sz).trans h.r1, (hb.frozen (p := ⟨r, 0, none⟩) h.sz).trans h.f0, (hb.frozen (p := ⟨r, 1, none⟩) h.sz).trans h.f1, h.lo, Nat.lt_of_lt_of_le h.sz hb.size⟩
end Go.Proofs.Ytpahkpcoinbgcab

/- The document's own numbers: decimal digits, the lowest first. The walks of its made and Parse. -/
namespace Go.Proofs.Ytpahkpcoinbgcab
open Go.RowKit
/-- n is how many digits N has. -/
def Fit10 (n N : Nat) : Prop := N < 10 ^ n ∧ (n = 0 ∨ 10 ^ (n - 1) ≤ N)
/-- A number of the document's: its sign, its digits in memory. -/
structure RNum (w : World) (bl : Bool) (a : Option Addr) (n c : Nat) (z : Int) : Prop where
 lie : Lie .i64 w a n c (dig z.natAbs)
 fit : Fit10 n z.natAbs
 sgn : bl = decide (z < 0)
theorem RNum.below {w w' : World} {bl : Bool} {a : Option Addr} {n c : Nat} {z : Int} (h : RNum w bl a n c z) (hb : Below w.heap.size w w') : RNum w' bl a n c z := ⟨h.lie.below hb, h.fit, h.sgn⟩
theorem RNum.only {w w' : World} {bl : Bool} {a : Option Addr} {n c g : Nat} {z : Int} (h : RNum w bl a n c z) (ho : Only g w w') (hg : ∀ p, a = some p → p.block ≠ g) : RNum w' bl a n c z := ⟨h.lie.only ho hg, h.fit, h.sgn⟩
end Go.Proofs.Ytpahkpcoinbgcab

/- The document's numbers: the walk of parted. -/
namespace Go.Proofs.Ytpahkpcoinbgcab
open Go.RowKit
/-- Digits with their number, in memory that is not block g. -/
structure Rst (w0 : World) (g : Nat) (w : World) (a : Option Addr) (n c R : Nat) : Prop where
 lie : Lie .i64 w a n c (dig R)
 fit : Fit10 n R
 far : ∀ p, a = some p → w0.heap.size ≤ p.block ∧ p.block ≠ g
theorem Rst.below {w0 : World} {g : Nat} {w w' : World} {a : Option Addr} {n c R : Nat} (h : Rst w0 g w a n c R) (hb : Below w.heap.size w w') : Rst w0 g w' a n c R := ⟨h.lie.below hb, h.fit, h.far⟩
end Go.Proofs.Ytpahkpcoinbgcab

/- The walk of Quo. -/
namespace Go.Proofs.Ytpahkpcoinbgcab
open Go.RowKit
/-- Two numbers in boxes of their own, and places for two results that hold what is said, behind what was there. -/
structure QBox (w w1 : World) (bl : Bool) (a : Option Addr) (n c : Nat) (bl' : Bool) (a' : Option Addr) (n' c' : Nat) (qb : Bool) (qa : Option Addr) (qn qc : Nat) (rb : Bool) (ra : Option Addr) (rn rc : Nat) : Prop where
 below : Below w.heap.size w w1
 k0 : w1.cell? ⟨w.heap.size, 0, none⟩ = some (.bool bl)
 k1 : w1.cell? ⟨w.heap.size, 1, none⟩ = some (.slice a n c)
 l0 : w1.cell? ⟨w.heap.size + 1, 0, none⟩ = some (.bool bl')
 l1 : w1.cell? ⟨w.heap.size + 1, 1, none⟩ = some (.slice a' n' c')
 q0 : w1.cell? ⟨w.heap.size + 2, 0, none⟩ = some (.bool qb)
 q1 : w1.cell? ⟨w.heap.size + 2, 1, none⟩ = some (.slice qa qn qc)
 r0 : w1.cell? ⟨w.heap.size + 3, 0, none⟩ = some (.bool rb)
 r1 : w1.cell? ⟨w.heap.size + 3, 1, none⟩ = some (.slice ra rn rc)
 f0 : w1.frozen? ⟨w.heap.size + 2, 0, none⟩ = false
 f1 : w1.frozen? ⟨w.heap.size + 2, 1, none⟩ = false
 g0 : w1.frozen? ⟨w.heap.size + 3, 0, none⟩ = false
 g1 : w1.frozen? ⟨w.heap.size + 3, 1, none⟩ = false
 sz : w.heap.size + 3 < w1.heap.size
section
variable {w w1 w2 : World} {bl : Bool} {a : Option Addr} {n c : Nat} {bl' : Bool} {a' : Option Addr} {n' c' : Nat} {qb : Bool} {qa : Option Addr} {qn qc : Nat} {rb : Bool} {ra : Option Addr} {rn rc : Nat}
theorem QBox.later (h : QBox w w1 bl a n c bl' a' n' c' qb qa qn qc rb ra rn rc) (hb : Below w1.heap.size w1 w2) : QBox w w2 bl a n c bl' a' n' c' qb qa qn qc rb ra rn rc := by
 have hs := h.sz
 exact ⟨h.below.trans (hb.mono h.below.size), (hb.cell (p := ⟨w.heap.size, 0, none⟩) (by show w.heap.size < _; omega)).trans h.k0, (hb.cell (p := ⟨w.heap.size, 1, none⟩) (by show w.heap.size < _; omega)).trans h.k1,
  (hb.cell (p := ⟨w.heap.size + 1, 0, none⟩) (by show w.heap.size + 1 < _; omega)).trans h.l0, (hb.cell (p := ⟨w.heap.size + 1, 1, none⟩) (by show w.heap.size + 1 < _; omega)).trans h.l1,
  (hb.cell (p := ⟨w.heap.size + 2, 0, none⟩) (by show w.heap.size + 2 < _; omega)).trans h.q0, (hb.cell (p := ⟨w.heap.size + 2, 1, none⟩) (by show w.heap.size + 2 < _; omega)).trans h.q1,
  (hb.cell (p := ⟨w.heap.size + 3, 0, none⟩) hs).trans h.r0, (hb.cell (p := ⟨w.heap.size + 3, 1, none⟩) hs).trans h.r1,
  (hb.frozen (p := ⟨w.heap.size + 2, 0, none⟩) (by show w.heap.size + 2 < _; omega)).trans h.f0, (hb.frozen (p := ⟨w.heap.size + 2, 1, none⟩) (by show w.heap.size + 2 < _; omega)).trans h.f1,
  (hb.frozen (p := ⟨w.heap.size + 3, 0, none⟩) hs).trans h.g0, (hb.frozen (p := ⟨w.heap.size + 3, 1, none⟩) hs).trans h.g1, Nat.lt_of_lt_of_le hs hb.size⟩
theorem QBox.drew (h : QBox w w1 bl a n c bl' a' n' c' qb qa qn qc rb ra rn rc) : QBox w w1.drew bl a n c bl' a' n' c' qb qa qn qc rb ra rn rc := h.later (Below.refl _ _).drew
end
end Go.Proofs.Ytpahkpcoinbgcab

/- Numbers in variables; what a region that divides has done. No statement of the seat is proved here. -/
namespace Go.Proofs.Ytpahkpcoinbgcab
open Go.RowKit
/-- A value is a number of package long. -/
def HN (w : World) (v : Value) (z : Int) : Prop := ∃ (b : Bool) (a : Option Addr) (n c : Nat), v = .agg #[.bool b, .slice a n c] ∧ Num w b a n c z
theorem HN.below {w w' : World} {v : Value} {z : Int} (h : HN w v z) (hb : Below w.heap.size w w') : HN w' v z := by
 obtain ⟨b, a, n, c, h1, h2⟩ := h
 exact ⟨b, a, n, c, h1, h2.below hb⟩
/-- Block k is a variable of package long's numbers that holds these. -/
def Bx (w : World) (t : TypeId) (k : Nat) (u v : Value) : Prop := w.heap[k]? = some (.cells #[u, v] t (0, 0))
theorem Bx.below {w w' : World} {t : TypeId} {k : Nat} {u v : Value} (h : Bx w t k u v) (hb : Below w.heap.size w w') : Bx w' t k u v := by
 unfold Bx at h ⊢
 rw [hb.block k (Array.getElem?_eq_some_iff.1 h).1]; exact h
theorem Bx.lt {w : World} {t : TypeId} {k : Nat} {u v : Value} (h : Bx w t k u v) : k < w.heap.size := (Array.getElem?_eq_some_iff.1 h).1
theorem Bx.cells {w : World} {t : TypeId} {k : Nat} {u v : Value} (h : Bx w t k u v) : w.cell? ⟨k, 0, none⟩ = some u ∧ w.cell? ⟨k, 1, none⟩ = some v ∧ w.frozen? ⟨k, 0, none⟩ = false ∧ w.frozen? ⟨k, 1, none⟩ = false := by
 unfold Bx at h
 refine ⟨?_, ?_, ?_, ?_⟩ <;> simp [World.cell?, World.frozen?, h]
theorem bx_new (w : World) (t : TypeId) (u v : Value) : Bx (w.alloc (.cells #[u, v] t)) t w.heap.size u v := by
 unfold Bx; rw [heap_alloc_new]
/-- A number stays where another variable is written. -/
theorem Num.store {w : World} {bl : Bool} {a : Option Addr} {n c : Nat} {z : Int} (h : Num w bl a n c z) {t : TypeId} {k : Nat} {bk : Bool} {ak : Option Addr} {nk ck : Nat} (hk : Bx w t k (.bool bk) (.slice ak nk ck)) (u v : Value) :
  Num ((w.setCell ⟨k, 0, none⟩ u).setCell ⟨k, 1, none⟩ v) bl a n c z := by
 by_cases hn : n = 0
 ·
  subst hn
  refine ⟨⟨h.lie.cap, h.lie.capm, h.lie.nil, fun p hp => ⟨(h.lie.spot p hp).1, by rw [(only2 w k u v).size]; exact (h.lie.spot p hp).2⟩, fun p hp i hi => by omega⟩, h.fit, h.sgn⟩
 ·
  refine h.only (only2 _ _ _ _) (fun p hp e => ?_)
  have h1 := h.lie.cell p hp 0 (by omega)
  rw [e] at h1
  unfold Bx at hk
  simp only [World.cell?, hk, Nat.add_zero] at h1
  rcases hpo : p.off with _ | _ | o
  ·
   rw [hpo] at h1; simp at h1
  ·
   rw [hpo] at h1; simp at h1
  ·
   rw [hpo] at h1; simp at h1
theorem Bx.other {w : World} {t : TypeId} {k k' : Nat} {u v : Value} (h : Bx w t k u v) (hne : k ≠ k') (x y : Value) : Bx ((w.setCell ⟨k', 0, none⟩ x).setCell ⟨k', 1, none⟩ y) t k u v := by
 unfold Bx at h ⊢
 rw [(only2 w k' x y).block k hne]; exact h
theorem Bx.self {w : World} {t : TypeId} {k : Nat} {u v : Value} (h : Bx w t k u v) (x y : Value) : Bx ((w.setCell ⟨k, 0, none⟩ x).setCell ⟨k, 1, none⟩ y) t k x y := by
 unfold Bx at h ⊢
 have hlt := (Array.getElem?_eq_some_iff.1 h).1
 simp only [World.setCell, Array.getElem?_modify, if_true, h, Option.map_some]
 rfl
theorem HN.store {w : World} {v : Value} {z : Int} (h : HN w v z) {t : TypeId} {k : Nat} {bk : Bool} {ak : Option Addr} {nk ck : Nat} (hk : Bx w t k (.bool bk) (.slice ak nk ck)) (u x : Value) :
  HN ((w.setCell ⟨k, 0, none⟩ u).setCell ⟨k, 1, none⟩ x) v z := by
 obtain ⟨b, a, n, c, h1, h2⟩ := h
 exact ⟨b, a, n, c, h1, h2.store hk u x⟩
/-- A quotient, a rest, and no error. -/
def Tp (W : World) (v : Value) (q r : Int) : Prop := ∃ vq vr : Value, v = .tuple #[vq, vr, .int .i64 0] ∧ HN W vq q ∧ HN W vr r
theorem Tp.below {W W' : World} {v : Value} {q r : Int} (h : Tp W v q r) (hb : Below W.heap.size W W') : Tp W' v q r := by
 obtain ⟨x, y, h1, h2, h3⟩ := h
 exact ⟨x, y, h1, h2.below hb, h3.below hb⟩
theorem Tp.store {W : World} {v : Value} {q r : Int} (h : Tp W v q r) {t : TypeId} {k : Nat} {bk : Bool} {ak : Option Addr} {nk ck : Nat} (hk : Bx W t k (.bool bk) (.slice ak nk ck)) (u x : Value) : Tp ((W.setCell ⟨k, 0, none⟩ u).setCell ⟨k, 1, none⟩ x) v q r := by
 obtain ⟨y, z, h1, h2, h3⟩ := h
 exact ⟨y, z, h1, h2.store hk u x, h3.store hk u x⟩
section
variable {V : World → Prop} {w : World} {i j : Nat} {b1 : Bool} {a1 : Option Addr} {n1 c1 : Nat} {b2 : Bool} {a2 : Option Addr} {n2 c2 : Nat} {f p q r : Int} {L : Nat → Bool} {W W' : World} {v8 v9 v36 v37 v38 v39 v40 v41 v42 v43 v44 : Value}
end
end Go.Proofs.Ytpahkpcoinbgcab

/- The document's numbers: the walk of Quo. -/
namespace Go.Proofs.Ytpahkpcoinbgcab
open Go.RowKit
theorem RNum.store {w : World} {bl : Bool} {a : Option Addr} {n c : Nat} {z : Int} (h : RNum w bl a n c z) {t : TypeId} {k : Nat} {bk : Bool} {ak : Option Addr} {nk ck : Nat} (hk : Bx w t k (.bool bk) (.slice ak nk ck)) (u v : Value) :
  RNum ((w.setCell ⟨k, 0, none⟩ u).setCell ⟨k, 1, none⟩ v) bl a n c z := by
 by_cases hn : n = 0
 ·
  subst hn
  refine ⟨⟨h.lie.cap, h.lie.capm, h.lie.nil, fun p hp => ⟨(h.lie.spot p hp).1, by rw [(only2 w k u v).size]; exact (h.lie.spot p hp).2⟩, fun p hp i hi => by omega⟩, h.fit, h.sgn⟩
 ·
  refine h.only (only2 _ _ _ _) (fun p hp e => ?_)
  have h1 := h.lie.cell p hp 0 (by omega)
  rw [e] at h1
  unfold Bx at hk
  simp only [World.cell?, hk, Nat.add_zero] at h1
  rcases hpo : p.off with _ | _ | o
  ·
   rw [hpo] at h1; simp at h1
  ·
   rw [hpo] at h1; simp at h1
  ·
   rw [hpo] at h1; simp at h1
section
variable {w W W' : World} {bl : Bool} {a : Option Addr} {n c : Nat} {bl' : Bool} {a' : Option Addr} {n' c' : Nat}
end
end Go.Proofs.Ytpahkpcoinbgcab

/- Fixed numbers: how what comes of a call is cut by its deferred function. -/
namespace Go.Proofs.Ytpahkpcoinbgcab
open Go.RowKit
/-- A number, cut. -/
def cutI (n : Int) : Int := max (-2147483647) (min n 2147483647)
/-- Is a number changed when it is cut? -/
def cutB (n : Int) : Bool := decide (n < -2147483647 ∨ 2147483647 < n)
theorem cut_bd (n : Int) : -2147483647 ≤ cutI n ∧ cutI n ≤ 2147483647 := by unfold cutI; omega
theorem cut_in {n : Int} (h1 : -2147483647 ≤ n) (h2 : n ≤ 2147483647) : cutI n = n ∧ cutB n = false := by
 unfold cutI cutB; exact ⟨by omega, by simp; omega⟩
theorem cut_hi {n : Int} (h : 2147483647 < n) : cutI n = 2147483647 ∧ cutB n = true := by
 unfold cutI cutB; exact ⟨by omega, by simp; omega⟩
theorem cut_lo {n : Int} (h : n < -2147483647) : cutI n = -2147483647 ∧ cutB n = true := by
 unfold cutI cutB; exact ⟨by omega, by simp; omega⟩
theorem cut_false {n : Int} (h : cutB n = false) : cutI n = n := by
 have : -2147483647 ≤ n ∧ n ≤ 2147483647 := by unfold cutB at h; simp at h; omega
 exact (cut_in this.1 this.2).1
set_option maxHeartbeats 800000 in
theorem cut_d (p q : Nat) (n : Int) (c : Bool) (u : FrameMode) (w : World) (hp : w.cell? ⟨p, 0, none⟩ = some (.int .i64 n)) (hq : w.cell? ⟨q, 0, none⟩ = some (.bool c)) (hne : ¬ p = q)
  (fp : w.frozen? ⟨p, 0, none⟩ = false) (fq : w.frozen? ⟨q, 0, none⟩ = false) :
  CallsD Try.prog 40 #[.pointer (some ⟨p, 0, none⟩), .pointer (some ⟨q, 0, none⟩)] u w fun e u' w' => u' = u ∧ (e = .returned (.tuple #[]) ∧ w' = (w.setCell ⟨p, 0, none⟩ (.int .i64 (cutI n))).setCell ⟨q, 0, none⟩ (.bool (c || cutB n))) := by
 have hqp : ¬ q = p := fun h => hne h.symm
 rcases Int.lt_or_le n (-2147483647) with h1 | h1
 ·
  have e1 : min n 2147483647 = n := by omega
  have e2 : max (-2147483647) n = -2147483647 := by omega
  have e3 : ((-2147483647 : Int) != n) = true := by simp; omega
  have HE := Lib.hid (cut_lo h1)
  cases c
  all_goals
   go_enter_d Try.func40, Try.ntmps40
   go_wp2
   go_end0
   exact ⟨rfl, by rw [HE.out.1, HE.out.2]; rfl⟩
 ·
  rcases Int.lt_or_le 2147483647 n with h2 | h2
  ·
   have e1 : min n 2147483647 = 2147483647 := by omega
   have e2 : max (-2147483647) (2147483647 : Int) = 2147483647 := by omega
   have e3 : ((2147483647 : Int) != n) = true := by simp; omega
   have HE := Lib.hid (cut_hi h2)
   cases c
   all_goals
    go_enter_d Try.func40, Try.ntmps40
    go_wp2
    go_end0
    exact ⟨rfl, by rw [HE.out.1, HE.out.2]; rfl⟩
  ·
   have e1 : min n 2147483647 = n := by omega
   have e2 : max (-2147483647) n = n := by omega
   have HE := Lib.hid (cut_in h1 h2)
   cases c
   all_goals
    go_enter_d Try.func40, Try.ntmps40
    go_wp2
    go_end0
    exact ⟨rfl, by rw [HE.out.1, HE.out.2]; rfl⟩
/-- Behind the deferred call: two cells turned. -/
theorem door {fn : Func} {tmps : Array Value} {R : Ending → World → Prop} (B p q : Nat) (n : Int) (c : Bool) (w : World) (hp : w.cell? ⟨p, 0, none⟩ = some (.int .i64 n)) (hq : w.cell? ⟨q, 0, none⟩ = some (.bool c)) (hne : ¬ p = q)
  (fp : w.frozen? ⟨p, 0, none⟩ = false) (fq : w.frozen? ⟨q, 0, none⟩ = false) (hBp : B ≤ p) (hBq : B ≤ q)
  (h : ∀ w' : World, w'.cell? ⟨p, 0, none⟩ = some (.int .i64 (cutI n)) → w'.cell? ⟨q, 0, none⟩ = some (.bool (c || cutB n)) → Below B w w' → Leaves Try.prog fn tmps R [] .returning w') :
  Leaves Try.prog fn tmps R [{ target := .fn (.func 40) #[], args := #[.pointer (some ⟨p, 0, none⟩), .pointer (some ⟨q, 0, none⟩)] }] .returning w := by
 refine leaves_cons (f := 40) (args := #[.pointer (some ⟨p, 0, none⟩), .pointer (some ⟨q, 0, none⟩)]) (by simp) (by simp [go_sem]) ?_
 refine (cut_d p q n c .returning _ hp hq hne fp fq).mono ?_
 rintro e u' w' ⟨rfl, rfl, rfl⟩
 have hqp : ¬ q = p := fun h => hne h.symm
 exact h _ (by simp [go_sem, hp, hq, hne, hqp]) (by simp [go_sem, hp, hq, hne, hqp]) (((Below.refl _ _).setCell hBp _).setCell hBq _)
end Go.Proofs.Ytpahkpcoinbgcab

/- Fixed numbers: the walks of Clamp, clampBoth. -/
namespace Go.Proofs.Ytpahkpcoinbgcab
open Go.RowKit
set_option maxHeartbeats 800000 in
theorem Clamp_any (n : Int) (w : World) : Calls Try.prog 34 #[.int .i64 n] w (PVal2 (.int .i64 (cutI n)) (.bool (cutB n)) w) := by
 go_enter_defers Try.func34, Try.ntmps34
 go_wp2
 refine door w.heap.size w.heap.size (w.heap.size + 1) n false _ (by simp [go_sem]) (by simp [go_sem]) (by omega) (by simp [go_sem]) (by simp [go_sem]) (Nat.le_refl _) (by omega) (fun w' hp hq hb => ?_)
 exact ⟨.tuple #[.int .i64 (cutI n), .bool (cutB n)], by simp [results, Try.results34, go_sem, hp, hq], rfl, (((Below.refl _ _).alloc (Nat.le_refl _) _).alloc (by simp) _).trans hb⟩
set_option maxHeartbeats 800000 in
theorem clampBoth_any (a b : Int) (w : World) : Calls Try.prog 41 #[.int .i64 a, .int .i64 b] w (PVal3 (.int .i64 (cutI a)) (.int .i64 (cutI b)) (.bool (cutB a || cutB b)) w) := by
 go_enter Try.func41, Try.ntmps41
 go_wp2_with fail
 refine (Clamp_any a _).mono ?_
 rintro e w1 ⟨rfl, hB1⟩
 go_wp2_with fail
 refine (Clamp_any b _).mono ?_
 rintro e w2 ⟨rfl, hB2⟩
 obtain ⟨A, hA⟩ : ∃ A, cutB a = A := ⟨_, rfl⟩
 rw [hA]
 have HA := Lib.hid hA
 clear hA
 cases A
 all_goals
  go_wp2
  go_ret3
  exact ⟨by rw [HA.out]; rfl, hB1.trans (hB2.mono hB1.size)⟩
end Go.Proofs.Ytpahkpcoinbgcab
