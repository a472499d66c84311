/- Parts of the proof. -/
import Derived.Test.YtolpfibihialkaaGreatDoorGq24
import Derived.OwnWalk
import Derived.Laws.Append
import Derived.Test.YtolpfibihialkaaGreatDoorGq14
import Derived.Test.YtolpfibihialkaaGreatDoorGq12
/- Slices that are made, written, appended to, and cut. No statement of the seat is proved here. -/
namespace Go.Proofs.YtolpfibihialkaaGreatDoor
open Go Go.RowKit
/-- A slice's own block, and its cells. -/
def owl (s : Sl) (C : Array Value) (T : TypeId) : List (Nat × Array Value × TypeId) := match s.a with
 | some q => [(q.block, C, T)]
 | none => []
structure Wr (k : Nat) (s : Sl) (C : Array Value) : Prop where
 cap : s.n ≤ s.c
 capm : s.c ≤ maxLen
 sz : C.size = s.c * k
 at_ : (s.a = none ∧ s.c = 0) ∨ ∃ b, s.a = some ⟨b, 0, none⟩
/-- The first n places' cells. -/
def Fl (k : Nat) (E : El) (n : Nat) (C : Array Value) : Fa := fun X W => ∀ i, i < n → ∃ cs : List Value, cs.length = k ∧ (∀ j, j < k → C[i * k + j]? = cs[j]?) ∧ E X W i cs
theorem Fl.stb {k : Nat} {E : El} (hE : EStb E) (n : Nat) (C : Array Value) : Stb (Fl k E n C) := fun X W X' W' he h i hi => by
 obtain ⟨cs, h1, h2, h3⟩ := h i hi
 exact ⟨cs, h1, h2, hE i cs X W X' W' he h3⟩
section
variable {w W : World} {X0 X : Nat → Prop} {l : List (Nat × Array Value × TypeId)} {fs : List Fa}
theorem Zs.sq (h : Zs w W X0 X l fs) (hx : NX X0 w) {k : Nat} {E : El} {s : Sl} {C : Array Value} {T : TypeId} (hE : EStb E) (hw : Wr k s C) (hl : ∀ p, p ∈ owl s C T → p ∈ l) (hf : Fl k E s.n C X W) : Sq k E s X0 W := by
 refine ⟨hw.cap, hw.capm, fun e => ?_, fun q hq _ => ?_, fun q hq i hi => ?_⟩
 ·
  rcases hw.at_ with ⟨_, h2⟩ | ⟨b, h1⟩
  ·
   have := hw.cap; omega
  ·
   rw [e] at h1; cases h1
 ·
  obtain ⟨b, rfl⟩ : ∃ b, q = ⟨b, 0, none⟩ := by
   rcases hw.at_ with ⟨h1, _⟩ | ⟨b, h1⟩
   ·
    rw [h1] at hq; cases hq
   ·
    rw [h1] at hq; cases hq; exact ⟨b, rfl⟩
  have hm : (b, C, T) ∈ l := hl _ (by unfold owl; rw [hq]; exact List.mem_singleton.2 rfl)
  refine ⟨rfl, h.es.lt _ hm, fun hX => ?_⟩
  have h1 := h.es.ge _ hm
  have h2 := hx _ hX
  simp only at h1 h2
  omega
 ·
  obtain ⟨b, rfl⟩ : ∃ b, q = ⟨b, 0, none⟩ := by
   rcases hw.at_ with ⟨h1, _⟩ | ⟨b, h1⟩
   ·
    rw [h1] at hq; cases hq
   ·
    rw [h1] at hq; cases hq; exact ⟨b, rfl⟩
  have hm : (b, C, T) ∈ l := hl _ (by unfold owl; rw [hq]; exact List.mem_singleton.2 rfl)
  have hc : W.heap[b]? = some (.cells C T (0, 0)) := h.es.at' _ hm
  obtain ⟨cs, h1, h2, h3⟩ := hf i hi
  refine ⟨cs, h1, fun j hj => ?_, hE i cs _ _ _ _ (Ext.less W h.sub) h3⟩
  rw [← h2 j hj]
  simp only [Nat.zero_add]
  cases e : C[i * k + j]? with
  | some v => simp [World.cell?, hc, e]
  | none =>
   exfalso
   have h4 := Array.getElem?_eq_none_iff.1 e
   have h5 := hw.sz
   have h6 : (i + 1) * k ≤ s.c * k := Nat.mul_le_mul_right k (by have := hw.cap; omega)
   rw [Nat.add_mul] at h6
   omega
end
/-- A variable that will not be written any more. -/
theorem Zs.release {w W : World} {X0 X : Nat → Prop} {l : List (Nat × Array Value × TypeId)} {fs : List Fa} {b : Nat} {C : Array Value} {T : TypeId} (h : Zs w W X0 X ((b, C, T) :: l) fs) (hx : NX X0 w) : Zs w W X0 (fun k => X k ∧ k ≠ b) l (Cf b C T :: fs) := by
 have hge := h.es.ge (b, C, T) (List.mem_cons_self ..)
 have hnd := (List.nodup_cons.1 (show (b :: l.map (·.1)).Nodup from h.es.nd)).1
 have he : Ext X W (fun k => X k ∧ k ≠ b) W := Ext.less W fun k hk => hk.1
 refine ⟨h.es.sub (List.sublist_cons_self _ _), fun k hk => h.nx k hk.1, fun p hp => ⟨h.own p (List.mem_cons_of_mem _ hp), fun e => hnd (e ▸ List.mem_map.2 ⟨p, hp, rfl⟩)⟩, fun k hk => ⟨h.sub k hk, fun e => ?_⟩, fun f hf => ?_, h.ext.trans he⟩
 ·
  have := hx k hk
  simp only at hge
  omega
 ·
  rcases List.mem_cons.1 hf with rfl | hf
  ·
   exact ⟨Cf.stb _ _ _, h.es.at' _ (List.mem_cons_self ..), fun hk => hk.2 rfl⟩
  ·
   exact ⟨(h.fs f hf).1, (h.fs f hf).1 _ _ _ _ he (h.fs f hf).2⟩
theorem Wr.nil {k : Nat} {s : Sl} {C : Array Value} (h : Wr k s C) (e : s.a = none) : s.n = 0 := by
 have := h.cap
 rcases h.at_ with ⟨_, h2⟩ | ⟨b, h1⟩
 ·
  omega
 ·
  rw [e] at h1; cases h1
section
variable {P : Program} {ops : Array Oper} {Q : Exit → Act → World → Prop} {a : Act} {w W : World} {rest : List Oper} {o : Oper} {l : List (Nat × Array Value × TypeId)} {X0 X : Nat → Prop} {fs : List Fa} {next : Act → World → Prop}
end
section
variable {Q : Exit → Act → World → Prop} {a : Act} {W : World} {o : Oper} {next : Act → World → Prop}
end
theorem Fl.congr {k : Nat} {E E' : El} {n : Nat} {C : Array Value} {X : Nat → Prop} {W : World} (h : Fl k E n C X W) (hE : ∀ i cs, i < n → E X W i cs → E' X W i cs) : Fl k E' n C X W := fun i hi => by
 obtain ⟨cs, h1, h2, h3⟩ := h i hi
 exact ⟨cs, h1, h2, hE i cs hi h3⟩
/-- A variable that a region has made joins. -/
theorem Zs.join {w W W' : World} {X0 X : Nat → Prop} {l : List (Nat × Array Value × TypeId)} {fs : List Fa} {b : Nat} {C : Array Value} {T : TypeId} (h : Zs w W X0 X l fs) (hb : Below W.heap.size W W') (hge : W.heap.size ≤ b) (hc : Cl W' (b, C, T)) : Zs w W' X0 (fun k => X k ∨ k = b) ((b, C, T) :: l) fs := by
 have hlt : b < W'.heap.size := (Array.getElem?_eq_some_iff.1 hc).1
 have he : Ext X W (fun k => X k ∨ k = b) W' := ⟨hb.size, fun k hk _ => hb.block k hk, fun k hk hl => hk.elim id fun e => absurd e (by omega)⟩
 have h' := h.later hb
 refine ⟨⟨h'.es.below, fun p hp => ?_, ?_, fun p hp => ?_⟩, fun k hk => ?_, fun p hp => ?_, fun k hk => .inl (h.sub k hk), fun f hf => ⟨(h.fs f hf).1, (h.fs f hf).1 _ _ _ _ he (h.fs f hf).2⟩, h.ext.trans he⟩
 ·
  rcases List.mem_cons.1 hp with rfl | hp
  ·
   exact hc
  ·
   exact h'.es.at' p hp
 ·
  refine List.nodup_cons.2 ⟨fun hm => ?_, h.es.nd⟩
  obtain ⟨p, hp, e⟩ := List.mem_map.1 hm
  have := h.es.lt p hp
  change p.1 = b at e
  omega
 ·
  rcases List.mem_cons.1 hp with rfl | hp
  ·
   exact Nat.le_trans h.below.size hge
  ·
   exact h.es.ge p hp
 ·
  rcases hk with hk | rfl
  ·
   exact h'.nx k hk
  ·
   exact hlt
 ·
  rcases List.mem_cons.1 hp with rfl | hp
  ·
   exact .inr rfl
  ·
   exact .inl (h.own p hp)
/-- A part of a slice. -/
def Sl.cut (s : Sl) (k l h : Nat) : Sl := ⟨if s.c = l then s.a else s.a.map (·.add (l * k)), h - l, s.c - l⟩
theorem Ls.cut {n : Nat} {x : Nat → Int} {s : Sl} {X : Nat → Prop} {W : World} (h : Ls n x s X W) {l u : Nat} (hl : l ≤ u) (hu : u ≤ n) : Ls (u - l) (fun j => x (l + j)) (s.cut 2 l u) X W := by
 have hcap := h.sq.cap
 have hn := h.n
 refine ⟨rfl, ?_, ?_, ?_, ?_, ?_⟩
 ·
  show u - l ≤ s.c - l; omega
 ·
  have := h.sq.capm; show s.c - l ≤ maxLen; omega
 ·
  intro e
  have e' : s.a = none := by
   unfold Sl.cut at e
   simp only at e
   split at e
   ·
    exact e
   ·
    cases hs : s.a with
    | none => rfl
    | some q => rw [hs] at e; cases e
  have := h.sq.nil e'
  exact ⟨by show u - l = 0; omega, by show s.c - l = 0; omega⟩
 ·
  intro q hq h0
  change 0 < u - l at h0
  unfold Sl.cut at hq
  simp only at hq
  split at hq
  ·
   exact h.sq.spot q hq (by omega)
  ·
   cases hs : s.a with
   | none => rw [hs] at hq; cases hq
   | some p =>
    rw [hs] at hq
    simp only [Option.map_some, Option.some.injEq] at hq
    subst hq
    obtain ⟨h1, h2, h3⟩ := h.sq.spot p hs (by omega)
    obtain ⟨pb, po, ps⟩ := p
    simp only at h1
    subst h1
    have hadd : (⟨pb, po, none⟩ : Addr).add (l * 2) = ⟨pb, po + l * 2, none⟩ := by unfold Addr.add; split <;> simp_all
    rw [hadd]
    exact ⟨rfl, h2, h3⟩
 ·
  intro q hq i hi
  change i < u - l at hi
  unfold Sl.cut at hq
  simp only at hq
  split at hq
  ·
   omega
  ·
   cases hs : s.a with
   | none => rw [hs] at hq; cases hq
   | some p =>
    rw [hs] at hq
    simp only [Option.map_some, Option.some.injEq] at hq
    subst hq
    obtain ⟨h1, h2, h3⟩ := h.sq.spot p hs (by omega)
    obtain ⟨pb, po, ps⟩ := p
    simp only at h1
    subst h1
    have hadd : (⟨pb, po, none⟩ : Addr).add (l * 2) = ⟨pb, po + l * 2, none⟩ := by unfold Addr.add; split <;> simp_all
    obtain ⟨cs, k1, k2, k3⟩ := h.sq.el _ hs (l + i) (by omega)
    refine ⟨cs, k1, fun j hj => ?_, k3⟩
    rw [hadd]
    have := k2 j hj
    simp only at this ⊢
    rw [show po + l * 2 + i * 2 + j = po + (l + i) * 2 + j by omega]
    exact this
section
variable {P : Program} {Q : Exit → Act → World → Prop} {a : Act} {W W0 : World} {X : Nat → Prop} {o : Oper} {next : Act → World → Prop}
end
/-- No cell of a row is a number of the language's. -/
def NoI (C : Array Value) : Prop := ∀ (j : Nat) (k : IntKind) (n : Int), C[j]? ≠ some (.int k n)
theorem NoI.made {z : Array Value} (n : Nat) (hz : NoI z) (hs : 0 < z.size) : NoI (madeCells z n) := by
 intro j k m h
 unfold madeCells at h
 rw [Array.getElem?_map] at h
 cases e : (Array.range n)[j]? with
 | none => rw [e] at h; cases h
 | some i =>
  rw [e] at h
  simp only [Option.map_some, Option.some.injEq] at h
  have hlt : i % z.size < z.size := Nat.mod_lt _ hs
  rw [getElem!_pos z (i % z.size) hlt] at h
  exact hz (i % z.size) k m (by rw [Array.getElem?_eq_getElem hlt, h])
/-- A number does not lie where there is none of the language's numbers. -/
theorem NL.apart {p : NL} {X : Nat → Prop} {W : World} {b : Nat} {C : Array Value} {T : TypeId} (h : p.is (fun k => X k ∧ k ≠ b) W) (hc : Cl W (b, C, T)) (hn : NoI C) : p.is X W := by
 refine ⟨h.1, fun q hq h0 hX => ?_⟩
 have hne : q.block = b := Classical.byContradiction fun e => h.2 q hq h0 ⟨hX, e⟩
 have h1 := h.1.lie.cell q hq 0 h0
 have hh : W.heap[b]? = some (.cells C T (0, 0)) := hc
 rw [hne] at h1
 simp only [World.cell?, hh] at h1
 exact hn _ _ _ h1
/-- From place a on. -/
def Fg (k : Nat) (E : El) (a n : Nat) (C : Array Value) : Fa := fun X W => ∀ i, a ≤ i → i < n → ∃ cs : List Value, cs.length = k ∧ (∀ j, j < k → C[i * k + j]? = cs[j]?) ∧ E X W i cs
theorem Fg.stb {k : Nat} {E : El} (hE : EStb E) (a n : Nat) (C : Array Value) : Stb (Fg k E a n C) := fun X W X' W' he h i ha hi => by
 obtain ⟨cs, h1, h2, h3⟩ := h i ha hi
 exact ⟨cs, h1, h2, hE i cs X W X' W' he h3⟩
theorem Fg.cons {k : Nat} {E : El} {a n : Nat} {C C' : Array Value} {X : Nat → Prop} {W : World} (h : Fg k E (a + 1) n C X W) {cs : List Value} (hk : cs.length = k) (ho : ∀ j, (j < a * k ∨ a * k + k ≤ j) → C'[j]? = C[j]?) (hn : ∀ j, j < k → C'[a * k + j]? = cs[j]?) (hE : E X W a cs) : Fg k E a n C' X W := by
 intro i ha hi
 by_cases e : i = a
 ·
  subst e; exact ⟨cs, hk, hn, hE⟩
 ·
  obtain ⟨ds, h1, h2, h3⟩ := h i (by omega) hi
  refine ⟨ds, h1, fun j hj => ?_, h3⟩
  rw [ho]
  ·
   exact h2 j hj
  ·
   have : (a + 1) * k ≤ i * k := Nat.mul_le_mul_right k (by omega)
   rw [Nat.add_mul] at this
   omega
/-- An own slice is told: what lies from place a on can be read, by one who does not write it. -/
theorem Zs.part {w W : World} {X0 X : Nat → Prop} {l : List (Nat × Array Value × TypeId)} {fs : List Fa} (h : Zs w W X0 X l fs) {b n c a : Nat} {x : Nat → Int} {C : Array Value} {T : TypeId} (hw : Wr 2 ⟨some ⟨b, 0, none⟩, n, c⟩ C) (hm : (b, C, T) ∈ l) (hf : Fg 2 (EN x) a n C X W) (ha : a ≤ n) : Ls (n - a) (fun j => x (a + j)) ((⟨some ⟨b, 0, none⟩, n, c⟩ : Sl).cut 2 a n) (fun k => X k ∧ k ≠ b) W := by
 have hcap : n ≤ c := hw.cap
 have hcm : c ≤ maxLen := hw.capm
 have hsz : C.size = c * 2 := hw.sz
 have hlt := h.es.lt _ hm
 have hc : W.heap[b]? = some (.cells C T (0, 0)) := h.es.at' _ hm
 have hbx : ¬ (X b ∧ b ≠ b) := fun h => h.2 rfl
 refine ⟨rfl, (by show n - a ≤ c - a; omega), (by show c - a ≤ maxLen; omega), ?_, ?_, ?_⟩
 ·
  intro e
  unfold Sl.cut at e
  simp only at e
  split at e <;> cases e
 ·
  intro q hq _
  unfold Sl.cut at hq
  simp only at hq
  split at hq
  ·
   cases hq; exact ⟨rfl, hlt, hbx⟩
  ·
   have hadd : (⟨b, 0, none⟩ : Addr).add (a * 2) = ⟨b, a * 2, none⟩ := by unfold Addr.add; split <;> simp_all
   simp only [Option.map_some, hadd, Option.some.injEq] at hq
   subst hq
   exact ⟨rfl, hlt, hbx⟩
 ·
  intro q hq i hi
  change i < n - a at hi
  unfold Sl.cut at hq
  simp only at hq
  split at hq
  ·
   omega
  ·
   have hadd : (⟨b, 0, none⟩ : Addr).add (a * 2) = ⟨b, a * 2, none⟩ := by unfold Addr.add; split <;> simp_all
   simp only [Option.map_some, hadd, Option.some.injEq] at hq
   subst hq
   obtain ⟨cs, h1, h2, h3⟩ := hf (a + i) (by omega) (by omega)
   refine ⟨cs, h1, fun j hj => ?_, EN.stb x (a + i) cs _ _ _ _ (Ext.less W fun k hk => hk.1) h3⟩
   rw [← h2 j hj]
   simp only
   rw [show a * 2 + i * 2 + j = (a + i) * 2 + j by omega]
   cases e : C[(a + i) * 2 + j]? with
   | some v => simp [World.cell?, hc, e]
   | none =>
    exfalso
    have h4 := Array.getElem?_eq_none_iff.1 e
    omega
theorem NoI.put {k i : Nat} {C C' : Array Value} {vs : List Value} (h : NoI C) (hg : ∀ j, j < k → C'[i * k + j]? = vs[j]?) (ho : ∀ j, (j < i * k ∨ i * k + k ≤ j) → C'[j]? = C[j]?) (hv : ∀ (j : Nat) (q : IntKind) (n : Int), vs[j]? ≠ some (.int q n)) : NoI C' := by
 intro j q n hc
 by_cases e : j < i * k ∨ i * k + k ≤ j
 ·
  rw [ho j e] at hc; exact h j q n hc
 ·
  have := hg (j - i * k) (by omega)
  rw [show i * k + (j - i * k) = j by omega] at this
  rw [this] at hc
  exact hv _ q n hc
section
variable {P : Program} {ops : Array Oper} {Q : Exit → Act → World → Prop} {a : Act} {w W : World} {rest : List Oper} {o : Oper} {l : List (Nat × Array Value × TypeId)} {X0 X : Nat → Prop} {fs : List Fa}
end
end Go.Proofs.YtolpfibihialkaaGreatDoor

/- A list that is copied by append; rows of one's own that are told, in matrices of one's own. No statement of the seat is proved here. -/
namespace Go.Proofs.YtolpfibihialkaaGreatDoor
open Go Go.RowKit
section
variable {P : Program} {ops : Array Oper} {Q : Exit → Act → World → Prop} {a : Act} {w W : World} {rest : List Oper} {o : Oper} {l : List (Nat × Array Value × TypeId)} {X0 X : Nat → Prop} {fs : List Fa} {next : Act → World → Prop}
end
section
variable {w W : World} {X0 X : Nat → Prop} {l : List (Nat × Array Value × TypeId)} {fs : List Fa}
/-- A row of one's own is told, and not written any more. -/
theorem Zs.tell {s : Sl} {C : Array Value} {T : TypeId} {f : Nat → Int} {n : Nat} (h : Zs w W X0 X (owl s C T ++ l) fs) (hx : NX X0 w) (hw : Wr 2 s C) (hn : s.n = n) (hf : Fl 2 (EN f) n C X W) : ∃ X', Zs w W X0 X' l (Ls n f s :: fs) := by
 obtain ⟨sa, sn, sc⟩ := s
 rcases hw.at_ with ⟨h1, h2⟩ | ⟨b, h1⟩
 ·
  have hcap := hw.cap
  simp only at h1 h2 hcap hn
  subst h1 h2 hn
  obtain rfl : sn = 0 := by omega
  exact ⟨X, Zs.more (l := l) h (Ls.stb 0 f ⟨none, 0, 0⟩) ⟨rfl, Nat.le_refl _, Nat.zero_le _, fun _ => ⟨rfl, rfl⟩, nofun, nofun⟩⟩
 simp only at h1 hn
 subst h1 hn
 have hlt := h.es.lt (b, C, T) (List.mem_cons_self ..)
 have hc : W.heap[b]? = some (.cells C T (0, 0)) := h.es.at' (b, C, T) (List.mem_cons_self ..)
 have hr := Zs.release (b := b) (C := C) (T := T) h hx
 refine ⟨_, (hr.more (Ls.stb sn f ⟨some ⟨b, 0, none⟩, sn, sc⟩) ⟨rfl, hw.cap, hw.capm, nofun, fun q hq _ => ?_, fun q hq i hi => ?_⟩).only _ (by
  intro g hg
  rcases List.mem_cons.1 hg with rfl | hg
  ·
   exact List.mem_cons_self ..
  ·
   exact List.mem_cons_of_mem _ (List.mem_cons_of_mem _ hg))⟩
 ·
  cases hq; exact ⟨rfl, hlt, fun hk => hk.2 rfl⟩
 ·
  cases hq
  obtain ⟨cs, h1, h2, h3⟩ := hf i hi
  refine ⟨cs, h1, fun j hj => ?_, EN.stb f i cs _ _ _ _ (Ext.less W fun k hk => hk.1) h3⟩
  rw [← h2 j hj]
  have hsz := hw.sz
  have hcap := hw.cap
  simp only at hsz hcap hi
  simp only [Nat.zero_add]
  have hl2 : i * 2 + j < C.size := by omega
  simp [World.cell?, hc, hl2]
/-- One place is written anew: the others are as they were. -/
theorem Fl.put {k : Nat} {E : El} {n i : Nat} {C C' : Array Value} {X : Nat → Prop} {W : World} (h : Fl k E n C X W) {cs : List Value} (hk : cs.length = k) (hg : ∀ j, j < k → C'[i * k + j]? = cs[j]?) (ho : ∀ j, (j < i * k ∨ i * k + k ≤ j) → C'[j]? = C[j]?) {E' : El} (hE : E' X W i cs) (hE' : ∀ m cs, m < n → m ≠ i → E X W m cs → E' X W m cs) : Fl k E' n C' X W := by
 intro m hm
 by_cases e : m = i
 ·
  subst e; exact ⟨cs, hk, hg, hE⟩
 ·
  obtain ⟨ds, h1, h2, h3⟩ := h m hm
  refine ⟨ds, h1, fun j hj => ?_, hE' m ds hm e h3⟩
  rw [ho]
  ·
   exact h2 j hj
  ·
   rcases Nat.lt_or_gt_of_ne e with hl | hl
   ·
    have : (m + 1) * k ≤ i * k := Nat.mul_le_mul_right k (by omega)
    rw [Nat.add_mul] at this
    omega
   ·
    have : (i + 1) * k ≤ m * k := Nat.mul_le_mul_right k (by omega)
    rw [Nat.add_mul] at this
    omega
/-- The rows of a matrix, but row i, which is one's own. -/
def ERo (i : Nat) (r : Sl) (c : Nat → Nat) (B : Nat → Nat → Int) : El := fun X W m cs => if m = i then cs = [r.v] else ER c B X W m cs
theorem ERo.stb (i : Nat) (r : Sl) (c : Nat → Nat) (B : Nat → Nat → Int) : EStb (ERo i r c B) := fun m cs X W X' W' he h => by
 by_cases e : m = i
 ·
  have h' : cs = [r.v] := by simpa only [ERo, if_pos e] using h
  simpa only [ERo, if_pos e] using h'
 ·
  have h' : ER c B X W m cs := by simpa only [ERo, if_neg e] using h
  have := ER.stb c B m cs X W X' W' he h'
  simpa only [ERo, if_neg e] using this
end
end Go.Proofs.YtolpfibihialkaaGreatDoor

/- Lists and matrices of the document's numbers in memory, and its numbers' calls over them. No statement of the seat is proved here. -/
namespace Go.Proofs.YtolpfibihialkaaGreatDoor
open Go Go.RowKit
def NL.ir (p : NL) : Fa := fun X W => RNum W p.b p.a p.n p.c p.z ∧ ∀ q, p.a = some q → 0 < p.n → ¬ X q.block
theorem NL.stbr (p : NL) : Stb p.ir := by
 intro X W X' W' he h
 refine ⟨⟨⟨h.1.lie.cap, h.1.lie.capm, h.1.lie.nil, fun q hq => ⟨(h.1.lie.spot q hq).1, Nat.lt_of_lt_of_le (h.1.lie.spot q hq).2 he.size⟩, fun q hq i hi => ?_⟩, h.1.fit, h.1.sgn⟩, fun q hq h0 hx => h.2 q hq h0 (he.grow _ hx (h.1.lie.spot q hq).2)⟩
 exact (he.cell (q := ⟨q.block, q.off + i, none⟩) (h.1.lie.spot q hq).2 (h.2 q hq (by omega))).trans (h.1.lie.cell q hq i hi)
theorem nlz_isr (X : Nat → Prop) (W : World) : nlz.ir X W := ⟨rnum_zero W, nofun⟩
def ENr (x : Nat → Int) : El := fun X W i cs => ∃ p : NL, p.z = x i ∧ p.ir X W ∧ cs = [.bool p.b, .slice p.a p.n p.c]
theorem ENr.stb (x : Nat → Int) : EStb (ENr x) := fun _ _ X W X' W' he ⟨p, h1, h2, h3⟩ => ⟨p, h1, p.stbr X W X' W' he h2, h3⟩
/-- A list of n numbers. -/
structure Lr (n : Nat) (x : Nat → Int) (s : Sl) (X : Nat → Prop) (W : World) : Prop where
 n : s.n = n
 sq : Sq 2 (ENr x) s X W
theorem Lr.stb (n : Nat) (x : Nat → Int) (s : Sl) : Stb (Lr n x s) := fun X W X' W' he h => ⟨h.n, Sq.stb (ENr.stb x) s X W X' W' he h.sq⟩
def ERr (c : Nat → Nat) (B : Nat → Nat → Int) : El := fun X W i cs => ∃ r : Sl, Lr (c i) (B i) r X W ∧ cs = [r.v]
theorem ERr.stb (c : Nat → Nat) (B : Nat → Nat → Int) : EStb (ERr c B) := fun i _ X W X' W' he ⟨r, h1, h2⟩ => ⟨r, Lr.stb (c i) (B i) r X W X' W' he h1, h2⟩
/-- Rows, the i-th of c i numbers. -/
structure Mr (m : Nat) (c : Nat → Nat) (B : Nat → Nat → Int) (s : Sl) (X : Nat → Prop) (W : World) : Prop where
 n : s.n = m
 sq : Sq 1 (ERr c B) s X W
theorem Mr.stb (m : Nat) (c : Nat → Nat) (B : Nat → Nat → Int) (s : Sl) : Stb (Mr m c B s) := fun X W X' W' he h => ⟨h.n, Sq.stb (ERr.stb c B) s X W X' W' he h.sq⟩
theorem Lr.congr {n : Nat} {x y : Nat → Int} {s : Sl} {X : Nat → Prop} {W : World} (h : Lr n x s X W) (e : ∀ i, i < n → x i = y i) : Lr n y s X W :=
 ⟨h.n, h.sq.congr fun i _ hi ⟨p, h1, h2⟩ => ⟨p, h1.trans (e i (h.n ▸ hi)), h2⟩⟩
theorem Mr.congr {m : Nat} {c c' : Nat → Nat} {B B' : Nat → Nat → Int} {s : Sl} {X : Nat → Prop} {W : World} (h : Mr m c B s X W) (ec : ∀ i, i < m → c i = c' i) (e : ∀ i j, i < m → j < c i → B i j = B' i j) : Mr m c' B' s X W :=
 ⟨h.n, h.sq.congr fun i _ hi ⟨r, h1, h2⟩ => ⟨r, by rw [← ec i (h.n ▸ hi)]; exact h1.congr fun j hj => e i j (h.n ▸ hi) hj, h2⟩⟩
/-- A number is handed back. -/
def PNXr (X : Nat → Prop) (z : Int) (w : World) (e : Ending) (w' : World) : Prop := ∃ p : NL, e = .returned p.v ∧ p.z = z ∧ p.ir X w' ∧ Below w.heap.size w w'
theorem pnx_ofr {X : Nat → Prop} {z : Int} {w : World} (hx : NX X w) {e : Ending} {w' : World} (h : PRNumF z w e w') : PNXr X z w e w' := by
 obtain ⟨b, a, n, c, rfl, h1, h2, h3⟩ := h
 exact ⟨⟨b, a, n, c, z⟩, rfl, rfl, ⟨h1, fun q hq _ hX => by have := h2 q hq; have := hx _ hX; omega⟩, h3⟩
section
variable {P : Program} {ops : Array Oper} {Q : Exit → Act → World → Prop} {a : Act} {w W W0 : World} {rest : List Oper} {o : Oper} {l : List (Nat × Array Value × TypeId)} {X0 X : Nat → Prop} {fs : List Fa} {next : Act → World → Prop}
end
section
variable {w W : World} {X0 X : Nat → Prop} {l : List (Nat × Array Value × TypeId)} {fs : List Fa}
/-- The rows of a matrix, but row i, which is one's own. -/
def ERor (i : Nat) (r : Sl) (c : Nat → Nat) (B : Nat → Nat → Int) : El := fun X W m cs => if m = i then cs = [r.v] else ERr c B X W m cs
theorem ERor.stb (i : Nat) (r : Sl) (c : Nat → Nat) (B : Nat → Nat → Int) : EStb (ERor i r c B) := fun m cs X W X' W' he h => by
 by_cases e : m = i
 ·
  have h' : cs = [r.v] := by simpa only [ERor, if_pos e] using h
  simpa only [ERor, if_pos e] using h'
 ·
  have h' : ERr c B X W m cs := by simpa only [ERor, if_neg e] using h
  have := ERr.stb c B m cs X W X' W' he h'
  simpa only [ERor, if_neg e] using this
end
theorem Lr.cut {n : Nat} {x : Nat → Int} {s : Sl} {X : Nat → Prop} {W : World} (h : Lr n x s X W) {l u : Nat} (hl : l ≤ u) (hu : u ≤ n) : Lr (u - l) (fun j => x (l + j)) (s.cut 2 l u) X W := by
 have hcap := h.sq.cap
 have hn := h.n
 refine ⟨rfl, ?_, ?_, ?_, ?_, ?_⟩
 ·
  show u - l ≤ s.c - l; omega
 ·
  have := h.sq.capm; show s.c - l ≤ maxLen; omega
 ·
  intro e
  have e' : s.a = none := by
   unfold Sl.cut at e
   simp only at e
   split at e
   ·
    exact e
   ·
    cases hs : s.a with
    | none => rfl
    | some q => rw [hs] at e; cases e
  have := h.sq.nil e'
  exact ⟨by show u - l = 0; omega, by show s.c - l = 0; omega⟩
 ·
  intro q hq h0
  change 0 < u - l at h0
  unfold Sl.cut at hq
  simp only at hq
  split at hq
  ·
   exact h.sq.spot q hq (by omega)
  ·
   cases hs : s.a with
   | none => rw [hs] at hq; cases hq
   | some p =>
    rw [hs] at hq
    simp only [Option.map_some, Option.some.injEq] at hq
    subst hq
    obtain ⟨h1, h2, h3⟩ := h.sq.spot p hs (by omega)
    obtain ⟨pb, po, ps⟩ := p
    simp only at h1
    subst h1
    have hadd : (⟨pb, po, none⟩ : Addr).add (l * 2) = ⟨pb, po + l * 2, none⟩ := by unfold Addr.add; split <;> simp_all
    rw [hadd]
    exact ⟨rfl, h2, h3⟩
 ·
  intro q hq i hi
  change i < u - l at hi
  unfold Sl.cut at hq
  simp only at hq
  split at hq
  ·
   omega
  ·
   cases hs : s.a with
   | none => rw [hs] at hq; cases hq
   | some p =>
    rw [hs] at hq
    simp only [Option.map_some, Option.some.injEq] at hq
    subst hq
    obtain ⟨h1, h2, h3⟩ := h.sq.spot p hs (by omega)
    obtain ⟨pb, po, ps⟩ := p
    simp only at h1
    subst h1
    have hadd : (⟨pb, po, none⟩ : Addr).add (l * 2) = ⟨pb, po + l * 2, none⟩ := by unfold Addr.add; split <;> simp_all
    obtain ⟨cs, k1, k2, k3⟩ := h.sq.el _ hs (l + i) (by omega)
    refine ⟨cs, k1, fun j hj => ?_, k3⟩
    rw [hadd]
    have := k2 j hj
    simp only at this ⊢
    rw [show po + l * 2 + i * 2 + j = po + (l + i) * 2 + j by omega]
    exact this
def vnumr (z : Int) : VF := fun u X W => ∃ p : NL, u = p.v ∧ p.z = z ∧ p.ir X W
theorem vnum_str (z : Int) : VSt (vnumr z) := fun _ X W W' hb ⟨p, h1, h2, h3⟩ => ⟨p, h1, h2, p.stbr X W X W' (Ext.below X hb) h3⟩
theorem fit10_len {n e N : Nat} (h : Fit10 n N) (hN : N < BB ^ e) : n ≤ 10 * e := by
 rcases h.2 with h0 | h0
 ·
  omega
 ·
  refine Nat.le_of_not_lt fun hlt => ?_
  have h1 : BB ^ e ≤ (10 ^ 10) ^ e := Nat.pow_le_pow_left (by decide) e
  rw [← Nat.pow_mul] at h1
  have h2 : 10 ^ (10 * e) ≤ 10 ^ (n - 1) := Nat.pow_le_pow_right (by decide) (by omega)
  omega
section
variable {X : Nat → Prop} {W : World} {p q : NL} {x y : Int} {e f : Nat}
theorem NL.lenr (hp : p.ir X W) (ex : p.z = x) (b : Sz e x) (he : e ≤ 900000) : p.n ≤ 9000000 := by
 have := fit10_len hp.1.fit (show p.z.natAbs < BB ^ e by rw [ex]; exact b)
 omega
theorem zAddr (hx : NX X W) (hp : p.ir X W) (hq : q.ir X W) (ex : p.z = x) (ey : q.z = y) (b : Sz e x) (c : Sz f y) (he : e ≤ 900000) (hf : f ≤ 900000) : Calls Tryz.prog 36 #[p.v, q.v] W (PNXr X (x + y) W) := by
 have h1 := NL.lenr hp ex b he
 have h2 := NL.lenr hq ey c hf
 subst ex ey
 exact (rAdd_any _ _ _ _ _ _ _ _ _ _ W hp.1 hq.1 (by omega) (by omega)).mono fun _ _ h => pnx_ofr hx h
theorem zMulr (hx : NX X W) (hp : p.ir X W) (hq : q.ir X W) (ex : p.z = x) (ey : q.z = y) (b : Sz e x) (c : Sz f y) (he : e ≤ 900000) (hf : f ≤ 900000) : Calls Tryz.prog 35 #[p.v, q.v] W (PNXr X (x * y) W) := by
 have h1 := NL.lenr hp ex b he
 have h2 := NL.lenr hq ey c hf
 subst ex ey
 exact (rMul_any _ _ _ _ _ _ _ _ _ _ W hp.1 hq.1 (by omega) (by omega)).mono fun _ _ h => pnx_ofr hx h
theorem zOfr (hx : NX X W) (h1 : -9223372036854775808 ≤ x) (h2 : x ≤ 9223372036854775807) : Calls Tryz.prog 34 #[.int .i64 x] W (PNXr X x W) :=
 (rOf_any x W h1 h2).mono fun _ _ h => pnx_ofr hx h
theorem zSignr (hp : p.ir X W) (ex : p.z = x) : Calls Tryz.prog 37 #[p.v] W (PVal (.int .i64 (sgnI x)) W) := by
 subst ex
 exact rSign_any _ _ _ _ _ W hp.1
end
theorem rmade_store {w w3 : World} {bl : Bool} {a : Option Addr} {n c r : Nat} {z : Int} (hn : RNum w3 bl a n c z) (hB : Below w.heap.size w w3) (hr : w.heap.size ≤ r) (hfr : ∀ p, a = some p → p.block ≠ r) :
  PRMade a z w (.returned (.agg #[.bool bl, .slice a n c])) ((w3.setCell ⟨r, 0, none⟩ (.bool bl)).setCell ⟨r, 1, none⟩ (.slice a n c)) :=
 ⟨bl, n, c, rfl, hn.only (only2 _ _ _ _) hfr, hB.trans ((only2 _ _ _ _).below hr)⟩
set_option maxHeartbeats 800000 in
theorem rMinus_at (bl : Bool) (a : Option Addr) (n c : Nat) (z : Int) (w : World) (h : RNum w bl a n c z) :
  Calls Tryz.prog 38 #[.agg #[.bool bl, .slice a n c]] w (PRMade a (-z) w) := by
 have hl := h.lie
 have hf := Lib.hid h.fit
 have hsg := Lib.hid h.sgn
 clear h
 go_enter Tryz.func38, Tryz.ntmps38
 go_wp2_with fail
 have hR := box_res w 56 (.cells #[.bool bl, .slice a n c] 56)
 generalize (w.alloc (.cells #[.bool bl, .slice a n c] 56)).alloc (.cells #[.bool false, .slice none 0 0] 56) = w1 at *
 refine (rmade_any (!bl) a n c z.natAbs _ (hl.below hR.below) hf.out.1).mono ?_
 rintro e w3 ⟨bl3, n3, c3, rfl, hnum, hb3⟩
 have hR3 := hR.later hb3
 have rB0 := hR3.r0
 have rB1 := hR3.r1
 have fB0 := hR3.f0
 have fB1 := hR3.f1
 go_wp2
 rw [sg_not hsg.out] at hnum
 refine bodyPost_ret (v := .agg #[.bool bl3, .slice a n3 c3]) (by simp [results, Tryz.results38, go_sem, rB0, rB1]) rfl ?_
 exact rmade_store hnum hR3.below (by omega) (fun p hp => by have := (hl.spot p hp).2; omega)
theorem zNegr {X : Nat → Prop} {W : World} {p : NL} {x : Int} (hp : p.ir X W) (ex : p.z = x) : Calls Tryz.prog 38 #[p.v] W (PNXr X (-x) W) := by
 subst ex
 refine (rMinus_at _ _ _ _ _ W hp.1).mono ?_
 rintro _ w' ⟨bl, n, c, rfl, h1, h2⟩
 refine ⟨⟨bl, p.a, n, c, -p.z⟩, rfl, rfl, ⟨h1, fun q hq h0 => hp.2 q hq ?_⟩, h2⟩
 have e1 := h1.zero_iff
 have e2 := hp.1.zero_iff
 simp only at h0
 omega
end Go.Proofs.YtolpfibihialkaaGreatDoor

/- Package lin: the walks of square and its closures. No statement of the seat is proved here. -/
namespace Go.Proofs.YtolpfibihialkaaGreatDoor
open Go Go.RowKit
/-- A function that tells a number of each two places below n. -/
def At2 (X : Nat → Prop) (w : World) (k : FuncId) (cs : Array Value) (n : Nat) (g : Nat → Nat → Int) : Prop := (∀ (args : Array Value) (W : World), (callFunc k args).run Tryz.prog W = .ok (.enter k args) W) ∧ ∀ i j, i < n → j < n → ∀ (X' : Nat → Prop) (W : World), NX X' W → Ext X w X' W → Below w.heap.size w W → Calls Tryz.prog k (#[.int .i64 ((i : Nat) : Int), .int .i64 ((j : Nat) : Int)] ++ cs) W (PNX X' (g i j) W)
theorem At2.ext {X X1 : Nat → Prop} {w W : World} {k : FuncId} {cs : Array Value} {n : Nat} {g : Nat → Nat → Int} (h : At2 X w k cs n g) (he : Ext X w X1 W) (hb : Below w.heap.size w W) : At2 X1 W k cs n g :=
 ⟨h.1, fun i j hi hj X' W' hx he' hb' => h.2 i j hi hj X' W' hx (he.trans he') (hb.trans (hb'.mono hb.size))⟩
end Go.Proofs.YtolpfibihialkaaGreatDoor

/- Package lin: the walks of condensed with its closures, and of firstWithHead. No statement of the seat is proved here. -/
namespace Go.Proofs.YtolpfibihialkaaGreatDoor
open Go Go.RowKit
theorem sgnI_ne {z : Int} : (sgnI z ≠ 0) = (z ≠ 0) := by
 refine propext ?_
 unfold sgnI
 split
 ·
  omega
 ·
  split <;> omega
end Go.Proofs.YtolpfibihialkaaGreatDoor
