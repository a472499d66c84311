/- Parts of the proof. -/
import Derived.Test.YtpahkpcoinbgcabGp2
import Derived.Test.YtpahkpcoinbgcabGp1
/- Variables of any kind in memory: how they are made and stored in; regions over them. No statement of the seat is proved here. -/
namespace Go.Proofs.Ytpahkpcoinbgcab
open Go Go.RowKit
/-- Variables and what they hold, all of them made since w, no two of them the same. -/
structure Es (w W : World) (l : List (Nat × Array Value × TypeId)) : Prop where
 below : Below w.heap.size w W
 at' : ∀ p, p ∈ l → Cl W p
 nd : (l.map (·.1)).Nodup
 ge : ∀ p, p ∈ l → w.heap.size ≤ p.1
section
variable {w W W' : World} {l : List (Nat × Array Value × TypeId)}
theorem es_nil (w : World) : Es w w [] := ⟨Below.refl _ _, nofun, List.nodup_nil, nofun⟩
theorem Es.later (h : Es w W l) (hb : Below W.heap.size W W') : Es w W' l := ⟨h.below.trans (hb.mono h.below.size), fun p hp => (h.at' p hp).below hb, h.nd, h.ge⟩
theorem Es.drew (h : Es w W l) : Es w W.drew l := h.later (Below.refl _ _).drew
theorem Es.lt (h : Es w W l) : ∀ p, p ∈ l → p.1 < W.heap.size := fun p hp => (Array.getElem?_eq_some_iff.1 (h.at' p hp)).1
theorem Es.new (h : Es w W l) (C : Array Value) (T : TypeId) : Es w (W.alloc (.cells C T)) ((W.heap.size, C, T) :: l) := by
 have hb : Below W.heap.size W (W.alloc (.cells C T)) := (Below.refl _ _).alloc (Nat.le_refl _) _
 refine ⟨(h.later hb).below, fun p hp => ?_, ?_, fun p hp => ?_⟩
 ·
  rcases List.mem_cons.1 hp with rfl | hp
  ·
   exact heap_new W _
  ·
   exact (h.later hb).at' p hp
 ·
  refine List.nodup_cons.2 ⟨fun hm => ?_, h.nd⟩
  obtain ⟨p, hp, e⟩ := List.mem_map.1 hm
  have := h.lt p hp
  change p.1 = W.heap.size at e
  omega
 ·
  rcases List.mem_cons.1 hp with rfl | hp
  ·
   exact h.below.size
  ·
   exact h.ge p hp
theorem Es.sub {l' : List (Nat × Array Value × TypeId)} (h : Es w W l) (hs : l'.Sublist l) : Es w W l' := ⟨h.below, fun p hp => h.at' p (hs.subset hp), (hs.map _).nodup h.nd, fun p hp => h.ge p (hs.subset hp)⟩
theorem Es.cell (h : Es w W l) (j : Nat) {b : Nat} {C : Array Value} {T : TypeId} (hj : l[j]? = some (b, C, T)) (i : Nat) {v : Value} (hi : C[i]? = some v) : W.cell? ⟨b, i, none⟩ = some v := by
 have hc : W.heap[b]? = some (.cells C T (0, 0)) := h.at' _ (List.mem_of_getElem? hj)
 simp [World.cell?, hc, hi]
theorem Es.free (h : Es w W l) (j : Nat) {b : Nat} {C : Array Value} {T : TypeId} (hj : l[j]? = some (b, C, T)) (i : Nat) : W.frozen? ⟨b, i, none⟩ = false := by
 have hc : W.heap[b]? = some (.cells C T (0, 0)) := h.at' _ (List.mem_of_getElem? hj)
 simp [World.frozen?, hc]
theorem nodup_get {α : Type} {l : List α} (h : l.Nodup) {i j : Nat} {x : α} (hi : l[i]? = some x) (hj : l[j]? = some x) : i = j := by
 obtain ⟨h1, e1⟩ := List.getElem?_eq_some_iff.1 hi
 obtain ⟨h2, e2⟩ := List.getElem?_eq_some_iff.1 hj
 exact (List.getElem_inj h).1 (e1.trans e2.symm)
theorem Es.put1 (h : Es w W l) {j : Nat} {b : Nat} {C : Array Value} {T : TypeId} (hj : l[j]? = some (b, C, T)) (i : Nat) (v : Value) : Es w (W.setCell ⟨b, i, none⟩ v) (l.set j (b, C.setIfInBounds i v, T)) := by
 have hc : W.heap[b]? = some (.cells C T (0, 0)) := h.at' _ (List.mem_of_getElem? hj)
 have hjl := (List.getElem?_eq_some_iff.1 hj).1
 have hmap : (l.set j (b, C.setIfInBounds i v, T)).map (·.1) = l.map (·.1) := by
  rw [List.map_set]
  refine List.ext_getElem? fun k => ?_
  rw [List.getElem?_set]
  split
  ·
   next e =>
   subst e
   simp [hjl, (List.getElem?_eq_some_iff.1 hj).2]
  ·
   rfl
 have hge := h.ge _ (List.mem_of_getElem? hj)
 refine ⟨h.below.setCell (p := ⟨b, i, none⟩) hge _, fun p hp => ?_, hmap ▸ h.nd, fun p hp => ?_⟩
 ·
  obtain ⟨k, hk⟩ := List.mem_iff_getElem?.1 hp
  rw [List.getElem?_set] at hk
  by_cases e : j = k
  ·
   rw [if_pos e, if_pos hjl] at hk
   cases hk
   show (W.setCell ⟨b, i, none⟩ v).heap[b]? = _
   simp [World.setCell, Array.getElem?_modify, hc]
  ·
   rw [if_neg e] at hk
   have hne : p.1 ≠ b := by
    intro hc'
    refine e (nodup_get h.nd (i := j) (j := k) (x := b) ?_ ?_)
    ·
     simp [hj]
    ·
     simp [hk, hc']
   show (W.setCell ⟨b, i, none⟩ v).heap[p.1]? = _
   rw [heap_set_ne _ _ hne]
   exact h.at' p (List.mem_of_getElem? hk)
 ·
  obtain ⟨k, hk⟩ := List.mem_iff_getElem?.1 hp
  rw [List.getElem?_set] at hk
  by_cases e : j = k
  ·
   rw [if_pos e, if_pos hjl] at hk
   cases hk
   exact hge
  ·
   rw [if_neg e] at hk
   exact h.ge p (List.mem_of_getElem? hk)
/-- Cells stored from a place on. -/
def putC (C : Array Value) (off : Nat) : List Value → Array Value
 | [] => C
 | v :: r => putC (C.setIfInBounds off v) (off + 1) r
theorem set_set' {α : Type} : ∀ (l : List α) (j : Nat) (x y : α), (l.set j x).set j y = l.set j y
 | [], _, _, _ => rfl
 | _ :: _, 0, _, _ => rfl
 | a :: l, j + 1, x, y => by
  show a :: (l.set j x).set j y = _
  rw [set_set' l j x y]
  rfl
theorem run_storeCells {P : Program} (b off : Nat) (T : TypeId) : ∀ (vs : List Value) (i : Nat) (C : Array Value) (l : List (Nat × Array Value × TypeId)) (j : Nat) (W : World), Es w W l → l[j]? = some (b, C, T) → off + i + vs.length ≤ C.size → vs.all (·.oneCell') = true →
  ∃ W', (storeCells ⟨b, off, none⟩ vs i).run P W = .ok () W' ∧ Es w W' (l.set j (b, putC C (off + i) vs, T)) ∧ (∀ k, k ≠ b → W'.heap[k]? = W.heap[k]?) ∧ W'.heap.size = W.heap.size
 | [], i, C, l, j, W, h, hj, _, _ => by
  refine ⟨W, rfl, ?_, fun _ _ => rfl, rfl⟩
  have e : l.set j (b, C, T) = l := by
   refine List.ext_getElem? fun k => ?_
   rw [List.getElem?_set]
   split
   ·
    next e => subst e; rw [if_pos (List.getElem?_eq_some_iff.1 hj).1, hj]
   ·
    rfl
  show Es w W (l.set j (b, C, T))
  rw [e]
  exact h
 | v :: r, i, C, l, j, W, h, hj, hs, hb => by
  have hjl := (List.getElem?_eq_some_iff.1 hj).1
  rw [List.length_cons] at hs
  have hlt : off + i < C.size := by omega
  have c1 := h.cell j hj (off + i) (Array.getElem?_eq_getElem hlt)
  have c2 := h.free j hj (off + i)
  have hv : v.oneCell' = true := by rw [List.all_cons, Bool.and_eq_true] at hb; exact hb.1
  have hr : r.all (·.oneCell') = true := by rw [List.all_cons, Bool.and_eq_true] at hb; exact hb.2
  have h1 := h.put1 hj (off + i) v
  obtain ⟨W', e1, e2, e3, e4⟩ := run_storeCells b off T r (i + 1) (C.setIfInBounds (off + i) v) _ j _ h1 (by rw [List.getElem?_set, if_pos rfl, if_pos hjl]) (by rw [Array.size_setIfInBounds]; omega) hr
  refine ⟨W', ?_, ?_, fun k hk => (e3 k hk).trans (heap_set_ne _ _ hk), e4.trans (World.size_setCell _ _ _)⟩
  ·
   have hadd : (⟨b, off, none⟩ : Addr).add i = ⟨b, off + i, none⟩ := by unfold Addr.add; split <;> simp_all
   rw [← e1]
   simp only [storeCells, Sem.run_bind, hadd, run_store P W _ v _ hv, c1, c2]
   rfl
  ·
   rw [set_set'] at e2
   exact e2
end
/-- A goal that the walk does not go into. -/
def Stop (p : Prop) : Prop := p
section
variable {P : Program} {ops : Array Oper} {Q : Exit → Act → World → Prop} {a : Act} {w W : World} {rest : List Oper} {o : Oper} {l : List (Nat × Array Value × TypeId)}
theorem wp_alloc {next : Act → World → Prop} (T : TypeId) (ho : o.op = .alloc T) (z : Value) (hz : ∀ W, (zeroValue T).run P W = .ok z W) (k : next (a.put o.dst (.pointer (some ⟨W.heap.size, 0, none⟩))) (W.alloc (.cells z.cells T))) : o.wp P a W next Q := by
 have e : (execOp a.eval o).run P W = .ok (.value (.pointer (some ⟨W.heap.size, 0, none⟩))) (W.alloc (.cells z.cells T)) := by
  unfold execOp
  rw [ho]
  simp only [Instr.alloc, newVar, newRow, Sem.run_bind, hz, Result.andThen, run_newObj_alloc]
  rfl
 unfold Oper.wp
 rw [e]
 exact k
theorem wp_box {next : Act → World → Prop} (T : TypeId) (x : Operand) (ho : o.op = .box T x) (k : next (a.put o.dst (.pointer (some ⟨W.heap.size, 0, none⟩))) (W.alloc (.cells (a.eval x).cells T))) : o.wp P a W next Q := by
 have e : (execOp a.eval o).run P W = .ok (.value (.pointer (some ⟨W.heap.size, 0, none⟩))) (W.alloc (.cells (a.eval x).cells T)) := by
  unfold execOp
  rw [ho]
  simp only [Instr.box, newVar, newRow, Sem.run_bind, Result.andThen, run_newObj_alloc]
  rfl
 unfold Oper.wp
 rw [e]
 exact k
theorem wp_store {next : Act → World → Prop} (T : TypeId) (p x : Operand) (ho : o.op = .store T p x) (j b off : Nat) (C : Array Value) (T' : TypeId) (n : Nat) (vs : List Value) (h : Es w W l) (hj : l[j]? = some (b, C, T')) (hp : a.eval p = .pointer (some ⟨b, off, none⟩)) (hx : (a.eval x).cells.toList = vs) (hn : ∀ W, (sizeOf T).run P W = .ok n W) (hv : vs.length = n) (hs : off + n ≤ C.size) (hb : vs.all (·.oneCell') = true)
  (k : ∀ W', Es w W' (l.set j (b, putC C off vs, T')) → (∀ k, k ≠ b → W'.heap[k]? = W.heap[k]?) → W'.heap.size = W.heap.size → next (a.put o.dst undef) W') : o.wp P a W next Q := by
 obtain ⟨W', e1, e2, e4, e5⟩ := run_storeCells (P := P) b off T' vs 0 C l j W h hj (by omega) hb
 have hsz : (a.eval x).cells.size = n := by rw [← Array.length_toList, hx, hv]
 have e3 : (Instr.storeAt T (a.eval p) (a.eval x)).run P W = .ok () W' := by
  rw [hp]
  unfold Instr.storeAt storeVar
  have hsa : (Instr.sureAddr (.pointer (some ⟨b, off, none⟩))).run P W = .ok ⟨b, off, none⟩ W := rfl
  simp only [Sem.run_bind, hsa, Result.andThen, hn, hsz, hx]
  rw [if_neg (by simp)]
  exact e1
 have e : (execOp a.eval o).run P W = .ok .skip W' := by
  unfold execOp
  rw [ho]
  simp only [Sem.run_bind, e3, Result.andThen]
  rfl
 unfold Oper.wp
 rw [e]
 exact k W' e2 e4 e5
theorem stop_alloc (T : TypeId) (C : Array Value) (z : Value) (hg : o.guard = none) (ho : o.op = .alloc T) (hz : ∀ W, (zeroValue T).run P W = .ok z W) (hC : z.cells = C) (h : Es w W l) (k : ∀ (b : Nat) (W' : World), Es w W' ((b, C, T) :: l) → Stop (wpList P ops Q rest (a.put o.dst (.pointer (some ⟨b, 0, none⟩))) W')) : wpList P ops Q (o :: rest) a W :=
 wpList_plain hg fun K hK => wp_alloc T ho z hz (hK _ _ (k _ _ (hC ▸ h.new z.cells T)))
theorem stop_box (T : TypeId) (x : Operand) (C : Array Value) (hg : o.guard = none) (ho : o.op = .box T x) (hC : (a.eval x).cells = C) (h : Es w W l) (k : ∀ (b : Nat) (W' : World), Es w W' ((b, C, T) :: l) → Stop (wpList P ops Q rest (a.put o.dst (.pointer (some ⟨b, 0, none⟩))) W')) : wpList P ops Q (o :: rest) a W :=
 wpList_plain hg fun K hK => wp_box T x ho (hK _ _ (k _ _ (hC ▸ h.new (a.eval x).cells T)))
theorem stop_store (T : TypeId) (p x : Operand) (j b off : Nat) (C : Array Value) (T' : TypeId) (n : Nat) (vs : List Value) (C' : Array Value) (l' : List (Nat × Array Value × TypeId)) (hg : o.guard = none) (ho : o.op = .store T p x) (hp : a.eval p = .pointer (some ⟨b, off, none⟩)) (hx : (a.eval x).cells.toList = vs) (hn : ∀ W, (sizeOf T).run P W = .ok n W) (h : Es w W l) (hj : l[j]? = some (b, C, T')) (hv : vs.length = n) (hs : off + n ≤ C.size) (hb : vs.all (·.oneCell') = true) (hC : putC C off vs = C') (hl : l.set j (b, C', T') = l')
  (k : ∀ W', Es w W' l' → Stop (wpList P ops Q rest (a.put o.dst undef) W')) : wpList P ops Q (o :: rest) a W :=
 wpList_plain hg fun K hK => wp_store T p x ho j b off C T' n vs h hj hp hx hn hv hs hb (fun W' e _ _ => hK _ _ (k W' (by rw [hC, hl] at e; exact e)))
end
/-- What an operation of a region gives: a value, a new variable, whatever. -/
inductive VE where
 | eq (v : Value)
 | box (C : Array Value) (T : TypeId)
 | any
def veP (m : Nat) : VE → Value → World → Prop
 | .eq c, v, _ => v = c
 | .box C T, v, W => ∃ b, v = .pointer (some ⟨b, 0, none⟩) ∧ m ≤ b ∧ Cl W (b, C, T)
 | .any, _, _ => True
def veL (m : Nat) (ks : List VE) (j : Nat) : Value → World → Prop := veP m (ks.getD j .any)
theorem ve_later {m : Nat} {k : VE} {v : Value} {W W' : World} (h : veP m k v W) (hb : Below W.heap.size W W') : veP m k v W' := by
 cases k with
 | eq c => exact h
 | box C T => obtain ⟨b, e, h1, h2⟩ := h; exact ⟨b, e, h1, h2.below hb⟩
 | any => trivial
theorem veL_later {m n : Nat} {ks : List VE} {u : Nat → Value} {W W' : World} (hb : Below W.heap.size W W') : ∀ j, j < n → veL m ks j (u j) W → veL m ks j (u j) W' := fun _ _ h => ve_later h hb
theorem veL_same {m n : Nat} {ks : List VE} {u : Nat → Value} {W : World} : ∀ j, j < n → veL m ks j (u j) W → veL m ks j (u j) W := fun _ _ h => h
/-- In a region: the variables, all of them ahead of m. -/
structure Em (w : World) (m : Nat) (l : List (Nat × Array Value × TypeId)) (W : World) : Prop where
 es : Es w W l
 le : m ≤ W.heap.size
 lt : ∀ p, p ∈ l → p.1 < m
 ge : w.heap.size ≤ m
theorem Es.em {w W : World} {l : List (Nat × Array Value × TypeId)} (h : Es w W l) : Em w W.heap.size l W.drew := ⟨h.drew, Nat.le_refl _, h.lt, h.below.size⟩
theorem Em.later {w W W' : World} {m : Nat} {l : List (Nat × Array Value × TypeId)} (h : Em w m l W) (hb : Below W.heap.size W W') : Em w m l W' := ⟨h.es.later hb, Nat.le_trans h.le hb.size, h.lt, h.ge⟩
/-- A new variable joins. -/
theorem Em.join {w W : World} {m b : Nat} {l : List (Nat × Array Value × TypeId)} {C : Array Value} {T : TypeId} (h : Em w m l W) (hb : m ≤ b) (hc : Cl W (b, C, T)) : Es w W ((b, C, T) :: l) := by
 refine ⟨h.es.below, fun p hp => ?_, ?_, fun p hp => ?_⟩
 ·
  rcases List.mem_cons.1 hp with rfl | hp
  ·
   exact hc
  ·
   exact h.es.at' p hp
 ·
  refine List.nodup_cons.2 ⟨fun hm => ?_, h.es.nd⟩
  obtain ⟨p, hp, e⟩ := List.mem_map.1 hm
  have := h.lt p hp
  change p.1 = b at e
  omega
 ·
  rcases List.mem_cons.1 hp with rfl | hp
  ·
   exact Nat.le_trans h.ge hb
  ·
   exact h.es.ge p hp
/-- A region in which variables are made and stored in, in any order. al: (the operation that makes it, its cells, its type); sts: (the store, the operation that made the variable, what it holds then). -/
structure Jz (w : World) (m : Nat) (l : List (Nat × Array Value × TypeId)) (al : List (Nat × Nat × TypeId)) (sts : List (Nat × Nat × Array Value × TypeId)) (L : Nat → Bool) (u : Nat → Value) (W : World) : Prop where
 em : Em w m l W
 bx : ∀ a, a ∈ al → L a.1 = true → ∃ (b : Nat) (C : Array Value), u a.1 = .pointer (some ⟨b, 0, none⟩) ∧ m ≤ b ∧ C.size = a.2.1 ∧ Cl W (b, C, a.2.2)
 ne : ∀ a a', a ∈ al → a' ∈ al → a.1 ≠ a'.1 → L a.1 = true → L a'.1 = true → u a.1 ≠ u a'.1
 st : ∀ s, s ∈ sts → L s.1 = true → L s.2.1 = true ∧ ∃ b : Nat, u s.2.1 = .pointer (some ⟨b, 0, none⟩) ∧ Cl W (b, s.2.2.1, s.2.2.2)
section
variable {w W : World} {m : Nat} {l : List (Nat × Array Value × TypeId)} {al : List (Nat × Nat × TypeId)} {sts : List (Nat × Nat × Array Value × TypeId)} {L : Nat → Bool} {u : Nat → Value}
theorem Jz.alloc {i n : Nat} {C : Array Value} {T : TypeId} (h : Jz w m l al sts L u W) (hLi : L i = false) (hn : C.size = n) (hin : ∀ a, a ∈ al → a.1 = i → a = (i, n, T)) (hs : ∀ s, s ∈ sts → s.1 ≠ i) : Jz w m l al sts (upd L i) (updV u i (.pointer (some ⟨W.heap.size, 0, none⟩))) (W.alloc (.cells C T)) := by
 have hb : Below W.heap.size W (W.alloc (.cells C T)) := (Below.refl _ _).alloc (Nat.le_refl _) _
 have old : ∀ a, a ∈ al → a.1 ≠ i → upd L i a.1 = true → updV u i (.pointer (some ⟨W.heap.size, 0, none⟩)) a.1 ≠ .pointer (some ⟨W.heap.size, 0, none⟩) := by
  intro a ha e hL hc
  rw [upd_ne e] at hL
  obtain ⟨b, C', e1, _, _, e4⟩ := h.bx a ha hL
  rw [updV_ne e, e1] at hc
  have := (Array.getElem?_eq_some_iff.1 e4).1
  injection hc with hc
  injection hc with hc
  injection hc with hc
  change b < W.heap.size at this
  omega
 refine ⟨h.em.later hb, fun a ha' hL => ?_, fun a a' h1 h2 hne hL1 hL2 => ?_, fun s hs' hL => ?_⟩
 ·
  by_cases e : a.1 = i
  ·
   rw [hin a ha' e]
   exact ⟨W.heap.size, C, by simp [updV], h.em.le, hn, heap_new W _⟩
  ·
   rw [upd_ne e] at hL
   obtain ⟨b, C', e1, e2, e3, e4⟩ := h.bx a ha' hL
   exact ⟨b, C', by rw [updV_ne e]; exact e1, e2, e3, e4.below hb⟩
 ·
  by_cases e : a.1 = i
  ·
   have e' : a'.1 ≠ i := fun x => hne (e.trans x.symm)
   intro hc
   refine old a' h2 e' hL2 ?_
   rw [← hc, e]
   simp [updV]
  ·
   by_cases e' : a'.1 = i
   ·
    intro hc
    refine old a h1 e hL1 ?_
    rw [hc, e']
    simp [updV]
   ·
    rw [upd_ne e] at hL1
    rw [upd_ne e'] at hL2
    rw [updV_ne e, updV_ne e']
    exact h.ne a a' h1 h2 hne hL1 hL2
 ·
  rw [upd_ne (hs s hs')] at hL
  obtain ⟨k1, b, e1, e2⟩ := h.st s hs' hL
  exact ⟨upd_mono k1, b, by rw [updV_ne (ne_of hLi k1)]; exact e1, e2.below hb⟩
theorem Cl.keep {W' : World} {p : Nat × Array Value × TypeId} {b : Nat} (h : Cl W p) (hb : p.1 ≠ b) (hk : ∀ k, k ≠ b → W'.heap[k]? = W.heap[k]?) : Cl W' p := (hk p.1 hb).trans h
/-- A store into a variable that was made. -/
theorem Jz.store {W' : World} {i a b n : Nat} {T : TypeId} {Cn : Array Value} {v : Value} (h : Jz w m l al sts L u W) (hLi : L i = false) (ha : ∀ a, a ∈ al → a.1 ≠ i) (hin : (a, n, T) ∈ al) (hun : ∀ x, x ∈ al → x.1 = a → x = (a, n, T)) (hua : ∀ s, s ∈ sts → s.1 = i → s = (i, a, Cn, T)) (hal : ∀ s, s ∈ sts → ∃ x, x ∈ al ∧ x.1 = s.2.1) (hus : ∀ s, s ∈ sts → s.1 ≠ i → s.2.1 ≠ a) (hLa : L a = true)
  (eu : u a = .pointer (some ⟨b, 0, none⟩)) (hm : m ≤ b) (hn : Cn.size = n) (hE : Es w W' ((b, Cn, T) :: l)) (hk : ∀ k, k ≠ b → W'.heap[k]? = W.heap[k]?) (hz : W'.heap.size = W.heap.size) : Jz w m l al sts (upd L i) (updV u i v) W' := by
 have hCl : Cl W' (b, Cn, T) := hE.at' _ (List.mem_cons_self ..)
 refine ⟨⟨hE.sub (List.sublist_cons_self _ _), by rw [hz]; exact h.em.le, h.em.lt, h.em.ge⟩, fun a1 ha' hL => ?_, fun a1 a2 h1 h2 hne hL1 hL2 => ?_, fun s hs' hL => ?_⟩
 ·
  rw [upd_ne (ha a1 ha')] at hL
  obtain ⟨b1, C1, e1, e2, e3, e4⟩ := h.bx a1 ha' hL
  by_cases hb : b1 = b
  ·
   subst hb
   have : a1.1 = a := by
    refine Classical.byContradiction fun hc => h.ne a1 (a, n, T) ha' hin hc hL hLa ?_
    rw [e1, eu]
   rw [hun a1 ha' this]
   exact ⟨b1, Cn, by rw [updV_ne (ne_of hLi hLa)]; exact eu, hm, hn, hCl⟩
  ·
   exact ⟨b1, C1, by rw [updV_ne (ha a1 ha')]; exact e1, e2, e3, e4.keep hb hk⟩
 ·
  rw [upd_ne (ha a1 h1)] at hL1
  rw [upd_ne (ha a2 h2)] at hL2
  rw [updV_ne (ha a1 h1), updV_ne (ha a2 h2)]
  exact h.ne a1 a2 h1 h2 hne hL1 hL2
 ·
  by_cases hs : s.1 = i
  ·
   rw [hua s hs' hs]
   exact ⟨upd_mono hLa, b, by rw [updV_ne (ne_of hLi hLa)]; exact eu, hCl⟩
  ·
   rw [upd_ne hs] at hL
   obtain ⟨k1, b1, e1, e2⟩ := h.st s hs' hL
   have hb : b1 ≠ b := by
    intro hc
    obtain ⟨x, hx, ex⟩ := hal s hs'
    refine h.ne x (a, n, T) hx hin (by rw [ex]; exact hus s hs' hs) (by rw [ex]; exact k1) hLa ?_
    rw [ex, e1, eu, hc]
   exact ⟨upd_mono k1, b1, by rw [updV_ne (ne_of hLi k1)]; exact e1, e2.keep hb hk⟩
end
/-- Another variable joins what was found. -/
theorem Es.join {w W : World} {b : Nat} {l : List (Nat × Array Value × TypeId)} {C : Array Value} {T : TypeId} (h : Es w W l) (hg : w.heap.size ≤ b) (hne : ∀ p, p ∈ l → p.1 ≠ b) (hc : Cl W (b, C, T)) : Es w W ((b, C, T) :: l) := by
 refine ⟨h.below, fun p hp => ?_, ?_, fun p hp => ?_⟩
 ·
  rcases List.mem_cons.1 hp with rfl | hp
  ·
   exact hc
  ·
   exact h.at' p hp
 ·
  refine List.nodup_cons.2 ⟨fun hm => ?_, h.nd⟩
  obtain ⟨p, hp, e⟩ := List.mem_map.1 hm
  exact hne p hp e
 ·
  rcases List.mem_cons.1 hp with rfl | hp
  ·
   exact hg
  ·
   exact h.ge p hp
end Go.Proofs.Ytpahkpcoinbgcab

/- Zero values and sizes of the program's types. No statement of the seat is proved here. -/
namespace Go.Proofs.Ytpahkpcoinbgcab
open Go Go.RowKit
theorem zv25 (W : World) : (zeroValue 25).run Try.prog W = .ok (.agg #[.int .i64 0, .int .i64 0, .bool false, .int .i64 0, .int .i64 0, .bool false, .int .i64 0, .int .i64 0, .bool false]) W := by kernel_rfl
theorem sz25 (W : World) : (sizeOf 25).run Try.prog W = .ok 9 W := by kernel_rfl
theorem zv24 (W : World) : (zeroValue 24).run Try.prog W = .ok (.agg #[.int .i64 0, .int .i64 0, .bool false, .int .i64 0, .int .i64 0, .bool false, .int .i64 0, .int .i64 0, .bool false]) W := by kernel_rfl
theorem sz24 (W : World) : (sizeOf 24).run Try.prog W = .ok 9 W := by kernel_rfl
theorem zv23 (W : World) : (zeroValue 23).run Try.prog W = .ok (.agg #[.int .i64 0, .int .i64 0, .bool false]) W := by kernel_rfl
theorem sz23 (W : World) : (sizeOf 23).run Try.prog W = .ok 3 W := by kernel_rfl
theorem zv47 (W : World) : (zeroValue 47).run Try.prog W = .ok (.agg #[.int .i64 0, .int .i64 0, .int .i64 0]) W := by kernel_rfl
theorem sz47 (W : World) : (sizeOf 47).run Try.prog W = .ok 3 W := by kernel_rfl
theorem zv41 (W : World) : (zeroValue 41).run Try.prog W = .ok (.agg #[.bool false, .bool false, .bool false]) W := by kernel_rfl
theorem sz41 (W : World) : (sizeOf 41).run Try.prog W = .ok 3 W := by kernel_rfl
theorem sz2 (W : World) : (sizeOf 2).run Try.prog W = .ok 1 W := by kernel_rfl
theorem sz4 (W : World) : (sizeOf 4).run Try.prog W = .ok 1 W := by kernel_rfl
end Go.Proofs.Ytpahkpcoinbgcab

/- Sines and cosines: the numbers of the sums. No statement of the seat is proved here. -/
namespace Go.Proofs.Ytpahkpcoinbgcab
open Go.RowKit
/-- How many times a factorial is in that of one d greater. -/
def grN (a : Nat) : Nat → Nat
 | 0 => 1
 | d + 1 => grN a d * (a + d + 1)
end Go.Proofs.Ytpahkpcoinbgcab

/- Sines and cosines: the walks of grown, sum, down. No statement of the seat is proved here. -/
namespace Go.Proofs.Ytpahkpcoinbgcab
open Go.RowKit
/-- A value is a number of package long. -/
def VN (z : Int) (v : Value) (W : World) : Prop := ∃ (b : Bool) (a : Option Addr) (n c : Nat), v = .agg #[.bool b, .slice a n c] ∧ Num W b a n c z
theorem VN.later {z : Int} {v : Value} {W W' : World} (h : VN z v W) (hb : Below W.heap.size W W') : VN z v W' := by
 obtain ⟨b, a, n, c, e, hn⟩ := h
 exact ⟨b, a, n, c, e, hn.below hb⟩
section
variable {w W : World} {k8 : Nat} {X1 : Bool} {X2 : Option Addr} {X3 X4 : Nat} {T1 : Bool} {T2 : Option Addr} {T3 T4 : Nat} {U1 : Bool} {U2 : Option Addr} {U3 U4 : Nat} {x y z : Int}
end
def Vt (_ : Value) (_ : World) : Prop := True
theorem Vt.later {v : Value} {W W' : World} (h : Vt v W) (_ : Below W.heap.size W W') : Vt v W' := h
section
variable {w W : World} {T1 : Bool} {T2 : Option Addr} {T3 T4 : Nat} {U1 : Bool} {U2 : Option Addr} {U3 U4 : Nat} {tv uv : Int} {L : Nat → Bool} {u : Nat → Value}
end
end Go.Proofs.Ytpahkpcoinbgcab

/- Spans: the walks of fixed, whole, Of, counted, Join. -/
namespace Go.Proofs.Ytpahkpcoinbgcab
open Go.RowKit
attribute [local go_sem ↓] run_eqlS run_neqS
theorem eqS_same (a b : Int) (c : Bool) : eqS a b c a b c = true := by simp [eqS]
theorem eqS_iff {a b : Int} {c : Bool} {a' b' : Int} {c' : Bool} : eqS a b c a' b' c' = true ↔ a = a' ∧ b = b' ∧ c = c' := by
 unfold eqS
 simp only [Bool.and_eq_true, beq_iff_eq]
set_option maxHeartbeats 400000 in
theorem sfixed_any (n : Int) (w : World) : Calls Try.prog 19 #[.int .i64 n] w (PVal (.bool (!cutB n)) w) := by
 go_enter Try.func19, Try.ntmps19
 go_wp2_with fail
 refine (Clamp_any n _).mono ?_
 rintro e w1 ⟨rfl, hB⟩
 go_wp2
 go_ret
 exact ⟨rfl, hB⟩
set_option maxHeartbeats 400000 in
theorem whole_any (w : World) : Calls Try.prog 20 #[] w (PSp lineS w) := by
 go_enter Try.func20, Try.ntmps20
 go_wp2
 exact bodyPost_ret (v := .agg #[.int .i64 0, .int .i64 0, .bool true]) (by simp [results, Try.results20, go_sem]) rfl ⟨rfl, (bs1 w 0 0 true).below⟩
theorem ofS_fix {a b : Int} (h1 : cutB a = false) (h2 : cutB b = false) : ofS a b = ⟨min a b, max a b, false⟩ := by
 have k1 := cut_false h1
 have k2 := cut_false h2
 have b1 := cut_bd a
 have b2 := cut_bd b
 rw [k1] at b1
 rw [k2] at b2
 exact mkS_ok (ok_mk (by show _ ≤ min a b; omega) (by show min a b ≤ max a b; omega) (by show max a b ≤ _; omega) rfl)
theorem ofS_cut {a b : Int} (h : cutB a = true ∨ cutB b = true) : ofS a b = lineS := by
 refine mkS_no ?_
 cases hk : okB ⟨min a b, max a b, false⟩
 ·
  rfl
 ·
  obtain ⟨h1, _, h3, _⟩ := ok_of hk
  have h1 : -2147483647 ≤ min a b := h1
  have h3 : max a b ≤ 2147483647 := h3
  rw [(cut_in (n := a) (by omega) (by omega)).2, (cut_in (n := b) (by omega) (by omega)).2] at h
  rcases h with h | h <;> cases h
set_option maxHeartbeats 800000 in
theorem sOf_any (a b : Int) (w : World) : Calls Try.prog 8 #[.int .i64 a, .int .i64 b] w (PSp (ofS a b) w) := by
 cases h1 : cutB a
 ·
  cases h2 : cutB b
  ·
   rw [ofS_fix h1 h2]
   go_enter Try.func8, Try.ntmps8
   go_wp2_with fail
   refine (sfixed_any a _).mono ?_
   rintro e w1 ⟨rfl, hB1⟩
   rw [h1]
   go_wp2_with fail
   refine (sfixed_any b _).mono ?_
   rintro e w2 ⟨rfl, hB2⟩
   rw [h2]
   have hX := ((bs1 w 0 0 false).later hB1).later hB2
   obtain ⟨c0, c1, c2, f0, f1, f2⟩ := hX.c0
   clear hB1 hB2 h1 h2
   go_wp2
   have h := hX.put 0 (by simp) ⟨min a b, max a b, false⟩
   rw [Nat.add_zero] at h
   exact bodyPost_ret (v := .agg #[.int .i64 (min a b), .int .i64 (max a b), .bool false]) (by simp [results, Try.results8, go_sem, c0, c1, c2]) rfl ⟨rfl, h.below⟩
  ·
   rw [ofS_cut (.inr h2)]
   go_enter Try.func8, Try.ntmps8
   go_wp2_with fail
   refine (sfixed_any a _).mono ?_
   rintro e w1 ⟨rfl, hB1⟩
   rw [h1]
   go_wp2_with fail
   refine (sfixed_any b _).mono ?_
   rintro e w2 ⟨rfl, hB2⟩
   rw [h2]
   go_wp2_with fail
   refine (whole_any _).mono ?_
   rintro e w3 ⟨rfl, hB3⟩
   have hX := (((bs1 w 0 0 false).later hB1).later hB2).later hB3
   obtain ⟨c0, c1, c2, f0, f1, f2⟩ := hX.c0
   clear hB1 hB2 hB3 h1 h2
   go_wp2
   have h := hX.put 0 (by simp) lineS
   rw [Nat.add_zero] at h
   exact bodyPost_ret (v := .agg #[.int .i64 0, .int .i64 0, .bool true]) (by simp [results, Try.results8, go_sem, c0, c1, c2, lineS]) rfl ⟨rfl, h.below⟩
 ·
  rw [ofS_cut (.inl h1)]
  go_enter Try.func8, Try.ntmps8
  go_wp2_with fail
  refine (sfixed_any a _).mono ?_
  rintro e w1 ⟨rfl, hB1⟩
  rw [h1]
  go_wp2_with fail
  refine (whole_any _).mono ?_
  rintro e w3 ⟨rfl, hB3⟩
  have hX := ((bs1 w 0 0 false).later hB1).later hB3
  obtain ⟨c0, c1, c2, f0, f1, f2⟩ := hX.c0
  clear hB1 hB3 h1
  go_wp2
  have h := hX.put 0 (by simp) lineS
  rw [Nat.add_zero] at h
  exact bodyPost_ret (v := .agg #[.int .i64 0, .int .i64 0, .bool true]) (by simp [results, Try.results8, go_sem, c0, c1, c2, lineS]) rfl ⟨rfl, h.below⟩
set_option maxHeartbeats 800000 in
theorem counted_ok (a b : Int) (c : Bool) (w : World) (h : okB ⟨a, b, c⟩ = true) : Calls Try.prog 36 #[.agg #[.int .i64 a, .int .i64 b, .bool c]] w (PSp ⟨a, b, c⟩ w) := by
 obtain ⟨k1, k2, k3, k4⟩ := ok_of h
 have k2 : a ≤ b := k2
 cases k4
 have hE : ofS a b = ⟨a, b, false⟩ := (ofS_le k2).trans (mkS_ok h)
 have hq : eqS a b false a b false = true := eqS_same _ _ _
 have HH := Lib.hid h
 clear h
 go_enter Try.func36, Try.ntmps36
 go_wp2
 have hX := bs2 w a b false 0 0 false
 generalize (w.alloc (.cells #[.int .i64 a, .int .i64 b, .bool false] 23)).alloc (.cells #[.int .i64 0, .int .i64 0, .bool false] 23) = w1 at *
 refine wp_region_vals 7 [some 3, some 4, some 5, some 6, some 7, some 8, some 9] (lstV [.agg #[.int .i64 a, .int .i64 b, .bool false], .pointer (some ⟨w.heap.size, 0, none⟩), .int .i64 a, .pointer (some ⟨w.heap.size, 1, none⟩), .int .i64 b, .agg #[.int .i64 a, .int .i64 b, .bool false], .bool false]) (fun W => Bs w W [⟨a, b, false⟩, ⟨0, 0, false⟩]) (by kernel_rfl) (by kernel_rfl) (by decide) (hX.drew) ?_ ?_
 ·
  intro i hl hi u W hJ hd
  obtain rfl | rfl | rfl | rfl | rfl | rfl | rfl : i = 0 ∨ i = 1 ∨ i = 2 ∨ i = 3 ∨ i = 4 ∨ i = 5 ∨ i = 6 := by omega
  ·
   clear hd
   simp only [List.getElem_cons_succ, List.getElem_cons_zero]
   clear hl
   refine .inr ⟨rfl, fun K' hK => ?_⟩
   have HK := Lib.hid hK
   clear hK
   simp only [layS, Act.put, List.setIfInBounds_toArray, List.set_cons_succ, List.set_cons_zero, Nat.zero_add, Nat.reduceAdd]
   have c00 := hJ.c0.1
   have c01 := hJ.c0.2.1
   have c02 := hJ.c0.2.2.1
   have c03 := hJ.c0.2.2.2.1
   have c04 := hJ.c0.2.2.2.2.1
   have c05 := hJ.c0.2.2.2.2.2
   go_simp
   exact HK.out _ _ (by simp [layS, updV, lstV, Act.put]) hJ
  ·
   clear hd
   simp only [List.getElem_cons_succ, List.getElem_cons_zero]
   clear hl
   refine .inr ⟨rfl, fun K' hK => ?_⟩
   have HK := Lib.hid hK
   clear hK
   simp only [layS, Act.put, List.setIfInBounds_toArray, List.set_cons_succ, List.set_cons_zero, Nat.zero_add, Nat.reduceAdd]
   have c00 := hJ.c0.1
   have c01 := hJ.c0.2.1
   have c02 := hJ.c0.2.2.1
   have c03 := hJ.c0.2.2.2.1
   have c04 := hJ.c0.2.2.2.2.1
   have c05 := hJ.c0.2.2.2.2.2
   go_simp
   exact HK.out _ _ (by simp [layS, updV, lstV, Act.put]) hJ
  ·
   have e1 : u 1 = .pointer (some ⟨w.heap.size, 0, none⟩) := hd 1 (by kernel_rfl)
   clear hd
   simp only [List.getElem_cons_succ, List.getElem_cons_zero]
   clear hl
   refine .inr ⟨rfl, fun K' hK => ?_⟩
   have HK := Lib.hid hK
   clear hK
   simp only [layS, Act.put, List.setIfInBounds_toArray, List.set_cons_succ, List.set_cons_zero, Nat.zero_add, Nat.reduceAdd, e1]
   have E1 := Lib.hid e1
   clear e1
   have c00 := hJ.c0.1
   have c01 := hJ.c0.2.1
   have c02 := hJ.c0.2.2.1
   have c03 := hJ.c0.2.2.2.1
   have c04 := hJ.c0.2.2.2.2.1
   have c05 := hJ.c0.2.2.2.2.2
   go_simp
   exact HK.out _ _ (by simp [layS, updV, lstV, Act.put, E1.out]) hJ
  ·
   clear hd
   simp only [List.getElem_cons_succ, List.getElem_cons_zero]
   clear hl
   refine .inr ⟨rfl, fun K' hK => ?_⟩
   have HK := Lib.hid hK
   clear hK
   simp only [layS, Act.put, List.setIfInBounds_toArray, List.set_cons_succ, List.set_cons_zero, Nat.zero_add, Nat.reduceAdd]
   have c00 := hJ.c0.1
   have c01 := hJ.c0.2.1
   have c02 := hJ.c0.2.2.1
   have c03 := hJ.c0.2.2.2.1
   have c04 := hJ.c0.2.2.2.2.1
   have c05 := hJ.c0.2.2.2.2.2
   go_simp
   exact HK.out _ _ (by simp [layS, updV, lstV, Act.put]) hJ
  ·
   have e3 : u 3 = .pointer (some ⟨w.heap.size, 1, none⟩) := hd 3 (by kernel_rfl)
   clear hd
   simp only [List.getElem_cons_succ, List.getElem_cons_zero]
   clear hl
   refine .inr ⟨rfl, fun K' hK => ?_⟩
   have HK := Lib.hid hK
   clear hK
   simp only [layS, Act.put, List.setIfInBounds_toArray, List.set_cons_succ, List.set_cons_zero, Nat.zero_add, Nat.reduceAdd, e3]
   have E3 := Lib.hid e3
   clear e3
   have c00 := hJ.c0.1
   have c01 := hJ.c0.2.1
   have c02 := hJ.c0.2.2.1
   have c03 := hJ.c0.2.2.2.1
   have c04 := hJ.c0.2.2.2.2.1
   have c05 := hJ.c0.2.2.2.2.2
   go_simp
   exact HK.out _ _ (by simp [layS, updV, lstV, Act.put, E3.out]) hJ
  ·
   have e2 : u 2 = .int .i64 a := hd 2 (by kernel_rfl)
   have e4 : u 4 = .int .i64 b := hd 4 (by kernel_rfl)
   clear hd
   simp only [List.getElem_cons_succ, List.getElem_cons_zero]
   clear hl
   refine .inr ⟨rfl, fun K' hK => ?_⟩
   have HK := Lib.hid hK
   clear hK
   simp only [layS, Act.put, List.setIfInBounds_toArray, List.set_cons_succ, List.set_cons_zero, Nat.zero_add, Nat.reduceAdd, e2, e4]
   have E2 := Lib.hid e2
   have E4 := Lib.hid e4
   clear e2 e4
   have c00 := hJ.c0.1
   have c01 := hJ.c0.2.1
   have c02 := hJ.c0.2.2.1
   have c03 := hJ.c0.2.2.2.1
   have c04 := hJ.c0.2.2.2.2.1
   have c05 := hJ.c0.2.2.2.2.2
   go_simp
   refine ((by have := sOf_any a b W; rw [hE] at this; exact this : Calls Try.prog 8 #[.int .i64 a, .int .i64 b] W (PSp ⟨a, b, false⟩ W))).mono ?_
   rintro e W' ⟨rfl, hB⟩
   exact HK.out _ _ (by simp [layS, updV, lstV, Act.put, E2.out, E4.out]) (hJ.later hB)
  ·
   have e0 : u 0 = .agg #[.int .i64 a, .int .i64 b, .bool false] := hd 0 (by kernel_rfl)
   have e5 : u 5 = .agg #[.int .i64 a, .int .i64 b, .bool false] := hd 5 (by kernel_rfl)
   clear hd
   simp only [List.getElem_cons_succ, List.getElem_cons_zero]
   clear hl
   refine .inr ⟨rfl, fun K' hK => ?_⟩
   have HK := Lib.hid hK
   clear hK
   simp only [layS, Act.put, List.setIfInBounds_toArray, List.set_cons_succ, List.set_cons_zero, Nat.zero_add, Nat.reduceAdd, e0, e5]
   have E0 := Lib.hid e0
   have E5 := Lib.hid e5
   clear e0 e5
   have c00 := hJ.c0.1
   have c01 := hJ.c0.2.1
   have c02 := hJ.c0.2.2.1
   have c03 := hJ.c0.2.2.2.1
   have c04 := hJ.c0.2.2.2.2.1
   have c05 := hJ.c0.2.2.2.2.2
   go_simp
   exact HK.out _ _ (by simp [layS, updV, lstV, Act.put, E0.out, E5.out]) hJ
 intro W hJ
 simp only [layS, lstV, Act.put, List.setIfInBounds_toArray, List.set_cons_succ, List.set_cons_zero, Nat.zero_add, Nat.reduceAdd, List.getD_cons_zero, List.getD_cons_succ, List.drop_succ_cons, List.drop_zero, List.drop_nil]
 obtain ⟨c0, c1, c2, f0, f1, f2⟩ := hJ.c0
 obtain ⟨g0, g1, g2, h0, h1, h2⟩ := hJ.c1
 go_wp2
 have hp := hJ.put 1 (by simp) ⟨a, b, false⟩
 obtain ⟨d0, d1, d2, _⟩ := hp.c1
 exact bodyPost_ret (v := .agg #[.int .i64 a, .int .i64 b, .bool false]) (by simp [results, Try.results36, go_sem, g0, g1, g2]) rfl ⟨rfl, hp.below⟩
set_option maxHeartbeats 800000 in
theorem counted_no (a b : Int) (c : Bool) (w : World) (h : okB ⟨a, b, c⟩ = false) : Calls Try.prog 36 #[.agg #[.int .i64 a, .int .i64 b, .bool c]] w (PSp lineS w) := by
 have hq : eqS a b c (ofS a b).lo (ofS a b).hi (ofS a b).all = false := by
  cases hk : eqS a b c (ofS a b).lo (ofS a b).hi (ofS a b).all
  ·
   rfl
  ·
   exfalso
   obtain ⟨e1, e2, e3⟩ := eqS_iff.1 hk
   have e : (⟨a, b, c⟩ : Sp) = ⟨(ofS a b).lo, (ofS a b).hi, (ofS a b).all⟩ := by simp only [Sp.mk.injEq]; exact ⟨e1, e2, e3⟩
   change _ = ofS a b at e
   have hm := okB_mk ⟨min a b, max a b, false⟩
   change okB (ofS a b) = _ at hm
   rw [← e, h] at hm
   have h0 := mkS_no hm.symm
   change ofS a b = lineS at h0
   rw [h0] at e
   cases e
   cases hm
 obtain ⟨z, hz⟩ : ∃ z, ofS a b = z := ⟨_, rfl⟩
 rw [hz] at hq
 have HZ := Lib.hid hz
 clear hz
 have HH := Lib.hid h
 clear h
 go_enter Try.func36, Try.ntmps36
 go_wp2
 have hX := bs2 w a b c 0 0 false
 generalize (w.alloc (.cells #[.int .i64 a, .int .i64 b, .bool c] 23)).alloc (.cells #[.int .i64 0, .int .i64 0, .bool false] 23) = w1 at *
 refine wp_region_vals 7 [some 3, some 4, some 5, some 6, some 7, some 8, some 9] (lstV [.agg #[.int .i64 a, .int .i64 b, .bool c], .pointer (some ⟨w.heap.size, 0, none⟩), .int .i64 a, .pointer (some ⟨w.heap.size, 1, none⟩), .int .i64 b, .agg #[.int .i64 z.lo, .int .i64 z.hi, .bool z.all], .bool true]) (fun W => Bs w W [⟨a, b, c⟩, ⟨0, 0, false⟩]) (by kernel_rfl) (by kernel_rfl) (by decide) (hX.drew) ?_ ?_
 ·
  intro i hl hi u W hJ hd
  obtain rfl | rfl | rfl | rfl | rfl | rfl | rfl : i = 0 ∨ i = 1 ∨ i = 2 ∨ i = 3 ∨ i = 4 ∨ i = 5 ∨ i = 6 := by omega
  ·
   clear hd
   simp only [List.getElem_cons_succ, List.getElem_cons_zero]
   clear hl
   refine .inr ⟨rfl, fun K' hK => ?_⟩
   have HK := Lib.hid hK
   clear hK
   simp only [layS, Act.put, List.setIfInBounds_toArray, List.set_cons_succ, List.set_cons_zero, Nat.zero_add, Nat.reduceAdd]
   have c00 := hJ.c0.1
   have c01 := hJ.c0.2.1
   have c02 := hJ.c0.2.2.1
   have c03 := hJ.c0.2.2.2.1
   have c04 := hJ.c0.2.2.2.2.1
   have c05 := hJ.c0.2.2.2.2.2
   go_simp
   exact HK.out _ _ (by simp [layS, updV, lstV, Act.put]) hJ
  ·
   clear hd
   simp only [List.getElem_cons_succ, List.getElem_cons_zero]
   clear hl
   refine .inr ⟨rfl, fun K' hK => ?_⟩
   have HK := Lib.hid hK
   clear hK
   simp only [layS, Act.put, List.setIfInBounds_toArray, List.set_cons_succ, List.set_cons_zero, Nat.zero_add, Nat.reduceAdd]
   have c00 := hJ.c0.1
   have c01 := hJ.c0.2.1
   have c02 := hJ.c0.2.2.1
   have c03 := hJ.c0.2.2.2.1
   have c04 := hJ.c0.2.2.2.2.1
   have c05 := hJ.c0.2.2.2.2.2
   go_simp
   exact HK.out _ _ (by simp [layS, updV, lstV, Act.put]) hJ
  ·
   have e1 : u 1 = .pointer (some ⟨w.heap.size, 0, none⟩) := hd 1 (by kernel_rfl)
   clear hd
   simp only [List.getElem_cons_succ, List.getElem_cons_zero]
   clear hl
   refine .inr ⟨rfl, fun K' hK => ?_⟩
   have HK := Lib.hid hK
   clear hK
   simp only [layS, Act.put, List.setIfInBounds_toArray, List.set_cons_succ, List.set_cons_zero, Nat.zero_add, Nat.reduceAdd, e1]
   have E1 := Lib.hid e1
   clear e1
   have c00 := hJ.c0.1
   have c01 := hJ.c0.2.1
   have c02 := hJ.c0.2.2.1
   have c03 := hJ.c0.2.2.2.1
   have c04 := hJ.c0.2.2.2.2.1
   have c05 := hJ.c0.2.2.2.2.2
   go_simp
   exact HK.out _ _ (by simp [layS, updV, lstV, Act.put, E1.out]) hJ
  ·
   clear hd
   simp only [List.getElem_cons_succ, List.getElem_cons_zero]
   clear hl
   refine .inr ⟨rfl, fun K' hK => ?_⟩
   have HK := Lib.hid hK
   clear hK
   simp only [layS, Act.put, List.setIfInBounds_toArray, List.set_cons_succ, List.set_cons_zero, Nat.zero_add, Nat.reduceAdd]
   have c00 := hJ.c0.1
   have c01 := hJ.c0.2.1
   have c02 := hJ.c0.2.2.1
   have c03 := hJ.c0.2.2.2.1
   have c04 := hJ.c0.2.2.2.2.1
   have c05 := hJ.c0.2.2.2.2.2
   go_simp
   exact HK.out _ _ (by simp [layS, updV, lstV, Act.put]) hJ
  ·
   have e3 : u 3 = .pointer (some ⟨w.heap.size, 1, none⟩) := hd 3 (by kernel_rfl)
   clear hd
   simp only [List.getElem_cons_succ, List.getElem_cons_zero]
   clear hl
   refine .inr ⟨rfl, fun K' hK => ?_⟩
   have HK := Lib.hid hK
   clear hK
   simp only [layS, Act.put, List.setIfInBounds_toArray, List.set_cons_succ, List.set_cons_zero, Nat.zero_add, Nat.reduceAdd, e3]
   have E3 := Lib.hid e3
   clear e3
   have c00 := hJ.c0.1
   have c01 := hJ.c0.2.1
   have c02 := hJ.c0.2.2.1
   have c03 := hJ.c0.2.2.2.1
   have c04 := hJ.c0.2.2.2.2.1
   have c05 := hJ.c0.2.2.2.2.2
   go_simp
   exact HK.out _ _ (by simp [layS, updV, lstV, Act.put, E3.out]) hJ
  ·
   have e2 : u 2 = .int .i64 a := hd 2 (by kernel_rfl)
   have e4 : u 4 = .int .i64 b := hd 4 (by kernel_rfl)
   clear hd
   simp only [List.getElem_cons_succ, List.getElem_cons_zero]
   clear hl
   refine .inr ⟨rfl, fun K' hK => ?_⟩
   have HK := Lib.hid hK
   clear hK
   simp only [layS, Act.put, List.setIfInBounds_toArray, List.set_cons_succ, List.set_cons_zero, Nat.zero_add, Nat.reduceAdd, e2, e4]
   have E2 := Lib.hid e2
   have E4 := Lib.hid e4
   clear e2 e4
   have c00 := hJ.c0.1
   have c01 := hJ.c0.2.1
   have c02 := hJ.c0.2.2.1
   have c03 := hJ.c0.2.2.2.1
   have c04 := hJ.c0.2.2.2.2.1
   have c05 := hJ.c0.2.2.2.2.2
   go_simp
   refine ((by have := sOf_any a b W; rw [HZ.out] at this; exact this : Calls Try.prog 8 #[.int .i64 a, .int .i64 b] W (PSp z W))).mono ?_
   rintro e W' ⟨rfl, hB⟩
   exact HK.out _ _ (by simp [layS, updV, lstV, Act.put, E2.out, E4.out]) (hJ.later hB)
  ·
   have e0 : u 0 = .agg #[.int .i64 a, .int .i64 b, .bool c] := hd 0 (by kernel_rfl)
   have e5 : u 5 = .agg #[.int .i64 z.lo, .int .i64 z.hi, .bool z.all] := hd 5 (by kernel_rfl)
   clear hd
   simp only [List.getElem_cons_succ, List.getElem_cons_zero]
   clear hl
   refine .inr ⟨rfl, fun K' hK => ?_⟩
   have HK := Lib.hid hK
   clear hK
   simp only [layS, Act.put, List.setIfInBounds_toArray, List.set_cons_succ, List.set_cons_zero, Nat.zero_add, Nat.reduceAdd, e0, e5]
   have E0 := Lib.hid e0
   have E5 := Lib.hid e5
   clear e0 e5
   have c00 := hJ.c0.1
   have c01 := hJ.c0.2.1
   have c02 := hJ.c0.2.2.1
   have c03 := hJ.c0.2.2.2.1
   have c04 := hJ.c0.2.2.2.2.1
   have c05 := hJ.c0.2.2.2.2.2
   go_simp
   exact HK.out _ _ (by simp [layS, updV, lstV, Act.put, E0.out, E5.out]) hJ
 intro W hJ
 simp only [layS, lstV, Act.put, List.setIfInBounds_toArray, List.set_cons_succ, List.set_cons_zero, Nat.zero_add, Nat.reduceAdd, List.getD_cons_zero, List.getD_cons_succ, List.drop_succ_cons, List.drop_zero, List.drop_nil]
 go_wp2_with fail
 refine (whole_any _).mono ?_
 rintro e W2 ⟨rfl, hB⟩
 have hJ2 := hJ.later hB
 obtain ⟨g0, g1, g2, h0, h1, h2⟩ := hJ2.c1
 go_wp2
 have hp := hJ2.put 1 (by simp) lineS
 exact bodyPost_ret (v := .agg #[.int .i64 0, .int .i64 0, .bool true]) (by simp [results, Try.results36, go_sem, g0, g1, g2, lineS]) rfl ⟨rfl, hp.below⟩
theorem counted_any (x : Sp) (w : World) : Calls Try.prog 36 #[.agg #[.int .i64 x.lo, .int .i64 x.hi, .bool x.all]] w (PSp (mkS x) w) := by
 cases h : okB x
 ·
  rw [mkS_no h]; exact counted_no x.lo x.hi x.all w h
 ·
  rw [mkS_ok h]; exact counted_ok x.lo x.hi x.all w h
end Go.Proofs.Ytpahkpcoinbgcab
