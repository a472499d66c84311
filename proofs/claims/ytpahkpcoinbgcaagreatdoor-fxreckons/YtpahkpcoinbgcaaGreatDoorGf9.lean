/- Parts of the proof. -/
import Derived.Test.YtpahkpcoinbgcaaGreatDoorGf8
import Derived.Test.YtpahkpcoinbgcaaGreatDoorGf7
import Derived.Test.YtpahkpcoinbgcaaGreatDoorGf6
/- Variables of any kind in memory: how they are made and stored in; regions over them. No statement of the seat is proved here. -/
namespace Go.Proofs.YtpahkpcoinbgcaaGreatDoor
open Go Go.RowKit
/-- Variables and what they hold, all of them made since w, no two of them the same. -/
structure Es (w W : World) (l : List (Nat × Array Value × TypeId)) : Prop where
 below : Below w.heap.size w W
 at' : ∀ p, p ∈ l → Cl W p
 nd : (l.map (·.1)).Nodup
 ge : ∀ p, p ∈ l → w.heap.size ≤ p.1
section
variable {w W W' : World} {l : List (Nat × Array Value × TypeId)}
theorem es_nil (w : World) : Es w w [] := ⟨Below.refl _ _, nofun, List.nodup_nil, nofun⟩
theorem Es.later (h : Es w W l) (hb : Below W.heap.size W W') : Es w W' l := ⟨h.below.trans (hb.mono h.below.size), fun p hp => (h.at' p hp).below hb, h.nd, h.ge⟩
theorem Es.drew (h : Es w W l) : Es w W.drew l := h.later (Below.refl _ _).drew
theorem Es.lt (h : Es w W l) : ∀ p, p ∈ l → p.1 < W.heap.size := fun p hp => (Array.getElem?_eq_some_iff.1 (h.at' p hp)).1
theorem Es.new (h : Es w W l) (C : Array Value) (T : TypeId) : Es w (W.alloc (.cells C T)) ((W.heap.size, C, T) :: l) := by
 have hb : Below W.heap.size W (W.alloc (.cells C T)) := (Below.refl _ _).alloc (Nat.le_refl _) _
 refine ⟨(h.later hb).below, fun p hp => ?_, ?_, fun p hp => ?_⟩
 ·
  rcases List.mem_cons.1 hp with rfl | hp
  ·
   exact heap_new W _
  ·
   exact (h.later hb).at' p hp
 ·
  refine List.nodup_cons.2 ⟨fun hm => ?_, h.nd⟩
  obtain ⟨p, hp, e⟩ := List.mem_map.1 hm
  have := h.lt p hp
  change p.1 = W.heap.size at e
  omega
 ·
  rcases List.mem_cons.1 hp with rfl | hp
  ·
   exact h.below.size
  ·
   exact h.ge p hp
theorem Es.sub {l' : List (Nat × Array Value × TypeId)} (h : Es w W l) (hs : l'.Sublist l) : Es w W l' := ⟨h.below, fun p hp => h.at' p (hs.subset hp), (hs.map _).nodup h.nd, fun p hp => h.ge p (hs.subset hp)⟩
theorem Es.cell (h : Es w W l) (j : Nat) {b : Nat} {C : Array Value} {T : TypeId} (hj : l[j]? = some (b, C, T)) (i : Nat) {v : Value} (hi : C[i]? = some v) : W.cell? ⟨b, i, none⟩ = some v := by
 have hc : W.heap[b]? = some (.cells C T (0, 0)) := h.at' _ (List.mem_of_getElem? hj)
 simp [World.cell?, hc, hi]
theorem Es.free (h : Es w W l) (j : Nat) {b : Nat} {C : Array Value} {T : TypeId} (hj : l[j]? = some (b, C, T)) (i : Nat) : W.frozen? ⟨b, i, none⟩ = false := by
 have hc : W.heap[b]? = some (.cells C T (0, 0)) := h.at' _ (List.mem_of_getElem? hj)
 simp [World.frozen?, hc]
theorem nodup_get {α : Type} {l : List α} (h : l.Nodup) {i j : Nat} {x : α} (hi : l[i]? = some x) (hj : l[j]? = some x) : i = j := by
 obtain ⟨h1, e1⟩ := List.getElem?_eq_some_iff.1 hi
 obtain ⟨h2, e2⟩ := List.getElem?_eq_some_iff.1 hj
 exact (List.getElem_inj h).1 (e1.trans e2.symm)
theorem Es.put1 (h : Es w W l) {j : Nat} {b : Nat} {C : Array Value} {T : TypeId} (hj : l[j]? = some (b, C, T)) (i : Nat) (v : Value) : Es w (W.setCell ⟨b, i, none⟩ v) (l.set j (b, C.setIfInBounds i v, T)) := by
 have hc : W.heap[b]? = some (.cells C T (0, 0)) := h.at' _ (List.mem_of_getElem? hj)
 have hjl := (List.getElem?_eq_some_iff.1 hj).1
 have hmap : (l.set j (b, C.setIfInBounds i v, T)).map (·.1) = l.map (·.1) := by
  rw [List.map_set]
  refine List.ext_getElem? fun k => ?_
  rw [List.getElem?_set]
  split
  ·
   next e =>
   subst e
   simp [hjl, (List.getElem?_eq_some_iff.1 hj).2]
  ·
   rfl
 have hge := h.ge _ (List.mem_of_getElem? hj)
 refine ⟨h.below.setCell (p := ⟨b, i, none⟩) hge _, fun p hp => ?_, hmap ▸ h.nd, fun p hp => ?_⟩
 ·
  obtain ⟨k, hk⟩ := List.mem_iff_getElem?.1 hp
  rw [List.getElem?_set] at hk
  by_cases e : j = k
  ·
   rw [if_pos e, if_pos hjl] at hk
   cases hk
   show (W.setCell ⟨b, i, none⟩ v).heap[b]? = _
   simp [World.setCell, Array.getElem?_modify, hc]
  ·
   rw [if_neg e] at hk
   have hne : p.1 ≠ b := by
    intro hc'
    refine e (nodup_get h.nd (i := j) (j := k) (x := b) ?_ ?_)
    ·
     simp [hj]
    ·
     simp [hk, hc']
   show (W.setCell ⟨b, i, none⟩ v).heap[p.1]? = _
   rw [heap_set_ne _ _ hne]
   exact h.at' p (List.mem_of_getElem? hk)
 ·
  obtain ⟨k, hk⟩ := List.mem_iff_getElem?.1 hp
  rw [List.getElem?_set] at hk
  by_cases e : j = k
  ·
   rw [if_pos e, if_pos hjl] at hk
   cases hk
   exact hge
  ·
   rw [if_neg e] at hk
   exact h.ge p (List.mem_of_getElem? hk)
/-- Cells stored from a place on. -/
def putC (C : Array Value) (off : Nat) : List Value → Array Value
 | [] => C
 | v :: r => putC (C.setIfInBounds off v) (off + 1) r
theorem set_set' {α : Type} : ∀ (l : List α) (j : Nat) (x y : α), (l.set j x).set j y = l.set j y
 | [], _, _, _ => rfl
 | _ :: _, 0, _, _ => rfl
 | a :: l, j + 1, x, y => by
  show a :: (l.set j x).set j y = _
  rw [set_set' l j x y]
  rfl
theorem run_storeCells {P : Program} (b off : Nat) (T : TypeId) : ∀ (vs : List Value) (i : Nat) (C : Array Value) (l : List (Nat × Array Value × TypeId)) (j : Nat) (W : World), Es w W l → l[j]? = some (b, C, T) → off + i + vs.length ≤ C.size → vs.all (·.oneCell') = true →
  ∃ W', (storeCells ⟨b, off, none⟩ vs i).run P W = .ok () W' ∧ Es w W' (l.set j (b, putC C (off + i) vs, T)) ∧ (∀ k, k ≠ b → W'.heap[k]? = W.heap[k]?) ∧ W'.heap.size = W.heap.size
 | [], i, C, l, j, W, h, hj, _, _ => by
  refine ⟨W, rfl, ?_, fun _ _ => rfl, rfl⟩
  have e : l.set j (b, C, T) = l := by
   refine List.ext_getElem? fun k => ?_
   rw [List.getElem?_set]
   split
   ·
    next e => subst e; rw [if_pos (List.getElem?_eq_some_iff.1 hj).1, hj]
   ·
    rfl
  show Es w W (l.set j (b, C, T))
  rw [e]
  exact h
 | v :: r, i, C, l, j, W, h, hj, hs, hb => by
  have hjl := (List.getElem?_eq_some_iff.1 hj).1
  rw [List.length_cons] at hs
  have hlt : off + i < C.size := by omega
  have c1 := h.cell j hj (off + i) (Array.getElem?_eq_getElem hlt)
  have c2 := h.free j hj (off + i)
  have hv : v.oneCell' = true := by rw [List.all_cons, Bool.and_eq_true] at hb; exact hb.1
  have hr : r.all (·.oneCell') = true := by rw [List.all_cons, Bool.and_eq_true] at hb; exact hb.2
  have h1 := h.put1 hj (off + i) v
  obtain ⟨W', e1, e2, e3, e4⟩ := run_storeCells b off T r (i + 1) (C.setIfInBounds (off + i) v) _ j _ h1 (by rw [List.getElem?_set, if_pos rfl, if_pos hjl]) (by rw [Array.size_setIfInBounds]; omega) hr
  refine ⟨W', ?_, ?_, fun k hk => (e3 k hk).trans (heap_set_ne _ _ hk), e4.trans (World.size_setCell _ _ _)⟩
  ·
   have hadd : (⟨b, off, none⟩ : Addr).add i = ⟨b, off + i, none⟩ := by unfold Addr.add; split <;> simp_all
   rw [← e1]
   simp only [storeCells, Sem.run_bind, hadd, run_store P W _ v _ hv, c1, c2]
   rfl
  ·
   rw [set_set'] at e2
   exact e2
end
theorem putC_list : ∀ (vs : List Value) (off : Nat) (C : Array Value), off + vs.length ≤ C.size → (putC C off vs).toList = C.toList.take off ++ vs ++ C.toList.drop (off + vs.length)
 | [], off, C, _ => by simp [putC]
 | v :: r, off, C, h => by
  rw [List.length_cons] at h
  show (putC (C.setIfInBounds off v) (off + 1) r).toList = _
  rw [putC_list r (off + 1) _ (by rw [Array.size_setIfInBounds]; omega), Array.toList_setIfInBounds]
  have hl : off < C.toList.length := by rw [Array.length_toList]; omega
  rw [List.take_set, List.drop_set_of_lt (by omega), List.length_cons, show off + 1 + r.length = off + (r.length + 1) by omega]
  have e : (C.toList.take (off + 1)).set off v = C.toList.take off ++ [v] := by
   rw [List.take_succ_eq_append_getElem hl, List.set_append_right _ _ (by simp; omega)]
   have hl2 : off ≤ C.size := by omega
   simp [Nat.min_eq_left hl2]
  rw [e]
  simp
theorem putC_full {C : Array Value} {vs : List Value} (h : C.size = vs.length) : putC C 0 vs = vs.toArray := by
 have := putC_list vs 0 C (by omega)
 rw [List.take_zero, List.nil_append, List.drop_of_length_le (by rw [Array.length_toList]; omega), List.append_nil] at this
 rw [← Array.toArray_toList (xs := putC C 0 vs), this]
theorem eval_tmp {a : Act} {t : Nat} {v : Value} (h : a.tmps[t]? = some v) : a.eval (.tmp t) = v := by
 show (a.tmps.getD t undef) = v
 rw [Array.getD_eq_getD_getElem?, h]
 rfl
/-- A goal that the walk does not go into. -/
def Stop (p : Prop) : Prop := p
section
variable {P : Program} {ops : Array Oper} {Q : Exit → Act → World → Prop} {a : Act} {w W : World} {rest : List Oper} {o : Oper} {l : List (Nat × Array Value × TypeId)}
theorem wp_alloc {next : Act → World → Prop} (T : TypeId) (ho : o.op = .alloc T) (z : Value) (hz : ∀ W, (zeroValue T).run P W = .ok z W) (k : next (a.put o.dst (.pointer (some ⟨W.heap.size, 0, none⟩))) (W.alloc (.cells z.cells T))) : o.wp P a W next Q := by
 have e : (execOp a.eval o).run P W = .ok (.value (.pointer (some ⟨W.heap.size, 0, none⟩))) (W.alloc (.cells z.cells T)) := by
  unfold execOp
  rw [ho]
  simp only [Instr.alloc, newVar, newRow, Sem.run_bind, hz, Result.andThen, run_newObj_alloc]
  rfl
 unfold Oper.wp
 rw [e]
 exact k
theorem wp_store {next : Act → World → Prop} (T : TypeId) (p x : Operand) (ho : o.op = .store T p x) (j b off : Nat) (C : Array Value) (T' : TypeId) (n : Nat) (vs : List Value) (h : Es w W l) (hj : l[j]? = some (b, C, T')) (hp : a.eval p = .pointer (some ⟨b, off, none⟩)) (hx : (a.eval x).cells.toList = vs) (hn : ∀ W, (sizeOf T).run P W = .ok n W) (hv : vs.length = n) (hs : off + n ≤ C.size) (hb : vs.all (·.oneCell') = true)
  (k : ∀ W', Es w W' (l.set j (b, putC C off vs, T')) → (∀ k, k ≠ b → W'.heap[k]? = W.heap[k]?) → W'.heap.size = W.heap.size → next (a.put o.dst undef) W') : o.wp P a W next Q := by
 obtain ⟨W', e1, e2, e4, e5⟩ := run_storeCells (P := P) b off T' vs 0 C l j W h hj (by omega) hb
 have hsz : (a.eval x).cells.size = n := by rw [← Array.length_toList, hx, hv]
 have e3 : (Instr.storeAt T (a.eval p) (a.eval x)).run P W = .ok () W' := by
  rw [hp]
  unfold Instr.storeAt storeVar
  have hsa : (Instr.sureAddr (.pointer (some ⟨b, off, none⟩))).run P W = .ok ⟨b, off, none⟩ W := rfl
  simp only [Sem.run_bind, hsa, Result.andThen, hn, hsz, hx]
  rw [if_neg (by simp)]
  exact e1
 have e : (execOp a.eval o).run P W = .ok .skip W' := by
  unfold execOp
  rw [ho]
  simp only [Sem.run_bind, e3, Result.andThen]
  rfl
 unfold Oper.wp
 rw [e]
 exact k W' e2 e4 e5
end
/-- In a region: the variables, all of them ahead of m. -/
structure Em (w : World) (m : Nat) (l : List (Nat × Array Value × TypeId)) (W : World) : Prop where
 es : Es w W l
 le : m ≤ W.heap.size
 lt : ∀ p, p ∈ l → p.1 < m
 ge : w.heap.size ≤ m
theorem Es.em {w W : World} {l : List (Nat × Array Value × TypeId)} (h : Es w W l) : Em w W.heap.size l W.drew := ⟨h.drew, Nat.le_refl _, h.lt, h.below.size⟩
theorem Em.later {w W W' : World} {m : Nat} {l : List (Nat × Array Value × TypeId)} (h : Em w m l W) (hb : Below W.heap.size W W') : Em w m l W' := ⟨h.es.later hb, Nat.le_trans h.le hb.size, h.lt, h.ge⟩
/-- A new variable joins. -/
theorem Em.join {w W : World} {m b : Nat} {l : List (Nat × Array Value × TypeId)} {C : Array Value} {T : TypeId} (h : Em w m l W) (hb : m ≤ b) (hc : Cl W (b, C, T)) : Es w W ((b, C, T) :: l) := by
 refine ⟨h.es.below, fun p hp => ?_, ?_, fun p hp => ?_⟩
 ·
  rcases List.mem_cons.1 hp with rfl | hp
  ·
   exact hc
  ·
   exact h.es.at' p hp
 ·
  refine List.nodup_cons.2 ⟨fun hm => ?_, h.es.nd⟩
  obtain ⟨p, hp, e⟩ := List.mem_map.1 hm
  have := h.lt p hp
  change p.1 = b at e
  omega
 ·
  rcases List.mem_cons.1 hp with rfl | hp
  ·
   exact Nat.le_trans h.ge hb
  ·
   exact h.es.ge p hp
/-- A region in which variables are made and stored in, in any order. al: (the operation that makes it, its cells, its type); sts: (the store, the operation that made the variable, what it holds then). -/
structure Jz (w : World) (m : Nat) (l : List (Nat × Array Value × TypeId)) (al : List (Nat × Nat × TypeId)) (sts : List (Nat × Nat × Array Value × TypeId)) (L : Nat → Bool) (u : Nat → Value) (W : World) : Prop where
 em : Em w m l W
 bx : ∀ a, a ∈ al → L a.1 = true → ∃ (b : Nat) (C : Array Value), u a.1 = .pointer (some ⟨b, 0, none⟩) ∧ m ≤ b ∧ C.size = a.2.1 ∧ Cl W (b, C, a.2.2)
 ne : ∀ a a', a ∈ al → a' ∈ al → a.1 ≠ a'.1 → L a.1 = true → L a'.1 = true → u a.1 ≠ u a'.1
 st : ∀ s, s ∈ sts → L s.1 = true → L s.2.1 = true ∧ ∃ b : Nat, u s.2.1 = .pointer (some ⟨b, 0, none⟩) ∧ Cl W (b, s.2.2.1, s.2.2.2)
section
variable {w W : World} {m : Nat} {l : List (Nat × Array Value × TypeId)} {al : List (Nat × Nat × TypeId)} {sts : List (Nat × Nat × Array Value × TypeId)} {L : Nat → Bool} {u : Nat → Value}
theorem Jz.start (h : Es w W l) (u : Nat → Value) : Jz w W.heap.size l al sts (fun _ => false) u W.drew := ⟨h.em, nofun, nofun, nofun⟩
theorem Jz.grow {W' : World} {i : Nat} {v : Value} (h : Jz w m l al sts L u W) (hLi : L i = false) (ha : ∀ a, a ∈ al → a.1 ≠ i) (hs : ∀ s, s ∈ sts → s.1 ≠ i) (hb : Below W.heap.size W W') : Jz w m l al sts (upd L i) (updV u i v) W' := by
 refine ⟨h.em.later hb, fun a ha' hL => ?_, fun a a' h1 h2 hne hL1 hL2 => ?_, fun s hs' hL => ?_⟩
 ·
  rw [upd_ne (ha a ha')] at hL
  obtain ⟨b, C, e1, e2, e3, e4⟩ := h.bx a ha' hL
  exact ⟨b, C, by rw [updV_ne (ha a ha')]; exact e1, e2, e3, e4.below hb⟩
 ·
  rw [upd_ne (ha a h1)] at hL1
  rw [upd_ne (ha a' h2)] at hL2
  rw [updV_ne (ha a h1), updV_ne (ha a' h2)]
  exact h.ne a a' h1 h2 hne hL1 hL2
 ·
  rw [upd_ne (hs s hs')] at hL
  obtain ⟨k1, b, e1, e2⟩ := h.st s hs' hL
  exact ⟨upd_mono k1, b, by rw [updV_ne (ne_of hLi k1)]; exact e1, e2.below hb⟩
theorem Jz.alloc {i n : Nat} {C : Array Value} {T : TypeId} (h : Jz w m l al sts L u W) (hLi : L i = false) (hn : C.size = n) (hin : ∀ a, a ∈ al → a.1 = i → a = (i, n, T)) (hs : ∀ s, s ∈ sts → s.1 ≠ i) : Jz w m l al sts (upd L i) (updV u i (.pointer (some ⟨W.heap.size, 0, none⟩))) (W.alloc (.cells C T)) := by
 have hb : Below W.heap.size W (W.alloc (.cells C T)) := (Below.refl _ _).alloc (Nat.le_refl _) _
 have old : ∀ a, a ∈ al → a.1 ≠ i → upd L i a.1 = true → updV u i (.pointer (some ⟨W.heap.size, 0, none⟩)) a.1 ≠ .pointer (some ⟨W.heap.size, 0, none⟩) := by
  intro a ha e hL hc
  rw [upd_ne e] at hL
  obtain ⟨b, C', e1, _, _, e4⟩ := h.bx a ha hL
  rw [updV_ne e, e1] at hc
  have := (Array.getElem?_eq_some_iff.1 e4).1
  injection hc with hc
  injection hc with hc
  injection hc with hc
  change b < W.heap.size at this
  omega
 refine ⟨h.em.later hb, fun a ha' hL => ?_, fun a a' h1 h2 hne hL1 hL2 => ?_, fun s hs' hL => ?_⟩
 ·
  by_cases e : a.1 = i
  ·
   rw [hin a ha' e]
   exact ⟨W.heap.size, C, by simp [updV], h.em.le, hn, heap_new W _⟩
  ·
   rw [upd_ne e] at hL
   obtain ⟨b, C', e1, e2, e3, e4⟩ := h.bx a ha' hL
   exact ⟨b, C', by rw [updV_ne e]; exact e1, e2, e3, e4.below hb⟩
 ·
  by_cases e : a.1 = i
  ·
   have e' : a'.1 ≠ i := fun x => hne (e.trans x.symm)
   intro hc
   refine old a' h2 e' hL2 ?_
   rw [← hc, e]
   simp [updV]
  ·
   by_cases e' : a'.1 = i
   ·
    intro hc
    refine old a h1 e hL1 ?_
    rw [hc, e']
    simp [updV]
   ·
    rw [upd_ne e] at hL1
    rw [upd_ne e'] at hL2
    rw [updV_ne e, updV_ne e']
    exact h.ne a a' h1 h2 hne hL1 hL2
 ·
  rw [upd_ne (hs s hs')] at hL
  obtain ⟨k1, b, e1, e2⟩ := h.st s hs' hL
  exact ⟨upd_mono k1, b, by rw [updV_ne (ne_of hLi k1)]; exact e1, e2.below hb⟩
theorem Cl.keep {W' : World} {p : Nat × Array Value × TypeId} {b : Nat} (h : Cl W p) (hb : p.1 ≠ b) (hk : ∀ k, k ≠ b → W'.heap[k]? = W.heap[k]?) : Cl W' p := (hk p.1 hb).trans h
/-- A store into a variable that was made. -/
theorem Jz.store {W' : World} {i a b n : Nat} {T : TypeId} {Cn : Array Value} {v : Value} (h : Jz w m l al sts L u W) (hLi : L i = false) (ha : ∀ a, a ∈ al → a.1 ≠ i) (hin : (a, n, T) ∈ al) (hun : ∀ x, x ∈ al → x.1 = a → x = (a, n, T)) (hua : ∀ s, s ∈ sts → s.1 = i → s = (i, a, Cn, T)) (hal : ∀ s, s ∈ sts → ∃ x, x ∈ al ∧ x.1 = s.2.1) (hus : ∀ s, s ∈ sts → s.1 ≠ i → s.2.1 ≠ a) (hLa : L a = true)
  (eu : u a = .pointer (some ⟨b, 0, none⟩)) (hm : m ≤ b) (hn : Cn.size = n) (hE : Es w W' ((b, Cn, T) :: l)) (hk : ∀ k, k ≠ b → W'.heap[k]? = W.heap[k]?) (hz : W'.heap.size = W.heap.size) : Jz w m l al sts (upd L i) (updV u i v) W' := by
 have hCl : Cl W' (b, Cn, T) := hE.at' _ (List.mem_cons_self ..)
 refine ⟨⟨hE.sub (List.sublist_cons_self _ _), by rw [hz]; exact h.em.le, h.em.lt, h.em.ge⟩, fun a1 ha' hL => ?_, fun a1 a2 h1 h2 hne hL1 hL2 => ?_, fun s hs' hL => ?_⟩
 ·
  rw [upd_ne (ha a1 ha')] at hL
  obtain ⟨b1, C1, e1, e2, e3, e4⟩ := h.bx a1 ha' hL
  by_cases hb : b1 = b
  ·
   subst hb
   have : a1.1 = a := by
    refine Classical.byContradiction fun hc => h.ne a1 (a, n, T) ha' hin hc hL hLa ?_
    rw [e1, eu]
   rw [hun a1 ha' this]
   exact ⟨b1, Cn, by rw [updV_ne (ne_of hLi hLa)]; exact eu, hm, hn, hCl⟩
  ·
   exact ⟨b1, C1, by rw [updV_ne (ha a1 ha')]; exact e1, e2, e3, e4.keep hb hk⟩
 ·
  rw [upd_ne (ha a1 h1)] at hL1
  rw [upd_ne (ha a2 h2)] at hL2
  rw [updV_ne (ha a1 h1), updV_ne (ha a2 h2)]
  exact h.ne a1 a2 h1 h2 hne hL1 hL2
 ·
  by_cases hs : s.1 = i
  ·
   rw [hua s hs' hs]
   exact ⟨upd_mono hLa, b, by rw [updV_ne (ne_of hLi hLa)]; exact eu, hCl⟩
  ·
   rw [upd_ne hs] at hL
   obtain ⟨k1, b1, e1, e2⟩ := h.st s hs' hL
   have hb : b1 ≠ b := by
    intro hc
    obtain ⟨x, hx, ex⟩ := hal s hs'
    refine h.ne x (a, n, T) hx hin (by rw [ex]; exact hus s hs' hs) (by rw [ex]; exact k1) hLa ?_
    rw [ex, e1, eu, hc]
   exact ⟨upd_mono k1, b1, by rw [updV_ne (ne_of hLi k1)]; exact e1, e2.keep hb hk⟩
end
/-- Another variable joins what was found. -/
theorem Es.join {w W : World} {b : Nat} {l : List (Nat × Array Value × TypeId)} {C : Array Value} {T : TypeId} (h : Es w W l) (hg : w.heap.size ≤ b) (hne : ∀ p, p ∈ l → p.1 ≠ b) (hc : Cl W (b, C, T)) : Es w W ((b, C, T) :: l) := by
 refine ⟨h.below, fun p hp => ?_, ?_, fun p hp => ?_⟩
 ·
  rcases List.mem_cons.1 hp with rfl | hp
  ·
   exact hc
  ·
   exact h.at' p hp
 ·
  refine List.nodup_cons.2 ⟨fun hm => ?_, h.nd⟩
  obtain ⟨p, hp, e⟩ := List.mem_map.1 hm
  exact hne p hp e
 ·
  rcases List.mem_cons.1 hp with rfl | hp
  ·
   exact hg
  ·
   exact h.ge p hp
end Go.Proofs.YtpahkpcoinbgcaaGreatDoor

/- The document's numbers: the walk of Small. -/
namespace Go.Proofs.YtpahkpcoinbgcaaGreatDoor
open Go.RowKit
set_option maxRecDepth 100000 in
set_option maxHeartbeats 3200000 in
theorem rSmall_any (bl : Bool) (a : Option Addr) (n c : Nat) (z : Int) (w : World) (h : RNum w bl a n c z) (hn : n ≤ 1000000) :
  Calls Tryz.prog 45 #[.agg #[.bool bl, .slice a n c]] w (PVal2 (.int .i64 (smallV z)) (.bool (smallB z)) w) := by
 have hal1 : Below w.heap.size w (w.alloc (.cells #[.bool bl, .slice a n c] 42)) := (Below.refl _ _).alloc (Nat.le_refl _) _
 have hX1 := bx_new w 42 (.bool bl) (.slice a n c)
 have hN1 := h.below hal1
 have hB1 := hal1
 clear h hal1
 go_enter Tryz.func45, Tryz.ntmps45
 go_wp2_with fail
 generalize w.alloc (.cells #[.bool bl, .slice a n c] 42) = w1 at *
 refine (rOf_any (-9223372036854775808) _ (by omega) (by omega)).mono ?_
 rintro e w2 ⟨b2, a2, n2, c2, rfl, hN2, _, hb2⟩
 have hal2 : Below w2.heap.size w2 (w2.alloc (.cells #[.bool b2, .slice a2 n2 c2] 42)) := (Below.refl _ _).alloc (Nat.le_refl _) _
 have hX2 := (hX1.below hb2).below hal2
 have hM2 := (hN1.below hb2).below hal2
 have hL2 := bx_new w2 42 (.bool b2) (.slice a2 n2 c2)
 have hK2 := hN2.below hal2
 have hB2 : Below w.heap.size w (w2.alloc (.cells #[.bool b2, .slice a2 n2 c2] 42)) := (hB1.trans (hb2.mono hB1.size)).trans (hal2.mono (hB1.trans (hb2.mono hB1.size)).size)
 clear hX1 hN1 hB1 hN2 hb2 hal2
 go_wp2_with fail
 generalize w2.alloc (.cells #[.bool b2, .slice a2 n2 c2] 42) = w3 at *
 generalize w2.heap.size = i2 at *
 refine (rOf_any 9223372036854775807 _ (by omega) (by omega)).mono ?_
 rintro e w4 ⟨b4, a4, n4, c4, rfl, hN4, _, hb4⟩
 have hal4 : Below w4.heap.size w4 (w4.alloc (.cells #[.bool b4, .slice a4 n4 c4] 42)) := (Below.refl _ _).alloc (Nat.le_refl _) _
 have hX4 := (hX2.below hb4).below hal4
 have hM4 := (hM2.below hb4).below hal4
 have hL4 := (hL2.below hb4).below hal4
 have hK4 := (hK2.below hb4).below hal4
 have hH4 := bx_new w4 42 (.bool b4) (.slice a4 n4 c4)
 have hJ4 := hN4.below hal4
 have hB4 : Below w.heap.size w (w4.alloc (.cells #[.bool b4, .slice a4 n4 c4] 42)) := (hB2.trans (hb4.mono hB2.size)).trans (hal4.mono (hB2.trans (hb4.mono hB2.size)).size)
 clear hX2 hM2 hL2 hK2 hB2 hN4 hb4 hal4
 obtain ⟨x0, x1, _, _⟩ := hX4.cells
 obtain ⟨l0, l1, _, _⟩ := hL4.cells
 go_wp2_with fail
 generalize w4.alloc (.cells #[.bool b4, .slice a4 n4 c4] 42) = w5 at *
 generalize w4.heap.size = i4 at *
 refine (rCmp_any bl a n c z b2 a2 n2 c2 _ _ hM4 hK4).mono ?_
 rintro e w6 ⟨rfl, hb6⟩
 have hX6 := hX4.below hb6
 have hM6 := hM4.below hb6
 have hH6 := hH4.below hb6
 have hJ6 := hJ4.below hb6
 have hB6 : Below w.heap.size w w6 := hB4.trans (hb6.mono hB4.size)
 clear hX4 hM4 hL4 hK4 hH4 hJ4 hB4 hb6 x0 x1 l0 l1
 by_cases hlo : z < -9223372036854775808
 ·
  have HS : Hid (smallV z = 0 ∧ smallB z = false) := by
   show _ ∧ _
   unfold smallV smallB
   exact ⟨if_neg (by omega), decide_eq_false (by omega)⟩
  rw [show cmpI z (-9223372036854775808) = -1 from if_pos hlo]
  clear hlo hX6 hM6 hH6 hJ6
  go_wp2
  go_ret2
  exact ⟨ret2 HS.out.1.symm HS.out.2.symm, hB6⟩
 ·
  obtain ⟨cc, hcc⟩ : ∃ cc, cc = cmpI z (-9223372036854775808) := ⟨_, rfl⟩
  have dcc : decide (cc < 0) = false := by
   refine decide_eq_false ?_
   rw [hcc]
   unfold cmpI
   rw [if_neg hlo]
   split <;> decide
  rw [← hcc]
  clear hcc
  obtain ⟨x0, x1, _, _⟩ := hX6.cells
  obtain ⟨l0, l1, _, _⟩ := hH6.cells
  go_wp2_with fail
  refine (rCmp_any bl a n c z b4 a4 n4 c4 _ _ hM6 hJ6).mono ?_
  rintro e w7 ⟨rfl, hb7⟩
  have hX7 := hX6.below hb7
  have hM7 := hM6.below hb7
  have hB7 : Below w.heap.size w w7 := hB6.trans (hb7.mono hB6.size)
  clear hX6 hM6 hH6 hJ6 hB6 hb7 x0 x1 l0 l1
  by_cases hhi : 9223372036854775807 < z
  ·
   have HS : Hid (smallV z = 0 ∧ smallB z = false) := by
    show _ ∧ _
    unfold smallV smallB
    exact ⟨if_neg (by omega), decide_eq_false (by omega)⟩
   rw [show cmpI z 9223372036854775807 = 1 from by unfold cmpI; rw [if_neg (by omega), if_pos hhi]]
   clear hhi hlo hX7 hM7
   go_wp2
   go_ret2
   exact ⟨ret2 HS.out.1.symm HS.out.2.symm, hB7⟩
  ·
   have HS : Hid (smallV z = z ∧ smallB z = true) := by
    show _ ∧ _
    unfold smallV smallB
    exact ⟨if_pos (by omega), decide_eq_true (by omega)⟩
   obtain ⟨dd, hdd⟩ : ∃ dd, dd = cmpI z 9223372036854775807 := ⟨_, rfl⟩
   have ddd : decide (0 < dd) = false := by
    refine decide_eq_false ?_
    rw [hdd]
    unfold cmpI
    rw [if_neg hhi]
    split <;> decide
   rw [← hdd]
   clear hdd
   have HSG := Lib.hid hM7.sgn
   have HFT := Lib.hid hM7.fit
   have hlie := hM7.lie
   have HZ : Hid (-9223372036854775808 ≤ z ∧ z ≤ 9223372036854775807) := show _ ∧ _ from ⟨by omega, by omega⟩
   obtain ⟨x0, x1, _, _⟩ := hX7.cells
   clear hlo hhi hM7 x0 x1
   cases bl
   ·
    have HN : Hid ((((z.natAbs : Nat) : Int)) = z ∧ z.natAbs ≤ 9223372036854775807) := by
     show _ ∧ _
     have h1 := HSG.out
     have h2 := HZ.out
     simp at h1
     omega
    clear HSG HZ
    generalize z.natAbs = N at *
    obtain ⟨x0, x1, _, _⟩ := hX7.cells
    go_wp2
    clear x0 x1
    go_loopw [6, 7] (fun nv iv wr => ∃ k : Nat, k ≤ n ∧ iv = .int .i64 ((k : Int) - 1) ∧ nv = .int .i64 (((N / 10 ^ k : Nat) : Int)) ∧ Below w7.heap.size w7 wr) (fun _ iv _ => (intOf iv + 1).toNat)
    case atStart => exact ⟨n, Nat.le_refl _, by go_num, by rw [Nat.div_eq_of_lt HFT.out.1]; rfl, Below.refl _ _⟩
    case round =>
     obtain ⟨k, hk, rfl, rfl, hbl⟩ := hrel
     obtain ⟨x0, x1, _, _⟩ := (hX7.below hbl).cells
     cases k with
     | zero =>
      have hfin : Below w.heap.size w wr := hB7.trans (hbl.mono hB7.size)
      have HV : Hid (((N / 10 ^ 0 : Nat) : Int) = z) := by show _ = _; rw [Nat.pow_zero, Nat.div_one]; exact HN.out.1
      generalize ((N / 10 ^ 0 : Nat) : Int) = V at *
      clear hlie hbl
      go_wp2
      go_ret2
      exact ⟨ret2 (HV.out.trans HS.out.1.symm) HS.out.2.symm, hfin⟩
     | succ k =>
      rw [show (((k + 1 : Nat) : Int) - 1) = (k : Int) by omega]
      obtain ⟨bb, oo, rfl, hbb⟩ := hlie.some_of_pos (by omega)
      have c1 := (hlie.below hbl).at k (by omega)
      have hup := part_up N k
      have hdl := dig_lt N k
      have hle := Nat.div_le_self N (10 ^ k)
      have hNl := HN.out.2
      obtain ⟨D, hD⟩ : ∃ D : Int, D = ((dig N k : Nat) : Int) := ⟨_, rfl⟩
      obtain ⟨V, hV⟩ : ∃ V : Int, V = ((N / 10 ^ (k + 1) : Nat) : Int) := ⟨_, rfl⟩
      have HU : Hid (10 * V + D = ((N / 10 ^ k : Nat) : Int)) := by show _ = _; omega
      have hD0 : 0 ≤ D := by omega
      have hD1 : D ≤ 9 := by omega
      have hV0 : 0 ≤ V := by omega
      have hV1 : 10 * V + D ≤ 9223372036854775807 := by omega
      rw [← hD] at c1
      rw [← hV]
      clear hup hdl hle hNl hD hV
      go_wp2
      go_roundw
      case rel => exact ⟨k, by omega, by go_num, by rw [HU.out], hbl⟩
      case measure => simp [intOf]
   ·
    have HN : Hid ((-((z.natAbs : Nat) : Int)) = z ∧ z.natAbs ≤ 9223372036854775808) := by
     show _ ∧ _
     have h1 := HSG.out
     have h2 := HZ.out
     simp at h1
     omega
    clear HSG HZ
    generalize z.natAbs = N at *
    obtain ⟨x0, x1, _, _⟩ := hX7.cells
    go_wp2
    clear x0 x1
    go_loopw [6, 7] (fun nv iv wr => ∃ k : Nat, k ≤ n ∧ iv = .int .i64 ((k : Int) - 1) ∧ nv = .int .i64 (-((N / 10 ^ k : Nat) : Int)) ∧ Below w7.heap.size w7 wr) (fun _ iv _ => (intOf iv + 1).toNat)
    case atStart => exact ⟨n, Nat.le_refl _, by go_num, by rw [Nat.div_eq_of_lt HFT.out.1]; rfl, Below.refl _ _⟩
    case round =>
     obtain ⟨k, hk, rfl, rfl, hbl⟩ := hrel
     obtain ⟨x0, x1, _, _⟩ := (hX7.below hbl).cells
     cases k with
     | zero =>
      have hfin : Below w.heap.size w wr := hB7.trans (hbl.mono hB7.size)
      have HV : Hid (-((N / 10 ^ 0 : Nat) : Int) = z) := by show _ = _; rw [Nat.pow_zero, Nat.div_one]; exact HN.out.1
      generalize -((N / 10 ^ 0 : Nat) : Int) = V at *
      clear hlie hbl
      go_wp2
      go_ret2
      exact ⟨ret2 (HV.out.trans HS.out.1.symm) HS.out.2.symm, hfin⟩
     | succ k =>
      rw [show (((k + 1 : Nat) : Int) - 1) = (k : Int) by omega]
      obtain ⟨bb, oo, rfl, hbb⟩ := hlie.some_of_pos (by omega)
      have c1 := (hlie.below hbl).at k (by omega)
      have hup := part_up N k
      have hdl := dig_lt N k
      have hle := Nat.div_le_self N (10 ^ k)
      have hNl := HN.out.2
      obtain ⟨D, hD⟩ : ∃ D : Int, D = ((dig N k : Nat) : Int) := ⟨_, rfl⟩
      obtain ⟨V, hV⟩ : ∃ V : Int, V = ((N / 10 ^ (k + 1) : Nat) : Int) := ⟨_, rfl⟩
      have HU : Hid (10 * -V - D = -((N / 10 ^ k : Nat) : Int)) := by show _ = _; omega
      have hD0 : 0 ≤ D := by omega
      have hD1 : D ≤ 9 := by omega
      have hV0 : 0 ≤ V := by omega
      have hV1 : 10 * V + D ≤ 9223372036854775808 := by omega
      rw [← hD] at c1
      rw [← hV]
      clear hup hdl hle hNl hD hV
      go_wp2
      go_roundw
      case rel => exact ⟨k, by omega, by go_num, by rw [HU.out], hbl⟩
      case measure => simp [intOf]
end Go.Proofs.YtpahkpcoinbgcaaGreatDoor

/- The document's numbers by their names: contracts; variables of two numbers. No statement of the seat is proved here. -/
namespace Go.Proofs.YtpahkpcoinbgcaaGreatDoor
open Go Go.RowKit
/-- A number is handed back. -/
def PN (z : Int) (w : World) (e : Ending) (w' : World) : Prop := ∃ p : NR, p.z = z ∧ e = .returned (.agg #[.bool p.b, .slice p.a p.n p.c]) ∧ p.is w' ∧ Below w.heap.size w w'
theorem NR.len {p : NR} {W : World} (h : p.is W) {k : Nat} (hz : p.z.natAbs < 10 ^ k) : p.n ≤ k := fit10_le h.fit hz
theorem NR.below {p : NR} {W W' : World} (h : p.is W) (hb : Below W.heap.size W W') : p.is W' := RNum.below h hb
theorem nMul (p q : NR) (w : World) (hp : p.is w) (hq : q.is w) (h1 : p.n ≤ 1000000) (h2 : q.n ≤ 1000000) : Calls Tryz.prog 29 #[.agg #[.bool p.b, .slice p.a p.n p.c], .agg #[.bool q.b, .slice q.a q.n q.c]] w (PN (p.z * q.z) w) :=
 (rMul_any p.b p.a p.n p.c p.z q.b q.a q.n q.c q.z w hp hq (by omega) (by omega)).mono fun _ _ ⟨b, a, n, c, e, g, _, hB⟩ => ⟨⟨b, a, n, c, p.z * q.z⟩, rfl, e, g, hB⟩
/-- A quotient, a rest and an error's number are handed back. -/
def PNQ (q er : Int) (w : World) (e : Ending) (w' : World) : Prop := ∃ p r : NR, p.z = q ∧ e = .returned (.tuple #[.agg #[.bool p.b, .slice p.a p.n p.c], .agg #[.bool r.b, .slice r.a r.n r.c], .int .i64 er]) ∧ p.is w' ∧ r.is w' ∧ Below w.heap.size w w'
theorem quo_flo' {x y q r : Int} (h : IsQuo x y q r) (hy : y ≠ 0) : q = flo x y := (flo_of (by rw [Int.mul_comm]; exact h.1.symm) h.2.1 h.2.2 hy).symm
theorem nQuo (p q : NR) (w : World) (hp : p.is w) (hq : q.is w) (h1 : p.n ≤ 1000000) (h2 : q.n ≤ 1000000) (hz : q.z ≠ 0) : Calls Tryz.prog 30 #[.agg #[.bool p.b, .slice p.a p.n p.c], .agg #[.bool q.b, .slice q.a q.n q.c]] w (PNQ (flo p.z q.z) 0 w) :=
 (rQuo_any p.b p.a p.n p.c p.z q.b q.a q.n q.c q.z w hp hq h1 h2 hz).mono fun _ _ ⟨q', r, hq', b, a, n, c, b2, a2, n2, c2, e, g, g2, hB⟩ => ⟨⟨b, a, n, c, q'⟩, ⟨b2, a2, n2, c2, r⟩, quo_flo' hq' hz, e, g, g2, hB⟩
/-- A variable of two numbers. -/
def F4 (W : World) (T : TypeId) (k : Nat) (p q : NR) : Prop := W.heap[k]? = some (.cells #[.bool p.b, .slice p.a p.n p.c, .bool q.b, .slice q.a q.n q.c] T (0, 0))
theorem F4.below {W W' : World} {T : TypeId} {k : Nat} {p q : NR} (h : F4 W T k p q) (hb : Below W.heap.size W W') : F4 W' T k p q := by
 unfold F4 at h ⊢
 rw [hb.block _ (Array.getElem?_eq_some_iff.1 h).1]
 exact h
theorem F4.cells {W : World} {T : TypeId} {k : Nat} {p q : NR} (h : F4 W T k p q) : W.cell? ⟨k, 0, none⟩ = some (.bool p.b) ∧ W.cell? ⟨k, 1, none⟩ = some (.slice p.a p.n p.c) ∧ W.cell? ⟨k, 2, none⟩ = some (.bool q.b) ∧ W.cell? ⟨k, 3, none⟩ = some (.slice q.a q.n q.c) ∧ W.frozen? ⟨k, 0, none⟩ = false ∧ W.frozen? ⟨k, 1, none⟩ = false ∧ W.frozen? ⟨k, 2, none⟩ = false ∧ W.frozen? ⟨k, 3, none⟩ = false := by
 unfold F4 at h
 refine ⟨?_, ?_, ?_, ?_, ?_, ?_, ?_, ?_⟩ <;> simp [World.cell?, World.frozen?, h]
theorem F4.far {W : World} {T : TypeId} {k j o o' : Nat} {p q : NR} (h : F4 W T k p q) (hne : k ≠ j) (x y : Value) : F4 ((W.setCell ⟨j, o, none⟩ x).setCell ⟨j, o', none⟩ y) T k p q := by
 unfold F4 at h ⊢
 rw [heap_set_ne _ _ hne, heap_set_ne _ _ hne]
 exact h
end Go.Proofs.YtpahkpcoinbgcaaGreatDoor

/- Variables of any kind beside numbers of the document's. No statement of the seat is proved here. -/
namespace Go.Proofs.YtpahkpcoinbgcaaGreatDoor
open Go Go.RowKit
structure En (w W : World) (l : List (Nat × Array Value × TypeId)) (ns : List NR) : Prop where
 es : Es w W l
 num : ∀ p, p ∈ ns → p.is W
def noInt (C : Array Value) : Bool := C.toList.all fun v => match v with
 | .int _ _ => false
 | _ => true
section
variable {w W W' : World} {l : List (Nat × Array Value × TypeId)} {ns : List NR}
theorem en_nil (w : World) : En w w [] [] := ⟨es_nil w, nofun⟩
theorem En.later (h : En w W l ns) (hb : Below W.heap.size W W') : En w W' l ns := ⟨h.es.later hb, fun p hp => NR.below (h.num p hp) hb⟩
theorem En.more (h : En w W l ns) {p : NR} (hp : p.is W) : En w W l (p :: ns) := ⟨h.es, fun q hq => by
 rcases List.mem_cons.1 hq with rfl | hq
 ·
  exact hp
 ·
  exact h.num q hq⟩
theorem En.drop (h : En w W l ns) : En w W l [] := ⟨h.es, nofun⟩
theorem En.cell (h : En w W l ns) (j : Nat) {b : Nat} {C : Array Value} {T : TypeId} (hj : l[j]? = some (b, C, T)) (i : Nat) {v : Value} (hi : C[i]? = some v) : W.cell? ⟨b, i, none⟩ = some v := h.es.cell j hj i hi
theorem En.below (h : En w W l ns) : Below w.heap.size w W := h.es.below
theorem NR.keep {p : NR} {b : Nat} {C : Array Value} {T : TypeId} (h : p.is W) (hc : Cl W (b, C, T)) (hn : noInt C = true) (hk : ∀ k, k ≠ b → W'.heap[k]? = W.heap[k]?) (hz : W'.heap.size = W.heap.size) : p.is W' := by
 unfold NR.is at *
 refine ⟨⟨h.lie.cap, h.lie.capm, h.lie.nil, fun a ha => ⟨(h.lie.spot a ha).1, by rw [hz]; exact (h.lie.spot a ha).2⟩, fun a ha i hi => ?_⟩, h.fit, h.sgn⟩
 have h1 := h.lie.cell a ha i hi
 have hne : a.block ≠ b := by
  intro e
  unfold Cl at hc
  change W.heap[b]? = some (.cells C T (0, 0)) at hc
  unfold World.cell? at h1
  rw [e, hc] at h1
  simp only at h1
  split at h1
  ·
   cases h1
  ·
   have := List.all_eq_true.1 hn _ (by
    have h2 := Array.mem_of_getElem? h1
    exact Array.mem_toList_iff.2 h2)
   simp at this
 unfold World.cell? at h1 ⊢
 rw [hk _ hne]
 exact h1
end
section
variable {P : Program} {ops : Array Oper} {Q : Exit → Act → World → Prop} {a : Act} {w W : World} {rest : List Oper} {o : Oper} {l : List (Nat × Array Value × TypeId)} {ns : List NR}
theorem stopn_alloc (T : TypeId) (C : Array Value) (z : Value) (hg : o.guard = none) (ho : o.op = .alloc T) (hz : ∀ W, (zeroValue T).run P W = .ok z W) (hC : z.cells = C) (h : En w W l ns) (k : ∀ (b : Nat) (W' : World), En w W' ((b, C, T) :: l) ns → Stop (wpList P ops Q rest (a.put o.dst (.pointer (some ⟨b, 0, none⟩))) W')) : wpList P ops Q (o :: rest) a W :=
 wpList_plain hg fun K hK => wp_alloc T ho z hz (hK _ _ (k _ _ ⟨hC ▸ h.es.new z.cells T, (h.later ((Below.refl _ _).alloc (Nat.le_refl _) _)).num⟩))
theorem stopn_store (T : TypeId) (p x : Operand) (j b off : Nat) (C : Array Value) (T' : TypeId) (n : Nat) (vs : List Value) (C' : Array Value) (l' : List (Nat × Array Value × TypeId)) (hni : (noInt C || ns.isEmpty) = true) (hg : o.guard = none) (ho : o.op = .store T p x) (hp : a.eval p = .pointer (some ⟨b, off, none⟩)) (hx : (a.eval x).cells.toList = vs) (hn : ∀ W, (sizeOf T).run P W = .ok n W) (h : En w W l ns) (hj : l[j]? = some (b, C, T')) (hv : vs.length = n) (hs : off + n ≤ C.size) (hb : vs.all (·.oneCell') = true) (hC : putC C off vs = C') (hl : l.set j (b, C', T') = l')
  (k : ∀ W', En w W' l' ns → Stop (wpList P ops Q rest (a.put o.dst undef) W')) : wpList P ops Q (o :: rest) a W :=
 wpList_plain hg fun K hK => wp_store T p x ho j b off C T' n vs h.es hj hp hx hn hv hs hb (fun W' e hk hz => hK _ _ (k W' ⟨(by rw [hC, hl] at e; exact e), fun q hq => by
  rw [Bool.or_eq_true] at hni
  rcases hni with hni | hni
  ·
   exact NR.keep (h.num q hq) (h.es.at' _ (List.mem_of_getElem? hj)) hni hk hz
  ·
   cases ns with
   | nil => cases hq
   | cons _ _ => cases hni⟩))
end
/-- What an operation of a region gives: a value; a number; a number beside something; two numbers, of which the first is known, beside something. -/
inductive VN' where
 | eq (v : Value)
 | num (z : Int)
 | num1 (z : Int) (v : Value)
 | num2 (z : Int) (v : Value)
 | num3 (z y : Int) (v : Value)
 | numu
 | any
def NR.w (p : NR) : Value := .agg #[.bool p.b, .slice p.a p.n p.c]
def vnP : VN' → Value → World → Prop
 | .eq c, v, _ => v = c
 | .num z, v, W => ∃ p : NR, p.z = z ∧ v = .agg #[.bool p.b, .slice p.a p.n p.c] ∧ p.is W
 | .num1 z c, v, W => ∃ p : NR, p.z = z ∧ v = .tuple #[.agg #[.bool p.b, .slice p.a p.n p.c], c] ∧ p.is W
 | .num2 z c, v, W => ∃ p r : NR, p.z = z ∧ v = .tuple #[.agg #[.bool p.b, .slice p.a p.n p.c], .agg #[.bool r.b, .slice r.a r.n r.c], c] ∧ p.is W ∧ r.is W
 | .num3 z y c, v, W => ∃ p r : NR, p.z = z ∧ r.z = y ∧ v = .tuple #[.agg #[.bool p.b, .slice p.a p.n p.c], .agg #[.bool r.b, .slice r.a r.n r.c], c] ∧ p.is W ∧ r.is W
 | .numu, v, W => ∃ p : NR, v = .agg #[.bool p.b, .slice p.a p.n p.c] ∧ p.is W
 | .any, _, _ => True
def vnL (ks : List VN') (j : Nat) : Value → World → Prop := vnP (ks.getD j .any)
theorem vn_mono {k : VN'} {v : Value} {W W' : World} (h : vnP k v W) (hm : ∀ p : NR, p.is W → p.is W') : vnP k v W' := by
 cases k with
 | eq c => exact h
 | num z => obtain ⟨p, e, h1, h2⟩ := h; exact ⟨p, e, h1, hm p h2⟩
 | num1 z c => obtain ⟨p, e, h1, h2⟩ := h; exact ⟨p, e, h1, hm p h2⟩
 | num2 z c => obtain ⟨p, r, e, h1, h2, h3⟩ := h; exact ⟨p, r, e, h1, hm p h2, hm r h3⟩
 | numu => obtain ⟨p, h1, h2⟩ := h; exact ⟨p, h1, hm p h2⟩
 | num3 z y c => obtain ⟨p, r, e, e', h1, h2, h3⟩ := h; exact ⟨p, r, e, e', h1, hm p h2, hm r h3⟩
 | any => trivial
theorem vnL_later {n : Nat} {ks : List VN'} {u : Nat → Value} {W W' : World} (hb : Below W.heap.size W W') : ∀ j, j < n → vnL ks j (u j) W → vnL ks j (u j) W' := fun _ _ h => vn_mono h fun _ hp => NR.below hp hb
theorem vnL_same {n : Nat} {ks : List VN'} {u : Nat → Value} {W : World} : ∀ j, j < n → vnL ks j (u j) W → vnL ks j (u j) W := fun _ _ h => h
/-- The invariant of a region: as Jz, with numbers; what was stored is told by its operation's value. -/
structure Jn (w : World) (m : Nat) (l : List (Nat × Array Value × TypeId)) (ns : List NR) (al : List (Nat × Nat × TypeId)) (sts : List (Nat × Nat × Nat × TypeId)) (L : Nat → Bool) (u : Nat → Value) (W : World) : Prop where
 em : Em w m l W
 num : ∀ p, p ∈ ns → p.is W
 bx : ∀ a, a ∈ al → L a.1 = true → ∃ (b : Nat) (C : Array Value), u a.1 = .pointer (some ⟨b, 0, none⟩) ∧ m ≤ b ∧ C.size = a.2.1 ∧ noInt C = true ∧ Cl W (b, C, a.2.2)
 ne : ∀ a a', a ∈ al → a' ∈ al → a.1 ≠ a'.1 → L a.1 = true → L a'.1 = true → u a.1 ≠ u a'.1
 st : ∀ s, s ∈ sts → L s.1 = true → L s.2.1 = true ∧ L s.2.2.1 = true ∧ ∃ b : Nat, u s.2.1 = .pointer (some ⟨b, 0, none⟩) ∧ Cl W (b, (u s.2.2.1).cells, s.2.2.2)
section
variable {w W : World} {m : Nat} {l : List (Nat × Array Value × TypeId)} {ns : List NR} {al : List (Nat × Nat × TypeId)} {sts : List (Nat × Nat × Nat × TypeId)} {L : Nat → Bool} {u : Nat → Value}
theorem Jn.start (h : En w W l ns) (u : Nat → Value) : Jn w W.heap.size l ns al sts (fun _ => false) u W.drew := ⟨h.es.em, fun p hp => NR.below (h.num p hp) (Below.refl _ _).drew, nofun, nofun, nofun⟩
theorem Jn.grow {W' : World} {i : Nat} {v : Value} (h : Jn w m l ns al sts L u W) (hLi : L i = false) (ha : ∀ a, a ∈ al → a.1 ≠ i) (hs : ∀ s, s ∈ sts → s.1 ≠ i) (hb : Below W.heap.size W W') : Jn w m l ns al sts (upd L i) (updV u i v) W' := by
 refine ⟨h.em.later hb, fun p hp => NR.below (h.num p hp) hb, fun a ha' hL => ?_, fun a a' h1 h2 hne hL1 hL2 => ?_, fun s hs' hL => ?_⟩
 ·
  rw [upd_ne (ha a ha')] at hL
  obtain ⟨b, C, e1, e2, e3, e5, e4⟩ := h.bx a ha' hL
  exact ⟨b, C, by rw [updV_ne (ha a ha')]; exact e1, e2, e3, e5, e4.below hb⟩
 ·
  rw [upd_ne (ha a h1)] at hL1
  rw [upd_ne (ha a' h2)] at hL2
  rw [updV_ne (ha a h1), updV_ne (ha a' h2)]
  exact h.ne a a' h1 h2 hne hL1 hL2
 ·
  rw [upd_ne (hs s hs')] at hL
  obtain ⟨k1, k2, b, e1, e2⟩ := h.st s hs' hL
  exact ⟨upd_mono k1, upd_mono k2, b, by rw [updV_ne (ne_of hLi k1)]; exact e1, by rw [updV_ne (ne_of hLi k2)]; exact e2.below hb⟩
theorem Jn.alloc {i n : Nat} {C : Array Value} {T : TypeId} (h : Jn w m l ns al sts L u W) (hLi : L i = false) (hn : C.size = n) (hno : noInt C = true) (hin : ∀ a, a ∈ al → a.1 = i → a = (i, n, T)) (hs : ∀ s, s ∈ sts → s.1 ≠ i) : Jn w m l ns al sts (upd L i) (updV u i (.pointer (some ⟨W.heap.size, 0, none⟩))) (W.alloc (.cells C T)) := by
 have hb : Below W.heap.size W (W.alloc (.cells C T)) := (Below.refl _ _).alloc (Nat.le_refl _) _
 have old : ∀ a, a ∈ al → a.1 ≠ i → upd L i a.1 = true → updV u i (.pointer (some ⟨W.heap.size, 0, none⟩)) a.1 ≠ .pointer (some ⟨W.heap.size, 0, none⟩) := by
  intro a ha e hL hc
  rw [upd_ne e] at hL
  obtain ⟨b, C', e1, _, _, _, e4⟩ := h.bx a ha hL
  rw [updV_ne e, e1] at hc
  have := (Array.getElem?_eq_some_iff.1 e4).1
  injection hc with hc
  injection hc with hc
  injection hc with hc
  change b < W.heap.size at this
  omega
 refine ⟨h.em.later hb, fun p hp => NR.below (h.num p hp) hb, fun a ha' hL => ?_, fun a a' h1 h2 hne hL1 hL2 => ?_, fun s hs' hL => ?_⟩
 ·
  by_cases e : a.1 = i
  ·
   rw [hin a ha' e]
   exact ⟨W.heap.size, C, by simp [updV], h.em.le, hn, hno, heap_new W _⟩
  ·
   rw [upd_ne e] at hL
   obtain ⟨b, C', e1, e2, e3, e5, e4⟩ := h.bx a ha' hL
   exact ⟨b, C', by rw [updV_ne e]; exact e1, e2, e3, e5, e4.below hb⟩
 ·
  by_cases e : a.1 = i
  ·
   have e' : a'.1 ≠ i := fun x => hne (e.trans x.symm)
   intro hc
   refine old a' h2 e' hL2 ?_
   rw [← hc, e]
   simp [updV]
  ·
   by_cases e' : a'.1 = i
   ·
    intro hc
    refine old a h1 e hL1 ?_
    rw [hc, e']
    simp [updV]
   ·
    rw [upd_ne e] at hL1
    rw [upd_ne e'] at hL2
    rw [updV_ne e, updV_ne e']
    exact h.ne a a' h1 h2 hne hL1 hL2
 ·
  rw [upd_ne (hs s hs')] at hL
  obtain ⟨k1, k2, b, e1, e2⟩ := h.st s hs' hL
  exact ⟨upd_mono k1, upd_mono k2, b, by rw [updV_ne (ne_of hLi k1)]; exact e1, by rw [updV_ne (ne_of hLi k2)]; exact e2.below hb⟩
theorem Jn.store {W' : World} {i a x b n : Nat} {T : TypeId} {Co Cn : Array Value} {v : Value} (h : Jn w m l ns al sts L u W) (hLi : L i = false) (ha : ∀ a, a ∈ al → a.1 ≠ i) (hin : (a, n, T) ∈ al) (hun : ∀ x, x ∈ al → x.1 = a → x = (a, n, T)) (hua : ∀ s, s ∈ sts → s.1 = i → s = (i, a, x, T)) (hal : ∀ s, s ∈ sts → ∃ x, x ∈ al ∧ x.1 = s.2.1) (hus : ∀ s, s ∈ sts → s.1 ≠ i → s.2.1 ≠ a) (hLa : L a = true) (hLx : L x = true)
  (eu : u a = .pointer (some ⟨b, 0, none⟩)) (hm : m ≤ b) (hn : Cn.size = n) (hno : noInt Cn = true) (hx : (u x).cells = Cn) (ho : Cl W (b, Co, T)) (hoi : noInt Co = true) (hE : Es w W' ((b, Cn, T) :: l)) (hk : ∀ k, k ≠ b → W'.heap[k]? = W.heap[k]?) (hz : W'.heap.size = W.heap.size) : Jn w m l ns al sts (upd L i) (updV u i v) W' := by
 have hCl : Cl W' (b, Cn, T) := hE.at' _ (List.mem_cons_self ..)
 refine ⟨⟨hE.sub (List.sublist_cons_self _ _), by rw [hz]; exact h.em.le, h.em.lt, h.em.ge⟩, fun p hp => NR.keep (h.num p hp) ho hoi hk hz, fun a1 ha' hL => ?_, fun a1 a2 h1 h2 hne hL1 hL2 => ?_, fun s hs' hL => ?_⟩
 ·
  rw [upd_ne (ha a1 ha')] at hL
  obtain ⟨b1, C1, e1, e2, e3, e5, e4⟩ := h.bx a1 ha' hL
  by_cases hb : b1 = b
  ·
   subst hb
   have : a1.1 = a := by
    refine Classical.byContradiction fun hc => h.ne a1 (a, n, T) ha' hin hc hL hLa ?_
    rw [e1, eu]
   rw [hun a1 ha' this]
   exact ⟨b1, Cn, by rw [updV_ne (ne_of hLi hLa)]; exact eu, hm, hn, hno, hCl⟩
  ·
   exact ⟨b1, C1, by rw [updV_ne (ha a1 ha')]; exact e1, e2, e3, e5, e4.keep hb hk⟩
 ·
  rw [upd_ne (ha a1 h1)] at hL1
  rw [upd_ne (ha a2 h2)] at hL2
  rw [updV_ne (ha a1 h1), updV_ne (ha a2 h2)]
  exact h.ne a1 a2 h1 h2 hne hL1 hL2
 ·
  by_cases hs : s.1 = i
  ·
   rw [hua s hs' hs]
   exact ⟨upd_mono hLa, upd_mono hLx, b, by rw [updV_ne (ne_of hLi hLa)]; exact eu, by rw [updV_ne (ne_of hLi hLx), hx]; exact hCl⟩
  ·
   rw [upd_ne hs] at hL
   obtain ⟨k1, k2, b1, e1, e2⟩ := h.st s hs' hL
   have hb : b1 ≠ b := by
    intro hc
    obtain ⟨y, hy, ey⟩ := hal s hs'
    refine h.ne y (a, n, T) hy hin (by rw [ey]; exact hus s hs' hs) (by rw [ey]; exact k1) hLa ?_
    rw [ey, e1, eu, hc]
   exact ⟨upd_mono k1, upd_mono k2, b1, by rw [updV_ne (ne_of hLi k1)]; exact e1, by rw [updV_ne (ne_of hLi k2)]; exact e2.keep hb hk⟩
theorem vnL_store {n b : Nat} {ks : List VN'} {u : Nat → Value} {W W' : World} {C : Array Value} {T : TypeId} (hc : Cl W (b, C, T)) (hn : noInt C = true) (hk : ∀ k, k ≠ b → W'.heap[k]? = W.heap[k]?) (hz : W'.heap.size = W.heap.size) : ∀ j, j < n → vnL ks j (u j) W → vnL ks j (u j) W' := fun _ _ h => vn_mono h fun _ hp => NR.keep hp hc hn hk hz
end
/-- A number, and something beside it, are handed back. -/
def PN1 (z : Int) (v : Value) (w : World) (e : Ending) (w' : World) : Prop := ∃ p : NR, p.z = z ∧ e = .returned (.tuple #[.agg #[.bool p.b, .slice p.a p.n p.c], v]) ∧ p.is w' ∧ Below w.heap.size w w'
def PN3 (z y : Int) (v : Value) (w : World) (e : Ending) (w' : World) : Prop := ∃ p r : NR, p.z = z ∧ r.z = y ∧ e = .returned (.tuple #[.agg #[.bool p.b, .slice p.a p.n p.c], .agg #[.bool r.b, .slice r.a r.n r.c], v]) ∧ p.is w' ∧ r.is w' ∧ Below w.heap.size w w'
end Go.Proofs.YtpahkpcoinbgcaaGreatDoor

/- The document's square root, digit by digit: what a digit does (no walk). S is the root: S * S ≤ N < (S + 1) * (S + 1). -/
namespace Go.Proofs.YtpahkpcoinbgcaaGreatDoor
open Go.RowKit
/-- What stands in the row: the root's digits above i, and j at i. -/
def rootV (S i j : Nat) : Nat := (S / 10 ^ (i + 1) * 10 + j) * 10 ^ i
theorem root_le {S N V : Nat} (h : N < (S + 1) * (S + 1)) (hV : V * V ≤ N) : V ≤ S := by
 refine Nat.le_of_not_lt fun hc => ?_
 have := Nat.mul_le_mul (show S + 1 ≤ V from hc) (show S + 1 ≤ V from hc)
 omega
theorem root_ge {S N V : Nat} (h : S * S ≤ N) (hV : V ≤ S) : V * V ≤ N := Nat.le_trans (Nat.mul_le_mul hV hV) h
theorem rootV_le_iff (S i j : Nat) : rootV S i j ≤ S ↔ j ≤ dig S i := by
 have hu := part_up S i
 unfold rootV
 rw [← Nat.le_div_iff_mul_le (p10 i), hu]
 omega
/-- The square of what stands in the row fits if the digit is not above the root's. -/
theorem root_fits {S N i j : Nat} (h1 : S * S ≤ N) (h2 : N < (S + 1) * (S + 1)) : rootV S i j * rootV S i j ≤ N ↔ j ≤ dig S i :=
 ⟨fun h => (rootV_le_iff S i j).1 (root_le h2 h), fun h => root_ge h1 ((rootV_le_iff S i j).2 h)⟩
theorem rootV_dig {S i j : Nat} (hj : j < 10) : ∀ p, partJ S i j p = dig (rootV S i j) p := by
 intro p
 unfold partJ partQ rootV dig
 by_cases hp : p < i
 ·
  rw [if_neg (by omega), if_pos (by omega)]
  obtain ⟨d, rfl⟩ : ∃ d, i = p + 1 + d := ⟨i - (p + 1), by omega⟩
  generalize S / 10 ^ (p + 1 + d + 1) * 10 + j = M
  have e : M * 10 ^ (p + 1 + d) = 10 ^ p * (10 * (10 ^ d * M)) := by
   rw [Nat.pow_add, Nat.pow_succ]
   simp only [Nat.mul_comm, Nat.mul_left_comm, Nat.mul_assoc]
  rw [e, Nat.mul_div_cancel_left _ (p10 p), Nat.mul_mod_right]
 ·
  obtain ⟨d, rfl⟩ : ∃ d, p = i + d := ⟨p - i, by omega⟩
  rw [Nat.pow_add, ← Nat.div_div_eq_div_mul (m := _ * 10 ^ i), Nat.mul_div_cancel _ (p10 i)]
  cases d with
  | zero => rw [if_pos (by omega), Nat.pow_zero, Nat.div_one]; omega
  | succ d =>
   rw [if_neg (by omega), if_neg (by omega), Nat.pow_succ 10 d, Nat.mul_comm (10 ^ d) 10, ← Nat.div_div_eq_div_mul (m := S / 10 ^ (i + 1) * 10 + j), show (S / 10 ^ (i + 1) * 10 + j) / 10 = S / 10 ^ (i + 1) by omega]
   rw [Nat.div_div_eq_div_mul, ← Nat.pow_add, ← Nat.mul_assoc, ← Nat.pow_succ, ← Nat.pow_add]
/-- The row is long enough. -/
theorem root_len {S N n : Nat} (h1 : S * S ≤ N) (hN : N < 10 ^ n) : S < 10 ^ (n / 2 + 1) := by
 refine Nat.lt_of_not_le fun hc => ?_
 have h2 := Nat.mul_le_mul hc hc
 rw [← Nat.pow_add] at h2
 have h3 : 10 ^ n ≤ 10 ^ (n / 2 + 1 + (n / 2 + 1)) := Nat.pow_le_pow_right (by decide) (by omega)
 omega
theorem rootV_lt {S i j m : Nat} (hS : S < 10 ^ m) (hi : i < m) (hj : j < 10) : rootV S i j < 10 ^ m := by
 obtain ⟨d, rfl⟩ : ∃ d, m = i + 1 + d := ⟨m - (i + 1), by omega⟩
 have h1 : S / 10 ^ (i + 1) < 10 ^ d := Nat.div_lt_of_lt_mul (by rw [← Nat.pow_add]; exact hS)
 unfold rootV
 generalize S / 10 ^ (i + 1) = K at *
 rw [show i + 1 + d = (d + 1) + i by omega, Nat.pow_add 10 (d + 1) i, Nat.pow_succ 10 d]
 exact Nat.mul_lt_mul_of_pos_right (by omega) (p10 i)
end Go.Proofs.YtpahkpcoinbgcaaGreatDoor
