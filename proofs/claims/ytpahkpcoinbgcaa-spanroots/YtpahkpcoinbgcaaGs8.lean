/- Parts of the proof. -/
import Derived.Test.YtpahkpcoinbgcaaGs7
import Derived.Test.YtpahkpcoinbgcaaGs5
import Derived.Test.YtpahkpcoinbgcaaGs6
/- The document's numbers by their names: contracts; variables of two numbers. No statement of the seat is proved here. -/
namespace Go.Proofs.Ytpahkpcoinbgcaa
open Go Go.RowKit
/-- A number is handed back. -/
def PN (z : Int) (w : World) (e : Ending) (w' : World) : Prop := ∃ p : NR, p.z = z ∧ e = .returned (.agg #[.bool p.b, .slice p.a p.n p.c]) ∧ p.is w' ∧ Below w.heap.size w w'
theorem NR.len {p : NR} {W : World} (h : p.is W) {k : Nat} (hz : p.z.natAbs < 10 ^ k) : p.n ≤ k := fit10_le h.fit hz
theorem NR.below {p : NR} {W W' : World} (h : p.is W) (hb : Below W.heap.size W W') : p.is W' := RNum.below h hb
theorem nOf (z : Int) (h1 : -9223372036854775808 ≤ z) (h2 : z ≤ 9223372036854775807) (w : World) : Calls Try.prog 80 #[.int .i64 z] w (PN z w) :=
 (rOf_any z w h1 h2).mono fun _ _ ⟨b, a, n, c, e, g, _, hB⟩ => ⟨⟨b, a, n, c, z⟩, rfl, e, g, hB⟩
theorem nMul (p q : NR) (w : World) (hp : p.is w) (hq : q.is w) (h1 : p.n ≤ 1000000) (h2 : q.n ≤ 1000000) : Calls Try.prog 86 #[.agg #[.bool p.b, .slice p.a p.n p.c], .agg #[.bool q.b, .slice q.a q.n q.c]] w (PN (p.z * q.z) w) :=
 (rMul_any p.b p.a p.n p.c p.z q.b q.a q.n q.c q.z w hp hq (by omega) (by omega)).mono fun _ _ ⟨b, a, n, c, e, g, _, hB⟩ => ⟨⟨b, a, n, c, p.z * q.z⟩, rfl, e, g, hB⟩
theorem nAdd (p q : NR) (w : World) (hp : p.is w) (hq : q.is w) (h1 : p.n ≤ 1000000) (h2 : q.n ≤ 1000000) : Calls Try.prog 89 #[.agg #[.bool p.b, .slice p.a p.n p.c], .agg #[.bool q.b, .slice q.a q.n q.c]] w (PN (p.z + q.z) w) :=
 (rAdd_any p.b p.a p.n p.c p.z q.b q.a q.n q.c q.z w hp hq (by omega) (by omega)).mono fun _ _ ⟨b, a, n, c, e, g, _, hB⟩ => ⟨⟨b, a, n, c, p.z + q.z⟩, rfl, e, g, hB⟩
theorem nMinus (p : NR) (w : World) (hp : p.is w) : Calls Try.prog 108 #[.agg #[.bool p.b, .slice p.a p.n p.c]] w (PN (-p.z) w) :=
 (rMinus_any p.b p.a p.n p.c p.z w hp).mono fun _ _ ⟨b, a, n, c, e, g, hB⟩ => ⟨⟨b, a, n, c, -p.z⟩, rfl, e, g, hB⟩
/-- A quotient, a rest and an error's number are handed back. -/
def PNQ (q er : Int) (w : World) (e : Ending) (w' : World) : Prop := ∃ p r : NR, p.z = q ∧ e = .returned (.tuple #[.agg #[.bool p.b, .slice p.a p.n p.c], .agg #[.bool r.b, .slice r.a r.n r.c], .int .i64 er]) ∧ p.is w' ∧ r.is w' ∧ Below w.heap.size w w'
theorem quo_flo' {x y q r : Int} (h : IsQuo x y q r) (hy : y ≠ 0) : q = flo x y := (flo_of (by rw [Int.mul_comm]; exact h.1.symm) h.2.1 h.2.2 hy).symm
theorem nQuo (p q : NR) (w : World) (hp : p.is w) (hq : q.is w) (h1 : p.n ≤ 1000000) (h2 : q.n ≤ 1000000) (hz : q.z ≠ 0) : Calls Try.prog 107 #[.agg #[.bool p.b, .slice p.a p.n p.c], .agg #[.bool q.b, .slice q.a q.n q.c]] w (PNQ (flo p.z q.z) 0 w) :=
 (rQuo_any p.b p.a p.n p.c p.z q.b q.a q.n q.c q.z w hp hq h1 h2 hz).mono fun _ _ ⟨q', r, hq', b, a, n, c, b2, a2, n2, c2, e, g, g2, hB⟩ => ⟨⟨b, a, n, c, q'⟩, ⟨b2, a2, n2, c2, r⟩, quo_flo' hq' hz, e, g, g2, hB⟩
theorem nSmall (p : NR) (w : World) (hp : p.is w) (h1 : p.n ≤ 1000000) : Calls Try.prog 109 #[.agg #[.bool p.b, .slice p.a p.n p.c]] w (PVal2 (.int .i64 (smallV p.z)) (.bool (smallB p.z)) w) := rSmall_any p.b p.a p.n p.c p.z w hp h1
/-- A variable of two numbers. -/
def F4 (W : World) (T : TypeId) (k : Nat) (p q : NR) : Prop := W.heap[k]? = some (.cells #[.bool p.b, .slice p.a p.n p.c, .bool q.b, .slice q.a q.n q.c] T (0, 0))
theorem F4.below {W W' : World} {T : TypeId} {k : Nat} {p q : NR} (h : F4 W T k p q) (hb : Below W.heap.size W W') : F4 W' T k p q := by
 unfold F4 at h ⊢
 rw [hb.block _ (Array.getElem?_eq_some_iff.1 h).1]
 exact h
theorem F4.cells {W : World} {T : TypeId} {k : Nat} {p q : NR} (h : F4 W T k p q) : W.cell? ⟨k, 0, none⟩ = some (.bool p.b) ∧ W.cell? ⟨k, 1, none⟩ = some (.slice p.a p.n p.c) ∧ W.cell? ⟨k, 2, none⟩ = some (.bool q.b) ∧ W.cell? ⟨k, 3, none⟩ = some (.slice q.a q.n q.c) ∧ W.frozen? ⟨k, 0, none⟩ = false ∧ W.frozen? ⟨k, 1, none⟩ = false ∧ W.frozen? ⟨k, 2, none⟩ = false ∧ W.frozen? ⟨k, 3, none⟩ = false := by
 unfold F4 at h
 refine ⟨?_, ?_, ?_, ?_, ?_, ?_, ?_, ?_⟩ <;> simp [World.cell?, World.frozen?, h]
theorem F4.far {W : World} {T : TypeId} {k j o o' : Nat} {p q : NR} (h : F4 W T k p q) (hne : k ≠ j) (x y : Value) : F4 ((W.setCell ⟨j, o, none⟩ x).setCell ⟨j, o', none⟩ y) T k p q := by
 unfold F4 at h ⊢
 rw [heap_set_ne _ _ hne, heap_set_ne _ _ hne]
 exact h
theorem NR.store2 {r : NR} {W : World} (h : r.is W) {t : TypeId} {k : Nat} {bk : Bool} {ak : Option Addr} {nk ck : Nat} (hk : Bx W t k (.bool bk) (.slice ak nk ck)) (x y : Value) : r.is ((W.setCell ⟨k, 0, none⟩ x).setCell ⟨k, 1, none⟩ y) := RNum.store h hk x y
theorem below_o {w W : World} (h : Below w.heap.size w W) {k : Nat} (hk : w.heap.size ≤ k) (o o' : Nat) (x y : Value) : Below w.heap.size w ((W.setCell ⟨k, o, none⟩ x).setCell ⟨k, o', none⟩ y) := (h.setCell (p := ⟨k, o, none⟩) hk _).setCell (p := ⟨k, o', none⟩) hk _
end Go.Proofs.Ytpahkpcoinbgcaa

/- Variables of any kind beside numbers of the document's. No statement of the seat is proved here. -/
namespace Go.Proofs.Ytpahkpcoinbgcaa
open Go Go.RowKit
structure En (w W : World) (l : List (Nat × Array Value × TypeId)) (ns : List NR) : Prop where
 es : Es w W l
 num : ∀ p, p ∈ ns → p.is W
def noInt (C : Array Value) : Bool := C.toList.all fun v => match v with
 | .int _ _ => false
 | _ => true
section
variable {w W W' : World} {l : List (Nat × Array Value × TypeId)} {ns : List NR}
theorem en_nil (w : World) : En w w [] [] := ⟨es_nil w, nofun⟩
theorem En.later (h : En w W l ns) (hb : Below W.heap.size W W') : En w W' l ns := ⟨h.es.later hb, fun p hp => NR.below (h.num p hp) hb⟩
theorem En.more (h : En w W l ns) {p : NR} (hp : p.is W) : En w W l (p :: ns) := ⟨h.es, fun q hq => by
 rcases List.mem_cons.1 hq with rfl | hq
 ·
  exact hp
 ·
  exact h.num q hq⟩
theorem En.drop (h : En w W l ns) : En w W l [] := ⟨h.es, nofun⟩
theorem En.cell (h : En w W l ns) (j : Nat) {b : Nat} {C : Array Value} {T : TypeId} (hj : l[j]? = some (b, C, T)) (i : Nat) {v : Value} (hi : C[i]? = some v) : W.cell? ⟨b, i, none⟩ = some v := h.es.cell j hj i hi
theorem En.below (h : En w W l ns) : Below w.heap.size w W := h.es.below
theorem NR.keep {p : NR} {b : Nat} {C : Array Value} {T : TypeId} (h : p.is W) (hc : Cl W (b, C, T)) (hn : noInt C = true) (hk : ∀ k, k ≠ b → W'.heap[k]? = W.heap[k]?) (hz : W'.heap.size = W.heap.size) : p.is W' := by
 unfold NR.is at *
 refine ⟨⟨h.lie.cap, h.lie.capm, h.lie.nil, fun a ha => ⟨(h.lie.spot a ha).1, by rw [hz]; exact (h.lie.spot a ha).2⟩, fun a ha i hi => ?_⟩, h.fit, h.sgn⟩
 have h1 := h.lie.cell a ha i hi
 have hne : a.block ≠ b := by
  intro e
  unfold Cl at hc
  change W.heap[b]? = some (.cells C T (0, 0)) at hc
  unfold World.cell? at h1
  rw [e, hc] at h1
  simp only at h1
  split at h1
  ·
   cases h1
  ·
   have := List.all_eq_true.1 hn _ (by
    have h2 := Array.mem_of_getElem? h1
    exact Array.mem_toList_iff.2 h2)
   simp at this
 unfold World.cell? at h1 ⊢
 rw [hk _ hne]
 exact h1
end
section
variable {P : Program} {ops : Array Oper} {Q : Exit → Act → World → Prop} {a : Act} {w W : World} {rest : List Oper} {o : Oper} {l : List (Nat × Array Value × TypeId)} {ns : List NR}
theorem stopn_alloc (T : TypeId) (C : Array Value) (z : Value) (hg : o.guard = none) (ho : o.op = .alloc T) (hz : ∀ W, (zeroValue T).run P W = .ok z W) (hC : z.cells = C) (h : En w W l ns) (k : ∀ (b : Nat) (W' : World), En w W' ((b, C, T) :: l) ns → Stop (wpList P ops Q rest (a.put o.dst (.pointer (some ⟨b, 0, none⟩))) W')) : wpList P ops Q (o :: rest) a W :=
 wpList_plain hg fun K hK => wp_alloc T ho z hz (hK _ _ (k _ _ ⟨hC ▸ h.es.new z.cells T, (h.later ((Below.refl _ _).alloc (Nat.le_refl _) _)).num⟩))
theorem stopn_box (T : TypeId) (x : Operand) (C : Array Value) (hg : o.guard = none) (ho : o.op = .box T x) (hC : (a.eval x).cells = C) (h : En w W l ns) (k : ∀ (b : Nat) (W' : World), En w W' ((b, C, T) :: l) ns → Stop (wpList P ops Q rest (a.put o.dst (.pointer (some ⟨b, 0, none⟩))) W')) : wpList P ops Q (o :: rest) a W :=
 wpList_plain hg fun K hK => wp_box T x ho (hK _ _ (k _ _ ⟨hC ▸ h.es.new (a.eval x).cells T, (h.later ((Below.refl _ _).alloc (Nat.le_refl _) _)).num⟩))
theorem stopn_store (T : TypeId) (p x : Operand) (j b off : Nat) (C : Array Value) (T' : TypeId) (n : Nat) (vs : List Value) (C' : Array Value) (l' : List (Nat × Array Value × TypeId)) (hni : (noInt C || ns.isEmpty) = true) (hg : o.guard = none) (ho : o.op = .store T p x) (hp : a.eval p = .pointer (some ⟨b, off, none⟩)) (hx : (a.eval x).cells.toList = vs) (hn : ∀ W, (sizeOf T).run P W = .ok n W) (h : En w W l ns) (hj : l[j]? = some (b, C, T')) (hv : vs.length = n) (hs : off + n ≤ C.size) (hb : vs.all (·.oneCell') = true) (hC : putC C off vs = C') (hl : l.set j (b, C', T') = l')
  (k : ∀ W', En w W' l' ns → Stop (wpList P ops Q rest (a.put o.dst undef) W')) : wpList P ops Q (o :: rest) a W :=
 wpList_plain hg fun K hK => wp_store T p x ho j b off C T' n vs h.es hj hp hx hn hv hs hb (fun W' e hk hz => hK _ _ (k W' ⟨(by rw [hC, hl] at e; exact e), fun q hq => by
  rw [Bool.or_eq_true] at hni
  rcases hni with hni | hni
  ·
   exact NR.keep (h.num q hq) (h.es.at' _ (List.mem_of_getElem? hj)) hni hk hz
  ·
   cases ns with
   | nil => cases hq
   | cons _ _ => cases hni⟩))
end
/-- What an operation of a region gives: a value; a number; a number beside something; two numbers, of which the first is known, beside something. -/
inductive VN' where
 | eq (v : Value)
 | num (z : Int)
 | num1 (z : Int) (v : Value)
 | num2 (z : Int) (v : Value)
 | any
def NR.w (p : NR) : Value := .agg #[.bool p.b, .slice p.a p.n p.c]
def vnP : VN' → Value → World → Prop
 | .eq c, v, _ => v = c
 | .num z, v, W => ∃ p : NR, p.z = z ∧ v = .agg #[.bool p.b, .slice p.a p.n p.c] ∧ p.is W
 | .num1 z c, v, W => ∃ p : NR, p.z = z ∧ v = .tuple #[.agg #[.bool p.b, .slice p.a p.n p.c], c] ∧ p.is W
 | .num2 z c, v, W => ∃ p r : NR, p.z = z ∧ v = .tuple #[.agg #[.bool p.b, .slice p.a p.n p.c], .agg #[.bool r.b, .slice r.a r.n r.c], c] ∧ p.is W ∧ r.is W
 | .any, _, _ => True
def vnL (ks : List VN') (j : Nat) : Value → World → Prop := vnP (ks.getD j .any)
theorem vn_mono {k : VN'} {v : Value} {W W' : World} (h : vnP k v W) (hm : ∀ p : NR, p.is W → p.is W') : vnP k v W' := by
 cases k with
 | eq c => exact h
 | num z => obtain ⟨p, e, h1, h2⟩ := h; exact ⟨p, e, h1, hm p h2⟩
 | num1 z c => obtain ⟨p, e, h1, h2⟩ := h; exact ⟨p, e, h1, hm p h2⟩
 | num2 z c => obtain ⟨p, r, e, h1, h2, h3⟩ := h; exact ⟨p, r, e, h1, hm p h2, hm r h3⟩
 | any => trivial
theorem vnL_later {n : Nat} {ks : List VN'} {u : Nat → Value} {W W' : World} (hb : Below W.heap.size W W') : ∀ j, j < n → vnL ks j (u j) W → vnL ks j (u j) W' := fun _ _ h => vn_mono h fun _ hp => NR.below hp hb
theorem vnL_same {n : Nat} {ks : List VN'} {u : Nat → Value} {W : World} : ∀ j, j < n → vnL ks j (u j) W → vnL ks j (u j) W := fun _ _ h => h
/-- The invariant of a region: as Jz, with numbers; what was stored is told by its operation's value. -/
structure Jn (w : World) (m : Nat) (l : List (Nat × Array Value × TypeId)) (ns : List NR) (al : List (Nat × Nat × TypeId)) (sts : List (Nat × Nat × Nat × TypeId)) (L : Nat → Bool) (u : Nat → Value) (W : World) : Prop where
 em : Em w m l W
 num : ∀ p, p ∈ ns → p.is W
 bx : ∀ a, a ∈ al → L a.1 = true → ∃ (b : Nat) (C : Array Value), u a.1 = .pointer (some ⟨b, 0, none⟩) ∧ m ≤ b ∧ C.size = a.2.1 ∧ noInt C = true ∧ Cl W (b, C, a.2.2)
 ne : ∀ a a', a ∈ al → a' ∈ al → a.1 ≠ a'.1 → L a.1 = true → L a'.1 = true → u a.1 ≠ u a'.1
 st : ∀ s, s ∈ sts → L s.1 = true → L s.2.1 = true ∧ L s.2.2.1 = true ∧ ∃ b : Nat, u s.2.1 = .pointer (some ⟨b, 0, none⟩) ∧ Cl W (b, (u s.2.2.1).cells, s.2.2.2)
section
variable {w W : World} {m : Nat} {l : List (Nat × Array Value × TypeId)} {ns : List NR} {al : List (Nat × Nat × TypeId)} {sts : List (Nat × Nat × Nat × TypeId)} {L : Nat → Bool} {u : Nat → Value}
theorem Jn.start (h : En w W l ns) (u : Nat → Value) : Jn w W.heap.size l ns al sts (fun _ => false) u W.drew := ⟨h.es.em, fun p hp => NR.below (h.num p hp) (Below.refl _ _).drew, nofun, nofun, nofun⟩
theorem Jn.grow {W' : World} {i : Nat} {v : Value} (h : Jn w m l ns al sts L u W) (hLi : L i = false) (ha : ∀ a, a ∈ al → a.1 ≠ i) (hs : ∀ s, s ∈ sts → s.1 ≠ i) (hb : Below W.heap.size W W') : Jn w m l ns al sts (upd L i) (updV u i v) W' := by
 refine ⟨h.em.later hb, fun p hp => NR.below (h.num p hp) hb, fun a ha' hL => ?_, fun a a' h1 h2 hne hL1 hL2 => ?_, fun s hs' hL => ?_⟩
 ·
  rw [upd_ne (ha a ha')] at hL
  obtain ⟨b, C, e1, e2, e3, e5, e4⟩ := h.bx a ha' hL
  exact ⟨b, C, by rw [updV_ne (ha a ha')]; exact e1, e2, e3, e5, e4.below hb⟩
 ·
  rw [upd_ne (ha a h1)] at hL1
  rw [upd_ne (ha a' h2)] at hL2
  rw [updV_ne (ha a h1), updV_ne (ha a' h2)]
  exact h.ne a a' h1 h2 hne hL1 hL2
 ·
  rw [upd_ne (hs s hs')] at hL
  obtain ⟨k1, k2, b, e1, e2⟩ := h.st s hs' hL
  exact ⟨upd_mono k1, upd_mono k2, b, by rw [updV_ne (ne_of hLi k1)]; exact e1, by rw [updV_ne (ne_of hLi k2)]; exact e2.below hb⟩
theorem Jn.alloc {i n : Nat} {C : Array Value} {T : TypeId} (h : Jn w m l ns al sts L u W) (hLi : L i = false) (hn : C.size = n) (hno : noInt C = true) (hin : ∀ a, a ∈ al → a.1 = i → a = (i, n, T)) (hs : ∀ s, s ∈ sts → s.1 ≠ i) : Jn w m l ns al sts (upd L i) (updV u i (.pointer (some ⟨W.heap.size, 0, none⟩))) (W.alloc (.cells C T)) := by
 have hb : Below W.heap.size W (W.alloc (.cells C T)) := (Below.refl _ _).alloc (Nat.le_refl _) _
 have old : ∀ a, a ∈ al → a.1 ≠ i → upd L i a.1 = true → updV u i (.pointer (some ⟨W.heap.size, 0, none⟩)) a.1 ≠ .pointer (some ⟨W.heap.size, 0, none⟩) := by
  intro a ha e hL hc
  rw [upd_ne e] at hL
  obtain ⟨b, C', e1, _, _, _, e4⟩ := h.bx a ha hL
  rw [updV_ne e, e1] at hc
  have := (Array.getElem?_eq_some_iff.1 e4).1
  injection hc with hc
  injection hc with hc
  injection hc with hc
  change b < W.heap.size at this
  omega
 refine ⟨h.em.later hb, fun p hp => NR.below (h.num p hp) hb, fun a ha' hL => ?_, fun a a' h1 h2 hne hL1 hL2 => ?_, fun s hs' hL => ?_⟩
 ·
  by_cases e : a.1 = i
  ·
   rw [hin a ha' e]
   exact ⟨W.heap.size, C, by simp [updV], h.em.le, hn, hno, heap_new W _⟩
  ·
   rw [upd_ne e] at hL
   obtain ⟨b, C', e1, e2, e3, e5, e4⟩ := h.bx a ha' hL
   exact ⟨b, C', by rw [updV_ne e]; exact e1, e2, e3, e5, e4.below hb⟩
 ·
  by_cases e : a.1 = i
  ·
   have e' : a'.1 ≠ i := fun x => hne (e.trans x.symm)
   intro hc
   refine old a' h2 e' hL2 ?_
   rw [← hc, e]
   simp [updV]
  ·
   by_cases e' : a'.1 = i
   ·
    intro hc
    refine old a h1 e hL1 ?_
    rw [hc, e']
    simp [updV]
   ·
    rw [upd_ne e] at hL1
    rw [upd_ne e'] at hL2
    rw [updV_ne e, updV_ne e']
    exact h.ne a a' h1 h2 hne hL1 hL2
 ·
  rw [upd_ne (hs s hs')] at hL
  obtain ⟨k1, k2, b, e1, e2⟩ := h.st s hs' hL
  exact ⟨upd_mono k1, upd_mono k2, b, by rw [updV_ne (ne_of hLi k1)]; exact e1, by rw [updV_ne (ne_of hLi k2)]; exact e2.below hb⟩
theorem Jn.store {W' : World} {i a x b n : Nat} {T : TypeId} {Co Cn : Array Value} {v : Value} (h : Jn w m l ns al sts L u W) (hLi : L i = false) (ha : ∀ a, a ∈ al → a.1 ≠ i) (hin : (a, n, T) ∈ al) (hun : ∀ x, x ∈ al → x.1 = a → x = (a, n, T)) (hua : ∀ s, s ∈ sts → s.1 = i → s = (i, a, x, T)) (hal : ∀ s, s ∈ sts → ∃ x, x ∈ al ∧ x.1 = s.2.1) (hus : ∀ s, s ∈ sts → s.1 ≠ i → s.2.1 ≠ a) (hLa : L a = true) (hLx : L x = true)
  (eu : u a = .pointer (some ⟨b, 0, none⟩)) (hm : m ≤ b) (hn : Cn.size = n) (hno : noInt Cn = true) (hx : (u x).cells = Cn) (ho : Cl W (b, Co, T)) (hoi : noInt Co = true) (hE : Es w W' ((b, Cn, T) :: l)) (hk : ∀ k, k ≠ b → W'.heap[k]? = W.heap[k]?) (hz : W'.heap.size = W.heap.size) : Jn w m l ns al sts (upd L i) (updV u i v) W' := by
 have hCl : Cl W' (b, Cn, T) := hE.at' _ (List.mem_cons_self ..)
 refine ⟨⟨hE.sub (List.sublist_cons_self _ _), by rw [hz]; exact h.em.le, h.em.lt, h.em.ge⟩, fun p hp => NR.keep (h.num p hp) ho hoi hk hz, fun a1 ha' hL => ?_, fun a1 a2 h1 h2 hne hL1 hL2 => ?_, fun s hs' hL => ?_⟩
 ·
  rw [upd_ne (ha a1 ha')] at hL
  obtain ⟨b1, C1, e1, e2, e3, e5, e4⟩ := h.bx a1 ha' hL
  by_cases hb : b1 = b
  ·
   subst hb
   have : a1.1 = a := by
    refine Classical.byContradiction fun hc => h.ne a1 (a, n, T) ha' hin hc hL hLa ?_
    rw [e1, eu]
   rw [hun a1 ha' this]
   exact ⟨b1, Cn, by rw [updV_ne (ne_of hLi hLa)]; exact eu, hm, hn, hno, hCl⟩
  ·
   exact ⟨b1, C1, by rw [updV_ne (ha a1 ha')]; exact e1, e2, e3, e5, e4.keep hb hk⟩
 ·
  rw [upd_ne (ha a1 h1)] at hL1
  rw [upd_ne (ha a2 h2)] at hL2
  rw [updV_ne (ha a1 h1), updV_ne (ha a2 h2)]
  exact h.ne a1 a2 h1 h2 hne hL1 hL2
 ·
  by_cases hs : s.1 = i
  ·
   rw [hua s hs' hs]
   exact ⟨upd_mono hLa, upd_mono hLx, b, by rw [updV_ne (ne_of hLi hLa)]; exact eu, by rw [updV_ne (ne_of hLi hLx), hx]; exact hCl⟩
  ·
   rw [upd_ne hs] at hL
   obtain ⟨k1, k2, b1, e1, e2⟩ := h.st s hs' hL
   have hb : b1 ≠ b := by
    intro hc
    obtain ⟨y, hy, ey⟩ := hal s hs'
    refine h.ne y (a, n, T) hy hin (by rw [ey]; exact hus s hs' hs) (by rw [ey]; exact k1) hLa ?_
    rw [ey, e1, eu, hc]
   exact ⟨upd_mono k1, upd_mono k2, b1, by rw [updV_ne (ne_of hLi k1)]; exact e1, by rw [updV_ne (ne_of hLi k2)]; exact e2.keep hb hk⟩
theorem vnL_store {n b : Nat} {ks : List VN'} {u : Nat → Value} {W W' : World} {C : Array Value} {T : TypeId} (hc : Cl W (b, C, T)) (hn : noInt C = true) (hk : ∀ k, k ≠ b → W'.heap[k]? = W.heap[k]?) (hz : W'.heap.size = W.heap.size) : ∀ j, j < n → vnL ks j (u j) W → vnL ks j (u j) W' := fun _ _ h => vn_mono h fun _ hp => NR.keep hp hc hn hk hz
end
/-- A number, and something beside it, are handed back. -/
def PN1 (z : Int) (v : Value) (w : World) (e : Ending) (w' : World) : Prop := ∃ p : NR, p.z = z ∧ e = .returned (.tuple #[.agg #[.bool p.b, .slice p.a p.n p.c], v]) ∧ p.is w' ∧ Below w.heap.size w w'
end Go.Proofs.Ytpahkpcoinbgcaa

/- Zero values and sizes of the program's types. No statement of the seat is proved here. -/
namespace Go.Proofs.Ytpahkpcoinbgcaa
open Go Go.RowKit
theorem zv25 (W : World) : (zeroValue 25).run Try.prog W = .ok (.agg #[.int .i64 0, .int .i64 0, .bool false]) W := by kernel_rfl
theorem sz25 (W : World) : (sizeOf 25).run Try.prog W = .ok 3 W := by kernel_rfl
end Go.Proofs.Ytpahkpcoinbgcaa

/- The document's square root, digit by digit: what a digit does (no walk). S is the root: S * S ≤ N < (S + 1) * (S + 1). -/
namespace Go.Proofs.Ytpahkpcoinbgcaa
open Go.RowKit
/-- What stands in the row: the root's digits above i, and j at i. -/
def rootV (S i j : Nat) : Nat := (S / 10 ^ (i + 1) * 10 + j) * 10 ^ i
theorem root_le {S N V : Nat} (h : N < (S + 1) * (S + 1)) (hV : V * V ≤ N) : V ≤ S := by
 refine Nat.le_of_not_lt fun hc => ?_
 have := Nat.mul_le_mul (show S + 1 ≤ V from hc) (show S + 1 ≤ V from hc)
 omega
theorem root_ge {S N V : Nat} (h : S * S ≤ N) (hV : V ≤ S) : V * V ≤ N := Nat.le_trans (Nat.mul_le_mul hV hV) h
theorem rootV_le_iff (S i j : Nat) : rootV S i j ≤ S ↔ j ≤ dig S i := by
 have hu := part_up S i
 unfold rootV
 rw [← Nat.le_div_iff_mul_le (p10 i), hu]
 omega
/-- The square of what stands in the row fits if the digit is not above the root's. -/
theorem root_fits {S N i j : Nat} (h1 : S * S ≤ N) (h2 : N < (S + 1) * (S + 1)) : rootV S i j * rootV S i j ≤ N ↔ j ≤ dig S i :=
 ⟨fun h => (rootV_le_iff S i j).1 (root_le h2 h), fun h => root_ge h1 ((rootV_le_iff S i j).2 h)⟩
theorem rootV_dig {S i j : Nat} (hj : j < 10) : ∀ p, partJ S i j p = dig (rootV S i j) p := by
 intro p
 unfold partJ partQ rootV dig
 by_cases hp : p < i
 ·
  rw [if_neg (by omega), if_pos (by omega)]
  obtain ⟨d, rfl⟩ : ∃ d, i = p + 1 + d := ⟨i - (p + 1), by omega⟩
  generalize S / 10 ^ (p + 1 + d + 1) * 10 + j = M
  have e : M * 10 ^ (p + 1 + d) = 10 ^ p * (10 * (10 ^ d * M)) := by
   rw [Nat.pow_add, Nat.pow_succ]
   simp only [Nat.mul_comm, Nat.mul_left_comm, Nat.mul_assoc]
  rw [e, Nat.mul_div_cancel_left _ (p10 p), Nat.mul_mod_right]
 ·
  obtain ⟨d, rfl⟩ : ∃ d, p = i + d := ⟨p - i, by omega⟩
  rw [Nat.pow_add, ← Nat.div_div_eq_div_mul (m := _ * 10 ^ i), Nat.mul_div_cancel _ (p10 i)]
  cases d with
  | zero => rw [if_pos (by omega), Nat.pow_zero, Nat.div_one]; omega
  | succ d =>
   rw [if_neg (by omega), if_neg (by omega), Nat.pow_succ 10 d, Nat.mul_comm (10 ^ d) 10, ← Nat.div_div_eq_div_mul (m := S / 10 ^ (i + 1) * 10 + j), show (S / 10 ^ (i + 1) * 10 + j) / 10 = S / 10 ^ (i + 1) by omega]
   rw [Nat.div_div_eq_div_mul, ← Nat.pow_add, ← Nat.mul_assoc, ← Nat.pow_succ, ← Nat.pow_add]
/-- The row is long enough. -/
theorem root_len {S N n : Nat} (h1 : S * S ≤ N) (hN : N < 10 ^ n) : S < 10 ^ (n / 2 + 1) := by
 refine Nat.lt_of_not_le fun hc => ?_
 have h2 := Nat.mul_le_mul hc hc
 rw [← Nat.pow_add] at h2
 have h3 : 10 ^ n ≤ 10 ^ (n / 2 + 1 + (n / 2 + 1)) := Nat.pow_le_pow_right (by decide) (by omega)
 omega
theorem rootV_lt {S i j m : Nat} (hS : S < 10 ^ m) (hi : i < m) (hj : j < 10) : rootV S i j < 10 ^ m := by
 obtain ⟨d, rfl⟩ : ∃ d, m = i + 1 + d := ⟨m - (i + 1), by omega⟩
 have h1 : S / 10 ^ (i + 1) < 10 ^ d := Nat.div_lt_of_lt_mul (by rw [← Nat.pow_add]; exact hS)
 unfold rootV
 generalize S / 10 ^ (i + 1) = K at *
 rw [show i + 1 + d = (d + 1) + i by omega, Nat.pow_add 10 (d + 1) i, Nat.pow_succ 10 d]
 exact Nat.mul_lt_mul_of_pos_right (by omega) (p10 i)
end Go.Proofs.Ytpahkpcoinbgcaa

/- The document's numbers: the walk of Root (as part Rroot, over the roots of part Sm). -/
namespace Go.Proofs.Ytpahkpcoinbgcaa
open Go.RowKit
/-- A number of the document's is handed back, and an error's number. -/
def PRR (z er : Int) (w : World) (e : Ending) (w' : World) : Prop :=
 ∃ (b1 : Bool) (a1 : Option Addr) (n1 c1 : Nat), e = .returned (.tuple #[.agg #[.bool b1, .slice a1 n1 c1], .int .i64 er]) ∧ RNum w' b1 a1 n1 c1 z ∧ Below w.heap.size w w'
/-- What Root is given, and the place of its result. -/
structure RRB (w W : World) (bl : Bool) (a : Option Addr) (n c : Nat) : Prop where
 below : Below w.heap.size w W
 X : Bx W 71 w.heap.size (.bool bl) (.slice a n c)
 A : Bx W 71 (w.heap.size + 1) (.bool false) (.slice none 0 0)
theorem RRB.later {w W W' : World} {bl : Bool} {a : Option Addr} {n c : Nat} (h : RRB w W bl a n c) (hb : Below W.heap.size W W') : RRB w W' bl a n c := ⟨h.below.trans (hb.mono h.below.size), h.X.below hb, h.A.below hb⟩
theorem rrb_mk (w : World) (bl : Bool) (a : Option Addr) (n c : Nat) : RRB w ((w.alloc (.cells #[.bool bl, .slice a n c] 71)).alloc (.cells #[.bool false, .slice none 0 0] 71)) bl a n c := by
 have hal : ∀ (W : World) (o : Obj), Below W.heap.size W (W.alloc o) := fun W o => (Below.refl _ _).alloc (Nat.le_refl _) _
 have s1 : (w.alloc (.cells #[.bool bl, .slice a n c] 71)).heap.size = w.heap.size + 1 := by simp
 refine ⟨((Below.refl w.heap.size w).alloc (Nat.le_refl _) _).alloc (by simp) _, (bx_new w _ _ _).below (hal _ _), ?_⟩
 have h := bx_new (w.alloc (.cells #[.bool bl, .slice a n c] 71)) 71 (.bool false) (.slice none 0 0)
 rwa [s1] at h
theorem cmp_le {A B : Nat} (h : A ≤ B) : decide (cmpI (A : Int) (B : Int) ≤ 0) = true := by
 refine decide_eq_true ?_
 unfold cmpI
 split
 ·
  decide
 ·
  rw [if_neg (by omega)]; decide
theorem cmp_gt {A B : Nat} (h : B < A) : decide (cmpI (A : Int) (B : Int) ≤ 0) = false := by
 refine decide_eq_false ?_
 unfold cmpI
 rw [if_neg (by omega), if_pos (by omega)]
 decide
attribute [local go_sem] run_fieldD
set_option maxRecDepth 100000 in
set_option maxHeartbeats 3200000 in
theorem rRoot_pos (a : Option Addr) (n c N : Nat) (w : World) (h : RNum w false a n c ((N : Nat) : Int)) (hn : n ≤ 1000000) :
  Calls Try.prog 88 #[.agg #[.bool false, .slice a n c]] w (PRR ((isq N : Nat) : Int) 0 w) := by
 obtain ⟨i0, hi0, hz0, hzz1, hzz2⟩ := info_parts Try.rinfo3
 have HI := Lib.hid (And.intro hi0 (And.intro hz0 (And.intro hzz1 hzz2)))
 clear hi0 hz0 hzz1 hzz2
 obtain ⟨s1, s2⟩ := isq_spec N
 generalize isq N = S at *
 have hfit := h.fit.1
 rw [Int.natAbs_natCast] at hfit
 have HSL : Hid (S < 10 ^ (n / 2 + 1)) := root_len s1 hfit
 have HS1 := Lib.hid s1
 have HS2 := Lib.hid s2
 have H := Lib.hid h
 clear h s1 s2 hfit
 have hn4 : 8 * (n / 2 + 1) ≤ 281474976710656 := by omega
 have hn6 : n / 2 + 1 ≤ 9223372036854775807 := by omega
 have hX1 := rrb_mk w false a n c
 go_enter Try.func88, Try.ntmps88
 go_wp2_with (first | (at_make; refine wpList_mk _ rfl (.tmp 15) (.tmp 15) 69 rfl 3 .i64 8 Try.ru69 Try.rinfo3 _ _ (n / 2 + 1) rfl rfl (by omega) (by omega) hn4 hn6 ?_; intro g w2 hg hown hb2))
 generalize (w.alloc (.cells #[.bool false, .slice a n c] 71)).alloc (.cells #[.bool false, .slice none 0 0] 71) = w1 at hX1 hg hb2
 obtain ⟨m, hm⟩ : ∃ m, n / 2 + 1 = m := ⟨_, rfl⟩
 rw [hm] at hown hn4 hn6 HSL ⊢
 have hmn : m ≤ 1000000 := by omega
 have HM := Lib.hid hm
 clear hm
 go_loopw [5] (fun iv wr => ∃ k : Nat, k ≤ m ∧ iv = .int .i64 ((k : Int) - 1) ∧ Own .i64 3 wr g m (partQ S k) ∧ Below w1.heap.size w1 wr) (fun iv _ => (intOf iv + 1).toNat)
 case atStart => exact ⟨m, Nat.le_refl _, (by have := HM.out; show Value.int .i64 ((n : Int) / 2) = .int .i64 ((m : Int) - 1); congr 1; omega), hown.congr (fun p hp => (partQ_start _ _ p hp).symm), hb2⟩
 case round =>
  clear hown hb2
  obtain ⟨k, hk, rfl, hown, hbl⟩ := hrel
  have hXr := hX1.later hbl
  cases k with
  | zero =>
   have HO : Hid (Own .i64 3 wr g m (dig S)) := hown.congr (partQ_end _ m)
   clear hown
   go_wp2_with fail
   refine (rmade_any false _ m m S _ (HO.out.lie (Nat.le_refl _) (by unfold maxLen; omega)) HSL.out).mono ?_
   rintro e w3 ⟨bl3, n3, c3, rfl, hnum, hb3⟩
   have hX3 := hXr.later hb3
   obtain ⟨q0, q1, q2, q3⟩ := hX3.A.cells
   have hst := hnum.store hX3.A (.bool bl3) (.slice (some ⟨g, 0, none⟩) n3 c3)
   have hbs : Below w.heap.size w ((w3.setCell ⟨w.heap.size + 1, 0, none⟩ (.bool bl3)).setCell ⟨w.heap.size + 1, 1, none⟩ (.slice (some ⟨g, 0, none⟩) n3 c3)) := (hX3.below.setCell (p := ⟨w.heap.size + 1, 0, none⟩) (Nat.le_succ _) _).setCell (p := ⟨w.heap.size + 1, 1, none⟩) (Nat.le_succ _) _
   clear hnum hXr hX1
   go_wp2
   refine bodyPost_ret (v := .tuple #[.agg #[.bool bl3, .slice (some ⟨g, 0, none⟩) n3 c3], .int .i64 0]) (by simp [results, Try.results88, go_sem, q0, q1]) rfl ?_
   exact ⟨bl3, _, n3, c3, rfl, hst, hbs⟩
  | succ k =>
   rw [show (((k + 1 : Nat) : Int) - 1) = (k : Int) by omega]
   have hdl := dig_lt S k
   go_wp2
   go_loopw [6] (fun fv wr => ∃ (j : Nat) (ft : Bool), fv = .bool ft ∧ j ≤ dig S k ∧ (ft = false → j = dig S k) ∧ Own .i64 3 wr g m (partJ S k j) ∧ Below w1.heap.size w1 wr) (fun fv wr => 2 * partM g k wr + (match fv with | .bool true => 1 | _ => 0))
   case atStart => exact ⟨0, true, rfl, Nat.zero_le _, nofun, hown.congr (partJ_start _ k m), hbl⟩
   case round =>
    clear hown hbl hXr
    obtain ⟨j, ft, rfl, hj, hjf, hown, hbl⟩ := hrel
    have HJF := Lib.hid hjf
    clear hjf
    have c4 : wr.cell? ⟨g, k, none⟩ = some (.int .i64 ((j : Nat) : Int)) := by rw [hown.cell k (by omega), partJ_at]
    have c5 := hown.free k
    by_cases hend : ft = false ∨ 9 ≤ j
    ·
     have hje : j = dig S k := by
      rcases hend with h | h
      ·
       exact HJF.out h
      ·
       omega
     have HO : Hid (Own .i64 3 wr g m (partQ S k)) := by
      rw [hje] at hown
      exact hown.congr (partJ_end _ k m)
     clear hown
     rcases hend with rfl | h9
     ·
      by_cases h9 : j < 9
      ·
       have d9 : decide (((j : Nat) : Int) < 9) = true := decide_eq_true (by omega)
       go_wp2
       go_roundw
       case rel => exact ⟨k, by omega, by go_num, HO.out, hbl⟩
       case measure => simp [intOf]
      ·
       have d9 : decide (((j : Nat) : Int) < 9) = false := decide_eq_false (by omega)
       go_wp2
       go_roundw
       case rel => exact ⟨k, by omega, by go_num, HO.out, hbl⟩
       case measure => simp [intOf]
     ·
      have d9 : decide (((j : Nat) : Int) < 9) = false := decide_eq_false (by omega)
      cases ft
      all_goals
       go_wp2
       go_roundw
       case rel => exact ⟨k, by omega, by go_num, HO.out, hbl⟩
       case measure => simp [intOf]
    ·
     have hft : ft = true := by cases ft <;> simp_all
     subst hft
     have h9 : j < 9 := by omega
     have d9 : decide (((j : Nat) : Int) < 9) = true := decide_eq_true (by omega)
     clear hend HJF
     have ho8 := hown.put (i := k) (x := (j : Int) + 1) (F := partJ S k (j + 1)) (by omega) (by rw [partJ_at]; rfl) (partJ_more _ k j (j + 1) m)
     have hb8 := hbl.setCell (p := ⟨g, k, none⟩) hg (.int .i64 ((j : Int) + 1))
     have hm0 := Lib.hid (partM_own hown (show k < m by omega))
     clear hown hbl
     go_wp2_with (first
      | (at_builtin; refine wpList_append_lie rfl _ _ 69 rfl wr.heap.size 3 i0 (.int .i64 0) 8 Try.ru69 HI.out.1 HI.out.2.1 HI.out.2.2.1 HI.out.2.2.2 rfl _ 0 [] rfl ?pc1 (some ⟨g, 0, none⟩) m m (partJ S k (j + 1)) rfl ?pc2 ?pc3 ?pc4 ?pc5 ?_)
      | fail)
     case pc1 =>
      have h0 := World.ownsRow_lit (base := wr.heap.size) (e := 3) (size := 1) (wr.setCell ⟨g, k, none⟩ (.int .i64 ((j : Int) + 1))) #[] 0 (by simp) (by unfold maxLen; omega) rfl
      rw [show (wr.setCell ⟨g, k, none⟩ (.int .i64 ((j : Int) + 1))).heap.size = wr.heap.size from by simp] at h0
      exact h0
     case pc2 => exact (ho8.lie (Nat.le_refl _) (by unfold maxLen; omega)).below ((Below.refl _ _).alloc (Nat.le_refl _) _)
     case pc3 => unfold maxLen; omega
     case pc4 => omega
     case pc5 => simp
     intro v' w3 hown' hgrow
     have hba : Below (wr.setCell ⟨g, k, none⟩ (.int .i64 ((j : Int) + 1))).heap.size (wr.setCell ⟨g, k, none⟩ (.int .i64 ((j : Int) + 1))) w3 := ((Below.refl _ _).alloc (Nat.le_refl _) _).grown hgrow (by simp) (fun q hq => by cases hq; simp)
     obtain ⟨a4, q4, rfl, hl4, hfr4⟩ := owned_fresh hown'
     have hl5 := hl4.congr (fun p _ => rootV_dig (S := S) (i := k) (j := j + 1) (by omega) p)
     have HV : Hid (rootV S k (j + 1) < 10 ^ m) := rootV_lt HSL.out (by omega) (by omega)
     have HF := Lib.hid (root_fits (i := k) (j := j + 1) HS1.out HS2.out)
     have ho3 := ho8.below hba
     have hb3 := hb8.trans (hba.mono hb8.size)
     have hsz : (wr.setCell ⟨g, k, none⟩ (.int .i64 ((j : Int) + 1))).heap.size = wr.heap.size := by simp
     have HSZ := Lib.hid hsz
     have hgw : g < wr.heap.size := by have := ho8.lt; rw [hsz] at this; exact this
     clear hown' hgrow hl4 hb8 hba hsz c4 c5
     generalize rootV S k (j + 1) = V at *
     go_wp2_with fail
     refine (rmade_any false a4 m q4 V _ hl5 HV.out).mono ?_
     rintro e w4 ⟨bl4, n4, c4, rfl, hnum, hb4⟩
     have ho4 := ho3.below hb4
     have hb4' := hb3.trans (hb4.mono hb3.size)
     have hal : Below w4.heap.size w4 (w4.alloc (.cells #[.bool bl4, .slice a4 n4 c4] 71)) := (Below.refl _ _).alloc (Nat.le_refl _) _
     have ho6 := ho4.below hal
     have hb6 := hb4'.trans (hal.mono hb4'.size)
     have hn6' := hnum.below hal
     have hR6 := bx_new w4 71 (.bool bl4) (.slice a4 n4 c4)
     have hsg : sg false V = ((V : Nat) : Int) := rfl
     rw [hsg] at hn6'
     have hn4' : n4 ≤ m := by
      have := hn6'.fit
      rw [Int.natAbs_natCast] at this
      exact fit10_le this HV.out
     clear hl5 hnum hb4 ho4 hb4' hal ho3 hb3 hfr4 hsg
     go_wp2
     generalize w4.alloc (.cells #[.bool bl4, .slice a4 n4 c4] 71) = w6 at *
     generalize w4.heap.size = gr at *
     have hX6 := hX1.later hb6
     have hNx6 := H.out.below hX6.below
     have hs6 : w6.cell? ⟨gr, 0, none⟩ = some (.bool bl4) ∧ w6.cell? ⟨gr, 1, none⟩ = some (.slice a4 n4 c4) ∧ w6.cell? ⟨w.heap.size, 0, none⟩ = some (.bool false) ∧ w6.cell? ⟨w.heap.size, 1, none⟩ = some (.slice a n c) := ⟨hR6.cells.1, hR6.cells.2.1, hX6.X.cells.1, hX6.X.cells.2.1⟩
     go_region_held3 (fun w' => w'.cell? ⟨gr, 0, none⟩ = some (.bool bl4) ∧ w'.cell? ⟨gr, 1, none⟩ = some (.slice a4 n4 c4) ∧ w'.cell? ⟨w.heap.size, 0, none⟩ = some (.bool false) ∧ w'.cell? ⟨w.heap.size, 1, none⟩ = some (.slice a n c))
      (first | exact hs6 | exact hs7 | exact hs8)
      (first
       | (go_at_call 86; refine (rMul_any bl4 a4 n4 c4 (V : Int) bl4 a4 n4 c4 (V : Int) _ (hn6'.below ((Below.refl _ _).drew)) (hn6'.below ((Below.refl _ _).drew)) (by omega) (by omega)).mono ?_; rintro e w7 ⟨bl7, a7, n7, c7, rfl, hN7, _, hb7⟩; have hb7' := below_undrew hb7; have hs7 : w7.cell? ⟨gr, 0, none⟩ = some (.bool bl4) ∧ w7.cell? ⟨gr, 1, none⟩ = some (.slice a4 n4 c4) ∧ w7.cell? ⟨w.heap.size, 0, none⟩ = some (.bool false) ∧ w7.cell? ⟨w.heap.size, 1, none⟩ = some (.slice a n c) := ⟨(hR6.below hb7').cells.1, (hR6.below hb7').cells.2.1, (hX6.later hb7').X.cells.1, (hX6.later hb7').X.cells.2.1⟩)
       | (go_at_call 87; refine (rCmp_any bl7 a7 n7 c7 ((V : Int) * (V : Int)) false a n c ((N : Nat) : Int) _ hN7 (hNx6.below hb7')).mono ?_; rintro e w8 ⟨rfl, hb8⟩; have hb8' := hb7'.trans (hb8.mono hb7'.size); have hs8 : w8.cell? ⟨gr, 0, none⟩ = some (.bool bl4) ∧ w8.cell? ⟨gr, 1, none⟩ = some (.slice a4 n4 c4) ∧ w8.cell? ⟨w.heap.size, 0, none⟩ = some (.bool false) ∧ w8.cell? ⟨w.heap.size, 1, none⟩ = some (.slice a n c) := ⟨(hR6.below hb8').cells.1, (hR6.below hb8').cells.2.1, (hX6.later hb8').X.cells.1, (hX6.later hb8').X.cells.2.1⟩))
     have ho8' := ho6.below hb8'
     have hb9 := hb6.trans (hb8'.mono hb6.size)
     clear hs6 hs7 hs8 hR6 hn6' hX6 hNx6 hN7 hb7 hb8 ho6 hb6 hb7' hb8'
     by_cases hf : j + 1 ≤ dig S k
     ·
      have hle : V * V ≤ N := HF.out.2 hf
      have hdc := cmp_le hle
      rw [Int.natCast_mul] at hdc
      generalize cmpI ((V : Int) * (V : Int)) ((N : Nat) : Int) = cc at *
      clear hle
      go_wp2
      go_roundw
      case rel => exact ⟨j + 1, true, by rw [hdc], hf, nofun, ho8', hb9⟩
      case measure =>
       have e1 := partM_own ho8' (show k < m by omega)
       have e2 := hm0.out
       rw [partJ_at] at e1 e2
       rw [hdc, e1, e2]
       show 2 * (10 - (j + 1)) + 1 < 2 * (10 - j) + 1
       omega
     ·
      have hgt : N < V * V := Nat.lt_of_not_le fun h => hf (HF.out.1 h)
      have hdc := cmp_gt hgt
      rw [Int.natCast_mul] at hdc
      generalize cmpI ((V : Int) * (V : Int)) ((N : Nat) : Int) = cc at *
      clear hgt
      have c4 : w8.cell? ⟨g, k, none⟩ = some (.int .i64 (((j + 1 : Nat)) : Int)) := by rw [ho8'.cell k (by omega), partJ_at]
      have c5 := ho8'.free k
      rw [Int.natCast_add, Int.natCast_one] at c4
      go_wp2
      have hoA := ho8'.put (i := k) (x := (j : Int)) (F := partJ S k j) (by omega) (by rw [partJ_at]) (partJ_more _ k (j + 1) j m)
      go_roundw
      case rel => exact ⟨j, false, by rw [hdc], hj, fun _ => by omega, hoA, hb9.setCell (p := ⟨g, k, none⟩) hg _⟩
      case measure =>
       have e1 := partM_own hoA (show k < m by omega)
       have e2 := hm0.out
       rw [partJ_at] at e1 e2
       rw [hdc, e1, e2]
       show 2 * (10 - j) + 0 < 2 * (10 - j) + 1
       omega
end Go.Proofs.Ytpahkpcoinbgcaa

/- Spans: the walks of fixed, whole, Of, counted, Join. -/
namespace Go.Proofs.Ytpahkpcoinbgcaa
open Go.RowKit
attribute [local go_sem ↓] run_eqlS run_neqS
theorem eqS_same (a b : Int) (c : Bool) : eqS a b c a b c = true := by simp [eqS]
theorem eqS_iff {a b : Int} {c : Bool} {a' b' : Int} {c' : Bool} : eqS a b c a' b' c' = true ↔ a = a' ∧ b = b' ∧ c = c' := by
 unfold eqS
 simp only [Bool.and_eq_true, beq_iff_eq]
set_option maxHeartbeats 400000 in
theorem sfixed_any (n : Int) (w : World) : Calls Try.prog 102 #[.int .i64 n] w (PVal (.bool (!cutB n)) w) := by
 go_enter Try.func102, Try.ntmps102
 go_wp2_with fail
 refine (Clamp_any n _).mono ?_
 rintro e w1 ⟨rfl, hB⟩
 go_wp2
 go_ret
 exact ⟨rfl, hB⟩
set_option maxHeartbeats 400000 in
theorem whole_any (w : World) : Calls Try.prog 75 #[] w (PSp lineS w) := by
 go_enter Try.func75, Try.ntmps75
 go_wp2
 exact bodyPost_ret (v := .agg #[.int .i64 0, .int .i64 0, .bool true]) (by simp [results, Try.results75, go_sem]) rfl ⟨rfl, (bs1 w 0 0 true).below⟩
theorem ofS_fix {a b : Int} (h1 : cutB a = false) (h2 : cutB b = false) : ofS a b = ⟨min a b, max a b, false⟩ := by
 have k1 := cut_false h1
 have k2 := cut_false h2
 have b1 := cut_bd a
 have b2 := cut_bd b
 rw [k1] at b1
 rw [k2] at b2
 exact mkS_ok (ok_mk (by show _ ≤ min a b; omega) (by show min a b ≤ max a b; omega) (by show max a b ≤ _; omega) rfl)
theorem ofS_cut {a b : Int} (h : cutB a = true ∨ cutB b = true) : ofS a b = lineS := by
 refine mkS_no ?_
 cases hk : okB ⟨min a b, max a b, false⟩
 ·
  rfl
 ·
  obtain ⟨h1, _, h3, _⟩ := ok_of hk
  have h1 : -2147483647 ≤ min a b := h1
  have h3 : max a b ≤ 2147483647 := h3
  rw [(cut_in (n := a) (by omega) (by omega)).2, (cut_in (n := b) (by omega) (by omega)).2] at h
  rcases h with h | h <;> cases h
set_option maxHeartbeats 800000 in
theorem sOf_any (a b : Int) (w : World) : Calls Try.prog 67 #[.int .i64 a, .int .i64 b] w (PSp (ofS a b) w) := by
 cases h1 : cutB a
 ·
  cases h2 : cutB b
  ·
   rw [ofS_fix h1 h2]
   go_enter Try.func67, Try.ntmps67
   go_wp2_with fail
   refine (sfixed_any a _).mono ?_
   rintro e w1 ⟨rfl, hB1⟩
   rw [h1]
   go_wp2_with fail
   refine (sfixed_any b _).mono ?_
   rintro e w2 ⟨rfl, hB2⟩
   rw [h2]
   have hX := ((bs1 w 0 0 false).later hB1).later hB2
   obtain ⟨c0, c1, c2, f0, f1, f2⟩ := hX.c0
   clear hB1 hB2 h1 h2
   go_wp2
   have h := hX.put 0 (by simp) ⟨min a b, max a b, false⟩
   rw [Nat.add_zero] at h
   exact bodyPost_ret (v := .agg #[.int .i64 (min a b), .int .i64 (max a b), .bool false]) (by simp [results, Try.results67, go_sem, c0, c1, c2]) rfl ⟨rfl, h.below⟩
  ·
   rw [ofS_cut (.inr h2)]
   go_enter Try.func67, Try.ntmps67
   go_wp2_with fail
   refine (sfixed_any a _).mono ?_
   rintro e w1 ⟨rfl, hB1⟩
   rw [h1]
   go_wp2_with fail
   refine (sfixed_any b _).mono ?_
   rintro e w2 ⟨rfl, hB2⟩
   rw [h2]
   go_wp2_with fail
   refine (whole_any _).mono ?_
   rintro e w3 ⟨rfl, hB3⟩
   have hX := (((bs1 w 0 0 false).later hB1).later hB2).later hB3
   obtain ⟨c0, c1, c2, f0, f1, f2⟩ := hX.c0
   clear hB1 hB2 hB3 h1 h2
   go_wp2
   have h := hX.put 0 (by simp) lineS
   rw [Nat.add_zero] at h
   exact bodyPost_ret (v := .agg #[.int .i64 0, .int .i64 0, .bool true]) (by simp [results, Try.results67, go_sem, c0, c1, c2, lineS]) rfl ⟨rfl, h.below⟩
 ·
  rw [ofS_cut (.inl h1)]
  go_enter Try.func67, Try.ntmps67
  go_wp2_with fail
  refine (sfixed_any a _).mono ?_
  rintro e w1 ⟨rfl, hB1⟩
  rw [h1]
  go_wp2_with fail
  refine (whole_any _).mono ?_
  rintro e w3 ⟨rfl, hB3⟩
  have hX := ((bs1 w 0 0 false).later hB1).later hB3
  obtain ⟨c0, c1, c2, f0, f1, f2⟩ := hX.c0
  clear hB1 hB3 h1
  go_wp2
  have h := hX.put 0 (by simp) lineS
  rw [Nat.add_zero] at h
  exact bodyPost_ret (v := .agg #[.int .i64 0, .int .i64 0, .bool true]) (by simp [results, Try.results67, go_sem, c0, c1, c2, lineS]) rfl ⟨rfl, h.below⟩
set_option maxHeartbeats 800000 in
theorem counted_ok (a b : Int) (c : Bool) (w : World) (h : okB ⟨a, b, c⟩ = true) : Calls Try.prog 83 #[.agg #[.int .i64 a, .int .i64 b, .bool c]] w (PSp ⟨a, b, c⟩ w) := by
 obtain ⟨k1, k2, k3, k4⟩ := ok_of h
 have k2 : a ≤ b := k2
 cases k4
 have hE : ofS a b = ⟨a, b, false⟩ := (ofS_le k2).trans (mkS_ok h)
 have hq : eqS a b false a b false = true := eqS_same _ _ _
 have HH := Lib.hid h
 clear h
 go_enter Try.func83, Try.ntmps83
 go_wp2
 have hX := bs2 w a b false 0 0 false
 generalize (w.alloc (.cells #[.int .i64 a, .int .i64 b, .bool false] 23)).alloc (.cells #[.int .i64 0, .int .i64 0, .bool false] 23) = w1 at *
 refine wp_region_vals 7 [some 3, some 4, some 5, some 6, some 7, some 8, some 9] (lstV [.agg #[.int .i64 a, .int .i64 b, .bool false], .pointer (some ⟨w.heap.size, 0, none⟩), .int .i64 a, .pointer (some ⟨w.heap.size, 1, none⟩), .int .i64 b, .agg #[.int .i64 a, .int .i64 b, .bool false], .bool false]) (fun W => Bs w W [⟨a, b, false⟩, ⟨0, 0, false⟩]) (by kernel_rfl) (by kernel_rfl) (by decide) (hX.drew) ?_ ?_
 ·
  intro i hl hi u W hJ hd
  obtain rfl | rfl | rfl | rfl | rfl | rfl | rfl : i = 0 ∨ i = 1 ∨ i = 2 ∨ i = 3 ∨ i = 4 ∨ i = 5 ∨ i = 6 := by omega
  ·
   clear hd
   simp only [List.getElem_cons_succ, List.getElem_cons_zero]
   clear hl
   refine .inr ⟨rfl, fun K' hK => ?_⟩
   have HK := Lib.hid hK
   clear hK
   simp only [layS, Act.put, List.setIfInBounds_toArray, List.set_cons_succ, List.set_cons_zero, Nat.zero_add, Nat.reduceAdd]
   have c00 := hJ.c0.1
   have c01 := hJ.c0.2.1
   have c02 := hJ.c0.2.2.1
   have c03 := hJ.c0.2.2.2.1
   have c04 := hJ.c0.2.2.2.2.1
   have c05 := hJ.c0.2.2.2.2.2
   go_simp
   exact HK.out _ _ (by simp [layS, updV, lstV, Act.put]) hJ
  ·
   clear hd
   simp only [List.getElem_cons_succ, List.getElem_cons_zero]
   clear hl
   refine .inr ⟨rfl, fun K' hK => ?_⟩
   have HK := Lib.hid hK
   clear hK
   simp only [layS, Act.put, List.setIfInBounds_toArray, List.set_cons_succ, List.set_cons_zero, Nat.zero_add, Nat.reduceAdd]
   have c00 := hJ.c0.1
   have c01 := hJ.c0.2.1
   have c02 := hJ.c0.2.2.1
   have c03 := hJ.c0.2.2.2.1
   have c04 := hJ.c0.2.2.2.2.1
   have c05 := hJ.c0.2.2.2.2.2
   go_simp
   exact HK.out _ _ (by simp [layS, updV, lstV, Act.put]) hJ
  ·
   have e1 : u 1 = .pointer (some ⟨w.heap.size, 0, none⟩) := hd 1 (by kernel_rfl)
   clear hd
   simp only [List.getElem_cons_succ, List.getElem_cons_zero]
   clear hl
   refine .inr ⟨rfl, fun K' hK => ?_⟩
   have HK := Lib.hid hK
   clear hK
   simp only [layS, Act.put, List.setIfInBounds_toArray, List.set_cons_succ, List.set_cons_zero, Nat.zero_add, Nat.reduceAdd, e1]
   have E1 := Lib.hid e1
   clear e1
   have c00 := hJ.c0.1
   have c01 := hJ.c0.2.1
   have c02 := hJ.c0.2.2.1
   have c03 := hJ.c0.2.2.2.1
   have c04 := hJ.c0.2.2.2.2.1
   have c05 := hJ.c0.2.2.2.2.2
   go_simp
   exact HK.out _ _ (by simp [layS, updV, lstV, Act.put, E1.out]) hJ
  ·
   clear hd
   simp only [List.getElem_cons_succ, List.getElem_cons_zero]
   clear hl
   refine .inr ⟨rfl, fun K' hK => ?_⟩
   have HK := Lib.hid hK
   clear hK
   simp only [layS, Act.put, List.setIfInBounds_toArray, List.set_cons_succ, List.set_cons_zero, Nat.zero_add, Nat.reduceAdd]
   have c00 := hJ.c0.1
   have c01 := hJ.c0.2.1
   have c02 := hJ.c0.2.2.1
   have c03 := hJ.c0.2.2.2.1
   have c04 := hJ.c0.2.2.2.2.1
   have c05 := hJ.c0.2.2.2.2.2
   go_simp
   exact HK.out _ _ (by simp [layS, updV, lstV, Act.put]) hJ
  ·
   have e3 : u 3 = .pointer (some ⟨w.heap.size, 1, none⟩) := hd 3 (by kernel_rfl)
   clear hd
   simp only [List.getElem_cons_succ, List.getElem_cons_zero]
   clear hl
   refine .inr ⟨rfl, fun K' hK => ?_⟩
   have HK := Lib.hid hK
   clear hK
   simp only [layS, Act.put, List.setIfInBounds_toArray, List.set_cons_succ, List.set_cons_zero, Nat.zero_add, Nat.reduceAdd, e3]
   have E3 := Lib.hid e3
   clear e3
   have c00 := hJ.c0.1
   have c01 := hJ.c0.2.1
   have c02 := hJ.c0.2.2.1
   have c03 := hJ.c0.2.2.2.1
   have c04 := hJ.c0.2.2.2.2.1
   have c05 := hJ.c0.2.2.2.2.2
   go_simp
   exact HK.out _ _ (by simp [layS, updV, lstV, Act.put, E3.out]) hJ
  ·
   have e2 : u 2 = .int .i64 a := hd 2 (by kernel_rfl)
   have e4 : u 4 = .int .i64 b := hd 4 (by kernel_rfl)
   clear hd
   simp only [List.getElem_cons_succ, List.getElem_cons_zero]
   clear hl
   refine .inr ⟨rfl, fun K' hK => ?_⟩
   have HK := Lib.hid hK
   clear hK
   simp only [layS, Act.put, List.setIfInBounds_toArray, List.set_cons_succ, List.set_cons_zero, Nat.zero_add, Nat.reduceAdd, e2, e4]
   have E2 := Lib.hid e2
   have E4 := Lib.hid e4
   clear e2 e4
   have c00 := hJ.c0.1
   have c01 := hJ.c0.2.1
   have c02 := hJ.c0.2.2.1
   have c03 := hJ.c0.2.2.2.1
   have c04 := hJ.c0.2.2.2.2.1
   have c05 := hJ.c0.2.2.2.2.2
   go_simp
   refine ((by have := sOf_any a b W; rw [hE] at this; exact this : Calls Try.prog 67 #[.int .i64 a, .int .i64 b] W (PSp ⟨a, b, false⟩ W))).mono ?_
   rintro e W' ⟨rfl, hB⟩
   exact HK.out _ _ (by simp [layS, updV, lstV, Act.put, E2.out, E4.out]) (hJ.later hB)
  ·
   have e0 : u 0 = .agg #[.int .i64 a, .int .i64 b, .bool false] := hd 0 (by kernel_rfl)
   have e5 : u 5 = .agg #[.int .i64 a, .int .i64 b, .bool false] := hd 5 (by kernel_rfl)
   clear hd
   simp only [List.getElem_cons_succ, List.getElem_cons_zero]
   clear hl
   refine .inr ⟨rfl, fun K' hK => ?_⟩
   have HK := Lib.hid hK
   clear hK
   simp only [layS, Act.put, List.setIfInBounds_toArray, List.set_cons_succ, List.set_cons_zero, Nat.zero_add, Nat.reduceAdd, e0, e5]
   have E0 := Lib.hid e0
   have E5 := Lib.hid e5
   clear e0 e5
   have c00 := hJ.c0.1
   have c01 := hJ.c0.2.1
   have c02 := hJ.c0.2.2.1
   have c03 := hJ.c0.2.2.2.1
   have c04 := hJ.c0.2.2.2.2.1
   have c05 := hJ.c0.2.2.2.2.2
   go_simp
   exact HK.out _ _ (by simp [layS, updV, lstV, Act.put, E0.out, E5.out]) hJ
 intro W hJ
 simp only [layS, lstV, Act.put, List.setIfInBounds_toArray, List.set_cons_succ, List.set_cons_zero, Nat.zero_add, Nat.reduceAdd, List.getD_cons_zero, List.getD_cons_succ, List.drop_succ_cons, List.drop_zero, List.drop_nil]
 obtain ⟨c0, c1, c2, f0, f1, f2⟩ := hJ.c0
 obtain ⟨g0, g1, g2, h0, h1, h2⟩ := hJ.c1
 go_wp2
 have hp := hJ.put 1 (by simp) ⟨a, b, false⟩
 obtain ⟨d0, d1, d2, _⟩ := hp.c1
 exact bodyPost_ret (v := .agg #[.int .i64 a, .int .i64 b, .bool false]) (by simp [results, Try.results83, go_sem, g0, g1, g2]) rfl ⟨rfl, hp.below⟩
set_option maxHeartbeats 800000 in
theorem counted_no (a b : Int) (c : Bool) (w : World) (h : okB ⟨a, b, c⟩ = false) : Calls Try.prog 83 #[.agg #[.int .i64 a, .int .i64 b, .bool c]] w (PSp lineS w) := by
 have hq : eqS a b c (ofS a b).lo (ofS a b).hi (ofS a b).all = false := by
  cases hk : eqS a b c (ofS a b).lo (ofS a b).hi (ofS a b).all
  ·
   rfl
  ·
   exfalso
   obtain ⟨e1, e2, e3⟩ := eqS_iff.1 hk
   have e : (⟨a, b, c⟩ : Sp) = ⟨(ofS a b).lo, (ofS a b).hi, (ofS a b).all⟩ := by simp only [Sp.mk.injEq]; exact ⟨e1, e2, e3⟩
   change _ = ofS a b at e
   have hm := okB_mk ⟨min a b, max a b, false⟩
   change okB (ofS a b) = _ at hm
   rw [← e, h] at hm
   have h0 := mkS_no hm.symm
   change ofS a b = lineS at h0
   rw [h0] at e
   cases e
   cases hm
 obtain ⟨z, hz⟩ : ∃ z, ofS a b = z := ⟨_, rfl⟩
 rw [hz] at hq
 have HZ := Lib.hid hz
 clear hz
 have HH := Lib.hid h
 clear h
 go_enter Try.func83, Try.ntmps83
 go_wp2
 have hX := bs2 w a b c 0 0 false
 generalize (w.alloc (.cells #[.int .i64 a, .int .i64 b, .bool c] 23)).alloc (.cells #[.int .i64 0, .int .i64 0, .bool false] 23) = w1 at *
 refine wp_region_vals 7 [some 3, some 4, some 5, some 6, some 7, some 8, some 9] (lstV [.agg #[.int .i64 a, .int .i64 b, .bool c], .pointer (some ⟨w.heap.size, 0, none⟩), .int .i64 a, .pointer (some ⟨w.heap.size, 1, none⟩), .int .i64 b, .agg #[.int .i64 z.lo, .int .i64 z.hi, .bool z.all], .bool true]) (fun W => Bs w W [⟨a, b, c⟩, ⟨0, 0, false⟩]) (by kernel_rfl) (by kernel_rfl) (by decide) (hX.drew) ?_ ?_
 ·
  intro i hl hi u W hJ hd
  obtain rfl | rfl | rfl | rfl | rfl | rfl | rfl : i = 0 ∨ i = 1 ∨ i = 2 ∨ i = 3 ∨ i = 4 ∨ i = 5 ∨ i = 6 := by omega
  ·
   clear hd
   simp only [List.getElem_cons_succ, List.getElem_cons_zero]
   clear hl
   refine .inr ⟨rfl, fun K' hK => ?_⟩
   have HK := Lib.hid hK
   clear hK
   simp only [layS, Act.put, List.setIfInBounds_toArray, List.set_cons_succ, List.set_cons_zero, Nat.zero_add, Nat.reduceAdd]
   have c00 := hJ.c0.1
   have c01 := hJ.c0.2.1
   have c02 := hJ.c0.2.2.1
   have c03 := hJ.c0.2.2.2.1
   have c04 := hJ.c0.2.2.2.2.1
   have c05 := hJ.c0.2.2.2.2.2
   go_simp
   exact HK.out _ _ (by simp [layS, updV, lstV, Act.put]) hJ
  ·
   clear hd
   simp only [List.getElem_cons_succ, List.getElem_cons_zero]
   clear hl
   refine .inr ⟨rfl, fun K' hK => ?_⟩
   have HK := Lib.hid hK
   clear hK
   simp only [layS, Act.put, List.setIfInBounds_toArray, List.set_cons_succ, List.set_cons_zero, Nat.zero_add, Nat.reduceAdd]
   have c00 := hJ.c0.1
   have c01 := hJ.c0.2.1
   have c02 := hJ.c0.2.2.1
   have c03 := hJ.c0.2.2.2.1
   have c04 := hJ.c0.2.2.2.2.1
   have c05 := hJ.c0.2.2.2.2.2
   go_simp
   exact HK.out _ _ (by simp [layS, updV, lstV, Act.put]) hJ
  ·
   have e1 : u 1 = .pointer (some ⟨w.heap.size, 0, none⟩) := hd 1 (by kernel_rfl)
   clear hd
   simp only [List.getElem_cons_succ, List.getElem_cons_zero]
   clear hl
   refine .inr ⟨rfl, fun K' hK => ?_⟩
   have HK := Lib.hid hK
   clear hK
   simp only [layS, Act.put, List.setIfInBounds_toArray, List.set_cons_succ, List.set_cons_zero, Nat.zero_add, Nat.reduceAdd, e1]
   have E1 := Lib.hid e1
   clear e1
   have c00 := hJ.c0.1
   have c01 := hJ.c0.2.1
   have c02 := hJ.c0.2.2.1
   have c03 := hJ.c0.2.2.2.1
   have c04 := hJ.c0.2.2.2.2.1
   have c05 := hJ.c0.2.2.2.2.2
   go_simp
   exact HK.out _ _ (by simp [layS, updV, lstV, Act.put, E1.out]) hJ
  ·
   clear hd
   simp only [List.getElem_cons_succ, List.getElem_cons_zero]
   clear hl
   refine .inr ⟨rfl, fun K' hK => ?_⟩
   have HK := Lib.hid hK
   clear hK
   simp only [layS, Act.put, List.setIfInBounds_toArray, List.set_cons_succ, List.set_cons_zero, Nat.zero_add, Nat.reduceAdd]
   have c00 := hJ.c0.1
   have c01 := hJ.c0.2.1
   have c02 := hJ.c0.2.2.1
   have c03 := hJ.c0.2.2.2.1
   have c04 := hJ.c0.2.2.2.2.1
   have c05 := hJ.c0.2.2.2.2.2
   go_simp
   exact HK.out _ _ (by simp [layS, updV, lstV, Act.put]) hJ
  ·
   have e3 : u 3 = .pointer (some ⟨w.heap.size, 1, none⟩) := hd 3 (by kernel_rfl)
   clear hd
   simp only [List.getElem_cons_succ, List.getElem_cons_zero]
   clear hl
   refine .inr ⟨rfl, fun K' hK => ?_⟩
   have HK := Lib.hid hK
   clear hK
   simp only [layS, Act.put, List.setIfInBounds_toArray, List.set_cons_succ, List.set_cons_zero, Nat.zero_add, Nat.reduceAdd, e3]
   have E3 := Lib.hid e3
   clear e3
   have c00 := hJ.c0.1
   have c01 := hJ.c0.2.1
   have c02 := hJ.c0.2.2.1
   have c03 := hJ.c0.2.2.2.1
   have c04 := hJ.c0.2.2.2.2.1
   have c05 := hJ.c0.2.2.2.2.2
   go_simp
   exact HK.out _ _ (by simp [layS, updV, lstV, Act.put, E3.out]) hJ
  ·
   have e2 : u 2 = .int .i64 a := hd 2 (by kernel_rfl)
   have e4 : u 4 = .int .i64 b := hd 4 (by kernel_rfl)
   clear hd
   simp only [List.getElem_cons_succ, List.getElem_cons_zero]
   clear hl
   refine .inr ⟨rfl, fun K' hK => ?_⟩
   have HK := Lib.hid hK
   clear hK
   simp only [layS, Act.put, List.setIfInBounds_toArray, List.set_cons_succ, List.set_cons_zero, Nat.zero_add, Nat.reduceAdd, e2, e4]
   have E2 := Lib.hid e2
   have E4 := Lib.hid e4
   clear e2 e4
   have c00 := hJ.c0.1
   have c01 := hJ.c0.2.1
   have c02 := hJ.c0.2.2.1
   have c03 := hJ.c0.2.2.2.1
   have c04 := hJ.c0.2.2.2.2.1
   have c05 := hJ.c0.2.2.2.2.2
   go_simp
   refine ((by have := sOf_any a b W; rw [HZ.out] at this; exact this : Calls Try.prog 67 #[.int .i64 a, .int .i64 b] W (PSp z W))).mono ?_
   rintro e W' ⟨rfl, hB⟩
   exact HK.out _ _ (by simp [layS, updV, lstV, Act.put, E2.out, E4.out]) (hJ.later hB)
  ·
   have e0 : u 0 = .agg #[.int .i64 a, .int .i64 b, .bool c] := hd 0 (by kernel_rfl)
   have e5 : u 5 = .agg #[.int .i64 z.lo, .int .i64 z.hi, .bool z.all] := hd 5 (by kernel_rfl)
   clear hd
   simp only [List.getElem_cons_succ, List.getElem_cons_zero]
   clear hl
   refine .inr ⟨rfl, fun K' hK => ?_⟩
   have HK := Lib.hid hK
   clear hK
   simp only [layS, Act.put, List.setIfInBounds_toArray, List.set_cons_succ, List.set_cons_zero, Nat.zero_add, Nat.reduceAdd, e0, e5]
   have E0 := Lib.hid e0
   have E5 := Lib.hid e5
   clear e0 e5
   have c00 := hJ.c0.1
   have c01 := hJ.c0.2.1
   have c02 := hJ.c0.2.2.1
   have c03 := hJ.c0.2.2.2.1
   have c04 := hJ.c0.2.2.2.2.1
   have c05 := hJ.c0.2.2.2.2.2
   go_simp
   exact HK.out _ _ (by simp [layS, updV, lstV, Act.put, E0.out, E5.out]) hJ
 intro W hJ
 simp only [layS, lstV, Act.put, List.setIfInBounds_toArray, List.set_cons_succ, List.set_cons_zero, Nat.zero_add, Nat.reduceAdd, List.getD_cons_zero, List.getD_cons_succ, List.drop_succ_cons, List.drop_zero, List.drop_nil]
 go_wp2_with fail
 refine (whole_any _).mono ?_
 rintro e W2 ⟨rfl, hB⟩
 have hJ2 := hJ.later hB
 obtain ⟨g0, g1, g2, h0, h1, h2⟩ := hJ2.c1
 go_wp2
 have hp := hJ2.put 1 (by simp) lineS
 exact bodyPost_ret (v := .agg #[.int .i64 0, .int .i64 0, .bool true]) (by simp [results, Try.results83, go_sem, g0, g1, g2, lineS]) rfl ⟨rfl, hp.below⟩
theorem counted_any (x : Sp) (w : World) : Calls Try.prog 83 #[.agg #[.int .i64 x.lo, .int .i64 x.hi, .bool x.all]] w (PSp (mkS x) w) := by
 cases h : okB x
 ·
  rw [mkS_no h]; exact counted_no x.lo x.hi x.all w h
 ·
  rw [mkS_ok h]; exact counted_ok x.lo x.hi x.all w h
end Go.Proofs.Ytpahkpcoinbgcaa
