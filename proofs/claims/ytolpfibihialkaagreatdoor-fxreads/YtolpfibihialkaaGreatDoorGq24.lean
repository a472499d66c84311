/- Parts of the proof. -/
import Derived.Test.YtolpfibihialkaaGreatDoorGq22
import Derived.Test.YtolpfibihialkaaGreatDoorGq10
import Derived.Test.YtolpfibihialkaaGreatDoorGq11
import Derived.Test.YtolpfibihialkaaGreatDoorGq23
import Derived.Test.YtolpfibihialkaaGreatDoorGq13
/- Lists and matrices of numbers in memory, and what keeps them: blocks that may be written are told apart. No statement of the seat is proved here. -/
namespace Go.Proofs.YtolpfibihialkaaGreatDoor
open Go Go.RowKit
/-- A world behind another one: what X does not name is as it was; X' names no more of the old. -/
structure Ext (X : Nat → Prop) (W : World) (X' : Nat → Prop) (W' : World) : Prop where
 size : W.heap.size ≤ W'.heap.size
 keep : ∀ k, k < W.heap.size → ¬ X k → W'.heap[k]? = W.heap[k]?
 grow : ∀ k, X' k → k < W.heap.size → X k
def NX (X : Nat → Prop) (W : World) : Prop := ∀ k, X k → k < W.heap.size
abbrev Fa := (Nat → Prop) → World → Prop
/-- What stays. -/
def Stb (F : Fa) : Prop := ∀ X W X' W', Ext X W X' W' → F X W → F X' W'
section
variable {X X' X2 : Nat → Prop} {w W W' W2 : World}
theorem Ext.refl (X : Nat → Prop) (W : World) : Ext X W X W := ⟨Nat.le_refl _, fun _ _ _ => rfl, fun _ h _ => h⟩
theorem Ext.trans (h : Ext X W X' W') (k : Ext X' W' X2 W2) : Ext X W X2 W2 :=
 ⟨Nat.le_trans h.size k.size, fun i hi hx => (k.keep i (Nat.lt_of_lt_of_le hi h.size) (fun h' => hx (h.grow i h' hi))).trans (h.keep i hi hx), fun i hx hi => h.grow i (k.grow i hx (Nat.lt_of_lt_of_le hi h.size)) hi⟩
theorem Ext.below (X : Nat → Prop) (hb : Below W.heap.size W W') : Ext X W X W' := ⟨hb.size, fun i hi _ => hb.block i hi, fun _ h _ => h⟩
theorem Ext.less (W : World) (h : ∀ k, X' k → X k) : Ext X W X' W := ⟨Nat.le_refl _, fun _ _ _ => rfl, fun k hx _ => h k hx⟩
theorem Ext.cell (h : Ext X W X' W') {q : Addr} (hl : q.block < W.heap.size) (hx : ¬ X q.block) : W'.cell? q = W.cell? q := World.cell?_of_block (h.keep _ hl hx)
theorem NX.later (h : NX X W) (hb : W.heap.size ≤ W'.heap.size) : NX X W' := fun k hk => Nat.lt_of_lt_of_le (h k hk) hb
end
/-- A number's sign, parts and value. -/
structure NL where
 b : Bool
 a : Option Addr
 n : Nat
 c : Nat
 z : Int
def NL.v (p : NL) : Value := .agg #[.bool p.b, .slice p.a p.n p.c]
def NL.is (p : NL) : Fa := fun X W => Num W p.b p.a p.n p.c p.z ∧ ∀ q, p.a = some q → 0 < p.n → ¬ X q.block
theorem NL.stb (p : NL) : Stb p.is := by
 intro X W X' W' he h
 refine ⟨⟨⟨h.1.lie.cap, h.1.lie.capm, h.1.lie.nil, fun q hq => ⟨(h.1.lie.spot q hq).1, Nat.lt_of_lt_of_le (h.1.lie.spot q hq).2 he.size⟩, fun q hq i hi => ?_⟩, h.1.fit, h.1.sgn⟩, fun q hq h0 hx => h.2 q hq h0 (he.grow _ hx (h.1.lie.spot q hq).2)⟩
 exact (he.cell (q := ⟨q.block, q.off + i, none⟩) (h.1.lie.spot q hq).2 (h.2 q hq (by omega))).trans (h.1.lie.cell q hq i hi)
def nlz : NL := ⟨false, none, 0, 0, 0⟩
/-- A slice. -/
structure Sl where
 a : Option Addr
 n : Nat
 c : Nat
def Sl.v (s : Sl) : Value := .slice s.a s.n s.c
/-- The address of place i, of elements of k cells. -/
def Sl.at (s : Sl) (k i : Nat) : Value := match s.a with
 | some q => .pointer (some (q.add (i * k)))
 | none => undef
/-- What a place's cells are. -/
abbrev El := (Nat → Prop) → World → Nat → List Value → Prop
structure Sq (k : Nat) (E : El) (s : Sl) (X : Nat → Prop) (W : World) : Prop where
 cap : s.n ≤ s.c
 capm : s.c ≤ maxLen
 nil : s.a = none → s.n = 0 ∧ s.c = 0
 spot : ∀ q, s.a = some q → 0 < s.n → q.spot = none ∧ q.block < W.heap.size ∧ ¬ X q.block
 el : ∀ q, s.a = some q → ∀ i, i < s.n → ∃ cs : List Value, cs.length = k ∧ (∀ j, j < k → W.cell? ⟨q.block, q.off + i * k + j, none⟩ = cs[j]?) ∧ E X W i cs
def EStb (E : El) : Prop := ∀ i cs, Stb (fun X W => E X W i cs)
theorem Sq.stb {k : Nat} {E : El} (hE : EStb E) (s : Sl) : Stb (Sq k E s) := by
 intro X W X' W' he h
 refine ⟨h.cap, h.capm, h.nil, fun q hq h0 => ⟨(h.spot q hq h0).1, Nat.lt_of_lt_of_le (h.spot q hq h0).2.1 he.size, fun hx => (h.spot q hq h0).2.2 (he.grow _ hx (h.spot q hq h0).2.1)⟩, fun q hq i hi => ?_⟩
 have h0 : 0 < s.n := Nat.lt_of_le_of_lt (Nat.zero_le _) hi
 obtain ⟨cs, h1, h2, h3⟩ := h.el q hq i hi
 exact ⟨cs, h1, fun j hj => (he.cell (q := ⟨q.block, q.off + i * k + j, none⟩) (h.spot q hq h0).2.1 (h.spot q hq h0).2.2).trans (h2 j hj), hE i cs X W X' W' he h3⟩
def EN (x : Nat → Int) : El := fun X W i cs => ∃ p : NL, p.z = x i ∧ p.is X W ∧ cs = [.bool p.b, .slice p.a p.n p.c]
theorem EN.stb (x : Nat → Int) : EStb (EN x) := fun _ _ X W X' W' he ⟨p, h1, h2, h3⟩ => ⟨p, h1, p.stb X W X' W' he h2, h3⟩
/-- A list of n numbers. -/
structure Ls (n : Nat) (x : Nat → Int) (s : Sl) (X : Nat → Prop) (W : World) : Prop where
 n : s.n = n
 sq : Sq 2 (EN x) s X W
theorem Ls.stb (n : Nat) (x : Nat → Int) (s : Sl) : Stb (Ls n x s) := fun X W X' W' he h => ⟨h.n, Sq.stb (EN.stb x) s X W X' W' he h.sq⟩
def ER (c : Nat → Nat) (B : Nat → Nat → Int) : El := fun X W i cs => ∃ r : Sl, Ls (c i) (B i) r X W ∧ cs = [r.v]
theorem ER.stb (c : Nat → Nat) (B : Nat → Nat → Int) : EStb (ER c B) := fun i _ X W X' W' he ⟨r, h1, h2⟩ => ⟨r, Ls.stb (c i) (B i) r X W X' W' he h1, h2⟩
/-- Rows, the i-th of c i numbers. -/
structure Mt (m : Nat) (c : Nat → Nat) (B : Nat → Nat → Int) (s : Sl) (X : Nat → Prop) (W : World) : Prop where
 n : s.n = m
 sq : Sq 1 (ER c B) s X W
theorem Mt.stb (m : Nat) (c : Nat → Nat) (B : Nat → Nat → Int) (s : Sl) : Stb (Mt m c B s) := fun X W X' W' he h => ⟨h.n, Sq.stb (ER.stb c B) s X W X' W' he h.sq⟩
def EI (x : Nat → Int) : El := fun _ _ i cs => cs = [.int .i64 (x i)]
theorem EI.stb (x : Nat → Int) : EStb (EI x) := fun _ _ _ _ _ _ _ h => h
structure Li (n : Nat) (x : Nat → Int) (s : Sl) (X : Nat → Prop) (W : World) : Prop where
 n : s.n = n
 sq : Sq 1 (EI x) s X W
theorem Li.stb (n : Nat) (x : Nat → Int) (s : Sl) : Stb (Li n x s) := fun X W X' W' he h => ⟨h.n, Sq.stb (EI.stb x) s X W X' W' he h.sq⟩
def EIR (c : Nat → Nat) (B : Nat → Nat → Int) : El := fun X W i cs => ∃ r : Sl, Li (c i) (B i) r X W ∧ cs = [r.v]
theorem EIR.stb (c : Nat → Nat) (B : Nat → Nat → Int) : EStb (EIR c B) := fun i _ X W X' W' he ⟨r, h1, h2⟩ => ⟨r, Li.stb (c i) (B i) r X W X' W' he h1, h2⟩
structure Mi (m : Nat) (c : Nat → Nat) (B : Nat → Nat → Int) (s : Sl) (X : Nat → Prop) (W : World) : Prop where
 n : s.n = m
 sq : Sq 1 (EIR c B) s X W
theorem Mi.stb (m : Nat) (c : Nat → Nat) (B : Nat → Nat → Int) (s : Sl) : Stb (Mi m c B s) := fun X W X' W' he h => ⟨h.n, Sq.stb (EIR.stb c B) s X W X' W' he h.sq⟩
/-- A variable that is captured, and not written. -/
def Cf (b : Nat) (C : Array Value) (T : TypeId) : Fa := fun X W => Cl W (b, C, T) ∧ ¬ X b
theorem Cf.stb (b : Nat) (C : Array Value) (T : TypeId) : Stb (Cf b C T) := fun X W X' W' he h => by
 have hl : b < W.heap.size := (Array.getElem?_eq_some_iff.1 h.1).1
 exact ⟨(he.keep b hl h.2).trans h.1, fun hx => h.2 (he.grow b hx hl)⟩
theorem Sq.congr {k : Nat} {E E' : El} {s : Sl} {X : Nat → Prop} {W : World} (h : Sq k E s X W) (hE : ∀ i cs, i < s.n → E X W i cs → E' X W i cs) : Sq k E' s X W :=
 ⟨h.cap, h.capm, h.nil, h.spot, fun q hq i hi => by obtain ⟨cs, h1, h2, h3⟩ := h.el q hq i hi; exact ⟨cs, h1, h2, hE i cs hi h3⟩⟩
theorem Ls.congr {n : Nat} {x y : Nat → Int} {s : Sl} {X : Nat → Prop} {W : World} (h : Ls n x s X W) (e : ∀ i, i < n → x i = y i) : Ls n y s X W :=
 ⟨h.n, h.sq.congr fun i _ hi ⟨p, h1, h2⟩ => ⟨p, h1.trans (e i (h.n ▸ hi)), h2⟩⟩
theorem Mt.congr {m : Nat} {c c' : Nat → Nat} {B B' : Nat → Nat → Int} {s : Sl} {X : Nat → Prop} {W : World} (h : Mt m c B s X W) (ec : ∀ i, i < m → c i = c' i) (e : ∀ i j, i < m → j < c i → B i j = B' i j) : Mt m c' B' s X W :=
 ⟨h.n, h.sq.congr fun i _ hi ⟨r, h1, h2⟩ => ⟨r, by rw [← ec i (h.n ▸ hi)]; exact h1.congr fun j hj => e i j (h.n ▸ hi) hj, h2⟩⟩
/-- The state of a walk: variables of its own, and what holds. -/
structure Zs (w W : World) (X0 X : Nat → Prop) (l : List (Nat × Array Value × TypeId)) (fs : List Fa) : Prop where
 es : Es w W l
 nx : NX X W
 own : ∀ p, p ∈ l → X p.1
 sub : ∀ k, X0 k → X k
 fs : ∀ f, f ∈ fs → Stb f ∧ f X W
 ext : Ext X0 w X W
section
variable {w W W' : World} {X0 X : Nat → Prop} {l : List (Nat × Array Value × TypeId)} {fs : List Fa}
theorem zs_start (hx : NX X0 w) : Zs w w X0 X0 [] [] := ⟨es_nil w, hx, nofun, fun _ h => h, nofun, Ext.refl _ _⟩
theorem Zs.more (h : Zs w W X0 X l fs) {f : Fa} (hs : Stb f) (hf : f X W) : Zs w W X0 X l (f :: fs) := ⟨h.es, h.nx, h.own, h.sub, fun g hg => by
 rcases List.mem_cons.1 hg with rfl | hg
 ·
  exact ⟨hs, hf⟩
 ·
  exact h.fs g hg, h.ext⟩
theorem Zs.get (h : Zs w W X0 X l fs) (i : Nat) {f : Fa} (hi : fs[i]? = some f) : f X W := (h.fs f (List.mem_of_getElem? hi)).2
theorem Zs.later (h : Zs w W X0 X l fs) (hb : Below W.heap.size W W') : Zs w W' X0 X l fs := ⟨h.es.later hb, h.nx.later hb.size, h.own, h.sub, fun f hf => ⟨(h.fs f hf).1, (h.fs f hf).1 _ _ _ _ (Ext.below X hb) (h.fs f hf).2⟩, h.ext.trans (Ext.below X hb)⟩
theorem Zs.only (h : Zs w W X0 X l fs) (gs : List Fa) (hg : ∀ g, g ∈ gs → g ∈ fs) : Zs w W X0 X l gs := ⟨h.es, h.nx, h.own, h.sub, fun f hf => h.fs f (hg f hf), h.ext⟩
theorem Zs.below (h : Zs w W X0 X l fs) : Below w.heap.size w W := h.es.below
theorem Zs.new (h : Zs w W X0 X l fs) (C : Array Value) (T : TypeId) : Zs w (W.alloc (.cells C T)) X0 (fun k => X k ∨ k = W.heap.size) ((W.heap.size, C, T) :: l) fs := by
 have hb : Below W.heap.size W (W.alloc (.cells C T)) := (Below.refl _ _).alloc (Nat.le_refl _) _
 have he : Ext X W (fun k => X k ∨ k = W.heap.size) (W.alloc (.cells C T)) := ⟨hb.size, fun k hk _ => hb.block k hk, fun k hk hl => hk.elim id fun e => absurd e (by omega)⟩
 refine ⟨h.es.new C T, fun k hk => ?_, fun p hp => ?_, fun k hk => .inl (h.sub k hk), fun f hf => ⟨(h.fs f hf).1, (h.fs f hf).1 _ _ _ _ he (h.fs f hf).2⟩, h.ext.trans he⟩
 ·
  have : (W.alloc (.cells C T)).heap.size = W.heap.size + 1 := by simp
  rcases hk with hk | rfl
  ·
   have := h.nx k hk; omega
  ·
   omega
 ·
  rcases List.mem_cons.1 hp with rfl | hp
  ·
   exact .inr rfl
  ·
   exact .inl (h.own p hp)
theorem Zs.put (h : Zs w W X0 X l fs) {j b : Nat} {C C' : Array Value} {T : TypeId} (hj : l[j]? = some (b, C, T)) (he : Es w W' (l.set j (b, C', T))) (hk : ∀ k, k ≠ b → W'.heap[k]? = W.heap[k]?) (hz : W'.heap.size = W.heap.size) : Zs w W' X0 X (l.set j (b, C', T)) fs := by
 have hX : X b := h.own _ (List.mem_of_getElem? hj)
 have hx : Ext X W X W' := ⟨by rw [hz]; exact Nat.le_refl _, fun k _ hn => hk k fun e => hn (e ▸ hX), fun _ h _ => h⟩
 refine ⟨he, fun k hk => by rw [hz]; exact h.nx k hk, fun p hp => ?_, h.sub, fun f hf => ⟨(h.fs f hf).1, (h.fs f hf).1 _ _ _ _ hx (h.fs f hf).2⟩, h.ext.trans hx⟩
 obtain ⟨k, hk⟩ := List.mem_iff_getElem?.1 hp
 rw [List.getElem?_set] at hk
 by_cases e : j = k
 ·
  rw [if_pos e, if_pos (List.getElem?_eq_some_iff.1 hj).1] at hk
  cases hk
  exact hX
 ·
  rw [if_neg e] at hk
  exact h.own p (List.mem_of_getElem? hk)
theorem Zs.drop (h : Zs w W X0 X l fs) {l' : List (Nat × Array Value × TypeId)} (hs : l'.Sublist l) : Zs w W X0 X l' fs := ⟨h.es.sub hs, h.nx, fun p hp => h.own p (hs.subset hp), h.sub, h.fs, h.ext⟩
/-- What holds, for the one who called. -/
theorem Zs.out (h : Zs w W X0 X l fs) (i : Nat) {f : Fa} (hi : fs[i]? = some f) : f X0 W := (h.fs f (List.mem_of_getElem? hi)).1 _ _ _ _ (Ext.less W h.sub) (h.fs f (List.mem_of_getElem? hi)).2
end
section
variable {P : Program} {ops : Array Oper} {Q : Exit → Act → World → Prop} {a : Act} {w W : World} {rest : List Oper} {o : Oper} {l : List (Nat × Array Value × TypeId)} {X0 X : Nat → Prop} {fs : List Fa} {next : Act → World → Prop}
theorem stopz_alloc (T : TypeId) (C : Array Value) (z : Value) (hg : o.guard = none) (ho : o.op = .alloc T) (hz : ∀ W, (zeroValue T).run P W = .ok z W) (hC : z.cells = C) (h : Zs w W X0 X l fs) (k : ∀ (b : Nat) (X' : Nat → Prop) (W' : World), Zs w W' X0 X' ((b, C, T) :: l) fs → Stop (wpList P ops Q rest (a.put o.dst (.pointer (some ⟨b, 0, none⟩))) W')) : wpList P ops Q (o :: rest) a W :=
 wpList_plain hg fun K hK => wp_alloc T ho z hz (hK _ _ (k _ _ _ (by subst hC; exact h.new z.cells T)))
theorem stopz_store (T : TypeId) (p x : Operand) (j b off : Nat) (C : Array Value) (T' : TypeId) (n : Nat) (vs : List Value) (C' : Array Value) (l' : List (Nat × Array Value × TypeId)) (hg : o.guard = none) (ho : o.op = .store T p x) (hp : a.eval p = .pointer (some ⟨b, off, none⟩)) (hx : (a.eval x).cells.toList = vs) (hn : ∀ W, (sizeOf T).run P W = .ok n W) (h : Zs w W X0 X l fs) (hj : l[j]? = some (b, C, T')) (hv : vs.length = n) (hs : off + n ≤ C.size) (hb : vs.all (·.oneCell') = true) (hC : putC C off vs = C') (hl : l.set j (b, C', T') = l')
  (k : ∀ W', Zs w W' X0 X l' fs → Stop (wpList P ops Q rest (a.put o.dst undef) W')) : wpList P ops Q (o :: rest) a W :=
 wpList_plain hg fun K hK => wp_store T p x ho j b off C T' n vs h.es hj hp hx hn hv hs hb (fun W' e hk hz => hK _ _ (k W' (by
  have := h.put (C' := C') hj (by rw [hC] at e; exact e) hk hz
  rw [hl] at this
  exact this)))
end
/-- A number is handed back. -/
def PNX (X : Nat → Prop) (z : Int) (w : World) (e : Ending) (w' : World) : Prop := ∃ p : NL, e = .returned p.v ∧ p.z = z ∧ p.is X w' ∧ Below w.heap.size w w'
end Go.Proofs.YtolpfibihialkaaGreatDoor

/- Package long's calls over numbers that are told by their sign, parts and value; what regions that draw their order give. No statement of the seat is proved here. -/
namespace Go.Proofs.YtolpfibihialkaaGreatDoor
open Go Go.RowKit
/-- z has no more than e parts. -/
def Sz (e : Nat) (z : Int) : Prop := z.natAbs < BB ^ e
theorem Sz.mono {e f : Nat} {z : Int} (h : Sz e z) (hf : e ≤ f) : Sz f z := Nat.lt_of_lt_of_le h (Nat.pow_le_pow_right BB_pos hf)
theorem Sz.add {e f : Nat} {x y : Int} (h : Sz e x) (k : Sz f y) : Sz (e + f + 1) (x + y) := by
 have h1 := h.mono (show e ≤ e + f by omega)
 have h2 := k.mono (show f ≤ e + f by omega)
 unfold Sz at *
 have h3 := Int.natAbs_add_le x y
 have : BB ^ (e + f) * 2 ≤ BB ^ (e + f) * BB := Nat.mul_le_mul_left _ (by decide)
 rw [Nat.pow_succ]
 omega
theorem Sz.neg {e : Nat} {x : Int} (h : Sz e x) : Sz e (-x) := by unfold Sz at *; rw [Int.natAbs_neg]; exact h
theorem Sz.mul {e f : Nat} {x y : Int} (h : Sz e x) (k : Sz f y) : Sz (e + f) (x * y) := by
 unfold Sz at *
 rw [Int.natAbs_mul, Nat.pow_add]
 exact Nat.mul_lt_mul'' h k
theorem sz_int {x : Int} (h1 : -9223372036854775808 ≤ x) (h2 : x ≤ 9223372036854775807) : Sz 2 x := by
 show x.natAbs < BB ^ 2
 rw [show BB ^ 2 = 18446744073709551616 from by decide]
 omega
theorem Sz.fdiv {e : Nat} {x y : Int} (h : Sz e x) (hy : y ≠ 0) : Sz e (Int.fdiv x y) := by
 refine Nat.lt_of_le_of_lt ?_ h
 have key : ∀ a b : Int, 0 < b → (a.fdiv b).natAbs ≤ a.natAbs := by
  intro a b hb
  rw [Int.fdiv_eq_ediv_of_nonneg _ (by omega)]
  rcases Int.lt_or_le a 0 with ha | ha
  ·
   have h1 := Int.ediv_lt_of_lt_mul hb (show a < 0 * b by omega)
   have h2 : a ≤ a / b := by
    rw [Int.le_ediv_iff_mul_le hb]
    have := Int.mul_le_mul_of_nonneg_left (show 1 ≤ b by omega) (show 0 ≤ -a by omega)
    grind
   omega
  ·
   have h1 := Int.ediv_nonneg ha (show 0 ≤ b by omega)
   have h2 := Int.ediv_le_self b ha
   omega
 rcases Int.lt_or_gt_of_ne hy with hl | hl
 ·
  have := key (-x) (-y) (by omega)
  rw [Int.neg_fdiv_neg, Int.natAbs_neg] at this
  exact this
 ·
  exact key x y hl
section
variable {X : Nat → Prop} {W : World} {p q : NL} {x y : Int} {e f : Nat}
theorem NL.len (hp : p.is X W) (ex : p.z = x) (b : Sz e x) (he : e ≤ 9000000) : p.n ≤ 9000000 := num_len hp.1 (by rw [ex]; exact b) he
end
section
variable {P : Program} {Q : Exit → Act → World → Prop} {a : Act} {W : World} {o : Oper} {next : Act → World → Prop}
theorem wp_callz (f : Operand) (args : Array Operand) (ty : Array TypeId) (k' : FuncId) (caps vs vs' : Array Value) (ho : o.op = .call { callee := .value f, args := args, argTypes := ty }) (hf : a.eval f = .func (.func k') #[] caps) (ha : args.map a.eval = vs) (hv : vs ++ caps = vs') (hk : ∀ (args : Array Value) (W : World), (callFunc k' args).run P W = .ok (.enter k' args) W)
  {post : Ending → World → Prop} (H : Calls P k' vs' W post) (k : ∀ e W', post e W' → ∃ v, e = .returned v ∧ next (a.put o.dst v) W') : o.wp P a W next Q := by
 have e : (execOp a.eval o).run P W = .ok (.enter k' vs') W := by
  unfold execOp
  rw [ho]
  simp only [resolve, hf, ha, Sem.run_bind]
  simp only [Deferred.ofValue, invoke, Result.andThen, Sem.run_pure]
  simp [hk, hv]
 unfold Oper.wp
 rw [e, Oper.upon_enter]
 refine H.mono ?_
 intro zz W' hp
 obtain ⟨v, rfl, hn⟩ := k zz W' hp
 exact hn
end
/-- What an operation of a region gives. -/
abbrev VF := Value → Fa
def veq (v : Value) : VF := fun u _ _ => u = v
def vany : VF := fun _ _ _ => True
def VSt (k : VF) : Prop := ∀ v X W W', Below W.heap.size W W' → k v X W → k v X W'
theorem veq_st (v : Value) : VSt (veq v) := fun _ _ _ _ _ h => h
theorem vany_st : VSt vany := fun _ _ _ _ _ _ => trivial
def vzL (ks : List VF) (X : Nat → Prop) (j : Nat) : Value → World → Prop := fun v W => (ks.getD j vany) v X W
theorem vzL_later {ks : List VF} (hk : ∀ k, k ∈ ks → VSt k) {X : Nat → Prop} {n : Nat} {u : Nat → Value} {W W' : World} (hb : Below W.heap.size W W') : ∀ j, j < n → vzL ks X j (u j) W → vzL ks X j (u j) W' := by
 intro j _ h
 unfold vzL at *
 have : VSt (ks.getD j vany) := by
  rw [List.getD_eq_getElem?_getD]
  cases e : ks[j]? with
  | none => exact vany_st
  | some k => exact hk k (List.mem_of_getElem? e)
 exact this _ _ _ _ hb h
theorem vzL_same {ks : List VF} {X : Nat → Prop} {n : Nat} {u : Nat → Value} {W : World} : ∀ j, j < n → vzL ks X j (u j) W → vzL ks X j (u j) W := fun _ _ h => h
section
variable {Q : Exit → Act → World → Prop} {a : Act} {W : World} {o : Oper} {next : Act → World → Prop} {A B : Int} {x y : Operand}
theorem wp_addi (x y : Operand) (ho : o.op = .binOp .add 3 x y 3) (hx : a.eval x = .int .i64 A) (hy : a.eval y = .int .i64 B) {C : Int} (hC : A + B = C) (h1 : -9223372036854775808 ≤ C) (h2 : C ≤ 9223372036854775807) (k : next (a.put o.dst (.int .i64 C)) W) : o.wp Tryz.prog a W next Q := by
 subst hC
 refine wp_run ?_ k
 unfold execOp
 rw [ho]
 simp only [hx, hy]
 have hw : IntKind.i64.wrap (A + B) = A + B := IntWalk.i64_in _ ⟨by omega, by omega⟩
 simp [go_sem, hw]
theorem wp_subi (x y : Operand) (ho : o.op = .binOp .sub 3 x y 3) (hx : a.eval x = .int .i64 A) (hy : a.eval y = .int .i64 B) {C : Int} (hC : A - B = C) (h1 : -9223372036854775808 ≤ C) (h2 : C ≤ 9223372036854775807) (k : next (a.put o.dst (.int .i64 C)) W) : o.wp Tryz.prog a W next Q := by
 subst hC
 refine wp_run ?_ k
 unfold execOp
 rw [ho]
 simp only [hx, hy]
 have hw : IntKind.i64.wrap (A - B) = A - B := IntWalk.i64_in _ ⟨by omega, by omega⟩
 simp [go_sem, hw]
theorem wp_lssi (x y : Operand) (ho : o.op = .binOp .lss 3 x y 3) (hx : a.eval x = .int .i64 A) (hy : a.eval y = .int .i64 B) {r : Bool} (hr : decide (A < B) = r) (k : next (a.put o.dst (.bool r)) W) : o.wp Tryz.prog a W next Q := by
 subst hr
 refine wp_run ?_ k
 unfold execOp
 rw [ho]
 simp only [hx, hy]
 simp [go_sem]
theorem wp_gtri (x y : Operand) (ho : o.op = .binOp .gtr 3 x y 3) (hx : a.eval x = .int .i64 A) (hy : a.eval y = .int .i64 B) {r : Bool} (hr : decide (B < A) = r) (k : next (a.put o.dst (.bool r)) W) : o.wp Tryz.prog a W next Q := by
 subst hr
 refine wp_run ?_ k
 unfold execOp
 rw [ho]
 simp only [hx, hy]
 simp [go_sem]
theorem wp_eqli (x y : Operand) (T T' : TypeId) (hT : (T == 3) = true) (ho : o.op = .binOp .eql T x y T') (hx : a.eval x = .int .i64 A) (hy : a.eval y = .int .i64 B) {r : Bool} (hr : decide (A = B) = r) (k : next (a.put o.dst (.bool r)) W) : o.wp Tryz.prog a W next Q := by
 have := eq_of_beq hT
 subst this
 subst hr
 refine wp_run ?_ k
 unfold execOp
 rw [ho]
 simp only [hx, hy]
 simp [go_sem]
 rfl
end
section
variable {P : Program}
/-- A region that draws its order; what a slot holds ahead of the operation that writes it can be read too. -/
theorem wp_region_q {Q : Exit → Act → World → Prop} {id : Nat} {a : Act} {w : World} {l : List Oper} (n : Nat) (ds : List (Option Tmp)) (VP : Nat → Value → World → Prop) (J : World → Prop) (hm : P.follows .mixedOrders = true) (hB : tailsB2 .any l.toArray n = true) (hds : ds = (l.take n).map (·.dst)) (hs : slotsB ds = true)
  (hz : ds.all (fun d => match d with | some t => decide (t < a.tmps.size) | none => true) = true)
  (h0 : J w.drew)
  (step : ∀ i (hi : i < l.length), i < n → ∀ (L : Nat → Bool) (u : Nat → Value) (W : World) (A : Act), L i = false → (∀ k, k < n → L k = true → ∀ j, Region.waitsFor .any l.toArray k j = true → L j = true) → J W → (∀ j, j < n → Region.waitsFor .any l.toArray i j = true → VP j (u j) W) →
   (∀ t, some t ∉ ds → A.tmps[t]? = a.tmps[t]?) → (∀ j d, ds[j]? = some (some d) → A.tmps[d]? = some (u j)) → (∀ j d, j < n → L j = false → ds[j]? = some (some d) → A.tmps[d]? = some (a.tmps.getD d undef)) → OpZ P Q l[i] l.toArray A VP J n i u W)
  (fin : ∀ (u : Nat → Value) (W : World), J W → (∀ j, j < n → VP j (u j) W) → wpList P l.toArray Q (l.drop n) (layS a ds u 0) W) : (Code.region id l.toArray true).wp P Q a w := by
 have hl : n ≤ l.length := by
  have hB' := hB
  unfold tailsB2 at hB'
  simp only [Bool.and_eq_true, decide_eq_true_eq] at hB'
  simpa using hB'.1.1.1
 have hlen : ds.length = n := by rw [hds]; simp; omega
 obtain ⟨old, hold⟩ : ∃ old : Nat → Value, old = fun k => ((ds.getD k none).map fun t => a.tmps.getD t undef).getD undef := ⟨_, rfl⟩
 refine wp_region_inv2 n (fun L a' W => ∃ u : Nat → Value, J W ∧ (∀ j, j < n → L j = true → VP j (u j) W) ∧ (∀ j, j < n → L j = false → u j = old j) ∧ (∀ k, k < n → L k = true → ∀ j, Region.waitsFor .any l.toArray k j = true → L j = true) ∧ a' = layS a ds u 0) hm hB ⟨old, h0, nofun, fun _ _ _ => rfl, nofun, ?_⟩ ?_ ?_
 ·
  refine (layS_self a ds _ 0 (fun j d hj => ?_)).symm
  have : ds.getD (0 + j) none = d := by rw [Nat.zero_add, List.getD_eq_getElem?_getD, hj]; rfl
  rw [hold]
  simp only
  rw [this]
 ·
  rintro L a' W i hi ⟨u, hJ, hu, ho, hc, rfl⟩ hLi hw
  have hil : i < l.length := Nat.lt_of_lt_of_le hi hl
  have hid : ds[i]? = some l[i].dst := by
   rw [hds]
   simp [List.getElem?_take, hi, hil]
  have hinn : ∀ j d, ds[j]? = some (some d) → (layS a ds u 0).tmps[d]? = some (u j) := by
   intro j d hj
   have hd' : d < a.tmps.size := by
    have := List.all_eq_true.1 hz _ (List.mem_of_getElem? hj)
    simpa using this
   have h1 := layS_in ds a u 0 j d hs hj hd'
   rwa [Nat.zero_add] at h1
  have hout : ∀ j d, j < n → L j = false → ds[j]? = some (some d) → (layS a ds u 0).tmps[d]? = some (a.tmps.getD d undef) := by
   intro j d hj hL hd
   rw [hinn j d hd, ho j hj hL, hold]
   simp only [List.getD_eq_getElem?_getD, hd, Option.getD_some, Option.map_some]
  refine wpOp_step (o := l[i]) (by simp [hil]) (fun K' hK => ?_)
  have key : ∀ W' v, J W' → VP i v W' → (∀ j, j < n → VP j (u j) W → VP j (u j) W') → K' ((layS a ds u 0).put l[i].dst v) W' := by
   intro W' v hj hv hb
   rw [layS_put hs hid]
   refine hK _ _ ⟨updV u i v, hj, fun j hjn hLj => ?_, fun j hjn hLj => ?_, fun k hk hLk j hj => ?_, rfl⟩
   ·
    unfold updV
    by_cases h : j = i
    ·
     rw [if_pos h, h]; exact hv
    ·
     rw [if_neg h]
     rw [upd_ne h] at hLj
     exact hb j hjn (hu j hjn hLj)
   ·
    have h : j ≠ i := by
     intro e
     subst e
     rw [upd_self] at hLj
     cases hLj
    unfold updV
    rw [if_neg h]
    rw [upd_ne h] at hLj
    exact ho j hjn hLj
   ·
    by_cases h : k = i
    ·
     subst h; exact upd_mono (hw j hj)
    ·
     rw [upd_ne h] at hLk
     exact upd_mono (hc k hk hLk j hj)
  rcases step i hil hi L u W _ hLi hc hJ (fun j hjn hj => hu j hjn (hw j hj)) (fun t ht => layS_out _ _ _ _ _ ht) hinn hout with ⟨h1, h2⟩ | ⟨h1, h2⟩
  ·
   rw [if_neg (by rw [h1]; decide)]
   exact key W undef hJ h2 (fun _ _ h => h)
  ·
   rw [if_pos h1]
   exact h2 K' (fun v W' hj hv hb => key W' v hj hv hb)
 ·
  rintro a' W ⟨L, hL, u, hJ, hu, _, _, rfl⟩
  exact fin u W hJ (fun j hj => hu j hj (hL j hj))
end
end Go.Proofs.YtolpfibihialkaaGreatDoor
