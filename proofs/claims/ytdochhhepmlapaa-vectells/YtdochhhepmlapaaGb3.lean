/- Parts of the proof. -/
import Derived.Test.YtdochhhepmlapaaGb1
import Derived.Test.YtdochhhepmlapaaGb2
/- As part Regv, with one operation that makes a variable wherever it comes in the order. No statement of the seat is proved here. -/
namespace Go.Proofs.Ytdochhhepmlapaa
open Go Go.RowKit
section
variable {P : Program}
def OpA (P : Program) (Q : Exit → Act → World → Prop) (o : Oper) (ops : Array Oper) (a : Act) (ds : List (Option Tmp)) (V : Nat → Value) (J : World → Prop) (A : Value → World → Prop) (i : Nat) (u : Nat → Value) (W : World) : Prop :=
 (Region.wanted o (yielded ops (layS a ds u 0).tmps) = false ∧ (layS a ds u 0).put o.dst undef = layS a ds (updV u i (V i)) 0) ∨
 (Region.wanted o (yielded ops (layS a ds u 0).tmps) = true ∧ ∀ K' : Act → World → Prop, (∀ a' W', a' = layS a ds (updV u i (V i)) 0 → J W' → (∀ v, A v W → A v W') → K' a' W') → Oper.wp P o (layS a ds u 0) W K' Q)
def OpN (P : Program) (Q : Exit → Act → World → Prop) (o : Oper) (a : Act) (ds : List (Option Tmp)) (J : World → Prop) (A : Value → World → Prop) (i : Nat) (u : Nat → Value) (W : World) : Prop :=
 o.guard = none ∧ ∀ K' : Act → World → Prop, (∀ a' W' v, a' = layS a ds (updV u i v) 0 → J W' → A v W' → K' a' W') → Oper.wp P o (layS a ds u 0) W K' Q
/-- The first n operations may come in any order, their values known ahead but for operation k, which makes a variable; the others come behind them, in one order. -/
theorem wp_region_valsA {Q : Exit → Act → World → Prop} {id : Nat} {a : Act} {w : World} {l : List Oper} (n k : Nat) (ds : List (Option Tmp)) (V : Nat → Value) (J : World → Prop) (A : Value → World → Prop) (hm : P.follows .mixedOrders = true) (hB : tailsB2 .any l.toArray n = true) (hn : ds.length ≤ n) (hk : k < n)
  (h0 : J w.drew)
  (make : ∀ (hi : k < l.length) (u : Nat → Value) (W : World), J W → OpN P Q l[k] a ds J A k u W)
  (step : ∀ i (hi : i < l.length), i < n → i ≠ k → ∀ (u : Nat → Value) (W : World), J W → (∀ j, j ≠ k → Region.waitsFor .any l.toArray i j = true → u j = V j) → OpA P Q l[i] l.toArray a ds V J A i u W)
  (fin : ∀ W v, J W → A v W → wpList P l.toArray Q (l.drop n) (layS a ds (updV V k v) 0) W) : (Code.region id l.toArray true).wp P Q a w := by
 have hl : n ≤ l.length := by
  have hB' := hB
  unfold tailsB2 at hB'
  simp only [Bool.and_eq_true, decide_eq_true_eq] at hB'
  simpa using hB'.1.1.1
 refine wp_region_inv2 n (fun L a' W => J W ∧ ∃ u : Nat → Value, (∀ j, j ≠ k → L j = true → u j = V j) ∧ (L k = true → A (u k) W) ∧ a' = layS a ds u 0) hm hB ⟨h0, fun k => ((ds.getD k none).map fun t => a.tmps.getD t undef).getD undef, nofun, nofun, ?_⟩ ?_ ?_
 ·
  refine (layS_self a ds _ 0 (fun j d hj => ?_)).symm
  have : ds.getD (0 + j) none = d := by rw [Nat.zero_add, List.getD_eq_getElem?_getD, hj]; rfl
  rw [this]
 ·
  rintro L a' W i hi ⟨hJ, u, hu, hA, rfl⟩ _ hw
  have hil : i < l.length := Nat.lt_of_lt_of_le hi hl
  refine wpOp_step (o := l[i]) (by simp [hil]) (fun K' hK => ?_)
  by_cases hik : i = k
  ·
   subst hik
   obtain ⟨h1, h2⟩ := make hil u W hJ
   rw [if_pos (by simp [Region.wanted, h1])]
   refine h2 K' (fun a' W' v e hj hv => hK _ _ ⟨hj, updV u i v, fun j hji hj => ?_, fun _ => by simpa [updV] using hv, e⟩)
   unfold updV
   rw [if_neg hji]
   exact hu j hji (by rw [upd_ne hji] at hj; exact hj)
  ·
   have key : ∀ W', J W' → (∀ v, A v W → A v W') → J W' ∧ ∃ u' : Nat → Value, (∀ j, j ≠ k → upd L i j = true → u' j = V j) ∧ (upd L i k = true → A (u' k) W') ∧ layS a ds (updV u i (V i)) 0 = layS a ds u' 0 := by
    intro W' hj hv
    refine ⟨hj, updV u i (V i), fun j hjk hj => ?_, fun hj => ?_, rfl⟩
    ·
     unfold updV
     by_cases h : j = i
     ·
      rw [if_pos h, h]
     ·
      rw [if_neg h]
      exact hu j hjk (by rw [upd_ne h] at hj; exact hj)
    ·
     unfold updV
     rw [if_neg (fun h => hik h.symm)]
     exact hv _ (hA (by rw [upd_ne (fun h => hik h.symm)] at hj; exact hj))
   rcases step i hil hi hik u W hJ (fun j hjk hj => hu j hjk (hw j hj)) with ⟨h1, h2⟩ | ⟨h1, h2⟩
   ·
    rw [if_neg (by rw [h1]; decide), h2]
    exact hK _ _ (key W hJ (fun _ h => h))
   ·
    rw [if_pos h1]
    refine h2 K' (fun a' W' e hj hv => ?_)
    subst e
    exact hK _ _ (key W' hj hv)
 ·
  rintro a' W ⟨L, hL, hJ, u, hu, hA, rfl⟩
  have e : layS a ds u 0 = layS a ds (updV V k (u k)) 0 := layS_congr ds a u _ 0 (fun j hj => by
   rw [Nat.zero_add]
   unfold updV
   by_cases h : j = k
   ·
    rw [if_pos h, h]
   ·
    rw [if_neg h]; exact hu j h (hL j (by omega)))
  rw [e]
  exact fin W _ hJ (hA (hL k hk))
end
/-- A variable made since, as it was made. -/
def Abox (m : Nat) (C : Array Value) (T : TypeId) (v : Value) (W : World) : Prop := ∃ b, v = .pointer (some ⟨b, 0, none⟩) ∧ m ≤ b ∧ W.heap[b]? = some (.cells C T (0, 0))
theorem Abox.later {m : Nat} {C : Array Value} {T : TypeId} {v : Value} {W W' : World} (h : Abox m C T v W) (hb : Below W.heap.size W W') : Abox m C T v W' := by
 obtain ⟨b, e, h1, h2⟩ := h
 exact ⟨b, e, h1, by rw [hb.block b (Array.getElem?_eq_some_iff.1 h2).1, h2]⟩
theorem abox_new {m : Nat} {C : Array Value} {T : TypeId} {W : World} (h : m ≤ W.heap.size) : Abox m C T (.pointer (some ⟨W.heap.size, 0, none⟩)) (W.alloc (.cells C T)) := ⟨_, rfl, h, by rw [heap_alloc_new]⟩
end Go.Proofs.Ytdochhhepmlapaa

/- As part Regv, where what an operation gives is known by a property that stays when memory grows; operations that make variables make unlike ones. No statement of the seat is proved here. -/
namespace Go.Proofs.Ytdochhhepmlapaa
open Go Go.RowKit
/-- A value is a given one. -/
def Veq (c : Value) (v : Value) (_ : World) : Prop := v = c
theorem Veq.later {c v : Value} {W W' : World} (h : Veq c v W) (_ : Below W.heap.size W W') : Veq c v W' := h
section
variable {P : Program}
end
theorem Abox.lt {m : Nat} {C : Array Value} {T : TypeId} {v : Value} {W : World} (h : Abox m C T v W) : ∃ b, v = .pointer (some ⟨b, 0, none⟩) ∧ b < W.heap.size := by
 obtain ⟨b, e, _, h2⟩ := h
 exact ⟨b, e, (Array.getElem?_eq_some_iff.1 h2).1⟩
/- Where operations may also store: the invariant names which operations are done and what they gave. -/
section
variable {P : Program}
end
end Go.Proofs.Ytdochhhepmlapaa
