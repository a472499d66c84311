/- Parts of the proof. -/
import Derived.Test.YtolpfibihialkaaGreatGr41
import Derived.Test.YtolpfibihialkaaGreatGr29
/- How vectors and arrays that come in read, for the rows of package vec's laws. -/
namespace Go.Proofs.YtolpfibihialkaaGreat
open Go.Joins Go.ChangeShapes Go.WideShapes Go.RowKit Go.Deep
section
variable {H : Type} {enc : TypeId × Value → H} {w : World} {base : Nat} {spare : Nat → Bool} {held : Bool}
set_option maxRecDepth 100000 in
theorem trod_span {n : Nat} {cs : List Value} {y : DataW H × List MemPlace} (h : DataW.trod enc Tryz.prog w base spare held n 23 cs = some y) :
  ∃ x : Sp, cs = [.int .i64 x.lo, .int .i64 x.hi, .bool x.all] ∧ y = (spD x, []) ∧ (Lit.int .i64 x.lo).wf = true ∧ (Lit.int .i64 x.hi).wf = true := by
 obtain ⟨y0, y1, y2, m, hx, hl, h0, h1, h2⟩ := trod_struct3 Tryz.underlying23 h
 have hC : Tryz.prog.cellsOf 23 = 3 := by kernel_rfl
 have k1 : Tryz.prog.cellsOf 2 = 1 := by kernel_rfl
 have k2 : Tryz.prog.cellsOf 4 = 1 := by kernel_rfl
 rw [hC] at hl
 match cs, hl with
 | [c0, c1, c2], _ =>
  simp only [k1, k2, List.drop_zero, List.drop_succ_cons, List.take_succ_cons, List.take_zero] at h0 h1 h2
  obtain ⟨a, ha, rfl, wa⟩ := DataW.trod_int Tryz.underlying2 h0
  obtain ⟨b, hb, rfl, wb⟩ := DataW.trod_int Tryz.underlying2 h1
  obtain ⟨c, hc, rfl⟩ := DataW.trod_bool Tryz.underlying4 h2
  cases ha
  cases hb
  cases hc
  exact ⟨⟨a, b, c⟩, rfl, hx, wa, wb⟩
theorem trod_int_mk {a : Int} (wa : (Lit.int .i64 a).wf = true) : DataW.trod enc Tryz.prog w base spare held 1 2 [.int .i64 a] = some (.lit (.int .i64 a), []) := by
 unfold DataW.trod
 rw [Tryz.underlying2]
 simp [wa]
set_option maxRecDepth 100000 in
theorem trod_span_mk {x : Sp} (wa : (Lit.int .i64 x.lo).wf = true) (wb : (Lit.int .i64 x.hi).wf = true) : DataW.trod enc Tryz.prog w base spare held 2 23 [.int .i64 x.lo, .int .i64 x.hi, .bool x.all] = some (spD x, []) := by
 have hC : Tryz.prog.cellsOf 23 = 3 := by kernel_rfl
 have k1 : Tryz.prog.cellsOf 2 = 1 := by kernel_rfl
 have k2 : Tryz.prog.cellsOf 4 = 1 := by kernel_rfl
 have hb : DataW.trod enc Tryz.prog w base spare held 1 4 [.bool x.all] = some (.lit (.bool x.all), []) := by
  unfold DataW.trod
  rw [Tryz.underlying4]
 exact trod_struct3_mk (y0 := (.lit (.int .i64 x.lo), [])) (y1 := (.lit (.int .i64 x.hi), [])) (y2 := (.lit (.bool x.all), [])) Tryz.underlying23 (by rw [hC]; rfl)
  (by rw [k1]; exact trod_int_mk wa) (by rw [k1]; exact trod_int_mk wb) (by rw [k2]; exact hb)
/-- An array of three, opened. -/
theorem trod_arr3 {P : Program} {n k : Nat} {t e : TypeId} {cs : List Value} {y : DataW H × List MemPlace} (hu : P.underlying t = some (.array 3 e)) (hC : P.cellsOf t = 3 * k) (hk : P.cellsOf e = k) (h : DataW.trod enc P w base spare held n t cs = some y) :
  ∃ (m : Nat) (y0 y1 y2 : DataW H × List MemPlace), cs.length = 3 * k ∧ DataW.trod enc P w base spare held m e (cs.take k) = some y0 ∧ DataW.trod enc P w base spare held m e ((cs.drop k).take k) = some y1 ∧ DataW.trod enc P w base spare held m e ((cs.drop (2 * k)).take k) = some y2 ∧ y = (.agg [y0.1, y1.1, y2.1], y0.2 ++ (y1.2 ++ y2.2)) := by
 cases n with
 | zero => unfold DataW.trod at h; cases h
 | succ m =>
  unfold DataW.trod at h
  rw [hu] at h
  simp only [hC, hk] at h
  split at h
  ·
   next hl =>
   rw [show List.range 3 = [0, 1, 2] from rfl] at h
   simp only [List.mapM_cons, List.mapM_nil, Nat.zero_mul, Nat.one_mul, List.drop_zero] at h
   cases e0 : DataW.trod enc P w base spare held m e (cs.take k) with
   | none => rw [e0] at h; cases h
   | some y0 =>
    cases e1 : DataW.trod enc P w base spare held m e ((cs.drop k).take k) with
    | none => rw [e0, e1] at h; cases h
    | some y1 =>
     cases e2 : DataW.trod enc P w base spare held m e ((cs.drop (2 * k)).take k) with
     | none => rw [e0, e1, e2] at h; cases h
     | some y2 =>
      rw [e0, e1, e2] at h
      refine ⟨m, y0, y1, y2, hl, e0, e1, e2, ?_⟩
      have := Option.some.inj h
      rw [← this]
      simp
  ·
   cases h
theorem trod_arr3_mk {P : Program} {m k : Nat} {t e : TypeId} {cs : List Value} {y0 y1 y2 : DataW H × List MemPlace} (hu : P.underlying t = some (.array 3 e)) (hC : P.cellsOf t = 3 * k) (hk : P.cellsOf e = k) (hl : cs.length = 3 * k) (h0 : DataW.trod enc P w base spare held m e (cs.take k) = some y0) (h1 : DataW.trod enc P w base spare held m e ((cs.drop k).take k) = some y1) (h2 : DataW.trod enc P w base spare held m e ((cs.drop (2 * k)).take k) = some y2) :
  DataW.trod enc P w base spare held (m + 1) t cs = some (.agg [y0.1, y1.1, y2.1], y0.2 ++ (y1.2 ++ y2.2)) := by
 unfold DataW.trod
 rw [hu]
 simp only [hC, hk, hl, if_true]
 rw [show List.range 3 = [0, 1, 2] from rfl]
 simp only [List.mapM_cons, List.mapM_nil, Nat.zero_mul, Nat.one_mul, List.drop_zero, h0, h1, h2]
 simp
/-- A vector, as it reads; an array of three numbers. -/
def vcD (v : Vc) : DataW H := .agg [spD v.x, spD v.y, spD v.z]
theorem agg_of {v : Value} {n : Nat} (h : v.cells.toList.length = n) (hn : n ≠ 1) : ∃ cs : Array Value, v = .agg cs := by
 cases v <;> first | exact ⟨_, rfl⟩ | (exfalso; apply hn; rw [← h]; rfl)
set_option maxRecDepth 100000 in
theorem open_vec {v : Value} {d : DataW H} {p : List MemPlace} (h : DataW.Trod enc Tryz.prog w base spare held 25 v d p) :
  ∃ x : Vc, v = .agg #[.int .i64 x.x.lo, .int .i64 x.x.hi, .bool x.x.all, .int .i64 x.y.lo, .int .i64 x.y.hi, .bool x.y.all, .int .i64 x.z.lo, .int .i64 x.z.hi, .bool x.z.all] ∧ d = vcD x ∧ p = [] ∧ ((Lit.int .i64 x.x.lo).wf = true ∧ (Lit.int .i64 x.x.hi).wf = true) ∧ ((Lit.int .i64 x.y.lo).wf = true ∧ (Lit.int .i64 x.y.hi).wf = true) ∧ ((Lit.int .i64 x.z.lo).wf = true ∧ (Lit.int .i64 x.z.hi).wf = true) := by
 obtain ⟨fuel, hf⟩ := h
 obtain ⟨m, y0, y1, y2, hl, h0, h1, h2, e⟩ := trod_arr3 (k := 3) (e := 23) (by kernel_rfl) (by kernel_rfl) (by kernel_rfl) hf
 obtain ⟨cs, rfl⟩ := agg_of hl (by decide)
 obtain ⟨x, c0, rfl, w0⟩ := trod_span h0
 obtain ⟨y, c1, rfl, w1⟩ := trod_span h1
 obtain ⟨z, c2, rfl, w2⟩ := trod_span h2
 obtain ⟨l⟩ := cs
 change l.length = 9 at hl
 change l.take 3 = _ at c0
 change (l.drop 3).take 3 = _ at c1
 change (l.drop 6).take 3 = _ at c2
 have hl' : l = l.take 3 ++ ((l.drop 3).take 3 ++ (l.drop 6).take 3) := by
  match l, hl with
  | [_, _, _, _, _, _, _, _, _], _ => rfl
 rw [c0, c1, c2] at hl'
 cases e
 exact ⟨⟨x, y, z⟩, by rw [hl']; rfl, rfl, rfl, w0, w1, w2⟩
set_option maxRecDepth 100000 in
theorem shut_vec {x : Vc} (w0 : (Lit.int .i64 x.x.lo).wf = true ∧ (Lit.int .i64 x.x.hi).wf = true) (w1 : (Lit.int .i64 x.y.lo).wf = true ∧ (Lit.int .i64 x.y.hi).wf = true) (w2 : (Lit.int .i64 x.z.lo).wf = true ∧ (Lit.int .i64 x.z.hi).wf = true) :
  DataW.Trod enc Tryz.prog w base spare held 25 (.agg #[.int .i64 x.x.lo, .int .i64 x.x.hi, .bool x.x.all, .int .i64 x.y.lo, .int .i64 x.y.hi, .bool x.y.all, .int .i64 x.z.lo, .int .i64 x.z.hi, .bool x.z.all]) (vcD x) [] :=
 ⟨3, trod_arr3_mk (P := Tryz.prog) (m := 2) (k := 3) (t := 25) (e := 23) (y0 := (spD x.x, [])) (y1 := (spD x.y, [])) (y2 := (spD x.z, [])) (by kernel_rfl) (by kernel_rfl) (by kernel_rfl) rfl (trod_span_mk w0.1 w0.2) (trod_span_mk w1.1 w1.2) (trod_span_mk w2.1 w2.2)⟩
end
end Go.Proofs.YtolpfibihialkaaGreat

/- How turns that come in read, for the rows of package rot's laws. -/
namespace Go.Proofs.YtolpfibihialkaaGreat
open Go.Joins Go.ChangeShapes Go.WideShapes Go.RowKit Go.Deep Go
section
variable {H : Type} {enc : TypeId × Value → H} {w : World} {base : Nat} {spare : Nat → Bool} {held : Bool}
def wfS (x : Sp) : Prop := (Lit.int .i64 x.lo).wf = true ∧ (Lit.int .i64 x.hi).wf = true
def wfV (v : Vc) : Prop := wfS v.x ∧ wfS v.y ∧ wfS v.z
set_option maxRecDepth 100000 in
theorem trod_vec {n : Nat} {l : List Value} {y : DataW H × List MemPlace} (hf : DataW.trod enc Tryz.prog w base spare held n 25 l = some y) : ∃ x : Vc, l = (cV x).toList ∧ y = (vcD x, []) ∧ wfV x := by
 obtain ⟨m, y0, y1, y2, hl, h0, h1, h2, e⟩ := trod_arr3 (k := 3) (e := 23) (by kernel_rfl) (by kernel_rfl) (by kernel_rfl) hf
 obtain ⟨x, c0, rfl, w0⟩ := trod_span h0
 obtain ⟨y', c1, rfl, w1⟩ := trod_span h1
 obtain ⟨z, c2, rfl, w2⟩ := trod_span h2
 change l.length = 9 at hl
 change l.take 3 = _ at c0
 change (l.drop 3).take 3 = _ at c1
 change (l.drop 6).take 3 = _ at c2
 have hl' : l = l.take 3 ++ ((l.drop 3).take 3 ++ (l.drop 6).take 3) := by
  match l, hl with
  | [_, _, _, _, _, _, _, _, _], _ => rfl
 rw [c0, c1, c2] at hl'
 exact ⟨⟨x, y', z⟩, hl', e, w0, w1, w2⟩
theorem trod_vec_mk {x : Vc} (h : wfV x) : DataW.trod enc Tryz.prog w base spare held 3 25 (cV x).toList = some (vcD x, []) :=
 trod_arr3_mk (P := Tryz.prog) (m := 2) (k := 3) (t := 25) (e := 23) (y0 := (spD x.x, [])) (y1 := (spD x.y, [])) (y2 := (spD x.z, [])) (by kernel_rfl) (by kernel_rfl) (by kernel_rfl) rfl (trod_span_mk h.1.1 h.1.2) (trod_span_mk h.2.1.1 h.2.1.2) (trod_span_mk h.2.2.1 h.2.2.2)
def tuD (r : Tu) : DataW H := .agg [vcD r.a, vcD r.b, vcD r.c]
set_option maxRecDepth 100000 in
theorem open_rot {v : Value} {d : DataW H} {p : List MemPlace} (h : DataW.Trod enc Tryz.prog w base spare held 27 v d p) : ∃ r : Tu, v = .agg (cT r) ∧ d = tuD r ∧ p = [] ∧ wfV r.a ∧ wfV r.b ∧ wfV r.c := by
 obtain ⟨fuel, hf⟩ := h
 obtain ⟨m, y0, y1, y2, hl, h0, h1, h2, e⟩ := trod_arr3 (k := 9) (e := 25) (by kernel_rfl) (by kernel_rfl) (by kernel_rfl) hf
 obtain ⟨cs, rfl⟩ := agg_of hl (by decide)
 obtain ⟨x, c0, rfl, w0⟩ := trod_vec h0
 obtain ⟨y, c1, rfl, w1⟩ := trod_vec h1
 obtain ⟨z, c2, rfl, w2⟩ := trod_vec h2
 obtain ⟨l⟩ := cs
 change l.length = 27 at hl
 change l.take 9 = _ at c0
 change (l.drop 9).take 9 = _ at c1
 change (l.drop 18).take 9 = _ at c2
 have hl' : l = l.take 9 ++ ((l.drop 9).take 9 ++ (l.drop 18).take 9) := by
  match l, hl with
  | [_, _, _, _, _, _, _, _, _, _, _, _, _, _, _, _, _, _, _, _, _, _, _, _, _, _, _], _ => rfl
 rw [c0, c1, c2] at hl'
 cases e
 exact ⟨⟨x, y, z⟩, by rw [hl']; rfl, rfl, rfl, w0, w1, w2⟩
set_option maxRecDepth 100000 in
theorem shut_rot {r : Tu} (w0 : wfV r.a) (w1 : wfV r.b) (w2 : wfV r.c) : DataW.Trod enc Tryz.prog w base spare held 27 (.agg (cT r)) (tuD r) [] :=
 ⟨4, trod_arr3_mk (P := Tryz.prog) (m := 3) (k := 9) (t := 27) (e := 25) (y0 := (vcD r.a, [])) (y1 := (vcD r.b, [])) (y2 := (vcD r.c, [])) (by kernel_rfl) (by kernel_rfl) (by kernel_rfl) rfl (trod_vec_mk w0) (trod_vec_mk w1) (trod_vec_mk w2)⟩
end
end Go.Proofs.YtolpfibihialkaaGreat
