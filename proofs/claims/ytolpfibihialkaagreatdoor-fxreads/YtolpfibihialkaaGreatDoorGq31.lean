/- Parts of the proof. -/
import Derived.Test.YtolpfibihialkaaGreatDoorGq0
import Derived.Test.YtolpfibihialkaaGreatDoorGq25
import Derived.Test.YtolpfibihialkaaGreatDoorGq28
import Derived.Test.YtolpfibihialkaaGreatDoorGq30
/- Operations on texts and bytes, one law each. No statement of the seat is proved here. -/
namespace Go.Proofs.YtolpfibihialkaaGreatDoor
open Go Go.RowKit
/-- The i-th byte, 0 behind the end. -/
def chr (s : ByteArray) (i : Nat) : Nat := if h : i < s.size then s[i].toNat else 0
theorem chr_eq {s : ByteArray} {i : Nat} (h : i < s.size) : chr s i = s[i].toNat := by unfold chr; rw [dif_pos h]
section
variable {Q : Exit → Act → World → Prop} {a : Act} {W : World} {o : Oper} {next : Act → World → Prop} {s : ByteArray} {A B : Int}
theorem wp_lenst (x : Operand) (t : TypeId) (ht : Tryz.prog.underlying t = some .string) (ho : o.op = .call { callee := .builtin .len, args := #[x], argTypes := #[t] }) (hx : a.eval x = .string s) (k : next (a.put o.dst (.int .i64 ((s.size : Nat) : Int))) W) : o.wp Tryz.prog a W next Q := by
 refine wp_run ?_ k
 unfold execOp
 rw [ho]
 simp [resolve, invoke, builtin, hx, Sem.run_bind, Result.andThen, Builtin.len_, run_underlying ht, goInt]
theorem wp_sidx (T : TypeId) (x y : Operand) (ht : Tryz.prog.underlying T = some .string) (ho : o.op = .index T x y) (hx : a.eval x = .string s) {i : Nat} (hy : a.eval y = .int .i64 ((i : Nat) : Int)) (hi : i < s.size) (k : next (a.put o.dst (.int .u8 ((chr s i : Nat) : Int))) W) : o.wp Tryz.prog a W next Q := by
 rw [chr_eq hi] at k
 have h2 : s[i]? = some s[i] := getElem?_pos s i hi
 have hr : (Instr.index T (.string s) (.int .i64 ((i : Nat) : Int))).run Tryz.prog W = .ok (.int .u8 (s[i].toNat : Int)) W := by
  simp [Instr.index, asIntOf, run_underlying ht, Sem.run_bind, Result.andThen, h2]
 refine wp_run ?_ k
 unfold execOp
 rw [ho]
 simp only [hx, hy, Sem.run_bind, hr, Result.andThen]
 rfl
theorem wp_geq8 (x y : Operand) (ho : o.op = .binOp .geq 5 x y 5) (hx : a.eval x = .int .u8 A) (hy : a.eval y = .int .u8 B) {r : Bool} (hr : decide (B ≤ A) = r) (k : next (a.put o.dst (.bool r)) W) : o.wp Tryz.prog a W next Q := by
 subst hr
 refine wp_run ?_ k
 unfold execOp
 rw [ho]
 simp only [hx, hy]
 simp [go_sem]
theorem wp_leq8 (x y : Operand) (ho : o.op = .binOp .leq 5 x y 5) (hx : a.eval x = .int .u8 A) (hy : a.eval y = .int .u8 B) {r : Bool} (hr : decide (A ≤ B) = r) (k : next (a.put o.dst (.bool r)) W) : o.wp Tryz.prog a W next Q := by
 subst hr
 refine wp_run ?_ k
 unfold execOp
 rw [ho]
 simp only [hx, hy]
 simp [go_sem]
theorem wp_eql8 (x y : Operand) (ho : o.op = .binOp .eql 5 x y 5) (hx : a.eval x = .int .u8 A) (hy : a.eval y = .int .u8 B) {r : Bool} (hr : decide (A = B) = r) (k : next (a.put o.dst (.bool r)) W) : o.wp Tryz.prog a W next Q := by
 subst hr
 refine wp_run ?_ k
 unfold execOp
 rw [ho]
 simp only [hx, hy]
 simp [go_sem]
 rfl
theorem wp_neq8 (x y : Operand) (ho : o.op = .binOp .neq 5 x y 5) (hx : a.eval x = .int .u8 A) (hy : a.eval y = .int .u8 B) {r : Bool} (hr : decide (A ≠ B) = r) (k : next (a.put o.dst (.bool r)) W) : o.wp Tryz.prog a W next Q := by
 subst hr
 refine wp_run ?_ k
 unfold execOp
 rw [ho]
 simp only [hx, hy]
 simp [go_sem]
 rfl
theorem wp_sub8 (x y : Operand) (ho : o.op = .binOp .sub 5 x y 5) (hx : a.eval x = .int .u8 A) (hy : a.eval y = .int .u8 B) (h1 : B ≤ A) (h2 : A ≤ 255) (h3 : 0 ≤ B) (k : next (a.put o.dst (.int .u8 (A - B))) W) : o.wp Tryz.prog a W next Q := by
 refine wp_run ?_ k
 unfold execOp
 rw [ho]
 simp only [hx, hy]
 have hw : IntKind.u8.wrap (A - B) = A - B := by
  simp [IntKind.wrap, IntKind.signed, IntKind.bits]
  omega
 simp [go_sem, hw]
theorem wp_cv8 (x : Operand) (ho : o.op = .convert 5 2 x) (hx : a.eval x = .int .u8 A) (h1 : 0 ≤ A) (h2 : A ≤ 255) (k : next (a.put o.dst (.int .i64 A)) W) : o.wp Tryz.prog a W next Q := by
 refine wp_run ?_ k
 unfold execOp
 rw [ho]
 simp only [hx]
 have hw : IntKind.i64.wrap A = A := IntWalk.i64_in _ ⟨by omega, by omega⟩
 simp [go_sem, hw]
end
theorem nd_chr {s : ByteArray} {i : Nat} (hi : i < s.size) (h : isDig s[i] = false) : chr s i < 48 ∨ 57 < chr s i := by
 rw [chr_eq hi]
 refine Classical.byContradiction fun hc => ?_
 have h1 : 48 ≤ s[i].toNat ∧ s[i].toNat ≤ 57 := by omega
 have : isDig s[i] = true := by
  unfold isDig
  simp only [Bool.and_eq_true, decide_eq_true_eq, UInt8.le_iff_toNat_le]
  exact h1
 rw [h] at this
 cases this
theorem tw_step {s : ByteArray} {g i : Nat} (hg : g ≤ s.size) (h1 : g ≤ i) (h2 : i < g + (tw s g).length) : i < s.size ∧ 48 ≤ chr s i ∧ chr s i ≤ 57 ∧ (tw s g).take (i + 1 - g) = (tw s g).take (i - g) ++ [UInt8.ofNat (chr s i)] := by
 obtain ⟨k, rfl⟩ : ∃ k, i = g + k := ⟨i - g, by omega⟩
 obtain ⟨hi, hd, ht⟩ := tw_at s g k hg (by omega)
 obtain ⟨h48, h57⟩ := isDig_le hd
 refine ⟨hi, by rw [chr_eq hi]; omega, by rw [chr_eq hi]; omega, ?_⟩
 rw [show g + k + 1 - g = k + 1 by omega, show g + k - g = k by omega, ht, chr_eq hi]
 congr 2
 exact UInt8.toNat_inj.1 (by simp)
theorem dv_step {s : ByteArray} {g i : Nat} (A : List UInt8) (hg : g ≤ s.size) (h1 : g ≤ i) (h2 : i < g + (tw s g).length) : ((dval (A ++ (tw s g).take (i + 1 - g)) : Nat) : Int) = ((dval (A ++ (tw s g).take (i - g)) : Nat) : Int) * 10 + (((chr s i : Nat) : Int) - 48) := by
 obtain ⟨_, h3, h4, h5⟩ := tw_step hg h1 h2
 rw [h5, ← List.append_assoc, dval_snoc, show (UInt8.ofNat (chr s i)).toNat = chr s i from by simp; omega]
 omega
theorem sz_of50 {z : Int} (h : z.natAbs < 10 ^ 50) : Sz 6 z := Nat.lt_of_lt_of_le h (by decide)
theorem len50 {l : List UInt8} (hd : digB l = true) (h : l.length ≤ 50) : ((dval l : Nat) : Int).natAbs < 10 ^ 50 := by
 have h2 := dval_lt l hd
 have h3 : 10 ^ l.length ≤ 10 ^ 50 := Nat.pow_le_pow_right (by decide) h
 rw [Int.natAbs_natCast]
 omega
theorem digB_join {l m : List UInt8} (h : digB l = true) (k : digB m = true) : digB (l ++ m) = true := by unfold digB at *; rw [List.all_append, h, k]; rfl
theorem digB_tk {l : List UInt8} (h : digB l = true) (n : Nat) : digB (l.take n) = true := by
 unfold digB at *
 rw [List.all_eq_true] at *
 exact fun c hc => h c (List.mem_of_mem_take hc)
theorem two50 {s : ByteArray} {f g k m : Nat} (hf : f ≤ s.size) (hg : g ≤ s.size) (hs : s.size ≤ 40) (hfg : f + (tw s f).length ≤ g) : ((dval ((tw s f).take k ++ (tw s g).take m) : Nat) : Int).natAbs < 10 ^ 50 := by
 refine len50 (digB_join (digB_tk (tw_dig s f) k) (digB_tk (tw_dig s g) m)) ?_
 have h1 := len_eq s f hf
 have h2 := len_eq s g hg
 rw [List.length_append, List.length_take, List.length_take]
 omega
theorem pow50 {k : Nat} (h : k ≤ 40) : (((10 ^ k : Nat) : Int)).natAbs < 10 ^ 50 := by
 rw [Int.natAbs_natCast]
 exact Nat.lt_of_le_of_lt (Nat.pow_le_pow_right (by decide) h) (by decide)
theorem flo60 {x y : Int} (hx : x.natAbs < 10 ^ 60) (hy : 0 < y) : (flo x y).natAbs < 10 ^ 60 := by
 refine Nat.lt_of_le_of_lt ?_ hx
 unfold flo
 rw [if_pos hy]
 rcases Int.lt_or_le x 0 with ha | ha
 ·
  have h1 := Int.ediv_lt_of_lt_mul hy (show x < 0 * y by omega)
  have h2 : x ≤ x / y := by
   rw [Int.le_ediv_iff_mul_le hy]
   have := Int.mul_le_mul_of_nonneg_left (show 1 ≤ y by omega) (show 0 ≤ -x by omega)
   grind
  omega
 ·
  have h1 := Int.ediv_nonneg ha (show 0 ≤ y by omega)
  have h2 := Int.ediv_le_self y ha
  omega
end Go.Proofs.YtolpfibihialkaaGreatDoor

/- What the walk of the document's Parse leans on. No statement of the seat is proved here. -/
namespace Go.Proofs.YtolpfibihialkaaGreatDoor
open Go Go.RowKit
theorem pd_neg {s : ByteArray} (h0 : 0 < s.size) (hm : s[0].toNat = 45) : pB s.data.toList = true ∧ pD s.data.toList = s.data.toList.drop 1 := by
 have h1 := at_some s h0
 have hc : s[0] = 45 := UInt8.toNat_inj.1 hm
 rw [hc] at h1
 cases e : s.data.toList with
 | nil => rw [e] at h1; cases h1
 | cons c r =>
  rw [e] at h1
  have hc2 : c = 45 := by simpa using h1
  subst hc2
  unfold pB pD Lib.trimPrefix Lib.hasPrefix
  simp [List.isPrefixOf]
theorem pd_pos {s : ByteArray} (h : ∀ h0 : 0 < s.size, s[0].toNat ≠ 45) : pB s.data.toList = false ∧ pD s.data.toList = s.data.toList.drop 0 := by
 have hp : pB s.data.toList = false := by
  unfold pB Lib.hasPrefix
  cases e : s.data.toList with
  | nil => rfl
  | cons c r =>
   have h0 : 0 < s.size := by rw [← size_list, e]; simp
   have h1 := at_some s h0
   rw [e] at h1
   have hc2 : c = s[0] := by simpa using h1
   have hne : (45 == c) = false := by
    rw [beq_eq_false_iff_ne]
    intro e2
    refine h h0 ?_
    rw [← hc2, ← e2]
    rfl
   simp [List.isPrefixOf, hne]
 refine ⟨hp, ?_⟩
 unfold pD Lib.trimPrefix
 rw [show Lib.hasPrefix s.data.toList [45] = false from hp]
 rfl
theorem tw_end2 (s : ByteArray) {g i : Nat} (hg : g ≤ s.size) (he : g + (tw s g).length = i) : (dw s g = [] ∧ i = s.size) ∨ ∃ (hi : i < s.size), dw s g = s[i] :: s.data.toList.drop (i + 1) ∧ isDig s[i] = false := by
 subst he
 exact tw_end s g hg
theorem dW_tw {s : ByteArray} {f : Nat} (h : pD s.data.toList = s.data.toList.drop f) : dW s.data.toList = tw s f ∧ dR s.data.toList = dw s f := by
 unfold dW dR tw dw
 rw [h]
 exact ⟨rfl, rfl⟩
theorem tw_head {s : ByteArray} {f : Nat} (hf : f ≤ s.size) (h : 0 < (tw s f).length) : ∃ hi : f < s.size, (tw s f).head? = some s[f] := by
 obtain ⟨hi, _, h2⟩ := tw_at s f 0 hf h
 refine ⟨hi, ?_⟩
 rw [List.take_zero, List.nil_append] at h2
 have h3 := congrArg List.head? h2
 rw [List.head?_take, if_neg (by decide)] at h3
 exact h3
/-- The digits ahead are none, or a nought ahead of others. -/
theorem ahead_bad {s : ByteArray} {f : Nat} (hf : f ≤ s.size) (hp : pD s.data.toList = s.data.toList.drop f) (h : (tw s f).length = 0 ∨ (1 < (tw s f).length ∧ ∀ hi : f < s.size, s[f].toNat = 48)) : readsB s.data.toList = false := by
 obtain ⟨e1, _⟩ := dW_tw hp
 refine r_ahead ?_
 rw [e1]
 rcases h with h | ⟨h1, h2⟩
 ·
  exact .inl (List.length_eq_zero_iff.1 h)
 ·
  right
  obtain ⟨hi, h3⟩ := tw_head hf (show 0 < (tw s f).length by omega)
  have hc : s[f] = 48 := UInt8.toNat_inj.1 (h2 hi)
  rw [h3, hc, decide_eq_true h1]
  rfl
theorem ahead_ok {s : ByteArray} {f : Nat} (hf : f ≤ s.size) (h0 : 0 < (tw s f).length) (h : (tw s f).length = 1 ∨ ∀ hi : f < s.size, s[f].toNat ≠ 48) : tw s f ≠ [] ∧ ((tw s f).head? == some 48 && decide (1 < (tw s f).length)) = false := by
 refine ⟨fun e => by rw [e] at h0; exact absurd h0 (by decide), ?_⟩
 rcases h with h | h
 ·
  rw [h]; simp
 ·
  obtain ⟨hi, h3⟩ := tw_head hf h0
  rw [h3, show (some s[f] == some (48 : UInt8)) = false from by
   rw [beq_eq_false_iff_ne]
   intro e
   refine h hi ?_
   rw [Option.some.inj e]
   rfl]
  rfl
theorem gMul {x y : Int} (hx : x.natAbs < 10 ^ 60) (hy : y.natAbs < 10 ^ 60) : ∀ (p q : NR) (W : World), p.z = x → q.z = y → p.is W → q.is W → Calls Tryz.prog 35 #[.agg #[.bool p.b, .slice p.a p.n p.c], .agg #[.bool q.b, .slice q.a q.n q.c]] W (PN (x * y) W) := by
 rintro p q W rfl rfl hp hq
 exact nMul p q W hp hq (Nat.le_trans (NR.len hp hx) (by decide)) (Nat.le_trans (NR.len hq hy) (by decide))
theorem g60 {z : Int} (h : z.natAbs < 10 ^ 50) : z.natAbs < 10 ^ 60 ∧ (z * 10).natAbs < 10 ^ 60 := by
 have e1 : (10 : Nat) ^ 50 = 100000000000000000000000000000000000000000000000000 := by decide
 have e2 : (10 : Nat) ^ 60 = 1000000000000000000000000000000000000000000000000000000000000 := by decide
 rw [e1] at h
 rw [e2]
 omega
theorem g60s2 : (1048576 : Int).natAbs < 10 ^ 60 := by decide
theorem g60m {z : Int} (h : z.natAbs < 10 ^ 50) : (z * 1048576).natAbs < 10 ^ 60 := by
 have e1 : (10 : Nat) ^ 50 = 100000000000000000000000000000000000000000000000000 := by decide
 have e2 : (10 : Nat) ^ 60 = 1000000000000000000000000000000000000000000000000000000000000 := by decide
 rw [e1] at h
 rw [e2]
 omega
theorem gQuo {x y : Int} (hx : x.natAbs < 10 ^ 60) (h0 : 0 < y) (hy : y.natAbs < 10 ^ 60) : ∀ (p q : NR) (W : World), p.z = x → q.z = y → p.is W → q.is W → Calls Tryz.prog 40 #[.agg #[.bool p.b, .slice p.a p.n p.c], .agg #[.bool q.b, .slice q.a q.n q.c]] W (PNQ (flo x y) 0 W) := by
 rintro p q W rfl rfl hp hq
 exact nQuo p q W hp hq (Nat.le_trans (NR.len hp hx) (by decide)) (Nat.le_trans (NR.len hq hy) (by decide)) (by omega)
theorem gCut {x : Int} (hx : x.natAbs < 10 ^ 60) : ∀ (p : NR) (W : World), p.z = x → p.is W → Calls Tryz.prog 41 #[.agg #[.bool p.b, .slice p.a p.n p.c]] W (PVal (.tuple #[.int .i64 (cutI x), .bool (cutB x)]) W) := by
 rintro p W rfl hp
 exact rCut_any p.b p.a p.n p.c p.z W hp (Nat.le_trans (NR.len hp hx) (by decide))
theorem pw_next {g j : Nat} (h : g ≤ j) : ((10 ^ (j - g) : Nat) : Int) * 10 = ((10 ^ (j + 1 - g) : Nat) : Int) := by
 rw [show j + 1 - g = (j - g) + 1 by omega, Nat.pow_succ]
 omega
/-- What a good text tells: V the number of its digits, U the power, neg: whether it begins with '-'. -/
def Gd (s : ByteArray) (neg : Bool) (Z U : Int) : Prop := (if neg then (Z ≠ 0 → readsB s.data.toList = true) else readsB s.data.toList = true) ∧ fQ s.data.toList = flo ((if neg then -Z else Z) * 1048576) U ∧ (if neg then (Z = 0 → readsB s.data.toList = false) else True) ∧ Z.natAbs < 10 ^ 50 ∧ (0 < U ∧ U.natAbs < 10 ^ 50)
theorem gd_of {s : ByteArray} {neg : Bool} {Z U : Int} {V : Nat} {k : Nat} (hV : Z = ((V : Nat) : Int)) (h1 : readsB s.data.toList = !(neg && decide (V = 0))) (h2 : fQ s.data.toList = flo (sg neg V * 1048576) ((10 ^ k : Nat) : Int)) (hU : U = ((10 ^ k : Nat) : Int)) (hb : Z.natAbs < 10 ^ 50) (hb2 : U.natAbs < 10 ^ 50) : Gd s neg Z U := by
 have hp : 0 < 10 ^ k := Nat.pow_pos (by decide)
 refine ⟨?_, ?_, ?_, hb, by omega, hb2⟩
 ·
  cases neg
  ·
   rw [h1]; rfl
  ·
   show Z ≠ 0 → _
   intro hz
   rw [h1, decide_eq_false (by omega)]; rfl
 ·
  rw [h2, hU, hV]
  cases neg <;> rfl
 ·
  cases neg
  ·
   trivial
  ·
   show Z = 0 → _
   intro hz
   rw [h1, decide_eq_true (by omega)]; rfl
theorem good_end {s : ByteArray} {f : Nat} {neg : Bool} {Z : Int} (hf : f ≤ s.size) (hs : s.size ≤ 40) (hpB : pB s.data.toList = neg) (hpD : pD s.data.toList = s.data.toList.drop f) (hdw : dw s f = []) (k1 : tw s f ≠ []) (k2 : ((tw s f).head? == some 48 && decide (1 < (tw s f).length)) = false) (hZ : Z = ((dval (tw s f) : Nat) : Int)) : Gd s neg Z 1 := by
 have hr := r_good (l := s.data.toList) (B := []) (by rw [(dW_tw hpD).1]; exact k1) (by rw [(dW_tw hpD).1]; exact k2) rfl (Nat.zero_le _) (.inl ⟨by rw [(dW_tw hpD).2]; exact hdw, rfl⟩)
 rw [(dW_tw hpD).1, List.append_nil, hpB] at hr
 have hl := len_eq s f hf
 exact gd_of (k := 0) hZ hr.1 hr.2 rfl (by rw [hZ]; exact len50 (tw_dig s f) (by omega)) (by decide)
theorem dot_cons {s : ByteArray} {i : Nat} (hi : i < s.size) (h : chr s i = 46) : s[i] = 46 := UInt8.toNat_inj.1 (by rw [← chr_eq hi, h]; rfl)
theorem stop_bad {s : ByteArray} {f i : Nat} (hi : i < s.size) (hpD : pD s.data.toList = s.data.toList.drop f) (hdw : dw s f = s[i] :: s.data.toList.drop (i + 1)) (h : ¬ chr s i = 46) : readsB s.data.toList = false := r_bad (c := s[i]) (by rw [(dW_tw hpD).2]; exact hdw) fun e => h (by rw [chr_eq hi, e]; rfl)
theorem behind_bad {s : ByteArray} {f g i : Nat} (hi : i < s.size) (hpD : pD s.data.toList = s.data.toList.drop f) (hdw : dw s f = s[i] :: s.data.toList.drop (i + 1)) (h : chr s i = 46) (hg : g = i + 1) (hb : tw s g = [] ∨ dw s g ≠ [] ∨ 20 < (tw s g).length) : readsB s.data.toList = false := by
 subst hg
 refine r_behind (B := s.data.toList.drop (i + 1)) ?_ hb
 rw [(dW_tw hpD).2, hdw, dot_cons hi h]
theorem good_dot {s : ByteArray} {f g i : Nat} {neg : Bool} {Z U : Int} (hf : f ≤ s.size) (hs : s.size ≤ 40) (hpB : pB s.data.toList = neg) (hpD : pD s.data.toList = s.data.toList.drop f) (hi : i < s.size) (hdw : dw s f = s[i] :: s.data.toList.drop (i + 1)) (h : chr s i = 46) (hg : g = i + 1) (hdv : dw s g = []) (k1 : tw s f ≠ []) (k2 : ((tw s f).head? == some 48 && decide (1 < (tw s f).length)) = false) (c0 : 0 < (tw s g).length) (c20 : (tw s g).length ≤ 20) (hZ : Z = ((dval (tw s f ++ tw s g) : Nat) : Int)) (hU : U = ((10 ^ (tw s g).length : Nat) : Int)) (hb : Z.natAbs < 10 ^ 50) (hb2 : U.natAbs < 10 ^ 50) : Gd s neg Z U := by
 subst hg
 have e1 : s.data.toList.drop (i + 1) = tw s (i + 1) := by
  have := twdw s (i + 1)
  rw [hdv, List.append_nil] at this
  exact this
 have hr := r_good (l := s.data.toList) (B := tw s (i + 1)) (by rw [(dW_tw hpD).1]; exact k1) (by rw [(dW_tw hpD).1]; exact k2) (tw_dig s _) c20 (.inr ⟨by rw [(dW_tw hpD).2, hdw, dot_cons hi h, e1], fun e => by rw [e] at c0; exact absurd c0 (by decide)⟩)
 rw [(dW_tw hpD).1, hpB] at hr
 exact gd_of (k := (tw s (i + 1)).length) hZ hr.1 hr.2 hU hb hb2
end Go.Proofs.YtolpfibihialkaaGreatDoor

/- The document's Parse of nothing, and of too long a text. No statement of the seat is proved here. -/
namespace Go.Proofs.YtolpfibihialkaaGreatDoor
open Go Go.RowKit
set_option maxRecDepth 100000 in
set_option maxHeartbeats 25600000 in
theorem rfParse_nil (s : ByteArray) {X0 : Nat → Prop} (w : World) (hX : NX X0 w) (hs0 : s.size = 0) : Calls Tryz.prog 7 #[.string s] w (PVal (.tuple #[.int .i64 (fxV s.data.toList), .bool (fxC s.data.toList), .int .i64 (fxE s.data.toList)]) w) := by
 have HS0 := Lib.hid hs0
 have HR : Hid (readsB s.data.toList = false) := by
  have e : s.data.toList = [] := List.eq_nil_of_length_eq_zero (by rw [size_list]; exact hs0)
  show _ = _
  rw [e]
  decide
 clear hs0
 have hZ0 := zs_start hX
 go_enter Tryz.func7, Tryz.ntmps7
 go_wp2_with (refine stop_op rfl (fun K hK => wp_lenst (.tmp 18) 9 (by kernel_rfl) rfl rfl (hK _ _ ?_)))
 unfold Stop
 try simp only [Act.put, zzC, zzD, zzE]
 go_wp2_with (refine stop_op rfl (fun K hK => wp_gtri (.tmp 19) (.const (.int .i64 40)) rfl rfl rfl (r := false) (decide_eq_false (by have := HS0.out; omega)) (hK _ _ ?_)))
 unfold Stop
 try simp only [Act.put, zzC, zzD, zzE]
 go_wp2_with (refine stop_op rfl (fun K hK => wp_lenst (.tmp 21) 9 (by kernel_rfl) rfl rfl (hK _ _ ?_)))
 unfold Stop
 try simp only [Act.put, zzC, zzD, zzE]
 go_wp2_with (refine stop_op rfl (fun K hK => wp_gtri (.tmp 22) (.const (.int .i64 0)) rfl rfl rfl (r := false) (decide_eq_false (by have := HS0.out; omega)) (hK _ _ ?_)))
 unfold Stop
 try simp only [Act.put, zzC, zzD, zzE]
 go_wp2_with (refine stopz_alloc 56 #[.bool false, .slice none 0 0] (.agg #[.bool false, .slice none 0 0]) rfl rfl zv56 rfl hZ0 (fun bk1 X1 W1 hZ1 => ?_))
 clear hZ0
 unfold Stop
 try simp only [Act.put, zzC, zzD, zzE]
 go_wp2_with (refine stopz_store 56 (.tmp 7) (.tmp 30) 0 bk1 0 #[.bool false, .slice none 0 0] 56 2 [.bool false, .slice none 0 0] #[.bool false, .slice none 0 0] [(bk1, #[.bool false, .slice none 0 0], 56)] rfl rfl rfl rfl sz56 hZ1 rfl rfl (zzF (by kernel_rfl)) (by kernel_rfl) (by kernel_rfl) (by kernel_rfl) (fun W2 hZ2 => ?_))
 clear hZ1
 unfold Stop
 try simp only [Act.put, zzC, zzD, zzE]
 go_wp2_with fail
 refine (zOfr hZ2.nx (by omega) (by omega)).mono ?_
 rintro zz W3 ⟨q1, rfl, ez_q1, hi_q1, hB⟩
 have hZ3 := hZ2.later hB
 clear hB
 clear hZ2
 have hZ4 := hZ3.more (f := q1.ir) q1.stbr hi_q1
 clear hZ3
 clear hi_q1
 go_wp2_with (refine stopz_alloc 56 #[.bool false, .slice none 0 0] (.agg #[.bool false, .slice none 0 0]) rfl rfl zv56 rfl hZ4 (fun bk2 X5 W4 hZ5 => ?_))
 clear hZ4
 unfold Stop
 try simp only [Act.put, zzC, zzD, zzE]
 go_wp2_with (refine stopz_store 56 (.tmp 8) (.tmp 31) 0 bk2 0 #[.bool false, .slice none 0 0] 56 2 [.bool q1.b, .slice q1.a q1.n q1.c] #[.bool q1.b, .slice q1.a q1.n q1.c] [(bk2, #[.bool q1.b, .slice q1.a q1.n q1.c], 56), (bk1, #[.bool false, .slice none 0 0], 56)] rfl rfl rfl rfl sz56 hZ5 rfl rfl (zzF (by kernel_rfl)) (by kernel_rfl) (by kernel_rfl) (by kernel_rfl) (fun W5 hZ6 => ?_))
 clear hZ5
 unfold Stop
 try simp only [Act.put, zzC, zzD, zzE]
 have hZ7 := hZ6.only [] (by simp)
 clear hZ6
 go_wp2
 go_loopw [5] (fun iv wr => iv = .int .i64 ((0 : Nat) : Int) ∧ ∃ X : Nat → Prop, Zs w wr X0 X [(bk2, #[.bool q1.b, .slice q1.a q1.n q1.c], 56), (bk1, #[.bool false, .slice none 0 0], 56)] []) (fun iv _ => 0)
 case atStart => exact ⟨rfl, _, hZ7⟩
 case round =>
  clear hZ7
  obtain ⟨rfl, X, hZ⟩ := hrel
  go_wp2_with (refine stop_op rfl (fun K hK => wp_lenst (.tmp 34) 9 (by kernel_rfl) rfl rfl (hK _ _ ?_)))
  unfold Stop
  try simp only [Act.put, zzC, zzD, zzE]
  go_wp2_with (refine stop_op rfl (fun K hK => wp_lssi (.tmp 33) (.tmp 35) rfl rfl rfl (r := false) (decide_eq_false (by have := HS0.out; omega)) (hK _ _ ?_)))
  unfold Stop
  try simp only [Act.put, zzC, zzD, zzE]
  go_wp2_with (refine stop_op rfl (fun K hK => wp_eqli (.tmp 61) (.tmp 62) 3 3 rfl rfl rfl rfl (r := true) (decide_eq_true (by rfl)) (hK _ _ ?_)))
  unfold Stop
  try simp only [Act.put, zzC, zzD, zzE]
  go_wp2
  exact bodyPost_ret (v := .tuple #[.int .i64 0, .bool false, .int .i64 10]) (by simp [results, Tryz.results7, go_sem]) rfl ⟨by rw [(fx_bad HR.out).1, (fx_bad HR.out).2.1, (fx_bad HR.out).2.2], hZ.below⟩
set_option maxRecDepth 100000 in
theorem rfParse_long (s : ByteArray) (w : World) (hs : 40 < s.size) (hs' : s.size ≤ maxLen) : Calls Tryz.prog 7 #[.string s] w (PVal (.tuple #[.int .i64 0, .bool false, .int .i64 2]) w) := by
 unfold maxLen at hs'
 have d : decide (40 < (s.size : Int)) = true := decide_eq_true (by omega)
 go_enter Tryz.func7, Tryz.ntmps7
 go_wp2
 exact bodyPost_ret (v := .tuple #[.int .i64 0, .bool false, .int .i64 2]) (by simp [results, Tryz.results7, go_sem]) rfl ⟨rfl, Below.refl _ _⟩
end Go.Proofs.YtolpfibihialkaaGreatDoor
