/- Parts of the proof. -/
import Derived.Test.YtolpfibihialkaaGreatDoorGq14
import Derived.Laws.AppendOwnNone
/- The document's numbers: the walk of parted. -/
namespace Go.Proofs.YtolpfibihialkaaGreatDoor
open Go.RowKit
theorem fit10_le {n M R : Nat} (h : Fit10 n R) (hM : R < 10 ^ M) : n ≤ M := by
 refine Nat.le_of_not_lt fun hc => ?_
 rcases h.2 with h0 | h0
 ·
  omega
 ·
  have h1 : 10 ^ M ≤ 10 ^ (n - 1) := Nat.pow_le_pow_right (by decide) (by omega)
  omega
theorem vals_cons (R x n : Nat) (hx : x < 10) : Value.int .i64 ((x : Nat) : Int) :: vals .i64 (dig R) n = vals .i64 (dig (10 * R + x)) (n + 1) := by
 unfold vals
 rw [List.range_succ_eq_map, List.map_cons, List.map_map, part_dig R x hx 0, if_pos rfl]
 congr 1
 refine List.map_congr_left fun i _ => ?_
 show _ = Value.int .i64 ((dig (10 * R + x) (i + 1) : Nat) : Int)
 rw [part_dig R x hx (i + 1), if_neg (Nat.succ_ne_zero i), Nat.add_sub_cancel]
theorem lie_news {w : World} {p : Addr} {n c : Nat} {f : Nat → Nat} (h : Lie .i64 w (some p) n c f) : ∀ j u, (vals .i64 f n)[j]? = some u → w.cell? (p.add j) = some u := by
 intro j u hu
 have hj : j < n := by
  have := (List.getElem?_eq_some_iff.1 hu).1
  rwa [vals_len] at this
 rw [vals_get _ _ _ _ hj] at hu
 obtain ⟨hs, _⟩ := h.spot p rfl
 have hc := h.cell p rfl j hj
 rw [← hu, ← hc]
 obtain ⟨b, o, s⟩ := p
 cases hs
 simp only [Addr.add]
 split
 ·
  next h0 => rw [h0, Nat.add_zero]
 ·
  rfl
theorem vals_one (f : Nat → Nat) (n : Nat) : ∀ u ∈ vals .i64 f n, u.oneCell' = true := by
 intro u hu
 unfold vals at hu
 obtain ⟨i, _, rfl⟩ := List.mem_map.1 hu
 rfl
theorem run_fieldD (bl : Bool) (a : Option Addr) (n c : Nat) (w : World) : Sem.run Tryz.prog (Instr.field 56 (.agg #[.bool bl, .slice a n c]) 1) w = .ok (.slice a n c) w := by kernel_rfl
attribute [local go_sem] run_fieldD
/-- append of a row that lies anywhere, or of none. -/
theorem wpList_append_lie {P : Program} {w : World} {ops : Array Oper} {rest : List Oper} {o : Oper} {a : Act} {Q : Exit → Act → World → Prop} (hgd : o.guard = none) (s x : Operand) (t : TypeId)
  (ho : o.op = .call { callee := .builtin .append, args := #[s, x], argTypes := #[t, t] })
  (base : Nat) (e : TypeId) (i : TypeInfo) (z : Value) (bytes : Nat) (ht : P.underlying t = some (.slice e)) (hi : P.info? e = some i) (hz : i.zero = some z)
  (hsize : i.size = 1) (hby : i.bytes = bytes) (hzs : z.cells.size = 1)
  (v : Value) (n : Nat) (xs : List Value) (hs : a.eval s = v) (hown : w.ownsRow base e 1 v n xs)
  (ar : Option Addr) (m c : Nat) (f : Nat → Nat) (hx : a.eval x = .slice ar m c) (hl : Lie .i64 w ar m c f)
  (h63 : n + m ≤ maxLen) (hbytes : (n + m) * bytes ≤ 140737488355328) (hbase : base ≤ w.heap.size)
  (h : ∀ v' w', w'.ownsRow base e 1 v' (n + m) (xs ++ vals .i64 f m) → w.grownBy w' v.ownBlock → wpList P ops Q rest (a.put o.dst v') w') : wpList P ops Q (o :: rest) a w := by
 cases ar with
 | none =>
  obtain ⟨rfl, rfl⟩ := hl.nil rfl
  exact wpList_append_own_none hgd s x t ho base e i 1 ht hi v n xs hs hown hx (h v w (by simpa [vals] using hown) ⟨rfl, rfl, rfl, Nat.le_refl _, fun _ _ _ => rfl⟩)
 | some p => exact wpList_append_own w hgd s x t ho base e i z 1 bytes ht hi hz hsize hby hzs (by decide) v n xs hs hown p m c (vals .i64 f m) hx (by rw [vals_len, Nat.mul_one]) (lie_news hl) (vals_one f m) h63 hbytes hbase (fun v' w' h1 h2 _ => h v' w' h1 h2)
/-- Digits with their number, in memory that is not block g. -/
structure Rst (w0 : World) (g : Nat) (w : World) (a : Option Addr) (n c R : Nat) : Prop where
 lie : Lie .i64 w a n c (dig R)
 fit : Fit10 n R
 far : ∀ p, a = some p → w0.heap.size ≤ p.block ∧ p.block ≠ g
theorem Rst.below {w0 : World} {g : Nat} {w w' : World} {a : Option Addr} {n c R : Nat} (h : Rst w0 g w a n c R) (hb : Below w.heap.size w w') : Rst w0 g w' a n c R := ⟨h.lie.below hb, h.fit, h.far⟩
theorem rst_made {w0 w v : World} {g : Nat} {bl : Bool} {a : Option Addr} {n c N : Nat} (h : RNum w bl a n c (sg false N)) (hf : ∀ p, a = some p → v.heap.size ≤ p.block) (h0 : w0.heap.size ≤ v.heap.size) (hg : g < v.heap.size) : Rst w0 g w a n c N :=
 ⟨by have := h.lie; rwa [sg_abs] at this, by have := h.fit; rwa [sg_abs] at this, fun p hp => by have := hf p hp; omega⟩
theorem pcmp_ge {A B : Nat} (h : B ≤ A) : decide (0 ≤ cmpN A B) = true := by
 refine decide_eq_true ?_
 unfold cmpN
 rw [if_neg (by omega)]
 split <;> decide
theorem pcmp_below {A B : Nat} (h : A < B) : decide (0 ≤ cmpN A B) = false := by
 refine decide_eq_false ?_
 unfold cmpN
 rw [if_pos h]
 decide
/-- How often the divisor has still to be taken off. -/
def partM (g k : Nat) (w : World) : Nat := 10 - (intOf ((w.cell? ⟨g, k, none⟩).getD (.int .i64 0))).toNat
theorem partM_own {w : World} {g n k : Nat} {e : TypeId} {f : Nat → Nat} (h : Own .i64 e w g n f) (hk : k < n) : partM g k w = 10 - f k := by
 unfold partM
 rw [h.cell k hk]
 simp [intOf]
/-- A row and digits with their number, both in new memory. -/
def PParted (A B n : Nat) (w : World) (e : Ending) (w' : World) : Prop :=
 ∃ (g : Nat) (a : Option Addr) (m c : Nat), e = .returned (.tuple #[.slice (some ⟨g, 0, none⟩) n n, .slice a m c]) ∧ w.heap.size ≤ g ∧ Own .i64 3 w' g n (dig (A / B)) ∧ Rst w g w' a m c (A % B) ∧ Below w.heap.size w w'
set_option maxHeartbeats 3200000 in
set_option maxRecDepth 4000 in
theorem rparted_any (a b : Option Addr) (n c m d A B : Nat) (w : World) (ha : Lie .i64 w a n c (dig A)) (hb : Lie .i64 w b m d (dig B)) (hA : A < 10 ^ n) (fb : Fit10 m B) (hB : 0 < B) (hn : n ≤ 1000000) (hm : m ≤ 1000000) :
  Calls Tryz.prog 83 #[.slice a n c, .slice b m d] w (PParted A B n w) := by
 obtain ⟨i0, hi0, hz0, hzz1, hzz2⟩ := info_parts Tryz.rinfo3
 have HI := Lib.hid (And.intro hi0 (And.intro hz0 (And.intro hzz1 hzz2)))
 have HA := Lib.hid hA
 have HFB := Lib.hid fb
 have HB := Lib.hid hB
 clear hi0 hz0 hzz1 hzz2 hA fb hB
 have hn4 : 8 * n ≤ 281474976710656 := by omega
 have hn6 : n ≤ 9223372036854775807 := by omega
 go_enter Tryz.func83, Tryz.ntmps83
 go_wp2_with (first | (at_make; refine wpList_mk _ rfl (.tmp 10) (.tmp 10) 54 rfl 3 .i64 8 Tryz.ru54 Tryz.rinfo3 _ _ n rfl rfl (by omega) (by omega) hn4 hn6 ?_; intro g w2 hg hown hb2))
 go_loopw [7, 8] (fun rv iv wr => ∃ (k : Nat) (ar : Option Addr) (nr cr : Nat), k ≤ n ∧ rv = .slice ar nr cr ∧ iv = .int .i64 ((k : Int) - 1) ∧ Rst w g wr ar nr cr (A / 10 ^ k % B) ∧ Own .i64 3 wr g n (partQ (A / B) k) ∧ Below w.heap.size w wr) (fun _ iv _ => (intOf iv + 1).toNat)
 case atStart => exact ⟨n, none, 0, 0, Nat.le_refl _, rfl, by go_num, ⟨lie_nil _ _ _, by rw [part_first HA.out]; exact fit10_zero, fun p hp => by cases hp⟩, hown.congr (fun p hp => (partQ_start _ _ p hp).symm), hb2⟩
 case round =>
  clear hown hb2
  obtain ⟨k, ar, nr, cr, hk, rfl, rfl, hR, hown, hbl⟩ := hrel
  cases k with
  | zero =>
   have HR : Hid (Rst w g wr ar nr cr (A % B)) := by show Rst _ _ _ _ _ _ _; rw [Nat.pow_zero, Nat.div_one] at hR; exact hR
   have HO : Hid (Own .i64 3 wr g n (dig (A / B))) := hown.congr (partQ_end _ n)
   clear hR hown
   go_wp2
   go_ret2
   exact ⟨g, ar, nr, cr, rfl, hg, HO.out, HR.out, hbl⟩
  | succ k =>
   rw [show (((k + 1 : Nat) : Int) - 1) = (k : Int) by omega]
   obtain ⟨b1, o1, rfl, hb1⟩ := ha.some_of_pos (by omega)
   have c1 := (ha.below hbl).at k (by omega)
   have hdl := dig_lt A k
   obtain ⟨R, hRe⟩ : ∃ R : Nat, R = A / 10 ^ (k + 1) % B := ⟨_, rfl⟩
   rw [← hRe] at hR
   obtain ⟨x, hx⟩ : ∃ x : Nat, x = dig A k := ⟨_, rfl⟩
   rw [← hx] at c1 hdl
   have HS : Hid (10 * R + x = partS A B k) := by show _ = _; unfold partS; rw [hRe, hx]
   have hnr : nr ≤ m := fit10_le hR.fit (Nat.lt_trans (by rw [hRe]; exact Nat.mod_lt _ HB.out) HFB.out.1)
   have hmx : nr + 1 ≤ maxLen := by unfold maxLen; omega
   have hlr := hR.lie.below ((Below.refl wr.heap.size wr).alloc (Nat.le_refl _) (.cells #[.int .i64 ((x : Nat) : Int)] 3))
   have HRF := Lib.hid hR.fit
   clear hR hRe hx
   go_wp2_with (first
    | (at_builtin; refine wpList_append_lie rfl _ _ 54 rfl wr.heap.size 3 i0 (.int .i64 0) 8 Tryz.ru54 HI.out.1 HI.out.2.1 HI.out.2.2.1 HI.out.2.2.2 rfl _ 1 [.int .i64 ((x : Nat) : Int)] rfl ?pc1 ar nr cr (dig R) rfl ?pc2 ?pc3 ?pc4 ?pc5 ?_)
    | fail)
   case pc1 => exact World.ownsRow_lit wr #[.int .i64 ((x : Nat) : Int)] 1 (Nat.le_refl _) (by unfold maxLen; omega) rfl
   case pc2 => exact hlr
   case pc3 => omega
   case pc4 => omega
   case pc5 => simp
   intro v' w3 hown' hgrow
   rw [vals_cons R x nr hdl, HS.out, Nat.add_comm 1 nr] at hown'
   have hba : Below wr.heap.size wr w3 := ((Below.refl _ _).alloc (Nat.le_refl _) _).grown hgrow (by simp) (fun q hq => by cases hq; exact Nat.le_refl _)
   obtain ⟨a4, c4, rfl, hl4, hfr4⟩ := owned_fresh hown'
   have HF : Hid (partS A B k < 10 ^ (nr + 1)) := by show _ < _; rw [← HS.out]; exact part_fit hdl HRF.out.1
   have ho3 := hown.below hba
   have hb3 : Below w.heap.size w w3 := hbl.trans (hba.mono hbl.size)
   have hgl := hown.lt
   have hsz := hbl.size
   clear hown' hgrow hba hlr hown c1
   go_wp2_with fail
   refine (rmade_any false a4 (nr + 1) c4 (partS A B k) _ hl4 HF.out).mono ?_
   rintro e w4 ⟨bl4, n4, c5, rfl, hnum, hb4⟩
   have hR4 : Rst w g w4 a4 n4 c5 (partS A B k) := rst_made hnum hfr4 hsz hgl
   have ho4 := ho3.below hb4
   have hb4' : Below w.heap.size w w4 := hb3.trans (hb4.mono hb3.size)
   clear hnum hfr4 hl4 hgl hsz ho3 hb3 hb4 hbl HRF HF HS hnr hmx hdl
   go_wp2
   go_loopw [7] (fun rv wr => ∃ (j : Nat) (ar : Option Addr) (nr cr : Nat), rv = .slice ar nr cr ∧ j * B ≤ partS A B k ∧ Rst w g wr ar nr cr (partS A B k - j * B) ∧ Own .i64 3 wr g n (partJ (A / B) k j) ∧ Below w.heap.size w wr) (fun _ wr => partM g k wr)
   case atStart => exact ⟨0, a4, n4, c5, rfl, by rw [Nat.zero_mul]; exact Nat.zero_le _, by rw [Nat.zero_mul, Nat.sub_zero]; exact hR4, ho4.congr (partJ_start _ k n), hb4'⟩
   case round =>
    clear ho4 hR4 hb4'
    obtain ⟨j, ar, nr, cr, rfl, hj, hR, hown, hbl⟩ := hrel
    have HJ := Lib.hid hj
    have hlr := hR.lie
    have hfr := hR.fit
    have hlb := hb.below hbl
    clear hj
    go_wp2_with fail
    refine (rsize_any ar b nr cr m d (partS A B k - j * B) B _ hlr hlb hfr HFB.out).mono ?_
    rintro e w5 ⟨rfl, hb5⟩
    have hR5 := hR.below hb5
    have ho5 := hown.below hb5
    have hb5' : Below w.heap.size w w5 := hbl.trans (hb5.mono hbl.size)
    have hm0 := Lib.hid (partM_own hown (show k < n by omega))
    clear hlr hlb hfr hR hown hb5 hbl
    by_cases hc : B ≤ partS A B k - j * B
    ·
     have hcd := pcmp_ge hc
     have hj10 := part_few HB.out HJ.out
     obtain ⟨HJ2, HE⟩ := part_more hc HJ.out
     have HJ2 := Lib.hid HJ2
     have HE := Lib.hid HE
     have HC := Lib.hid hc
     have hnr : nr ≤ m + 1 := fit10_le hR5.fit (Nat.lt_of_le_of_lt (Nat.sub_le _ _) (Nat.lt_trans (partS_lt HB.out) (by have := HFB.out.1; rw [Nat.pow_succ]; omega)))
     have hl5 := hR5.lie
     have hf5 := Lib.hid hR5.fit.1
     have hlb5 := hb.below hb5'
     generalize cmpN (partS A B k - j * B) B = cc at *
     clear hc hR5
     go_wp2_with fail
     refine (rless_any ar b nr cr m d (partS A B k - j * B) B _ hl5 hlb5 hf5.out HFB.out.1 HC.out (by omega) (by omega)).mono ?_
     rintro e w6 ⟨a6, m6, c6, rfl, hl6, hN6, hfr6, hb6⟩
     rw [HE.out] at hl6 hN6
     have ho6 := ho5.below hb6
     have hgl := ho5.lt
     have hsz := hb5'.size
     have hb6' : Below w.heap.size w w6 := hb5'.trans (hb6.mono hb5'.size)
     have HN6 := Lib.hid hN6
     clear hl5 hlb5 ho5 hb6 hb5' hN6
     go_wp2_with fail
     refine (rmade_any false a6 m6 c6 (partS A B k - (j + 1) * B) _ hl6 HN6.out).mono ?_
     rintro e w7 ⟨bl7, n7, c7, rfl, hnum, hb7⟩
     have hR7 : Rst w g w7 a6 n7 c7 (partS A B k - (j + 1) * B) := rst_made hnum hfr6 hsz hgl
     have ho7 := ho6.below hb7
     have hb7' : Below w.heap.size w w7 := hb6'.trans (hb7.mono hb6'.size)
     have c4 : w7.cell? ⟨g, k, none⟩ = some (.int .i64 ((j : Nat) : Int)) := by rw [ho7.cell k (by omega), partJ_at]
     have c5 := ho7.free k
     clear hl6 hfr6 hnum hb7 ho6 hb6' hgl hsz
     go_wp2
     have ho8 := ho7.put (i := k) (x := (j : Int) + 1) (F := partJ (A / B) k (j + 1)) (by omega) (by rw [partJ_at]; rfl) (partJ_more _ k j (j + 1) n)
     go_roundw
     case rel => exact ⟨j + 1, a6, n7, c7, rfl, HJ2.out, ⟨hR7.lie.only (Only.setCell _ _ _ _) (fun p hp => (hR7.far p hp).2), hR7.fit, hR7.far⟩, ho8, hb7'.setCell (p := ⟨g, k, none⟩) hg _⟩
     case measure => rw [partM_own ho8 (by omega), hm0.out, partJ_at, partJ_at]; omega
    ·
     have hcd := pcmp_below (Nat.lt_of_not_le hc)
     obtain ⟨hje, hre⟩ := part_last HB.out HJ.out (Nat.lt_of_not_le hc)
     rw [hre] at hR5
     have HO : Hid (Own .i64 3 w5 g n (partQ (A / B) k)) := by
      rw [hje] at ho5
      exact ho5.congr (partJ_end _ k n)
     generalize cmpN (partS A B k - j * B) B = cc at *
     clear ho5 hm0 hre hje hc
     go_wp2
     go_roundw
     case rel => exact ⟨k, ar, nr, cr, by omega, rfl, by go_num, hR5, HO.out, hb5'⟩
     case measure => simp [intOf]
end Go.Proofs.YtolpfibihialkaaGreatDoor
