/- Parts of the proof. -/
import Derived.Test.YtpahkpcoinbgcaaGs11
import Derived.Test.YtpahkpcoinbgcaaGs14
import Derived.Test.YtpahkpcoinbgcaaGs17
/- The document's numbers: the walk of Root (as part Rroot, over the roots of part Sm). -/
namespace Go.Proofs.Ytpahkpcoinbgcaa
open Go.RowKit
/-- A number of the document's is handed back, and an error's number. -/
def PRR (z er : Int) (w : World) (e : Ending) (w' : World) : Prop :=
 ∃ (b1 : Bool) (a1 : Option Addr) (n1 c1 : Nat), e = .returned (.tuple #[.agg #[.bool b1, .slice a1 n1 c1], .int .i64 er]) ∧ RNum w' b1 a1 n1 c1 z ∧ Below w.heap.size w w'
/-- What Root is given, and the place of its result. -/
structure RRB (w W : World) (bl : Bool) (a : Option Addr) (n c : Nat) : Prop where
 below : Below w.heap.size w W
 X : Bx W 71 w.heap.size (.bool bl) (.slice a n c)
 A : Bx W 71 (w.heap.size + 1) (.bool false) (.slice none 0 0)
theorem RRB.later {w W W' : World} {bl : Bool} {a : Option Addr} {n c : Nat} (h : RRB w W bl a n c) (hb : Below W.heap.size W W') : RRB w W' bl a n c := ⟨h.below.trans (hb.mono h.below.size), h.X.below hb, h.A.below hb⟩
theorem rrb_mk (w : World) (bl : Bool) (a : Option Addr) (n c : Nat) : RRB w ((w.alloc (.cells #[.bool bl, .slice a n c] 71)).alloc (.cells #[.bool false, .slice none 0 0] 71)) bl a n c := by
 have hal : ∀ (W : World) (o : Obj), Below W.heap.size W (W.alloc o) := fun W o => (Below.refl _ _).alloc (Nat.le_refl _) _
 have s1 : (w.alloc (.cells #[.bool bl, .slice a n c] 71)).heap.size = w.heap.size + 1 := by simp
 refine ⟨((Below.refl w.heap.size w).alloc (Nat.le_refl _) _).alloc (by simp) _, (bx_new w _ _ _).below (hal _ _), ?_⟩
 have h := bx_new (w.alloc (.cells #[.bool bl, .slice a n c] 71)) 71 (.bool false) (.slice none 0 0)
 rwa [s1] at h
theorem cmp_le {A B : Nat} (h : A ≤ B) : decide (cmpI (A : Int) (B : Int) ≤ 0) = true := by
 refine decide_eq_true ?_
 unfold cmpI
 split
 ·
  decide
 ·
  rw [if_neg (by omega)]; decide
theorem cmp_gt {A B : Nat} (h : B < A) : decide (cmpI (A : Int) (B : Int) ≤ 0) = false := by
 refine decide_eq_false ?_
 unfold cmpI
 rw [if_neg (by omega), if_pos (by omega)]
 decide
attribute [local go_sem] run_fieldD
set_option maxRecDepth 100000 in
set_option maxHeartbeats 3200000 in
theorem rRoot_pos (a : Option Addr) (n c N : Nat) (w : World) (h : RNum w false a n c ((N : Nat) : Int)) (hn : n ≤ 1000000) :
  Calls Try.prog 88 #[.agg #[.bool false, .slice a n c]] w (PRR ((isq N : Nat) : Int) 0 w) := by
 obtain ⟨i0, hi0, hz0, hzz1, hzz2⟩ := info_parts Try.rinfo3
 have HI := Lib.hid (And.intro hi0 (And.intro hz0 (And.intro hzz1 hzz2)))
 clear hi0 hz0 hzz1 hzz2
 obtain ⟨s1, s2⟩ := isq_spec N
 generalize isq N = S at *
 have hfit := h.fit.1
 rw [Int.natAbs_natCast] at hfit
 have HSL : Hid (S < 10 ^ (n / 2 + 1)) := root_len s1 hfit
 have HS1 := Lib.hid s1
 have HS2 := Lib.hid s2
 have H := Lib.hid h
 clear h s1 s2 hfit
 have hn4 : 8 * (n / 2 + 1) ≤ 281474976710656 := by omega
 have hn6 : n / 2 + 1 ≤ 9223372036854775807 := by omega
 have hX1 := rrb_mk w false a n c
 go_enter Try.func88, Try.ntmps88
 go_wp2_with (first | (at_make; refine wpList_mk _ rfl (.tmp 15) (.tmp 15) 69 rfl 3 .i64 8 Try.ru69 Try.rinfo3 _ _ (n / 2 + 1) rfl rfl (by omega) (by omega) hn4 hn6 ?_; intro g w2 hg hown hb2))
 generalize (w.alloc (.cells #[.bool false, .slice a n c] 71)).alloc (.cells #[.bool false, .slice none 0 0] 71) = w1 at hX1 hg hb2
 obtain ⟨m, hm⟩ : ∃ m, n / 2 + 1 = m := ⟨_, rfl⟩
 rw [hm] at hown hn4 hn6 HSL ⊢
 have hmn : m ≤ 1000000 := by omega
 have HM := Lib.hid hm
 clear hm
 go_loopw [5] (fun iv wr => ∃ k : Nat, k ≤ m ∧ iv = .int .i64 ((k : Int) - 1) ∧ Own .i64 3 wr g m (partQ S k) ∧ Below w1.heap.size w1 wr) (fun iv _ => (intOf iv + 1).toNat)
 case atStart => exact ⟨m, Nat.le_refl _, (by have := HM.out; show Value.int .i64 ((n : Int) / 2) = .int .i64 ((m : Int) - 1); congr 1; omega), hown.congr (fun p hp => (partQ_start _ _ p hp).symm), hb2⟩
 case round =>
  clear hown hb2
  obtain ⟨k, hk, rfl, hown, hbl⟩ := hrel
  have hXr := hX1.later hbl
  cases k with
  | zero =>
   have HO : Hid (Own .i64 3 wr g m (dig S)) := hown.congr (partQ_end _ m)
   clear hown
   go_wp2_with fail
   refine (rmade_any false _ m m S _ (HO.out.lie (Nat.le_refl _) (by unfold maxLen; omega)) HSL.out).mono ?_
   rintro e w3 ⟨bl3, n3, c3, rfl, hnum, hb3⟩
   have hX3 := hXr.later hb3
   obtain ⟨q0, q1, q2, q3⟩ := hX3.A.cells
   have hst := hnum.store hX3.A (.bool bl3) (.slice (some ⟨g, 0, none⟩) n3 c3)
   have hbs : Below w.heap.size w ((w3.setCell ⟨w.heap.size + 1, 0, none⟩ (.bool bl3)).setCell ⟨w.heap.size + 1, 1, none⟩ (.slice (some ⟨g, 0, none⟩) n3 c3)) := (hX3.below.setCell (p := ⟨w.heap.size + 1, 0, none⟩) (Nat.le_succ _) _).setCell (p := ⟨w.heap.size + 1, 1, none⟩) (Nat.le_succ _) _
   clear hnum hXr hX1
   go_wp2
   refine bodyPost_ret (v := .tuple #[.agg #[.bool bl3, .slice (some ⟨g, 0, none⟩) n3 c3], .int .i64 0]) (by simp [results, Try.results88, go_sem, q0, q1]) rfl ?_
   exact ⟨bl3, _, n3, c3, rfl, hst, hbs⟩
  | succ k =>
   rw [show (((k + 1 : Nat) : Int) - 1) = (k : Int) by omega]
   have hdl := dig_lt S k
   go_wp2
   go_loopw [6] (fun fv wr => ∃ (j : Nat) (ft : Bool), fv = .bool ft ∧ j ≤ dig S k ∧ (ft = false → j = dig S k) ∧ Own .i64 3 wr g m (partJ S k j) ∧ Below w1.heap.size w1 wr) (fun fv wr => 2 * partM g k wr + (match fv with | .bool true => 1 | _ => 0))
   case atStart => exact ⟨0, true, rfl, Nat.zero_le _, nofun, hown.congr (partJ_start _ k m), hbl⟩
   case round =>
    clear hown hbl hXr
    obtain ⟨j, ft, rfl, hj, hjf, hown, hbl⟩ := hrel
    have HJF := Lib.hid hjf
    clear hjf
    have c4 : wr.cell? ⟨g, k, none⟩ = some (.int .i64 ((j : Nat) : Int)) := by rw [hown.cell k (by omega), partJ_at]
    have c5 := hown.free k
    by_cases hend : ft = false ∨ 9 ≤ j
    ·
     have hje : j = dig S k := by
      rcases hend with h | h
      ·
       exact HJF.out h
      ·
       omega
     have HO : Hid (Own .i64 3 wr g m (partQ S k)) := by
      rw [hje] at hown
      exact hown.congr (partJ_end _ k m)
     clear hown
     rcases hend with rfl | h9
     ·
      by_cases h9 : j < 9
      ·
       have d9 : decide (((j : Nat) : Int) < 9) = true := decide_eq_true (by omega)
       go_wp2
       go_roundw
       case rel => exact ⟨k, by omega, by go_num, HO.out, hbl⟩
       case measure => simp [intOf]
      ·
       have d9 : decide (((j : Nat) : Int) < 9) = false := decide_eq_false (by omega)
       go_wp2
       go_roundw
       case rel => exact ⟨k, by omega, by go_num, HO.out, hbl⟩
       case measure => simp [intOf]
     ·
      have d9 : decide (((j : Nat) : Int) < 9) = false := decide_eq_false (by omega)
      cases ft
      all_goals
       go_wp2
       go_roundw
       case rel => exact ⟨k, by omega, by go_num, HO.out, hbl⟩
       case measure => simp [intOf]
    ·
     have hft : ft = true := by cases ft <;> simp_all
     subst hft
     have h9 : j < 9 := by omega
     have d9 : decide (((j : Nat) : Int) < 9) = true := decide_eq_true (by omega)
     clear hend HJF
     have ho8 := hown.put (i := k) (x := (j : Int) + 1) (F := partJ S k (j + 1)) (by omega) (by rw [partJ_at]; rfl) (partJ_more _ k j (j + 1) m)
     have hb8 := hbl.setCell (p := ⟨g, k, none⟩) hg (.int .i64 ((j : Int) + 1))
     have hm0 := Lib.hid (partM_own hown (show k < m by omega))
     clear hown hbl
     go_wp2_with (first
      | (at_builtin; refine wpList_append_lie rfl _ _ 69 rfl wr.heap.size 3 i0 (.int .i64 0) 8 Try.ru69 HI.out.1 HI.out.2.1 HI.out.2.2.1 HI.out.2.2.2 rfl _ 0 [] rfl ?pc1 (some ⟨g, 0, none⟩) m m (partJ S k (j + 1)) rfl ?pc2 ?pc3 ?pc4 ?pc5 ?_)
      | fail)
     case pc1 =>
      have h0 := World.ownsRow_lit (base := wr.heap.size) (e := 3) (size := 1) (wr.setCell ⟨g, k, none⟩ (.int .i64 ((j : Int) + 1))) #[] 0 (by simp) (by unfold maxLen; omega) rfl
      rw [show (wr.setCell ⟨g, k, none⟩ (.int .i64 ((j : Int) + 1))).heap.size = wr.heap.size from by simp] at h0
      exact h0
     case pc2 => exact (ho8.lie (Nat.le_refl _) (by unfold maxLen; omega)).below ((Below.refl _ _).alloc (Nat.le_refl _) _)
     case pc3 => unfold maxLen; omega
     case pc4 => omega
     case pc5 => simp
     intro v' w3 hown' hgrow
     have hba : Below (wr.setCell ⟨g, k, none⟩ (.int .i64 ((j : Int) + 1))).heap.size (wr.setCell ⟨g, k, none⟩ (.int .i64 ((j : Int) + 1))) w3 := ((Below.refl _ _).alloc (Nat.le_refl _) _).grown hgrow (by simp) (fun q hq => by cases hq; simp)
     obtain ⟨a4, q4, rfl, hl4, hfr4⟩ := owned_fresh hown'
     have hl5 := hl4.congr (fun p _ => rootV_dig (S := S) (i := k) (j := j + 1) (by omega) p)
     have HV : Hid (rootV S k (j + 1) < 10 ^ m) := rootV_lt HSL.out (by omega) (by omega)
     have HF := Lib.hid (root_fits (i := k) (j := j + 1) HS1.out HS2.out)
     have ho3 := ho8.below hba
     have hb3 := hb8.trans (hba.mono hb8.size)
     have hsz : (wr.setCell ⟨g, k, none⟩ (.int .i64 ((j : Int) + 1))).heap.size = wr.heap.size := by simp
     have HSZ := Lib.hid hsz
     have hgw : g < wr.heap.size := by have := ho8.lt; rw [hsz] at this; exact this
     clear hown' hgrow hl4 hb8 hba hsz c4 c5
     generalize rootV S k (j + 1) = V at *
     go_wp2_with fail
     refine (rmade_any false a4 m q4 V _ hl5 HV.out).mono ?_
     rintro e w4 ⟨bl4, n4, c4, rfl, hnum, hb4⟩
     have ho4 := ho3.below hb4
     have hb4' := hb3.trans (hb4.mono hb3.size)
     have hal : Below w4.heap.size w4 (w4.alloc (.cells #[.bool bl4, .slice a4 n4 c4] 71)) := (Below.refl _ _).alloc (Nat.le_refl _) _
     have ho6 := ho4.below hal
     have hb6 := hb4'.trans (hal.mono hb4'.size)
     have hn6' := hnum.below hal
     have hR6 := bx_new w4 71 (.bool bl4) (.slice a4 n4 c4)
     have hsg : sg false V = ((V : Nat) : Int) := rfl
     rw [hsg] at hn6'
     have hn4' : n4 ≤ m := by
      have := hn6'.fit
      rw [Int.natAbs_natCast] at this
      exact fit10_le this HV.out
     clear hl5 hnum hb4 ho4 hb4' hal ho3 hb3 hfr4 hsg
     go_wp2
     generalize w4.alloc (.cells #[.bool bl4, .slice a4 n4 c4] 71) = w6 at *
     generalize w4.heap.size = gr at *
     have hX6 := hX1.later hb6
     have hNx6 := H.out.below hX6.below
     have hs6 : w6.cell? ⟨gr, 0, none⟩ = some (.bool bl4) ∧ w6.cell? ⟨gr, 1, none⟩ = some (.slice a4 n4 c4) ∧ w6.cell? ⟨w.heap.size, 0, none⟩ = some (.bool false) ∧ w6.cell? ⟨w.heap.size, 1, none⟩ = some (.slice a n c) := ⟨hR6.cells.1, hR6.cells.2.1, hX6.X.cells.1, hX6.X.cells.2.1⟩
     go_region_held3 (fun w' => w'.cell? ⟨gr, 0, none⟩ = some (.bool bl4) ∧ w'.cell? ⟨gr, 1, none⟩ = some (.slice a4 n4 c4) ∧ w'.cell? ⟨w.heap.size, 0, none⟩ = some (.bool false) ∧ w'.cell? ⟨w.heap.size, 1, none⟩ = some (.slice a n c))
      (first | exact hs6 | exact hs7 | exact hs8)
      (first
       | (go_at_call 86; refine (rMul_any bl4 a4 n4 c4 (V : Int) bl4 a4 n4 c4 (V : Int) _ (hn6'.below ((Below.refl _ _).drew)) (hn6'.below ((Below.refl _ _).drew)) (by omega) (by omega)).mono ?_; rintro e w7 ⟨bl7, a7, n7, c7, rfl, hN7, _, hb7⟩; have hb7' := below_undrew hb7; have hs7 : w7.cell? ⟨gr, 0, none⟩ = some (.bool bl4) ∧ w7.cell? ⟨gr, 1, none⟩ = some (.slice a4 n4 c4) ∧ w7.cell? ⟨w.heap.size, 0, none⟩ = some (.bool false) ∧ w7.cell? ⟨w.heap.size, 1, none⟩ = some (.slice a n c) := ⟨(hR6.below hb7').cells.1, (hR6.below hb7').cells.2.1, (hX6.later hb7').X.cells.1, (hX6.later hb7').X.cells.2.1⟩)
       | (go_at_call 87; refine (rCmp_any bl7 a7 n7 c7 ((V : Int) * (V : Int)) false a n c ((N : Nat) : Int) _ hN7 (hNx6.below hb7')).mono ?_; rintro e w8 ⟨rfl, hb8⟩; have hb8' := hb7'.trans (hb8.mono hb7'.size); have hs8 : w8.cell? ⟨gr, 0, none⟩ = some (.bool bl4) ∧ w8.cell? ⟨gr, 1, none⟩ = some (.slice a4 n4 c4) ∧ w8.cell? ⟨w.heap.size, 0, none⟩ = some (.bool false) ∧ w8.cell? ⟨w.heap.size, 1, none⟩ = some (.slice a n c) := ⟨(hR6.below hb8').cells.1, (hR6.below hb8').cells.2.1, (hX6.later hb8').X.cells.1, (hX6.later hb8').X.cells.2.1⟩))
     have ho8' := ho6.below hb8'
     have hb9 := hb6.trans (hb8'.mono hb6.size)
     clear hs6 hs7 hs8 hR6 hn6' hX6 hNx6 hN7 hb7 hb8 ho6 hb6 hb7' hb8'
     by_cases hf : j + 1 ≤ dig S k
     ·
      have hle : V * V ≤ N := HF.out.2 hf
      have hdc := cmp_le hle
      rw [Int.natCast_mul] at hdc
      generalize cmpI ((V : Int) * (V : Int)) ((N : Nat) : Int) = cc at *
      clear hle
      go_wp2
      go_roundw
      case rel => exact ⟨j + 1, true, by rw [hdc], hf, nofun, ho8', hb9⟩
      case measure =>
       have e1 := partM_own ho8' (show k < m by omega)
       have e2 := hm0.out
       rw [partJ_at] at e1 e2
       rw [hdc, e1, e2]
       show 2 * (10 - (j + 1)) + 1 < 2 * (10 - j) + 1
       omega
     ·
      have hgt : N < V * V := Nat.lt_of_not_le fun h => hf (HF.out.1 h)
      have hdc := cmp_gt hgt
      rw [Int.natCast_mul] at hdc
      generalize cmpI ((V : Int) * (V : Int)) ((N : Nat) : Int) = cc at *
      clear hgt
      have c4 : w8.cell? ⟨g, k, none⟩ = some (.int .i64 (((j + 1 : Nat)) : Int)) := by rw [ho8'.cell k (by omega), partJ_at]
      have c5 := ho8'.free k
      rw [Int.natCast_add, Int.natCast_one] at c4
      go_wp2
      have hoA := ho8'.put (i := k) (x := (j : Int)) (F := partJ S k j) (by omega) (by rw [partJ_at]) (partJ_more _ k (j + 1) j m)
      go_roundw
      case rel => exact ⟨j, false, by rw [hdc], hj, fun _ => by omega, hoA, hb9.setCell (p := ⟨g, k, none⟩) hg _⟩
      case measure =>
       have e1 := partM_own hoA (show k < m by omega)
       have e2 := hm0.out
       rw [partJ_at] at e1 e2
       rw [hdc, e1, e2]
       show 2 * (10 - j) + 0 < 2 * (10 - j) + 1
       omega
end Go.Proofs.Ytpahkpcoinbgcaa
