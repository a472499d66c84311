/- The document's numbers: the walk of Root. -/
import Derived.Test.YtpacbipencmjnaaDoorGr10
import Derived.Test.YtpacbipencmjnaaDoorGr11
import Derived.Test.YtpacbipencmjnaaDoorGr4
import Derived.Test.YtpacbipencmjnaaDoorGr6
import Derived.Test.YtpacbipencmjnaaDoorGr9
namespace Go.Proofs.YtpacbipencmjnaaDoor
open Go.RowKit

/-- A number of the document's is handed back, and an error's number. -/
def PRR (z er : Int) (w : World) (e : Ending) (w' : World) : Prop :=
  ∃ (b1 : Bool) (a1 : Option Addr) (n1 c1 : Nat), e = .returned (.tuple #[.agg #[.bool b1, .slice a1 n1 c1], .int .i64 er]) ∧ RNum w' b1 a1 n1 c1 z ∧ Below w.heap.size w w'
/-- What Root is given, and the place of its result. -/
structure RRB (w W : World) (bl : Bool) (a : Option Addr) (n c : Nat) : Prop where
  below : Below w.heap.size w W
  X : Bx W 28 w.heap.size (.bool bl) (.slice a n c)
  A : Bx W 28 (w.heap.size + 1) (.bool false) (.slice none 0 0)
theorem RRB.later {w W W' : World} {bl : Bool} {a : Option Addr} {n c : Nat} (h : RRB w W bl a n c) (hb : Below W.heap.size W W') : RRB w W' bl a n c := ⟨h.below.trans (hb.mono h.below.size), h.X.below hb, h.A.below hb⟩
theorem rrb_mk (w : World) (bl : Bool) (a : Option Addr) (n c : Nat) : RRB w ((w.alloc (.cells #[.bool bl, .slice a n c] 28)).alloc (.cells #[.bool false, .slice none 0 0] 28)) bl a n c := by
  have hal : ∀ (W : World) (o : Obj), Below W.heap.size W (W.alloc o) := fun W o => (Below.refl _ _).alloc (Nat.le_refl _) _
  have s1 : (w.alloc (.cells #[.bool bl, .slice a n c] 28)).heap.size = w.heap.size + 1 := by simp
  refine ⟨((Below.refl w.heap.size w).alloc (Nat.le_refl _) _).alloc (by simp) _, (bx_new w _ _ _).below (hal _ _), ?_⟩
  have h := bx_new (w.alloc (.cells #[.bool bl, .slice a n c] 28)) 28 (.bool false) (.slice none 0 0)
  rwa [s1] at h

set_option maxHeartbeats 800000 in
theorem rRoot_neg (a : Option Addr) (n c : Nat) (w : World) :
    Calls Tryd.prog 7 #[.agg #[.bool true, .slice a n c]] w (PRR 0 12 w) := by
  go_enter Tryd.func7, Tryd.ntmps7
  go_wp2
  have hX1 := rrb_mk w true a n c
  generalize (w.alloc (.cells #[.bool true, .slice a n c] 28)).alloc (.cells #[.bool false, .slice none 0 0] 28) = w1 at *
  obtain ⟨q0, q1, q2, q3⟩ := hX1.A.cells
  refine bodyPost_ret (v := .tuple #[.agg #[.bool false, .slice none 0 0], .int .i64 12]) (by simp [results, Tryd.results7, go_sem, q0, q1]) rfl ?_
  exact ⟨false, none, 0, 0, rfl, rnum_zero _, hX1.below⟩
theorem cmp_le {A B : Nat} (h : A ≤ B) : decide (cmpI (A : Int) (B : Int) ≤ 0) = true := by
  refine decide_eq_true ?_
  unfold cmpI
  split
  · decide
  · rw [if_neg (by omega)]; decide
theorem cmp_gt {A B : Nat} (h : B < A) : decide (cmpI (A : Int) (B : Int) ≤ 0) = false := by
  refine decide_eq_false ?_
  unfold cmpI
  rw [if_neg (by omega), if_pos (by omega)]
  decide
attribute [local go_sem] run_fieldD
set_option maxRecDepth 100000 in
set_option maxHeartbeats 3200000 in
theorem rRoot_pos (a : Option Addr) (n c N : Nat) (w : World) (h : RNum w false a n c ((N : Nat) : Int)) (hn : n ≤ 1000000) :
    Calls Tryd.prog 7 #[.agg #[.bool false, .slice a n c]] w (PRR ((isq N : Nat) : Int) 0 w) := by
  obtain ⟨i0, hi0, hz0, hzz1, hzz2⟩ := info_parts Tryd.rinfo3
  have HI := Lib.hid (And.intro hi0 (And.intro hz0 (And.intro hzz1 hzz2)))
  clear hi0 hz0 hzz1 hzz2
  obtain ⟨s1, s2⟩ := isq_spec N
  generalize isq N = S at *
  have hfit := h.fit.1
  rw [Int.natAbs_natCast] at hfit
  have HSL : Hid (S < 10 ^ (n / 2 + 1)) := root_len s1 hfit
  have HS1 := Lib.hid s1
  have HS2 := Lib.hid s2
  have H := Lib.hid h
  clear h s1 s2 hfit
  have hn4 : 8 * (n / 2 + 1) ≤ 281474976710656 := by omega
  have hn6 : n / 2 + 1 ≤ 9223372036854775807 := by omega
  have hX1 := rrb_mk w false a n c
  go_enter Tryd.func7, Tryd.ntmps7
  go_wp2_with (first | (at_make; refine wpList_mk _ rfl (.tmp 15) (.tmp 15) 26 rfl 3 .i64 8 Tryd.ru26 Tryd.rinfo3 _ _ (n / 2 + 1) rfl rfl (by omega) (by omega) hn4 hn6 ?_; intro g w2 hg hown hb2))
  generalize (w.alloc (.cells #[.bool false, .slice a n c] 28)).alloc (.cells #[.bool false, .slice none 0 0] 28) = w1 at hX1 hg hb2
  obtain ⟨m, hm⟩ : ∃ m, n / 2 + 1 = m := ⟨_, rfl⟩
  rw [hm] at hown hn4 hn6 HSL ⊢
  have hmn : m ≤ 1000000 := by omega
  have HM := Lib.hid hm
  clear hm
  go_loopw [5] (fun iv wr => ∃ k : Nat, k ≤ m ∧ iv = .int .i64 ((k : Int) - 1) ∧ Own .i64 3 wr g m (partQ S k) ∧ Below w1.heap.size w1 wr) (fun iv _ => (intOf iv + 1).toNat)
  case atStart => exact ⟨m, Nat.le_refl _, (by have := HM.out; show Value.int .i64 ((n : Int) / 2) = .int .i64 ((m : Int) - 1); congr 1; omega), hown.congr (fun p hp => (partQ_start _ _ p hp).symm), hb2⟩
  case round =>
    clear hown hb2
    obtain ⟨k, hk, rfl, hown, hbl⟩ := hrel
    have hXr := hX1.later hbl
    cases k with
    | zero =>
      have HO : Hid (Own .i64 3 wr g m (dig S)) := hown.congr (partQ_end _ m)
      clear hown
      go_wp2_with fail
      refine (rmade_any false _ m m S _ (HO.out.lie (Nat.le_refl _) (by unfold maxLen; omega)) HSL.out).mono ?_
      rintro e w3 ⟨bl3, n3, c3, rfl, hnum, hb3⟩
      have hX3 := hXr.later hb3
      obtain ⟨q0, q1, q2, q3⟩ := hX3.A.cells
      have hst := hnum.store hX3.A (.bool bl3) (.slice (some ⟨g, 0, none⟩) n3 c3)
      have hbs : Below w.heap.size w ((w3.setCell ⟨w.heap.size + 1, 0, none⟩ (.bool bl3)).setCell ⟨w.heap.size + 1, 1, none⟩ (.slice (some ⟨g, 0, none⟩) n3 c3)) := (hX3.below.setCell (p := ⟨w.heap.size + 1, 0, none⟩) (Nat.le_succ _) _).setCell (p := ⟨w.heap.size + 1, 1, none⟩) (Nat.le_succ _) _
      clear hnum hXr hX1
      go_wp2
      refine bodyPost_ret (v := .tuple #[.agg #[.bool bl3, .slice (some ⟨g, 0, none⟩) n3 c3], .int .i64 0]) (by simp [results, Tryd.results7, go_sem, q0, q1]) rfl ?_
      exact ⟨bl3, _, n3, c3, rfl, hst, hbs⟩
    | succ k =>
      rw [show (((k + 1 : Nat) : Int) - 1) = (k : Int) by omega]
      have hdl := dig_lt S k
      go_wp2
      go_loopw [6] (fun fv wr => ∃ (j : Nat) (ft : Bool), fv = .bool ft ∧ j ≤ dig S k ∧ (ft = false → j = dig S k) ∧ Own .i64 3 wr g m (partJ S k j) ∧ Below w1.heap.size w1 wr) (fun fv wr => 2 * partM g k wr + (match fv with | .bool true => 1 | _ => 0))
      case atStart => exact ⟨0, true, rfl, Nat.zero_le _, nofun, hown.congr (partJ_start _ k m), hbl⟩
      case round =>
        clear hown hbl hXr
        obtain ⟨j, ft, rfl, hj, hjf, hown, hbl⟩ := hrel
        have HJF := Lib.hid hjf
        clear hjf
        have c4 : wr.cell? ⟨g, k, none⟩ = some (.int .i64 ((j : Nat) : Int)) := by rw [hown.cell k (by omega), partJ_at]
        have c5 := hown.free k
        by_cases hend : ft = false ∨ 9 ≤ j
        · have hje : j = dig S k := by
            rcases hend with h | h
            · exact HJF.out h
            · omega
          have HO : Hid (Own .i64 3 wr g m (partQ S k)) := by
            rw [hje] at hown
            exact hown.congr (partJ_end _ k m)
          clear hown
          rcases hend with rfl | h9
          · by_cases h9 : j < 9
            · have d9 : decide (((j : Nat) : Int) < 9) = true := decide_eq_true (by omega)
              go_wp2
              go_roundw
              case rel => exact ⟨k, by omega, by go_num, HO.out, hbl⟩
              case measure => simp [intOf]
            · have d9 : decide (((j : Nat) : Int) < 9) = false := decide_eq_false (by omega)
              go_wp2
              go_roundw
              case rel => exact ⟨k, by omega, by go_num, HO.out, hbl⟩
              case measure => simp [intOf]
          · have d9 : decide (((j : Nat) : Int) < 9) = false := decide_eq_false (by omega)
            cases ft
            all_goals
              go_wp2
              go_roundw
              case rel => exact ⟨k, by omega, by go_num, HO.out, hbl⟩
              case measure => simp [intOf]
        · have hft : ft = true := by cases ft <;> simp_all
          subst hft
          have h9 : j < 9 := by omega
          have d9 : decide (((j : Nat) : Int) < 9) = true := decide_eq_true (by omega)
          clear hend HJF
          have ho8 := hown.put (i := k) (x := (j : Int) + 1) (F := partJ S k (j + 1)) (by omega) (by rw [partJ_at]; rfl) (partJ_more _ k j (j + 1) m)
          have hb8 := hbl.setCell (p := ⟨g, k, none⟩) hg (.int .i64 ((j : Int) + 1))
          have hm0 := Lib.hid (partM_own hown (show k < m by omega))
          clear hown hbl
          go_wp2_with (first
            | (at_builtin; refine wpList_append_lie rfl _ _ 26 rfl wr.heap.size 3 i0 (.int .i64 0) 8 Tryd.ru26 HI.out.1 HI.out.2.1 HI.out.2.2.1 HI.out.2.2.2 rfl _ 0 [] rfl ?pc1 (some ⟨g, 0, none⟩) m m (partJ S k (j + 1)) rfl ?pc2 ?pc3 ?pc4 ?pc5 ?_)
            | fail)
          case pc1 =>
            have h0 := World.ownsRow_lit (base := wr.heap.size) (e := 3) (size := 1) (wr.setCell ⟨g, k, none⟩ (.int .i64 ((j : Int) + 1))) #[] 0 (by simp) (by unfold maxLen; omega) rfl
            rw [show (wr.setCell ⟨g, k, none⟩ (.int .i64 ((j : Int) + 1))).heap.size = wr.heap.size from by simp] at h0
            exact h0
          case pc2 => exact (ho8.lie (Nat.le_refl _) (by unfold maxLen; omega)).below ((Below.refl _ _).alloc (Nat.le_refl _) _)
          case pc3 => unfold maxLen; omega
          case pc4 => omega
          case pc5 => simp
          intro v' w3 hown' hgrow
          have hba : Below (wr.setCell ⟨g, k, none⟩ (.int .i64 ((j : Int) + 1))).heap.size (wr.setCell ⟨g, k, none⟩ (.int .i64 ((j : Int) + 1))) w3 := ((Below.refl _ _).alloc (Nat.le_refl _) _).grown hgrow (by simp) (fun q hq => by cases hq; simp)
          obtain ⟨a4, q4, rfl, hl4, hfr4⟩ := owned_fresh hown'
          have hl5 := hl4.congr (fun p _ => rootV_dig (S := S) (i := k) (j := j + 1) (by omega) p)
          have HV : Hid (rootV S k (j + 1) < 10 ^ m) := rootV_lt HSL.out (by omega) (by omega)
          have HF := Lib.hid (root_fits (i := k) (j := j + 1) HS1.out HS2.out)
          have ho3 := ho8.below hba
          have hb3 := hb8.trans (hba.mono hb8.size)
          have hsz : (wr.setCell ⟨g, k, none⟩ (.int .i64 ((j : Int) + 1))).heap.size = wr.heap.size := by simp
          have HSZ := Lib.hid hsz
          have hgw : g < wr.heap.size := by have := ho8.lt; rw [hsz] at this; exact this
          clear hown' hgrow hl4 hb8 hba hsz c4 c5
          generalize rootV S k (j + 1) = V at *
          go_wp2_with fail
          refine (rmade_any false a4 m q4 V _ hl5 HV.out).mono ?_
          rintro e w4 ⟨bl4, n4, c4, rfl, hnum, hb4⟩
          have ho4 := ho3.below hb4
          have hb4' := hb3.trans (hb4.mono hb3.size)
          have hal : Below w4.heap.size w4 (w4.alloc (.cells #[.bool bl4, .slice a4 n4 c4] 28)) := (Below.refl _ _).alloc (Nat.le_refl _) _
          have ho6 := ho4.below hal
          have hb6 := hb4'.trans (hal.mono hb4'.size)
          have hn6' := hnum.below hal
          have hR6 := bx_new w4 28 (.bool bl4) (.slice a4 n4 c4)
          have hsg : sg false V = ((V : Nat) : Int) := rfl
          rw [hsg] at hn6'
          have hn4' : n4 ≤ m := by
            have := hn6'.fit
            rw [Int.natAbs_natCast] at this
            exact fit10_le this HV.out
          clear hl5 hnum hb4 ho4 hb4' hal ho3 hb3 hfr4 hsg
          go_wp2
          generalize w4.alloc (.cells #[.bool bl4, .slice a4 n4 c4] 28) = w6 at *
          generalize w4.heap.size = gr at *
          have hX6 := hX1.later hb6
          have hNx6 := H.out.below hX6.below
          have hs6 : w6.cell? ⟨gr, 0, none⟩ = some (.bool bl4) ∧ w6.cell? ⟨gr, 1, none⟩ = some (.slice a4 n4 c4) ∧ w6.cell? ⟨w.heap.size, 0, none⟩ = some (.bool false) ∧ w6.cell? ⟨w.heap.size, 1, none⟩ = some (.slice a n c) := ⟨hR6.cells.1, hR6.cells.2.1, hX6.X.cells.1, hX6.X.cells.2.1⟩
          go_region_held3 (fun w' => w'.cell? ⟨gr, 0, none⟩ = some (.bool bl4) ∧ w'.cell? ⟨gr, 1, none⟩ = some (.slice a4 n4 c4) ∧ w'.cell? ⟨w.heap.size, 0, none⟩ = some (.bool false) ∧ w'.cell? ⟨w.heap.size, 1, none⟩ = some (.slice a n c))
            (first | exact hs6 | exact hs7 | exact hs8)
            (first
              | (go_at_call 22; refine (rMul_any bl4 a4 n4 c4 (V : Int) bl4 a4 n4 c4 (V : Int) _ (hn6'.below ((Below.refl _ _).drew)) (hn6'.below ((Below.refl _ _).drew)) (by omega) (by omega)).mono ?_; rintro e w7 ⟨bl7, a7, n7, c7, rfl, hN7, _, hb7⟩; have hb7' := below_undrew hb7; have hs7 : w7.cell? ⟨gr, 0, none⟩ = some (.bool bl4) ∧ w7.cell? ⟨gr, 1, none⟩ = some (.slice a4 n4 c4) ∧ w7.cell? ⟨w.heap.size, 0, none⟩ = some (.bool false) ∧ w7.cell? ⟨w.heap.size, 1, none⟩ = some (.slice a n c) := ⟨(hR6.below hb7').cells.1, (hR6.below hb7').cells.2.1, (hX6.later hb7').X.cells.1, (hX6.later hb7').X.cells.2.1⟩)
              | (go_at_call 23; refine (rCmp_any bl7 a7 n7 c7 ((V : Int) * (V : Int)) false a n c ((N : Nat) : Int) _ hN7 (hNx6.below hb7')).mono ?_; rintro e w8 ⟨rfl, hb8⟩; have hb8' := hb7'.trans (hb8.mono hb7'.size); have hs8 : w8.cell? ⟨gr, 0, none⟩ = some (.bool bl4) ∧ w8.cell? ⟨gr, 1, none⟩ = some (.slice a4 n4 c4) ∧ w8.cell? ⟨w.heap.size, 0, none⟩ = some (.bool false) ∧ w8.cell? ⟨w.heap.size, 1, none⟩ = some (.slice a n c) := ⟨(hR6.below hb8').cells.1, (hR6.below hb8').cells.2.1, (hX6.later hb8').X.cells.1, (hX6.later hb8').X.cells.2.1⟩))
          have ho8' := ho6.below hb8'
          have hb9 := hb6.trans (hb8'.mono hb6.size)
          clear hs6 hs7 hs8 hR6 hn6' hX6 hNx6 hN7 hb7 hb8 ho6 hb6 hb7' hb8'
          by_cases hf : j + 1 ≤ dig S k
          · have hle : V * V ≤ N := HF.out.2 hf
            have hdc := cmp_le hle
            rw [Int.natCast_mul] at hdc
            generalize cmpI ((V : Int) * (V : Int)) ((N : Nat) : Int) = cc at *
            clear hle
            go_wp2
            go_roundw
            case rel => exact ⟨j + 1, true, by rw [hdc], hf, nofun, ho8', hb9⟩
            case measure =>
              have e1 := partM_own ho8' (show k < m by omega)
              have e2 := hm0.out
              rw [partJ_at] at e1 e2
              rw [hdc, e1, e2]
              show 2 * (10 - (j + 1)) + 1 < 2 * (10 - j) + 1
              omega
          · have hgt : N < V * V := Nat.lt_of_not_le fun h => hf (HF.out.1 h)
            have hdc := cmp_gt hgt
            rw [Int.natCast_mul] at hdc
            generalize cmpI ((V : Int) * (V : Int)) ((N : Nat) : Int) = cc at *
            clear hgt
            have c4 : w8.cell? ⟨g, k, none⟩ = some (.int .i64 (((j + 1 : Nat)) : Int)) := by rw [ho8'.cell k (by omega), partJ_at]
            have c5 := ho8'.free k
            rw [Int.natCast_add, Int.natCast_one] at c4
            go_wp2
            have hoA := ho8'.put (i := k) (x := (j : Int)) (F := partJ S k j) (by omega) (by rw [partJ_at]) (partJ_more _ k (j + 1) j m)
            go_roundw
            case rel => exact ⟨j, false, by rw [hdc], hj, fun _ => by omega, hoA, hb9.setCell (p := ⟨g, k, none⟩) hg _⟩
            case measure =>
              have e1 := partM_own hoA (show k < m by omega)
              have e2 := hm0.out
              rw [partJ_at] at e1 e2
              rw [hdc, e1, e2]
              show 2 * (10 - j) + 0 < 2 * (10 - j) + 1
              omega
end Go.Proofs.YtpacbipencmjnaaDoor

/- The document's numbers: the walk of Bits. -/
namespace Go.Proofs.YtpacbipencmjnaaDoor
open Go.RowKit

theorem bits_half {M : Nat} (h : 0 < M) : bitsN (M / 2) + 1 = bitsN M := by
  unfold bitsN
  by_cases h1 : M / 2 = 0
  · rw [if_pos h1, if_neg (by omega)]
    have : M = 1 := by omega
    subst this
    rfl
  · rw [if_neg h1, if_neg (by omega)]
    have e : Nat.log2 M = Nat.log2 (M / 2) + 1 := by
      rw [Nat.log2_def M, if_pos (by omega)]
    omega
theorem bits_one {M : Nat} (h : 0 < M) : 1 ≤ bitsN M := by unfold bitsN; rw [if_neg (by omega)]; omega
theorem half_quo {M : Nat} {q r : Int} (h : IsQuo (M : Int) 2 q r) : q = ((M / 2 : Nat) : Int) := by
  have h1 := h.1
  have h2 := h.2.1 (by decide)
  omega
/-- What the loop of Bits keeps. -/
structure BitS (w W : World) (k4 k5 : Nat) (M : Nat) (b4 : Bool) (a4 : Option Addr) (n4 c4 : Nat) (b5 : Bool) (a5 : Option Addr) (n5 c5 : Nat) : Prop where
  below : Below w.heap.size w W
  X : Bx W 28 k4 (.bool b4) (.slice a4 n4 c4)
  Y : Bx W 28 k5 (.bool b5) (.slice a5 n5 c5)
  nx : RNum W b4 a4 n4 c4 (M : Int)
  ny : RNum W b5 a5 n5 c5 2
theorem BitS.later {w W W' : World} {k4 k5 M : Nat} {b4 : Bool} {a4 : Option Addr} {n4 c4 : Nat} {b5 : Bool} {a5 : Option Addr} {n5 c5 : Nat} (h : BitS w W k4 k5 M b4 a4 n4 c4 b5 a5 n5 c5) (hb : Below W.heap.size W W') : BitS w W' k4 k5 M b4 a4 n4 c4 b5 a5 n5 c5 :=
  ⟨h.below.trans (hb.mono h.below.size), h.X.below hb, h.Y.below hb, h.nx.below hb, h.ny.below hb⟩
theorem BitS.put {w W : World} {k4 k5 M : Nat} {b4 : Bool} {a4 : Option Addr} {n4 c4 : Nat} {b5 : Bool} {a5 : Option Addr} {n5 c5 : Nat} (h : BitS w W k4 k5 M b4 a4 n4 c4 b5 a5 n5 c5) (hne : k5 ≠ k4) (hw : w.heap.size ≤ k4) {M' : Nat} {b : Bool} {a : Option Addr} {n c : Nat} (hn : RNum W b a n c (M' : Int)) :
    BitS w ((W.setCell ⟨k4, 0, none⟩ (.bool b)).setCell ⟨k4, 1, none⟩ (.slice a n c)) k4 k5 M' b a n c b5 a5 n5 c5 :=
  ⟨(h.below.setCell (p := ⟨k4, 0, none⟩) hw _).setCell (p := ⟨k4, 1, none⟩) hw _, h.X.self _ _, h.Y.other hne _ _, hn.store h.X _ _, h.ny.store h.X _ _⟩
theorem below_n2 (w1 : World) (o o' : Obj) : Below w1.heap.size w1 ((w1.alloc o).alloc o') := ((Below.refl _ _).alloc (Nat.le_refl _) _).alloc (by simp) _

set_option maxRecDepth 100000 in
set_option maxHeartbeats 3200000 in
theorem rBits_any (bl : Bool) (a : Option Addr) (n c : Nat) (z : Int) (w : World) (h : RNum w bl a n c z) (hn : n ≤ 10000) : Calls Tryd.prog 13 #[.agg #[.bool bl, .slice a n c]] w (PVal (.int .i64 (bitsN z.natAbs)) w) := by
  have hl := h.lie
  have HF := Lib.hid h.fit.1
  clear h
  generalize z.natAbs = N at *
  have hb0 : bitsN N ≤ 40000 := by
    unfold bitsN
    split
    · omega
    · next h0 =>
      have h1 : N < 2 ^ (4 * n) := by
        have h2 : 10 ^ n ≤ 16 ^ n := Nat.pow_le_pow_left (by decide) n
        have h3 : (16 : Nat) ^ n = 2 ^ (4 * n) := by rw [Nat.pow_mul]
        have := HF.out
        omega
      have := (Nat.log2_lt h0).2 h1
      omega
  go_enter Tryd.func13, Tryd.ntmps13
  go_wp2_with fail
  have hw1 : Below w.heap.size w (w.alloc (.cells #[.bool bl, .slice a n c] 28)) := (Below.refl _ _).alloc (Nat.le_refl _) _
  generalize w.alloc (.cells #[.bool bl, .slice a n c] 28) = w1 at *
  refine (rmade_any false a n c N _ (hl.below hw1) HF.out).mono ?_
  rintro e w2 ⟨b4, n4, c4, rfl, hN4, hB2⟩
  have hX2 := bx_new w2 28 (.bool b4) (.slice a n4 c4)
  have hal2 : Below w2.heap.size w2 (w2.alloc (.cells #[.bool b4, .slice a n4 c4] 28)) := (Below.refl _ _).alloc (Nat.le_refl _) _
  have hb2 := hw1.trans (hB2.mono hw1.size)
  have hk2 := hb2.size
  have hN4' := hN4.below hal2
  have hb2' := hb2.trans (hal2.mono hb2.size)
  clear hN4 hal2 hb2 hB2 hw1 hl
  go_wp2_with fail
  generalize w2.alloc (.cells #[.bool b4, .slice a n4 c4] 28) = w3 at *
  generalize w2.heap.size = k4 at *
  refine (rOf_any 2 _ (by omega) (by omega)).mono ?_
  rintro e w4 ⟨b5, a5, n5, c5, rfl, hN5, _, hB4⟩
  have hal4 : Below w4.heap.size w4 (w4.alloc (.cells #[.bool b5, .slice a5 n5 c5] 28)) := (Below.refl _ _).alloc (Nat.le_refl _) _
  have hne : k4 < w4.heap.size := (hX2.below hB4).lt
  have hS : BitS w (w4.alloc (.cells #[.bool b5, .slice a5 n5 c5] 28)) k4 w4.heap.size N b4 a n4 c4 b5 a5 n5 c5 := ⟨(hb2'.trans (hB4.mono hb2'.size)).trans (hal4.mono (hb2'.trans (hB4.mono hb2'.size)).size), (hX2.below hB4).below hal4, bx_new w4 _ _ _, (hN4'.below hB4).below hal4, hN5.below hal4⟩
  have l5 : n5 ≤ 1 := fit10_le hN5.fit (by decide)
  clear hX2 hN4' hb2' hN5 hB4 hal4
  go_wp2
  generalize w4.alloc (.cells #[.bool b5, .slice a5 n5 c5] 28) = w5 at *
  generalize w4.heap.size = k5 at *
  go_loopw [3] (fun nv wr => ∃ (t M : Nat) (b4 : Bool) (a4 : Option Addr) (n4 c4 : Nat), nv = .int .i64 ((t : Nat) : Int) ∧ t + bitsN M = bitsN N ∧ M ≤ N ∧ BitS w wr k4 k5 M b4 a4 n4 c4 b5 a5 n5 c5) (fun nv _ => bitsN N - (intOf nv).toNat)
  case atStart => exact ⟨0, N, b4, a, n4, c4, rfl, by omega, Nat.le_refl _, hS⟩
  case round =>
    clear hS
    obtain ⟨t, M, b6, a6, n6, c6, rfl, ht, hMN, hS⟩ := hrel
    obtain ⟨p0, p1, p2, p3⟩ := hS.X.cells
    obtain ⟨q0, q1, q2, q3⟩ := hS.Y.cells
    have HT := Lib.hid ht
    by_cases hM : M = 0
    · have hn6 : n6 = 0 := hS.nx.zero_iff.2 (by omega)
      subst hn6
      have HE : Hid (t = bitsN N) := by
        show t = _
        rw [hM] at ht
        have : bitsN 0 = 0 := rfl
        omega
      clear ht hM
      go_wp2
      go_ret
      exact ⟨ret_int (by rw [← HE.out]), hS.below⟩
    · have hn6 : 0 < n6 := Nat.pos_of_ne_zero fun e => hM (by have := hS.nx.zero_iff.1 e; omega)
      have d6 : decide ((0 : Int) < ((n6 : Nat) : Int)) = true := decide_eq_true (by omega)
      have hbh := bits_half (Nat.pos_of_ne_zero hM)
      have HBH := Lib.hid hbh
      have HB1 := Lib.hid (bits_one (Nat.pos_of_ne_zero hM))
      have htb : t < 40000 := by have := HB1.out; omega
      have HTB : Hid (t < bitsN N) := show t < bitsN N by have := HB1.out; omega
      have l6 : n6 ≤ n := by
        have := hS.nx.fit
        rw [Int.natAbs_natCast] at this
        exact fit10_le this (Nat.lt_of_le_of_lt hMN HF.out)
      clear ht hbh hM
      go_wp2_with fail
      refine (rQuo_any b6 a6 n6 c6 (M : Int) b5 a5 n5 c5 2 _ hS.nx hS.ny (by omega) (by omega) (by decide)).mono ?_
      rintro e w7 ⟨q, r, hq, u1, u2, u3, u4, v1, v2, v3, v4, rfl, hQ, _, hB7⟩
      have hq' := half_quo hq
      rw [hq'] at hQ
      have hal := below_n2 w7 (.cells #[.bool u1, .slice u2 u3 u4] 28) (.cells #[.bool v1, .slice v2 v3 v4] 28)
      have hS8 := (hS.later hB7).later hal
      have hlt : k4 < w7.heap.size := (hS.later hB7).X.lt
      obtain ⟨g0, g1, g2, g3⟩ := hS8.X.cells
      obtain ⟨s0, s1, s2, s3⟩ := (hS.later hB7).X.cells
      have hS9 := ((hS.later hB7).put (by omega) hk2 hQ).later (below_n2 _ (.cells #[.bool u1, .slice u2 u3 u4] 28) (.cells #[.bool v1, .slice v2 v3 v4] 28))
      clear p0 p1 p2 p3 q0 q1 q2 q3 hS hB7 hal hQ hq hq'
      go_wp2
      go_roundw
      case rel => exact ⟨t + 1, M / 2, u1, u2, u3, u4, by go_num, by have := HT.out; have := HBH.out; omega, by omega, hS9⟩
      case measure => have := HTB.out; simp [intOf]; omega
end Go.Proofs.YtpacbipencmjnaaDoor

/- The document's numbers: the walk of Small. -/
namespace Go.Proofs.YtpacbipencmjnaaDoor
open Go.RowKit

set_option maxRecDepth 100000 in
set_option maxHeartbeats 3200000 in
theorem rSmall_any (bl : Bool) (a : Option Addr) (n c : Nat) (z : Int) (w : World) (h : RNum w bl a n c z) (hn : n ≤ 1000000) :
    Calls Tryd.prog 11 #[.agg #[.bool bl, .slice a n c]] w (PVal2 (.int .i64 (smallV z)) (.bool (smallB z)) w) := by
  have hal1 : Below w.heap.size w (w.alloc (.cells #[.bool bl, .slice a n c] 28)) := (Below.refl _ _).alloc (Nat.le_refl _) _
  have hX1 := bx_new w 28 (.bool bl) (.slice a n c)
  have hN1 := h.below hal1
  have hB1 := hal1
  clear h hal1
  go_enter Tryd.func11, Tryd.ntmps11
  go_wp2_with fail
  generalize w.alloc (.cells #[.bool bl, .slice a n c] 28) = w1 at *
  refine (rOf_any (-9223372036854775808) _ (by omega) (by omega)).mono ?_
  rintro e w2 ⟨b2, a2, n2, c2, rfl, hN2, _, hb2⟩
  have hal2 : Below w2.heap.size w2 (w2.alloc (.cells #[.bool b2, .slice a2 n2 c2] 28)) := (Below.refl _ _).alloc (Nat.le_refl _) _
  have hX2 := (hX1.below hb2).below hal2
  have hM2 := (hN1.below hb2).below hal2
  have hL2 := bx_new w2 28 (.bool b2) (.slice a2 n2 c2)
  have hK2 := hN2.below hal2
  have hB2 : Below w.heap.size w (w2.alloc (.cells #[.bool b2, .slice a2 n2 c2] 28)) := (hB1.trans (hb2.mono hB1.size)).trans (hal2.mono (hB1.trans (hb2.mono hB1.size)).size)
  clear hX1 hN1 hB1 hN2 hb2 hal2
  go_wp2_with fail
  generalize w2.alloc (.cells #[.bool b2, .slice a2 n2 c2] 28) = w3 at *
  generalize w2.heap.size = i2 at *
  refine (rOf_any 9223372036854775807 _ (by omega) (by omega)).mono ?_
  rintro e w4 ⟨b4, a4, n4, c4, rfl, hN4, _, hb4⟩
  have hal4 : Below w4.heap.size w4 (w4.alloc (.cells #[.bool b4, .slice a4 n4 c4] 28)) := (Below.refl _ _).alloc (Nat.le_refl _) _
  have hX4 := (hX2.below hb4).below hal4
  have hM4 := (hM2.below hb4).below hal4
  have hL4 := (hL2.below hb4).below hal4
  have hK4 := (hK2.below hb4).below hal4
  have hH4 := bx_new w4 28 (.bool b4) (.slice a4 n4 c4)
  have hJ4 := hN4.below hal4
  have hB4 : Below w.heap.size w (w4.alloc (.cells #[.bool b4, .slice a4 n4 c4] 28)) := (hB2.trans (hb4.mono hB2.size)).trans (hal4.mono (hB2.trans (hb4.mono hB2.size)).size)
  clear hX2 hM2 hL2 hK2 hB2 hN4 hb4 hal4
  obtain ⟨x0, x1, _, _⟩ := hX4.cells
  obtain ⟨l0, l1, _, _⟩ := hL4.cells
  go_wp2_with fail
  generalize w4.alloc (.cells #[.bool b4, .slice a4 n4 c4] 28) = w5 at *
  generalize w4.heap.size = i4 at *
  refine (rCmp_any bl a n c z b2 a2 n2 c2 _ _ hM4 hK4).mono ?_
  rintro e w6 ⟨rfl, hb6⟩
  have hX6 := hX4.below hb6
  have hM6 := hM4.below hb6
  have hH6 := hH4.below hb6
  have hJ6 := hJ4.below hb6
  have hB6 : Below w.heap.size w w6 := hB4.trans (hb6.mono hB4.size)
  clear hX4 hM4 hL4 hK4 hH4 hJ4 hB4 hb6 x0 x1 l0 l1
  by_cases hlo : z < -9223372036854775808
  · have HS : Hid (smallV z = 0 ∧ smallB z = false) := by
      show _ ∧ _
      unfold smallV smallB
      exact ⟨if_neg (by omega), decide_eq_false (by omega)⟩
    rw [show cmpI z (-9223372036854775808) = -1 from if_pos hlo]
    clear hlo hX6 hM6 hH6 hJ6
    go_wp2
    go_ret2
    exact ⟨ret2 HS.out.1.symm HS.out.2.symm, hB6⟩
  · obtain ⟨cc, hcc⟩ : ∃ cc, cc = cmpI z (-9223372036854775808) := ⟨_, rfl⟩
    have dcc : decide (cc < 0) = false := by
      refine decide_eq_false ?_
      rw [hcc]
      unfold cmpI
      rw [if_neg hlo]
      split <;> decide
    rw [← hcc]
    clear hcc
    obtain ⟨x0, x1, _, _⟩ := hX6.cells
    obtain ⟨l0, l1, _, _⟩ := hH6.cells
    go_wp2_with fail
    refine (rCmp_any bl a n c z b4 a4 n4 c4 _ _ hM6 hJ6).mono ?_
    rintro e w7 ⟨rfl, hb7⟩
    have hX7 := hX6.below hb7
    have hM7 := hM6.below hb7
    have hB7 : Below w.heap.size w w7 := hB6.trans (hb7.mono hB6.size)
    clear hX6 hM6 hH6 hJ6 hB6 hb7 x0 x1 l0 l1
    by_cases hhi : 9223372036854775807 < z
    · have HS : Hid (smallV z = 0 ∧ smallB z = false) := by
        show _ ∧ _
        unfold smallV smallB
        exact ⟨if_neg (by omega), decide_eq_false (by omega)⟩
      rw [show cmpI z 9223372036854775807 = 1 from by unfold cmpI; rw [if_neg (by omega), if_pos hhi]]
      clear hhi hlo hX7 hM7
      go_wp2
      go_ret2
      exact ⟨ret2 HS.out.1.symm HS.out.2.symm, hB7⟩
    · have HS : Hid (smallV z = z ∧ smallB z = true) := by
        show _ ∧ _
        unfold smallV smallB
        exact ⟨if_pos (by omega), decide_eq_true (by omega)⟩
      obtain ⟨dd, hdd⟩ : ∃ dd, dd = cmpI z 9223372036854775807 := ⟨_, rfl⟩
      have ddd : decide (0 < dd) = false := by
        refine decide_eq_false ?_
        rw [hdd]
        unfold cmpI
        rw [if_neg hhi]
        split <;> decide
      rw [← hdd]
      clear hdd
      have HSG := Lib.hid hM7.sgn
      have HFT := Lib.hid hM7.fit
      have hlie := hM7.lie
      have HZ : Hid (-9223372036854775808 ≤ z ∧ z ≤ 9223372036854775807) := show _ ∧ _ from ⟨by omega, by omega⟩
      obtain ⟨x0, x1, _, _⟩ := hX7.cells
      clear hlo hhi hM7 x0 x1
      cases bl
      · have HN : Hid ((((z.natAbs : Nat) : Int)) = z ∧ z.natAbs ≤ 9223372036854775807) := by
          show _ ∧ _
          have h1 := HSG.out
          have h2 := HZ.out
          simp at h1
          omega
        clear HSG HZ
        generalize z.natAbs = N at *
        obtain ⟨x0, x1, _, _⟩ := hX7.cells
        go_wp2
        clear x0 x1
        go_loopw [6, 7] (fun nv iv wr => ∃ k : Nat, k ≤ n ∧ iv = .int .i64 ((k : Int) - 1) ∧ nv = .int .i64 (((N / 10 ^ k : Nat) : Int)) ∧ Below w7.heap.size w7 wr) (fun _ iv _ => (intOf iv + 1).toNat)
        case atStart => exact ⟨n, Nat.le_refl _, by go_num, by rw [Nat.div_eq_of_lt HFT.out.1]; rfl, Below.refl _ _⟩
        case round =>
          obtain ⟨k, hk, rfl, rfl, hbl⟩ := hrel
          obtain ⟨x0, x1, _, _⟩ := (hX7.below hbl).cells
          cases k with
          | zero =>
            have hfin : Below w.heap.size w wr := hB7.trans (hbl.mono hB7.size)
            have HV : Hid (((N / 10 ^ 0 : Nat) : Int) = z) := by show _ = _; rw [Nat.pow_zero, Nat.div_one]; exact HN.out.1
            generalize ((N / 10 ^ 0 : Nat) : Int) = V at *
            clear hlie hbl
            go_wp2
            go_ret2
            exact ⟨ret2 (HV.out.trans HS.out.1.symm) HS.out.2.symm, hfin⟩
          | succ k =>
            rw [show (((k + 1 : Nat) : Int) - 1) = (k : Int) by omega]
            obtain ⟨bb, oo, rfl, hbb⟩ := hlie.some_of_pos (by omega)
            have c1 := (hlie.below hbl).at k (by omega)
            have hup := part_up N k
            have hdl := dig_lt N k
            have hle := Nat.div_le_self N (10 ^ k)
            have hNl := HN.out.2
            obtain ⟨D, hD⟩ : ∃ D : Int, D = ((dig N k : Nat) : Int) := ⟨_, rfl⟩
            obtain ⟨V, hV⟩ : ∃ V : Int, V = ((N / 10 ^ (k + 1) : Nat) : Int) := ⟨_, rfl⟩
            have HU : Hid (10 * V + D = ((N / 10 ^ k : Nat) : Int)) := by show _ = _; omega
            have hD0 : 0 ≤ D := by omega
            have hD1 : D ≤ 9 := by omega
            have hV0 : 0 ≤ V := by omega
            have hV1 : 10 * V + D ≤ 9223372036854775807 := by omega
            rw [← hD] at c1
            rw [← hV]
            clear hup hdl hle hNl hD hV
            go_wp2
            go_roundw
            case rel => exact ⟨k, by omega, by go_num, by rw [HU.out], hbl⟩
            case measure => simp [intOf]
      · have HN : Hid ((-((z.natAbs : Nat) : Int)) = z ∧ z.natAbs ≤ 9223372036854775808) := by
          show _ ∧ _
          have h1 := HSG.out
          have h2 := HZ.out
          simp at h1
          omega
        clear HSG HZ
        generalize z.natAbs = N at *
        obtain ⟨x0, x1, _, _⟩ := hX7.cells
        go_wp2
        clear x0 x1
        go_loopw [6, 7] (fun nv iv wr => ∃ k : Nat, k ≤ n ∧ iv = .int .i64 ((k : Int) - 1) ∧ nv = .int .i64 (-((N / 10 ^ k : Nat) : Int)) ∧ Below w7.heap.size w7 wr) (fun _ iv _ => (intOf iv + 1).toNat)
        case atStart => exact ⟨n, Nat.le_refl _, by go_num, by rw [Nat.div_eq_of_lt HFT.out.1]; rfl, Below.refl _ _⟩
        case round =>
          obtain ⟨k, hk, rfl, rfl, hbl⟩ := hrel
          obtain ⟨x0, x1, _, _⟩ := (hX7.below hbl).cells
          cases k with
          | zero =>
            have hfin : Below w.heap.size w wr := hB7.trans (hbl.mono hB7.size)
            have HV : Hid (-((N / 10 ^ 0 : Nat) : Int) = z) := by show _ = _; rw [Nat.pow_zero, Nat.div_one]; exact HN.out.1
            generalize -((N / 10 ^ 0 : Nat) : Int) = V at *
            clear hlie hbl
            go_wp2
            go_ret2
            exact ⟨ret2 (HV.out.trans HS.out.1.symm) HS.out.2.symm, hfin⟩
          | succ k =>
            rw [show (((k + 1 : Nat) : Int) - 1) = (k : Int) by omega]
            obtain ⟨bb, oo, rfl, hbb⟩ := hlie.some_of_pos (by omega)
            have c1 := (hlie.below hbl).at k (by omega)
            have hup := part_up N k
            have hdl := dig_lt N k
            have hle := Nat.div_le_self N (10 ^ k)
            have hNl := HN.out.2
            obtain ⟨D, hD⟩ : ∃ D : Int, D = ((dig N k : Nat) : Int) := ⟨_, rfl⟩
            obtain ⟨V, hV⟩ : ∃ V : Int, V = ((N / 10 ^ (k + 1) : Nat) : Int) := ⟨_, rfl⟩
            have HU : Hid (10 * -V - D = -((N / 10 ^ k : Nat) : Int)) := by show _ = _; omega
            have hD0 : 0 ≤ D := by omega
            have hD1 : D ≤ 9 := by omega
            have hV0 : 0 ≤ V := by omega
            have hV1 : 10 * V + D ≤ 9223372036854775808 := by omega
            rw [← hD] at c1
            rw [← hV]
            clear hup hdl hle hNl hD hV
            go_wp2
            go_roundw
            case rel => exact ⟨k, by omega, by go_num, by rw [HU.out], hbl⟩
            case measure => simp [intOf]
end Go.Proofs.YtpacbipencmjnaaDoor

/- The walk of the law LongTells. -/
namespace Go.Proofs.YtpacbipencmjnaaDoor
open Go.RowKit

/-- What Root answers. -/
def RR (x z er : Int) : Prop := (x < 0 ∧ z = 0 ∧ er = 12) ∨ (0 ≤ x ∧ z = ((isq x.natAbs : Nat) : Int) ∧ er = 0)
theorem rr_uniq {x z er z' er' : Int} (h : RR x z er) (k : RR x z' er') : z' = z ∧ er' = er := by
  rcases h with ⟨h0, rfl, rfl⟩ | ⟨h0, rfl, rfl⟩ <;> rcases k with ⟨k0, rfl, rfl⟩ | ⟨k0, rfl, rfl⟩
  · exact ⟨rfl, rfl⟩
  · omega
  · omega
  · exact ⟨rfl, rfl⟩
theorem isq_le (N : Nat) : isq N ≤ N := by
  have := (isq_spec N).1
  rcases Nat.eq_zero_or_pos (isq N) with h | h
  · omega
  · have := Nat.le_mul_of_pos_left (isq N) h
    omega
theorem rr_small {x z er : Int} (h : RR x z er) : z.natAbs ≤ x.natAbs := by
  rcases h with ⟨_, rfl, _⟩ | ⟨_, rfl, _⟩
  · exact Nat.zero_le _
  · rw [Int.natAbs_natCast]
    exact isq_le _
theorem Root_all (bl : Bool) (a : Option Addr) (n c : Nat) (x : Int) (w : World) (h : Num w bl a n c x) (hn : n ≤ 10000000) :
    Calls Tryd.prog 6 #[.agg #[.bool bl, .slice a n c]] w (fun e w' => ∃ z er : Int, RR x z er ∧ PNumE z er w e w') := by
  have hs := h.sgn
  by_cases hx : x < 0
  · rw [decide_eq_true hx] at hs
    subst hs
    exact (Root_neg a n c w).mono (fun e w' hp => ⟨0, 12, .inl ⟨hx, rfl, rfl⟩, hp⟩)
  · rw [decide_eq_false hx] at hs
    subst hs
    exact (Root_pos a n c x w h hn).mono (fun e w' ⟨R, r1, r2, hp⟩ => ⟨_, 0, .inr ⟨by omega, by rw [isq_uniq r1 r2], rfl⟩, hp⟩)
theorem rRoot_all (bl : Bool) (a : Option Addr) (n c : Nat) (x : Int) (w : World) (h : RNum w bl a n c x) (hn : n ≤ 1000000) :
    Calls Tryd.prog 7 #[.agg #[.bool bl, .slice a n c]] w (fun e w' => ∃ z er : Int, RR x z er ∧ PRR z er w e w') := by
  have hs := h.sgn
  by_cases hx : x < 0
  · rw [decide_eq_true hx] at hs
    subst hs
    exact (rRoot_neg a n c w).mono (fun e w' hp => ⟨0, 12, .inl ⟨hx, rfl, rfl⟩, hp⟩)
  · rw [decide_eq_false hx] at hs
    subst hs
    have e : ((x.natAbs : Nat) : Int) = x := by omega
    have h' : RNum w false a n c ((x.natAbs : Nat) : Int) := by rw [e]; exact h
    exact (rRoot_pos a n c x.natAbs w h' hn).mono (fun e w' hp => ⟨_, 0, .inr ⟨by omega, rfl, rfl⟩, hp⟩)

set_option maxRecDepth 100000 in
set_option maxHeartbeats 12800000 in
theorem LongTells_any (s : ByteArray) (w : World) (hs : s.size ≤ maxLen) :
    Calls Tryd.prog 3 #[.string s] w (PVal (.bool true) w) := by
  have HS := Lib.hid hs
  have HT : Hid ((⟨#[48]⟩ : ByteArray).size ≤ maxLen) := by show _ ≤ _; unfold maxLen; decide
  clear hs
  obtain ⟨t, ht⟩ : ∃ t : ByteArray, t = ⟨#[48]⟩ := ⟨_, rfl⟩
  rw [← ht] at HT
  go_enter Tryd.func3, Tryd.ntmps3
  go_wp2_with fail
  refine (awake_any _).mono ?_
  rintro e w0 ⟨rfl, hB0⟩
  go_wp2_with fail
  rw [← ht]
  clear ht
  refine (two_any s t _ HS.out HT.out).mono ?_
  rintro e w1 ⟨b1, a1, n1, c1, b2, a2, n2, c2, b3, a3, n3, c3, b4, a4, n4, c4, rfl, hX, hY, hRx, hRy, hB1⟩
  have hT := t5_mk (hB0.trans (hB1.mono hB0.size)) hX hY hRx hRy 25 28
  clear hX hY hRx hRy hB0 hB1
  obtain ⟨is1, his1⟩ : ∃ q, twoB s t = q := ⟨_, rfl⟩
  rw [his1]
  have HI1 := Lib.hid his1
  clear his1
  go_upto_region 3 with (fail)
  generalize (((w1.alloc (.cells #[.bool b1, .slice a1 n1 c1] 25)).alloc (.cells #[.bool b2, .slice a2 n2 c2] 25)).alloc (.cells #[.bool b3, .slice a3 n3 c3] 28)).alloc (.cells #[.bool b4, .slice a4 n4 c4] 28) = W1 at *
  rcases is1 with _ | _
  · have hfin := hT.below
    clear hT
    go_wp2
    go_ret
    exact ⟨rfl, hfin⟩
  have l1 := pz_len hT.X.num (twoB_ok HI1.out).1
  clear HI1 HT
  generalize pZ s = x at *
  generalize pZ t = y at *
  have BX : Hid (x.natAbs < BB ^ 150) := tfitB hT.X.num.fit.1 l1
  have l3 : n3 ≤ 1500 := rlen hT.V.num.fit BX.out
  clear l1
  have l1 : n1 ≤ 150 := fit_le hT.X.num.fit BX.out
  by_cases hlen : 100 < s.size
  · have hl2 : decide ((100 : Int) < ((s.size : Nat) : Int)) = true := decide_eq_true (by omega)
    have hfin := hT.below
    have hsz : s.size ≤ 9223372036854775807 := by have := HS.out; unfold maxLen at this; omega
    clear hT
    go_wp2
    go_ret
    exact ⟨rfl, hfin⟩
  have hl2 : decide ((100 : Int) < ((s.size : Nat) : Int)) = false := decide_eq_false (by omega)
  have hsz : s.size ≤ 100 := by omega
  obtain ⟨p0, p1, q0, q1, r0, r1, u0, u1⟩ := hT.hs
  go_wp2_with fail
  refine (Root_all b1 a1 n1 c1 x _ hT.X.num (by omega)).mono ?_
  rintro e W2 ⟨z, er, hrr, b5, a5, n5, c5, rfl, hN5, _, hb⟩
  have hal := below_new W2 (.cells #[.bool b5, .slice a5 n5 c5] 25)
  replace hT := (hT.later hb).later hal
  have hV := vi_new 25 hN5
  have HRR := Lib.hid hrr
  have BZ : Hid (z.natAbs < BB ^ 150) := Nat.lt_of_le_of_lt (rr_small hrr) BX.out
  clear hb hal hN5 hrr p0 p1 q0 q1 r0 r1 u0 u1 hl2
  obtain ⟨p0, p1, q0, q1, r0, r1, u0, u1⟩ := hT.hs
  go_wp2_with fail
  generalize W2.alloc (.cells #[.bool b5, .slice a5 n5 c5] 25) = W3 at *
  generalize W2.heap.size = i2 at *
  refine (rRoot_all b3 a3 n3 c3 x _ hT.V.num (by omega)).mono ?_
  rintro e W4 ⟨z', er', hrr', b7, a7, n7, c7, rfl, hN7, hb⟩
  obtain ⟨rfl, rfl⟩ := rr_uniq HRR.out hrr'
  have hal := below_new W4 (.cells #[.bool b7, .slice a7 n7 c7] 28)
  replace hT := (hT.later hb).later hal
  replace hV := (hV.below hb).below hal
  have hU := rvi_new 28 hN7
  clear hb hal hN7 hrr' HRR p0 p1 q0 q1 r0 r1 u0 u1
  have v0 := hV.k0
  have v1 := hV.k1
  go_wp2_with fail
  generalize W4.alloc (.cells #[.bool b7, .slice a7 n7 c7] 28) = W5 at *
  generalize W4.heap.size = i4 at *
  refine (String_all b5 a5 n5 c5 z' _ hV.num (len_of hV.num BZ.out (by omega))).mono ?_
  rintro e W6 ⟨m1, rfl, ht, hb⟩
  replace hT := hT.later hb
  replace hU := hU.below hb
  have HT1 := Lib.hid ht
  clear hb ht v0 v1 hV
  obtain ⟨S1, hS1⟩ : ∃ S : ByteArray, S = ⟨m1.toArray⟩ := ⟨_, rfl⟩
  rw [← hS1]
  have HS1 := Lib.hid hS1
  clear hS1
  have HRB := Lib.hid (fun W h => rBits_any b3 a3 n3 c3 x W h (by omega))
  have HLB := Lib.hid (fun W h => Bits_any b1 a1 n1 c1 x W h (by omega))
  have HLS := Lib.hid (fun W h => Small_any b1 a1 n1 c1 x W h (by omega))
  have HRS := Lib.hid (fun W h => rSmall_any b3 a3 n3 c3 x W h (by omega))
  generalize bitsN x.natAbs = nb at *
  generalize smallV x = sv at *
  generalize smallB x = sb at *
  obtain ⟨p0, p1, q0, q1, r0, r1, u0, u1⟩ := hT.hs
  go_wp2_with fail
  refine (HLB.out _ hT.X.num).mono ?_
  rintro e W7 ⟨rfl, hb⟩
  replace hT := hT.later hb
  replace hU := hU.below hb
  clear hb p0 p1 q0 q1 r0 r1 u0 u1
  obtain ⟨p0, p1, q0, q1, r0, r1, u0, u1⟩ := hT.hs
  go_wp2_with fail
  refine (HLS.out _ hT.X.num).mono ?_
  rintro e W8 ⟨rfl, hb⟩
  replace hT := hT.later hb
  replace hU := hU.below hb
  clear hb p0 p1 q0 q1 r0 r1 u0 u1
  obtain ⟨p0, p1, q0, q1, r0, r1, u0, u1⟩ := hT.hs
  go_wp2_with fail
  refine (HRS.out _ hT.V.num).mono ?_
  rintro e W9 ⟨rfl, hb⟩
  replace hT := hT.later hb
  replace hU := hU.below hb
  clear hb p0 p1 q0 q1 r0 r1 u0 u1
  have v0 := hU.k0
  have v1 := hU.k1
  go_wp2_with fail
  refine (rString_all b7 a7 n7 c7 z' _ hU.num (Nat.le_trans (rlen hU.num.fit BZ.out) (by omega))).mono ?_
  rintro e W10 ⟨o1, rfl, ht, hb⟩
  replace hT := hT.later hb
  rw [txt_str HT1.out ht, ← HS1.out]
  clear hb ht v0 v1 hU
  obtain ⟨p0, p1, q0, q1, r0, r1, u0, u1⟩ := hT.hs
  go_wp2_with fail
  refine (HRB.out _ hT.V.num).mono ?_
  rintro e W11 ⟨rfl, hb⟩
  have hfin := (hT.later hb).below
  clear hb p0 p1 q0 q1 r0 r1 u0 u1 hT
  go_wp2
  go_ret
  exact ⟨rfl, hfin⟩
end Go.Proofs.YtpacbipencmjnaaDoor
