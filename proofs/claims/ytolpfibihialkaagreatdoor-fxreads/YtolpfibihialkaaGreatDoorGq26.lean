/- Parts of the proof. -/
import Derived.Test.YtolpfibihialkaaGreatDoorGq12
import Derived.Test.YtolpfibihialkaaGreatDoorGq19
import Derived.Test.YtolpfibihialkaaGreatDoorGq20
/- Fixed numbers: the walks of digitsAlone, withoutNoughts. -/
namespace Go.Proofs.YtolpfibihialkaaGreatDoor
open Go.RowKit
/-- Are they digits alone? -/
def digB (l : List UInt8) : Bool := l.all isDig
set_option maxHeartbeats 800000 in
theorem digitsAlone_any (s : ByteArray) (w : World) (hs : s.size ≤ 100) :
  Calls Tryz.prog 72 #[.string s] w fun e w' => e = .returned (.bool (digB s.data.toList)) ∧ w = w' := by
 go_enter Tryz.func72, Tryz.ntmps72
 go_wp2
 go_loop [6] (fun iv => ∃ k : Nat, k ≤ s.size ∧ iv = .int .i64 k ∧ (s.data.toList.take k).all isDig = true) (fun iv => s.size - (intOf iv).toNat)
 case atStart => exact ⟨0, Nat.zero_le _, rfl, rfl⟩
 case round =>
  obtain ⟨k, hk, rfl, hall⟩ := hrel
  have HA := Lib.hid hall
  clear hall
  by_cases hlt : k < s.size
  ·
   by_cases hdg : isDig s[k] = true
   ·
    obtain ⟨h48, h57⟩ := isDig_le hdg
    have HS : Hid ((s.data.toList.take (k + 1)).all isDig = true) := by
     show _ = _; rw [take_snoc s k hlt, List.all_append, HA.out]; simp [hdg]
    clear hdg
    go_wp2
    go_round
    case rel => exact ⟨k + 1, by omega, by go_num, HS.out⟩
    case measure => simp [intOf]; omega
   ·
    have HR : Hid (digB s.data.toList = false) := by
     show _ = _
     unfold digB; rw [Bool.eq_false_iff]; intro h; exact hdg (all_at h k hlt)
    have hcase : (s[k].toNat : Int) < 48 ∨ (57 : Int) < (s[k].toNat : Int) := by
     unfold isDig at hdg; simp at hdg; omega
    clear hdg
    rcases hcase with hc | hc
    ·
     go_wp2
     go_ret
     exact ⟨by rw [HR.out]; rfl, rfl⟩
    ·
     have hc2 : ¬ (s[k].toNat : Int) < 48 := by omega
     go_wp2
     go_ret
     exact ⟨by rw [HR.out]; rfl, rfl⟩
  ·
   obtain rfl : k = s.size := by omega
   have HR : Hid (digB s.data.toList = true) := by show _ = _; unfold digB; have := HA.out; rwa [List.take_of_length_le (by simp)] at this
   go_wp2
   go_ret
   exact ⟨by rw [HR.out]; rfl, rfl⟩
/-- Digits without the noughts ahead; one is left of 0. -/
def wnL (l : List UInt8) : List UInt8 := if (l.dropWhile (· == 48)).isEmpty then [48] else l.dropWhile (· == 48)
set_option maxHeartbeats 800000 in
theorem withoutNoughts_any (s : ByteArray) (w : World) (hs : s.size ≤ 100) :
  Calls Tryz.prog 73 #[.string s] w fun e w' => e = .returned (.string ⟨(wnL s.data.toList).toArray⟩) ∧ w = w' := by
 go_enter Tryz.func73, Tryz.ntmps73
 go_wp2_with fail
 refine (Tryz.strings_TrimLeft_one s 48 (by decide) _).mono ?_
 rintro e w1 ⟨rfl, hw⟩
 subst hw
 have e1 : Lib.trimLeftB s.data.toList 48 = s.data.toList.dropWhile (· == 48) := rfl
 rw [e1]
 by_cases h : (s.data.toList.dropWhile (· == 48)).isEmpty = true
 ·
  have HR : Hid (wnL s.data.toList = [48]) := by show _ = _; unfold wnL; rw [if_pos h]
  rw [List.isEmpty_iff.1 h]
  clear e1 h
  go_wp2
  go_ret
  exact ⟨by rw [HR.out]; rfl, rfl⟩
 ·
  have HR : Hid (wnL s.data.toList = s.data.toList.dropWhile (· == 48)) := by show _ = _; unfold wnL; rw [if_neg h]
  have hn : (s.data.toList.dropWhile (· == 48)).isEmpty = false := by simpa using h
  clear e1 h
  generalize s.data.toList.dropWhile (· == 48) = d at *
  obtain ⟨t, ht⟩ : ∃ t : ByteArray, t = ⟨d.toArray⟩ := ⟨_, rfl⟩
  have h1 : t.toList.isEmpty = false := by rw [Lib.toList_data, ht]; exact hn
  have h2 : (t.toList == []) = false := by
   cases hl : t.toList with
   | nil => rw [hl] at h1; cases h1
   | cons c l => rfl
  rw [← ht]
  have HT := Lib.hid ht
  clear ht hn
  go_wp2
  go_ret
  exact ⟨by rw [HR.out, ← HT.out]; rfl, rfl⟩
end Go.Proofs.YtolpfibihialkaaGreatDoor

/- Fixed numbers: the walk of read. -/
namespace Go.Proofs.YtolpfibihialkaaGreatDoor
open Go.RowKit
/-- A text's digits ahead of the point and behind it, and whether there is one. -/
def fC (l : List UInt8) : List UInt8 × List UInt8 × Bool := Lib.cut (pD l) [46]
def fW (l : List UInt8) : List UInt8 := (fC l).1
def fB (l : List UInt8) : List UInt8 := (fC l).2.1
def fP (l : List UInt8) : Bool := (fC l).2.2
/-- Are these parts a number's? -/
def partsB (W B : List UInt8) (b p : Bool) : Bool :=
 !W.isEmpty && digB W && digB B && !(W.head? == some 48 && decide (1 < W.length)) && !(p && B.isEmpty) && decide (B.length ≤ 20) && !(b && wnL (W ++ B) == [48])
/-- Is a text a fixed number? -/
def readsB (l : List UInt8) : Bool := partsB (fW l) (fB l) (pB l) (fP l)
section
variable {W B : List UInt8} {b p : Bool}
theorem bad4 (h : (W.head? == some 48 && decide (1 < W.length)) = true) : partsB W B b p = false := by unfold partsB; rw [h]; simp
theorem bad5 (h : (p && B.isEmpty) = true) : partsB W B b p = false := by unfold partsB; rw [h]; simp
theorem bad6 (h : decide (B.length ≤ 20) = false) : partsB W B b p = false := by unfold partsB; rw [h]; simp
theorem bad7 (h : (b && wnL (W ++ B) == [48]) = true) : partsB W B b p = false := by unfold partsB; rw [h]; simp
theorem good1 (h1 : W.isEmpty = false) (h2 : digB W = true) (h3 : digB B = true) (h4 : (W.head? == some 48 && decide (1 < W.length)) = false) (h5 : (p && B.isEmpty) = false) (h6 : decide (B.length ≤ 20) = true) (h7 : (b && wnL (W ++ B) == [48]) = false) : partsB W B b p = true := by
 unfold partsB; rw [h1, h2, h3, h4, h5, h6, h7]; rfl
end
theorem cut_len (s sep : List UInt8) : (Lib.cut s sep).1.length ≤ s.length ∧ (Lib.cut s sep).2.1.length ≤ s.length := by
 unfold Lib.cut
 split
 ·
  simp only [List.length_take, List.length_drop]; omega
 ·
  simp
/-- What read hands back. -/
def PRead (ok : Bool) (b : Bool) (W B : ByteArray) (w : World) (e : Ending) (w' : World) : Prop :=
 e = .returned (if ok then .tuple #[.agg #[.bool b, .string W, .string B], .bool true] else .tuple #[.agg #[.bool false, .string ⟨#[]⟩, .string ⟨#[]⟩], .bool false]) ∧ Below w.heap.size w w'
theorem isEmp (s : ByteArray) (h : s.data.toList.isEmpty = false) : s.toList.isEmpty = false ∧ (s.toList == []) = false ∧ 0 < s.size := by
 rw [Lib.toList_data]
 refine ⟨h, ?_, ?_⟩
 ·
  cases hl : s.data.toList with
  | nil => rw [hl] at h; cases h
  | cons c l => rfl
 ·
  rw [← size_list]
  cases hl : s.data.toList with
  | nil => rw [hl] at h; cases h
  | cons c l => simp
theorem three_sets {w w1 : World} (h : Below w.heap.size w w1) (u v x : Value) : Below w.heap.size w (((w1.setCell ⟨w.heap.size, 0, none⟩ u).setCell ⟨w.heap.size, 1, none⟩ v).setCell ⟨w.heap.size, 2, none⟩ x) :=
 ((h.setCell (p := ⟨w.heap.size, 0, none⟩) (Nat.le_refl _) _).setCell (p := ⟨w.heap.size, 1, none⟩) (Nat.le_refl _) _).setCell (p := ⟨w.heap.size, 2, none⟩) (Nat.le_refl _) _
theorem app_list (W B : ByteArray) : (W ++ B).data.toList = W.data.toList ++ B.data.toList := by simp
theorem size_app (W B : ByteArray) : (W ++ B).size = W.size + B.size := by simp
set_option maxRecDepth 100000 in
set_option maxHeartbeats 6400000 in
theorem read_any (s : ByteArray) (m : Int) (w : World) (hs : s.size ≤ 40) (hm : w.cell? ⟨1, 0, none⟩ = some (.int .i64 m)) :
  Calls Tryz.prog 32 #[.string s] w (PRead (readsB s.data.toList) (pB s.data.toList) ⟨(fW s.data.toList).toArray⟩ ⟨(fB s.data.toList).toArray⟩ w) := by
 have hlt := World.block_lt_of_cell? w _ hm
 have hm0 := (new_below w (.cells #[.bool false, .string ⟨#[]⟩, .string ⟨#[]⟩] 68)).cell (p := ⟨1, 0, none⟩) hlt |>.trans hm
 have hB0 := new_below w (.cells #[.bool false, .string ⟨#[]⟩, .string ⟨#[]⟩] 68)
 clear hm hlt
 go_enter Tryz.func32, Tryz.ntmps32
 go_wp2_with fail
 refine (Tryz.strings_CutPrefix s ⟨#[45]⟩ _).mono ?_
 rintro e w1 ⟨rfl, hw⟩
 subst hw
 have e1 : Lib.trimPrefix s.data.toList (⟨#[45]⟩ : ByteArray).data.toList = pD s.data.toList := rfl
 have e2 : Lib.hasPrefix s.data.toList (⟨#[45]⟩ : ByteArray).data.toList = pB s.data.toList := rfl
 rw [e1, e2]
 have hle := pD_le s.data.toList
 rw [size_list] at hle
 clear e1 e2
 obtain ⟨b, hb⟩ : ∃ b, b = pB s.data.toList := ⟨_, rfl⟩
 rw [← hb]
 have HBE := Lib.hid hb
 clear hb
 obtain ⟨sd, hsd⟩ : ∃ sd : ByteArray, sd = ⟨(pD s.data.toList).toArray⟩ := ⟨_, rfl⟩
 have hsz : sd.size ≤ 40 := by rw [hsd, ← size_list]; show (pD s.data.toList).length ≤ _; omega
 have e3 : sd.data.toList = pD s.data.toList := by rw [hsd]
 rw [← hsd]
 clear hsd hle
 go_wp2_with fail
 refine (Tryz.strings_Cut sd ⟨#[46]⟩ m _ (by omega) hm0).mono ?_
 rintro e w1 ⟨rfl, nq, rfl⟩
 have e4 : Lib.cut sd.data.toList (⟨#[46]⟩ : ByteArray).data.toList = fC s.data.toList := by rw [e3]; rfl
 have hcl := cut_len sd.data.toList (⟨#[46]⟩ : ByteArray).data.toList
 rw [e4, size_list] at hcl
 rw [e4]
 obtain ⟨W, hW⟩ : ∃ W : ByteArray, W = ⟨(fC s.data.toList).1.toArray⟩ := ⟨_, rfl⟩
 obtain ⟨B, hB⟩ : ∃ B : ByteArray, B = ⟨(fC s.data.toList).2.1.toArray⟩ := ⟨_, rfl⟩
 obtain ⟨p, hp⟩ : ∃ p, p = (fC s.data.toList).2.2 := ⟨_, rfl⟩
 have hWs : W.size ≤ 40 := by rw [hW, ← size_list]; show (fC s.data.toList).1.length ≤ _; omega
 have hBs : B.size ≤ 40 := by rw [hB, ← size_list]; show (fC s.data.toList).2.1.length ≤ _; omega
 rw [← hW, ← hB, ← hp]
 have HR : Hid (readsB s.data.toList = partsB W.data.toList B.data.toList b p ∧ fW s.data.toList = W.data.toList ∧ fB s.data.toList = B.data.toList) := by
  show _ ∧ _
  unfold readsB fW fB fP
  rw [hW, hB, hp, HBE.out]
  exact ⟨rfl, rfl, rfl⟩
 have hPR : PRead (readsB s.data.toList) (pB s.data.toList) ⟨(fW s.data.toList).toArray⟩ ⟨(fB s.data.toList).toArray⟩ w = PRead (partsB W.data.toList B.data.toList b p) b W B w := by
  rw [HR.out.1, HR.out.2.1, HR.out.2.2, HBE.out]
 have HPR := Lib.hid hPR
 clear hPR HR HBE hW hB hp e3 e4 hcl hm0
 have hB1 : Below w.heap.size w ((w.alloc (.cells #[.bool false, .string ⟨#[]⟩, .string ⟨#[]⟩] 68)).drewN nq) := below_drewN hB0 _
 clear hB0
 by_cases c1 : W.data.toList.isEmpty = true
 ·
  have HQ : Hid (partsB W.data.toList B.data.toList b p = false) := by show _ = _; unfold partsB; rw [c1]; rfl
  have hl' : W.toList = [] := by rw [Lib.toList_data]; exact List.isEmpty_iff.1 c1
  clear c1
  go_wp2
  refine bodyPost_ret (v := .tuple #[.agg #[.bool false, .string ⟨#[]⟩, .string ⟨#[]⟩], .bool false]) (by simp [results, Tryz.results32, go_sem]) rfl ?_
  rw [HPR.out]
  exact ⟨by rw [HQ.out]; rfl, three_sets hB1 _ _ _⟩
 ·
  have c1' : W.data.toList.isEmpty = false := by simpa using c1
  obtain ⟨k1, k2, k3⟩ := isEmp W c1'
  have hhd : W.data.toList.head? = some W[0] := by
   rw [List.head?_eq_getElem?, List.getElem?_eq_getElem (by simpa using k3)]; rfl
  have C1 := Lib.hid c1'
  have HH := Lib.hid hhd
  clear c1 c1' hhd
  cases c2 : digB W.data.toList
  ·
   have HQ : Hid (partsB W.data.toList B.data.toList b p = false) := by show _ = _; unfold partsB; rw [c2]; simp
   go_wp2_with (go_at_call 72; (with_reducible refine (digitsAlone_any _ _ (by omega)).mono ?_); rintro e w' ⟨rfl, rfl⟩)
   refine bodyPost_ret (v := .tuple #[.agg #[.bool false, .string ⟨#[]⟩, .string ⟨#[]⟩], .bool false]) (by simp [results, Tryz.results32, go_sem]) rfl ?_
   rw [HPR.out]
   exact ⟨by rw [HQ.out]; rfl, three_sets hB1 _ _ _⟩
  ·
   cases c3 : digB B.data.toList
   ·
    have HQ : Hid (partsB W.data.toList B.data.toList b p = false) := by show _ = _; unfold partsB; rw [c3]; simp
    go_wp2_with (go_at_call 72; (with_reducible refine (digitsAlone_any _ _ (by omega)).mono ?_); rintro e w' ⟨rfl, rfl⟩)
    refine bodyPost_ret (v := .tuple #[.agg #[.bool false, .string ⟨#[]⟩, .string ⟨#[]⟩], .bool false]) (by simp [results, Tryz.results32, go_sem]) rfl ?_
    rw [HPR.out]
    exact ⟨by rw [HQ.out]; rfl, three_sets hB1 _ _ _⟩
   ·
    by_cases c4 : W[0].toNat = 48 ∧ 1 < W.size
    ·
     obtain ⟨c5, c6⟩ := c4
     have hz3 : W[0] = 48 := UInt8.toNat.inj (by rw [c5]; rfl)
     have HQ : Hid (partsB W.data.toList B.data.toList b p = false) := by
      show _ = _
      have h1 : 1 < W.data.toList.length := by rw [size_list]; exact c6
      exact bad4 (by rw [HH.out, hz3, decide_eq_true h1]; rfl)
     have c5' : ((W[0].toNat : Int) == 48) = true := by simp; omega
     clear hz3 c5
     go_wp2_with (go_at_call 72; (with_reducible refine (digitsAlone_any _ _ (by omega)).mono ?_); rintro e w' ⟨rfl, rfl⟩)
     refine bodyPost_ret (v := .tuple #[.agg #[.bool false, .string ⟨#[]⟩, .string ⟨#[]⟩], .bool false]) (by simp [results, Tryz.results32, go_sem]) rfl ?_
     rw [HPR.out]
     exact ⟨by rw [HQ.out]; rfl, three_sets hB1 _ _ _⟩
    ·
     have H4 : Hid ((W.data.toList.head? == some 48 && decide (1 < W.data.toList.length)) = false) := by
      show _ = _
      rw [HH.out, Bool.eq_false_iff]
      intro h
      rw [Bool.and_eq_true] at h
      have h1 : W[0] = 48 := by simpa using h.1
      exact c4 ⟨by rw [h1]; rfl, by have := of_decide_eq_true h.2; rwa [size_list] at this⟩
     have hcase : ((W[0].toNat : Int) == 48) = false ∨ ((W[0].toNat : Int) == 48) = true ∧ ¬ 1 < W.size := by
      by_cases h : W[0].toNat = 48
      ·
       exact .inr ⟨by simp; omega, fun h' => c4 ⟨h, h'⟩⟩
      ·
       exact .inl (by simp; omega)
     clear c4
     by_cases c5 : (p && B.data.toList.isEmpty) = true ∨ 20 < B.size
     ·
      have HQ : Hid (partsB W.data.toList B.data.toList b p = false) := by
       show _ = _
       rcases c5 with h | h
       ·
        exact bad5 h
       ·
        exact bad6 (decide_eq_false (by rw [size_list]; omega))
      have hc5 : (p = true ∧ B.toList = []) ∨ ((p && B.data.toList.isEmpty) = false ∧ 20 < B.size) := by
       by_cases h : (p && B.data.toList.isEmpty) = true
       ·
        rw [Bool.and_eq_true] at h
        exact .inl ⟨h.1, by rw [Lib.toList_data]; exact List.isEmpty_iff.1 h.2⟩
       ·
        exact .inr ⟨by simpa using h, by rcases c5 with h' | h'; exact absurd h' h; exact h'⟩
      clear c5
      rcases hc5 with ⟨rfl, h2⟩ | ⟨h1, h2⟩
      ·
       rcases hcase with h3 | ⟨h3, h4⟩
       all_goals
        go_wp2_with (go_at_call 72; (with_reducible refine (digitsAlone_any _ _ (by omega)).mono ?_); rintro e w' ⟨rfl, rfl⟩)
        refine bodyPost_ret (v := .tuple #[.agg #[.bool false, .string ⟨#[]⟩, .string ⟨#[]⟩], .bool false]) (by simp [results, Tryz.results32, go_sem]) rfl ?_
        rw [HPR.out]
        exact ⟨by rw [HQ.out]; rfl, three_sets hB1 _ _ _⟩
      ·
       cases p
       ·
        rcases hcase with h3 | ⟨h3, h4⟩
        all_goals
         go_wp2_with (go_at_call 72; (with_reducible refine (digitsAlone_any _ _ (by omega)).mono ?_); rintro e w' ⟨rfl, rfl⟩)
         refine bodyPost_ret (v := .tuple #[.agg #[.bool false, .string ⟨#[]⟩, .string ⟨#[]⟩], .bool false]) (by simp [results, Tryz.results32, go_sem]) rfl ?_
         rw [HPR.out]
         exact ⟨by rw [HQ.out]; rfl, three_sets hB1 _ _ _⟩
       ·
        obtain ⟨j1, j2, j3⟩ := isEmp B (by simpa using h1)
        rcases hcase with h3 | ⟨h3, h4⟩
        all_goals
         go_wp2_with (go_at_call 72; (with_reducible refine (digitsAlone_any _ _ (by omega)).mono ?_); rintro e w' ⟨rfl, rfl⟩)
         refine bodyPost_ret (v := .tuple #[.agg #[.bool false, .string ⟨#[]⟩, .string ⟨#[]⟩], .bool false]) (by simp [results, Tryz.results32, go_sem]) rfl ?_
         rw [HPR.out]
         exact ⟨by rw [HQ.out]; rfl, three_sets hB1 _ _ _⟩
     ·
      have h5 : (p && B.data.toList.isEmpty) = false := by rw [Bool.eq_false_iff]; exact fun h => c5 (.inl h)
      have h6 : ¬ 20 < B.size := fun h => c5 (.inr h)
      have H5 := Lib.hid h5
      have H6 : Hid (decide (B.data.toList.length ≤ 20) = true) := decide_eq_true (by rw [size_list]; omega)
      have hpc : p = false ∨ (p = true ∧ B.toList.isEmpty = false ∧ (B.toList == []) = false) := by
       cases p
       ·
        exact .inl rfl
       ·
        obtain ⟨j1, j2, j3⟩ := isEmp B (by simpa using h5)
        exact .inr ⟨rfl, j1, j2⟩
      clear c5 h5
      cases b
      ·
       have HQ : Hid (partsB W.data.toList B.data.toList false p = true) := good1 C1.out c2 c3 H4.out H5.out H6.out rfl
       rcases hpc with rfl | ⟨rfl, j1, j2⟩
       all_goals
        rcases hcase with h3 | ⟨h3, h4⟩
        all_goals
         go_wp2_with (go_at_call 72; (with_reducible refine (digitsAlone_any _ _ (by omega)).mono ?_); rintro e w' ⟨rfl, rfl⟩)
         refine bodyPost_ret (v := .tuple #[.agg #[.bool false, .string W, .string B], .bool true]) (by simp [results, Tryz.results32, go_sem]) rfl ?_
         rw [HPR.out]
         exact ⟨by rw [HQ.out]; rfl, three_sets hB1 _ _ _⟩
      ·
       by_cases hz : wnL (W.data.toList ++ B.data.toList) = [48]
       ·
        have HQ : Hid (partsB W.data.toList B.data.toList true p = false) := bad7 (by rw [hz]; rfl)
        have HT : Hid (wnL (W ++ B).data.toList = [48]) := by show _ = _; rw [app_list]; exact hz
        clear hz
        rcases hpc with rfl | ⟨rfl, j1, j2⟩
        all_goals
         rcases hcase with h3 | ⟨h3, h4⟩
         all_goals
          go_wp2_with (go_at_call 72; (with_reducible refine (digitsAlone_any _ _ (by omega)).mono ?_); rintro e w' ⟨rfl, rfl⟩)
          refine (withoutNoughts_any (W ++ B) _ (by rw [size_app]; omega)).mono ?_
          rintro e w' ⟨rfl, rfl⟩
          rw [HT.out]
          go_wp2
          refine bodyPost_ret (v := .tuple #[.agg #[.bool false, .string ⟨#[]⟩, .string ⟨#[]⟩], .bool false]) (by simp [results, Tryz.results32, go_sem]) rfl ?_
          rw [HPR.out]
          exact ⟨by rw [HQ.out]; rfl, three_sets hB1 _ _ _⟩
       ·
        have HQ : Hid (partsB W.data.toList B.data.toList true p = true) := good1 C1.out c2 c3 H4.out H5.out H6.out (by simp [hz])
        obtain ⟨T, hT⟩ : ∃ T : ByteArray, T = ⟨(wnL (W ++ B).data.toList).toArray⟩ := ⟨_, rfl⟩
        have hT1 : (T.toList == [48]) = false := by
         rw [Lib.toList_data, hT, beq_eq_false_iff_ne]
         show wnL (W ++ B).data.toList ≠ [48]
         rw [app_list]; exact hz
        have HT := Lib.hid hT
        clear hz hT
        rcases hpc with rfl | ⟨rfl, j1, j2⟩
        all_goals
         rcases hcase with h3 | ⟨h3, h4⟩
         all_goals
          go_wp2_with (go_at_call 72; (with_reducible refine (digitsAlone_any _ _ (by omega)).mono ?_); rintro e w' ⟨rfl, rfl⟩)
          refine (withoutNoughts_any (W ++ B) _ (by rw [size_app]; omega)).mono ?_
          rintro e w' ⟨rfl, rfl⟩
          rw [← HT.out]
          go_wp2
          refine bodyPost_ret (v := .tuple #[.agg #[.bool true, .string W, .string B], .bool true]) (by simp [results, Tryz.results32, go_sem]) rfl ?_
          rw [HPR.out]
          exact ⟨by rw [HQ.out]; rfl, three_sets hB1 _ _ _⟩
end Go.Proofs.YtolpfibihialkaaGreatDoor

/- Fixed numbers: what the digits of a text are, as numbers. -/
namespace Go.Proofs.YtolpfibihialkaaGreatDoor
open Go.RowKit
theorem dval_48 (l : List UInt8) : dval (48 :: l) = dval l := by
 unfold dval; rw [dvalF_cons]; rfl
theorem dval_drop48 (l : List UInt8) : dval (l.dropWhile (· == 48)) = dval l := by
 induction l with
 | nil => rfl
 | cons c l ih =>
  rw [List.dropWhile_cons]
  by_cases h : c = 48
  ·
   subst h; rw [dval_48]; simpa using ih
  ·
   simp [h]
theorem drop48_dig {l : List UInt8} (h : digB l = true) : digB (l.dropWhile (· == 48)) = true := by
 unfold digB at h ⊢
 rw [List.all_eq_true] at h ⊢
 exact fun c hc => h c ((List.dropWhile_sublist _).mem hc)
theorem not45 {c : UInt8} (h : isDig c = true) : (45 : UInt8) ≠ c := by
 intro e; subst e; exact absurd h (by decide)
theorem pB_dig {l : List UInt8} (h : digB l = true) : pB l = false := by
 unfold pB Lib.hasPrefix
 cases l with
 | nil => rfl
 | cons c l =>
  have hc : isDig c = true := by unfold digB at h; rw [List.all_cons, Bool.and_eq_true] at h; exact h.1
  simp only [List.isPrefixOf, Bool.and_true, beq_eq_false_iff_ne]
  exact not45 hc
theorem pD_dig {l : List UInt8} (h : digB l = true) : pD l = l := by
 have := pB_dig h
 unfold pD Lib.trimPrefix
 unfold pB at this
 rw [this]; rfl
theorem head_drop48 {l : List UInt8} : (l.dropWhile (· == 48)).head? ≠ some 48 := by
 induction l with
 | nil => simp
 | cons c l ih =>
  rw [List.dropWhile_cons]
  by_cases h : c = 48
  ·
   subst h; simpa using ih
  ·
   simp [h]
theorem wn_parses {d : List UInt8} (h : digB d = true) : parsesB (wnL d) = true ∧ zval (wnL d) = dval d ∧ digB (wnL d) = true := by
 unfold wnL
 have hv := dval_drop48 d
 have hd := drop48_dig h
 have hh := @head_drop48 d
 by_cases h0 : (d.dropWhile (· == 48)).isEmpty = true
 ·
  rw [if_pos h0]
  rw [List.isEmpty_iff.1 h0] at hv
  refine ⟨by decide, ?_, by decide⟩
  rw [← hv]; decide
 ·
  rw [if_neg h0]
  generalize d.dropWhile (· == 48) = e at *
  refine ⟨?_, ?_, hd⟩
  ·
   unfold parsesB wwB
   rw [pB_dig hd, pD_dig hd]
   have h1 : e.isEmpty = false := by simpa using h0
   have h2 : (e.head? != some 48) = true := by simpa using hh
   have h3 : e.all isDig = true := hd
   rw [h1, h2, h3]; rfl
  ·
   unfold zval
   rw [pB_dig hd, pD_dig hd, hv]; rfl
theorem rep_dig (k : Nat) : digB (Lib.repeatL [48] k) = true ∧ dval (Lib.repeatL [48] k) = 0 ∧ (Lib.repeatL [48] k).length = k := by
 induction k with
 | zero => exact ⟨rfl, rfl, rfl⟩
 | succ k ih =>
  have e : Lib.repeatL [48] (k + 1) = 48 :: Lib.repeatL [48] k := rfl
  rw [e]
  refine ⟨?_, by rw [dval_48]; exact ih.2.1, by rw [List.length_cons, ih.2.2]⟩
  have := ih.1
  unfold digB at this ⊢
  rw [List.all_cons, this]; decide
theorem ten_parses (k : Nat) : parsesB (49 :: Lib.repeatL [48] k) = true ∧ zval (49 :: Lib.repeatL [48] k) = ((10 ^ k : Nat) : Int) := by
 obtain ⟨h1, h2, h3⟩ := rep_dig k
 have hd : digB (49 :: Lib.repeatL [48] k) = true := by
  unfold digB at h1 ⊢
  rw [List.all_cons, h1]; decide
 refine ⟨?_, ?_⟩
 ·
  unfold parsesB wwB
  rw [pB_dig hd, pD_dig hd]
  have h3 : (49 :: Lib.repeatL [48] k).all isDig = true := hd
  rw [h3]; rfl
 ·
  unfold zval
  rw [pB_dig hd, pD_dig hd]
  show ((dval (49 :: Lib.repeatL [48] k) : Nat) : Int) = _
  rw [show 49 :: Lib.repeatL [48] k = [49] ++ Lib.repeatL [48] k from rfl, dval_append, h2, h3]
  show ((1 * 10 ^ k + 0 : Nat) : Int) = _
  rw [Nat.one_mul, Nat.add_zero]
theorem digB_app {a b : List UInt8} : digB (a ++ b) = (digB a && digB b) := by unfold digB; exact List.all_append
theorem dig_bd {d : List UInt8} (h : digB d = true) : dval d < BB ^ d.length := Nat.lt_of_lt_of_le (dval_lt d h) (Nat.pow_le_pow_left (by decide) _)
end Go.Proofs.YtolpfibihialkaaGreatDoor
