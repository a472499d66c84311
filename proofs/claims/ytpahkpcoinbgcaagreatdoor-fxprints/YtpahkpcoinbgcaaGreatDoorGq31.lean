/- Parts of the proof. -/
import Derived.Test.YtpahkpcoinbgcaaGreatDoorGq22
import Derived.Test.YtpahkpcoinbgcaaGreatDoorGq30
import Derived.Test.YtpahkpcoinbgcaaGreatDoorGq24
import Derived.LoopN
import Derived.Test.YtpahkpcoinbgcaaGreatDoorGq20
/- The document's fixed numbers: the walk of Print. No statement of the seat is proved here. -/
namespace Go.Proofs.YtpahkpcoinbgcaaGreatDoor
open Go Go.RowKit
def lenS : Value → Nat
 | .string s => s.size
 | _ => 0
theorem nStr (u : Int) (hu0 : 0 ≤ u) (hu : u ≤ 9223372036854775807) (p : NR) (w : World) (hz : p.z = u) (hp : p.is w) : Calls Tryz.prog 43 #[.agg #[.bool p.b, .slice p.a p.n p.c]] w fun e w' => ∃ T : ByteArray, e = .returned (.string T) ∧ T.data.toList = Lib.itoa u ∧ Below w.heap.size w w' := by
 have hn : p.n ≤ 40 := NR.len hp (by rw [hz]; exact e40 (by omega) (by omega))
 refine (rString_all p.b p.a p.n p.c p.z w hp (by omega)).mono ?_
 rintro e w' ⟨l, rfl, hl, hB⟩
 rw [hz] at hl
 have h2 := dd_txt u.natAbs
 rw [show ((u.natAbs : Nat) : Int) = u by omega] at h2
 exact ⟨_, rfl, by rw [txt_uniq hl h2], hB⟩
theorem fr_dig {r k : Nat} : Lib.itoa ((fd r k : Nat) : Int) = [(48 + fd r k).toUInt8] := by
 rw [Lib.itoa_nonneg, Lib.decDigits_one (fd_lt r k)]
set_option maxRecDepth 100000 in
set_option maxHeartbeats 6400000 in
theorem rfPrint_any (n : Int) (w : World) (n1 : -9223372036854775808 ≤ n) (n2 : n ≤ 9223372036854775807) : Calls Tryz.prog 21 #[.int .i64 n] w (PVal (.string ⟨(prL n).toArray⟩) w) := by
 go_enter Tryz.func21, Tryz.ntmps21
 go_wp2_with fail
 refine (nOf n n1 n2 _).mono ?_
 rintro e w1 ⟨p, hz, rfl, hp, hB1⟩
 have hn40 : p.n ≤ 40 := NR.len hp (by rw [hz]; exact e40 (by omega) (by omega))
 have HC := Lib.hid (rCut_any p.b p.a p.n p.c p.z w1 hp (by omega))
 rw [hz] at HC
 clear hp hn40 hz n1 n2
 go_wp2_with fail
 refine HC.out.mono ?_
 rintro e w2 ⟨rfl, hB2⟩
 replace hB1 := hB1.trans (hB2.mono hB1.size)
 clear hB2 HC
 have hbd := cut_bd n
 have hp : prL n = if cutI n < 0 then 45 :: absL (cutI n).natAbs else absL (cutI n).natAbs := rfl
 have HP := Lib.hid hp
 clear hp
 generalize cutI n = x at *
 generalize cutB n = c at *
 obtain ⟨hb1, hb2⟩ := hbd
 rcases Int.lt_or_le x 0 with hx | hx
 ·
  obtain ⟨N, rfl⟩ : ∃ N : Nat, x = -(N : Int) := ⟨x.natAbs, by omega⟩
  have hN0 : 0 < N := by omega
  have hN : N ≤ 2147483647 := by omega
  have HN : Hid (prL n = [45] ++ absL N) := by show _ = _; rw [HP.out, if_pos hx, Int.natAbs_neg, Int.natAbs_natCast]; rfl
  have dx : decide (-(N : Int) < 0) = true := decide_eq_true hx
  clear HP hx hb1 hb2
  go_wp2_with fail
  have HO := Lib.hid (nOf ((N : Int) / 1048576) (by omega) (by omega) w2)
  refine HO.out.mono ?_
  rintro e w3 ⟨q, hzq, rfl, hq, hB3⟩
  clear HO
  have HS := Lib.hid (nStr ((N : Int) / 1048576) (by omega) (by omega) q w3 hzq hq)
  clear hq hzq
  go_wp2_with fail
  refine HS.out.mono ?_
  rintro e w4 ⟨T, rfl, hT, hB4⟩
  have hB := (hB1.trans (hB3.mono hB1.size)).trans (hB4.mono (Nat.le_trans hB1.size hB3.size))
  clear hB1 hB3 hB4 HS
  have HT : Hid (T.data.toList = Lib.itoa ((N / 1048576 : Nat) : Int)) := by show _ = _; rw [hT]; rfl
  clear hT
  have hrl : N % 1048576 < 1048576 := Nat.mod_lt _ (by decide)
  have hTs : T.size ≤ 4 := by rw [← size_list, HT.out]; exact itoa_len (by omega)
  by_cases hr0 : N % 1048576 = 0
  ·
   have dz : decide (0 < (N : Int) % 1048576) = false := decide_eq_false (by omega)
   have hz : ¬ 0 < (N : Int) % 1048576 := by omega
   have HA : Hid (absL N = Lib.itoa ((N / 1048576 : Nat) : Int)) := show _ = _ from absL_whole hr0
   go_wp2
   refine wp_loop_rounds 1 ?_
   rw [rounds_succ]
   go_wp2
   go_ret
   exact ⟨ret_str (by rw [HN.out, HA.out]; simp [app_list, HT.out]), hB⟩
  ·
   have dz : decide (0 < (N : Int) % 1048576) = true := decide_eq_true (by omega)
   have hz : 0 < (N : Int) % 1048576 := by omega
   have HA : Hid (absL N = Lib.itoa ((N / 1048576 : Nat) : Int) ++ 46 :: frL (N % 1048576) (frK (N % 1048576))) := show _ = _ from absL_part hr0
   obtain ⟨r, hr⟩ : ∃ r : Nat, r = N % 1048576 := ⟨_, rfl⟩
   have hri : (N : Int) % 1048576 = (r : Int) := by omega
   rw [← hr] at HA hrl
   have HF := Lib.hid (frN_frK r)
   have HR := Lib.hid hrl
   have HRI := Lib.hid hri
   clear hri hrl hr hr0
   go_wp2
   go_loopw [3, 4] (fun sv rv wr => ∃ (k : Nat) (U : ByteArray), k ≤ frK r ∧ sv = .string U ∧ U.data.toList = [45] ++ (Lib.itoa ((N / 1048576 : Nat) : Int) ++ 46 :: frL r k) ∧ rv = .int .i64 ((fr r k : Nat) : Int) ∧ Below w.heap.size w wr) (fun sv _ _ => 100 - lenS sv)
   case atStart => exact ⟨0, _, Nat.zero_le _, rfl, (by simp [app_list, HT.out, frL]), (by rw [fr_zero HR.out, HRI.out]), hB⟩
   case round =>
    clear hB
    obtain ⟨k, U, hk, rfl, hU, rfl, hB⟩ := hrel
    have hkl := fr_lt r k
    have hU6 : U.size ≤ 26 := by
     rw [← size_list, hU]
     have h1 := itoa_len (n := N / 1048576) (by omega)
     have h2 := HF.out.1
     simp only [List.length_append, List.length_cons, List.length_nil, frL_len]
     omega
    have HU := Lib.hid hU
    clear hU
    by_cases hz0 : fr r k = 0
    ·
     have hke : k = frK r := by
      refine Nat.le_antisymm hk (Nat.le_of_not_lt fun hlt => ?_)
      exact HF.out.2.2 k hlt hz0
     subst hke
     have dk : decide (0 < ((fr r (frK r) : Nat) : Int)) = false := decide_eq_false (by omega)
     have hk2 : ¬ 0 < ((fr r (frK r) : Nat) : Int) := by omega
     go_wp2
     go_ret
     exact ⟨ret_str (by rw [HN.out, HA.out, HU.out]), hB⟩
    ·
     have hk1 : k + 1 ≤ frK r := by
      refine Nat.lt_of_le_of_ne hk fun e => hz0 ?_
      rw [e]
      exact HF.out.2.1
     have dk : decide (0 < ((fr r k : Nat) : Int)) = true := decide_eq_true (by omega)
     have hk2 : 0 < ((fr r k : Nat) : Int) := by omega
     have HQ : Hid (((fr r k : Nat) : Int) * 10 / 1048576 = ((fd r k : Nat) : Int) ∧ ((fr r k : Nat) : Int) * 10 % 1048576 = ((fr r (k + 1) : Nat) : Int)) := by
      show _ ∧ _
      rw [← fr_next]
      unfold fd
      omega
     have hfd := fd_lt r k
     clear hz0
     go_wp2_with fail
     rw [HQ.out.1]
     have HO := Lib.hid (nOf ((fd r k : Nat) : Int) (by omega) (by omega) wr)
     refine HO.out.mono ?_
     rintro e w5 ⟨p2, hz2, rfl, hp2, hB5⟩
     have HS := Lib.hid (nStr ((fd r k : Nat) : Int) (by omega) (by omega) p2 w5 hz2 hp2)
     clear hp2 hz2 HO
     go_wp2_with fail
     refine HS.out.mono ?_
     rintro e w6 ⟨T2, rfl, hT2, hB6⟩
     replace hB := (hB.trans (hB5.mono hB.size)).trans (hB6.mono (Nat.le_trans hB.size hB5.size))
     clear hB5 hB6 HS
     rw [fr_dig] at hT2
     have hT2s : T2.size = 1 := by rw [← size_list, hT2]; rfl
     have HT2 := Lib.hid hT2
     clear hT2
     go_wp2
     go_roundw
     case rel => exact ⟨k + 1, _, hk1, rfl, (by rw [app_list, HU.out, HT2.out, frL_succ]; simp), (by rw [HQ.out.2]), hB⟩
     case measure => simp [lenS]; omega
 ·
  obtain ⟨N, rfl⟩ : ∃ N : Nat, x = (N : Int) := ⟨x.natAbs, by omega⟩
  have hN : N ≤ 2147483647 := by omega
  have HN : Hid (prL n = [] ++ absL N) := by show _ = _; rw [HP.out, if_neg (by omega), Int.natAbs_natCast]; rfl
  have dx : decide ((N : Int) < 0) = false := decide_eq_false (by omega)
  clear HP hx hb1 hb2
  go_wp2_with fail
  have HO := Lib.hid (nOf ((N : Int) / 1048576) (by omega) (by omega) w2)
  refine HO.out.mono ?_
  rintro e w3 ⟨q, hzq, rfl, hq, hB3⟩
  clear HO
  have HS := Lib.hid (nStr ((N : Int) / 1048576) (by omega) (by omega) q w3 hzq hq)
  clear hq hzq
  go_wp2_with fail
  refine HS.out.mono ?_
  rintro e w4 ⟨T, rfl, hT, hB4⟩
  have hB := (hB1.trans (hB3.mono hB1.size)).trans (hB4.mono (Nat.le_trans hB1.size hB3.size))
  clear hB1 hB3 hB4 HS
  have HT : Hid (T.data.toList = Lib.itoa ((N / 1048576 : Nat) : Int)) := by show _ = _; rw [hT]; rfl
  clear hT
  have hrl : N % 1048576 < 1048576 := Nat.mod_lt _ (by decide)
  have hTs : T.size ≤ 4 := by rw [← size_list, HT.out]; exact itoa_len (by omega)
  by_cases hr0 : N % 1048576 = 0
  ·
   have dz : decide (0 < (N : Int) % 1048576) = false := decide_eq_false (by omega)
   have hz : ¬ 0 < (N : Int) % 1048576 := by omega
   have HA : Hid (absL N = Lib.itoa ((N / 1048576 : Nat) : Int)) := show _ = _ from absL_whole hr0
   go_wp2
   refine wp_loop_rounds 1 ?_
   rw [rounds_succ]
   go_wp2
   go_ret
   exact ⟨ret_str (by rw [HN.out, HA.out]; simp [app_list, HT.out]), hB⟩
  ·
   have dz : decide (0 < (N : Int) % 1048576) = true := decide_eq_true (by omega)
   have hz : 0 < (N : Int) % 1048576 := by omega
   have HA : Hid (absL N = Lib.itoa ((N / 1048576 : Nat) : Int) ++ 46 :: frL (N % 1048576) (frK (N % 1048576))) := show _ = _ from absL_part hr0
   obtain ⟨r, hr⟩ : ∃ r : Nat, r = N % 1048576 := ⟨_, rfl⟩
   have hri : (N : Int) % 1048576 = (r : Int) := by omega
   rw [← hr] at HA hrl
   have HF := Lib.hid (frN_frK r)
   have HR := Lib.hid hrl
   have HRI := Lib.hid hri
   clear hri hrl hr hr0
   go_wp2
   go_loopw [3, 4] (fun sv rv wr => ∃ (k : Nat) (U : ByteArray), k ≤ frK r ∧ sv = .string U ∧ U.data.toList = ([] : List UInt8) ++ (Lib.itoa ((N / 1048576 : Nat) : Int) ++ 46 :: frL r k) ∧ rv = .int .i64 ((fr r k : Nat) : Int) ∧ Below w.heap.size w wr) (fun sv _ _ => 100 - lenS sv)
   case atStart => exact ⟨0, _, Nat.zero_le _, rfl, (by simp [app_list, HT.out, frL]), (by rw [fr_zero HR.out, HRI.out]), hB⟩
   case round =>
    clear hB
    obtain ⟨k, U, hk, rfl, hU, rfl, hB⟩ := hrel
    have hkl := fr_lt r k
    have hU6 : U.size ≤ 26 := by
     rw [← size_list, hU]
     have h1 := itoa_len (n := N / 1048576) (by omega)
     have h2 := HF.out.1
     simp only [List.length_append, List.length_cons, List.length_nil, frL_len]
     omega
    have HU := Lib.hid hU
    clear hU
    by_cases hz0 : fr r k = 0
    ·
     have hke : k = frK r := by
      refine Nat.le_antisymm hk (Nat.le_of_not_lt fun hlt => ?_)
      exact HF.out.2.2 k hlt hz0
     subst hke
     have dk : decide (0 < ((fr r (frK r) : Nat) : Int)) = false := decide_eq_false (by omega)
     have hk2 : ¬ 0 < ((fr r (frK r) : Nat) : Int) := by omega
     go_wp2
     go_ret
     exact ⟨ret_str (by rw [HN.out, HA.out, HU.out]), hB⟩
    ·
     have hk1 : k + 1 ≤ frK r := by
      refine Nat.lt_of_le_of_ne hk fun e => hz0 ?_
      rw [e]
      exact HF.out.2.1
     have dk : decide (0 < ((fr r k : Nat) : Int)) = true := decide_eq_true (by omega)
     have hk2 : 0 < ((fr r k : Nat) : Int) := by omega
     have HQ : Hid (((fr r k : Nat) : Int) * 10 / 1048576 = ((fd r k : Nat) : Int) ∧ ((fr r k : Nat) : Int) * 10 % 1048576 = ((fr r (k + 1) : Nat) : Int)) := by
      show _ ∧ _
      rw [← fr_next]
      unfold fd
      omega
     have hfd := fd_lt r k
     clear hz0
     go_wp2_with fail
     rw [HQ.out.1]
     have HO := Lib.hid (nOf ((fd r k : Nat) : Int) (by omega) (by omega) wr)
     refine HO.out.mono ?_
     rintro e w5 ⟨p2, hz2, rfl, hp2, hB5⟩
     have HS := Lib.hid (nStr ((fd r k : Nat) : Int) (by omega) (by omega) p2 w5 hz2 hp2)
     clear hp2 hz2 HO
     go_wp2_with fail
     refine HS.out.mono ?_
     rintro e w6 ⟨T2, rfl, hT2, hB6⟩
     replace hB := (hB.trans (hB5.mono hB.size)).trans (hB6.mono (Nat.le_trans hB.size hB5.size))
     clear hB5 hB6 HS
     rw [fr_dig] at hT2
     have hT2s : T2.size = 1 := by rw [← size_list, hT2]; rfl
     have HT2 := Lib.hid hT2
     clear hT2
     go_wp2
     go_roundw
     case rel => exact ⟨k + 1, _, hk1, rfl, (by rw [app_list, HU.out, HT2.out, frL_succ]; simp), (by rw [HQ.out.2]), hB⟩
     case measure => simp [lenS]; omega
end Go.Proofs.YtpahkpcoinbgcaaGreatDoor

/- The walk of the law FxPrints. -/
namespace Go.Proofs.YtpahkpcoinbgcaaGreatDoor
open Go Go.RowKit
set_option maxRecDepth 100000 in
set_option maxHeartbeats 12800000 in
theorem FPrints_w (n c : Int) (k : Bool) (st : ByteArray) (hHaw : ∀ W : World, Glob W → Calls Tryz.prog 6 #[] W (PVal (.bool true) W)) (hHpr : ∀ W : World, Glob W → Calls Tryz.prog 19 #[.int .i64 n] W (PVal (.string st) W)) (hHpa : ∀ W : World, Glob W → Calls Tryz.prog 17 #[.string st] W (PVal (.tuple #[.int .i64 c, .bool false, .int .i64 0]) W)) (hHcl : ∀ W : World, Calls Tryz.prog 20 #[.int .i64 n] W (PVal (.tuple #[.int .i64 c, .bool k]) W)) (hHrp : ∀ W : World, Calls Tryz.prog 21 #[.int .i64 n] W (PVal (.string st) W))   (w : World) (hG : Glob w) : Calls Tryz.prog 5 #[.int .i64 n] w (PVal (.bool true) w) := by
 have Haw := Lib.hid hHaw
 have Hpr := Lib.hid hHpr
 have Hpa := Lib.hid hHpa
 have Hcl := Lib.hid hHcl
 have Hrp := Lib.hid hHrp
 clear hHaw hHpr hHpa hHcl hHrp
 have hJ0 := es_nil w
 go_enter Tryz.func5, Tryz.ntmps5
 go_wp2_with fail
 refine (Haw.out _ (hG.below hJ0.below)).mono ?_
 rintro zz W1 ⟨rfl, hB⟩
 have hJ1 := hJ0.later hB
 clear hB
 clear hJ0
 go_wp2_with fail
 refine (Hpr.out _ (hG.below hJ1.below)).mono ?_
 rintro zz W2 ⟨rfl, hB⟩
 have hJ2 := hJ1.later hB
 clear hB
 clear hJ1
 go_wp2_with fail
 refine (Hpa.out _ (hG.below hJ2.below)).mono ?_
 rintro zz W3 ⟨rfl, hB⟩
 have hJ3 := hJ2.later hB
 clear hB
 clear hJ2
 go_wp2_with fail
 refine (Hcl.out _).mono ?_
 rintro zz W4 ⟨rfl, hB⟩
 have hJ4 := hJ3.later hB
 clear hB
 clear hJ3
 go_wp2_with fail
 refine (Hrp.out _).mono ?_
 rintro zz W5 ⟨rfl, hB⟩
 have hJ5 := hJ4.later hB
 clear hB
 clear hJ4
 go_wp2
 go_ret
 exact ⟨rfl, hJ5.below⟩
theorem FxPrints_any (n : Int) (w : World) (n1 : -9223372036854775808 ≤ n) (n2 : n ≤ 9223372036854775807) (hG : Glob w) : Calls Tryz.prog 5 #[.int .i64 n] w (PVal (.bool true) w) := by
 obtain ⟨e1, e2, e3⟩ := prn_back n
 have hP : ∀ W : World, Glob W → Calls Tryz.prog 17 #[.string ⟨(prL n).toArray⟩] W (PVal (.tuple #[.int .i64 (cutI n), .bool false, .int .i64 0]) W) := fun W h => by
  obtain ⟨m, hm⟩ := h.mx
  have := fxParse_any ⟨(prL n).toArray⟩ m W (by have := prn_len n; show (prL n).toArray.size ≤ 40; simpa using this) hm
  have el : (⟨(prL n).toArray⟩ : ByteArray).data.toList = prL n := by simp
  rw [el, e1, e2, e3] at this
  exact this
 exact FPrints_w n (cutI n) (cutB n) ⟨(prL n).toArray⟩ (fun W h => fawake_any W h) (fun W h => Print_any n W h) hP (Clamp_any n) (fun W => rfPrint_any n W n1 n2) w hG
end Go.Proofs.YtpahkpcoinbgcaaGreatDoor
