/- Parts of the proof. -/
import Derived.Test.YtpahkpcoinbgcaaGreatDoorGq16
import Derived.Test.YtpahkpcoinbgcaaGreatDoorGq18
/- Fixed numbers: the walk of fraction. -/
namespace Go.Proofs.YtpahkpcoinbgcaaGreatDoor
open Go.RowKit
/-- What is left of a fraction behind k digits; its digits; how many it has; its text. -/
def fr (r k : Nat) : Nat := r * 10 ^ k % 1048576
def fd (r k : Nat) : Nat := fr r k * 10 / 1048576
def frL (r n : Nat) : List UInt8 := (List.range n).map fun i => (48 + fd r i).toUInt8
theorem fr_lt (r k : Nat) : fr r k < 1048576 := Nat.mod_lt _ (by decide)
theorem fr_zero {r : Nat} (h : r < 1048576) : fr r 0 = r := by unfold fr; rw [Nat.pow_zero, Nat.mul_one]; exact Nat.mod_eq_of_lt h
theorem fr_next (r k : Nat) : fr r k * 10 % 1048576 = fr r (k + 1) := by
 unfold fr; rw [Nat.pow_succ, ← Nat.mul_assoc, Nat.mod_mul_mod]
theorem fd_lt (r k : Nat) : fd r k < 10 := by have := fr_lt r k; unfold fd; omega
theorem fr_twenty (r : Nat) : fr r 20 = 0 := by
 unfold fr
 rw [show (10 : Nat) ^ 20 = 1048576 * 95367431640625 from by decide, ← Nat.mul_assoc, Nat.mul_comm r, Nat.mul_assoc, Nat.mul_mod_right]
/-- n is how many digits the fraction has. -/
def FrN (r n : Nat) : Prop := n ≤ 20 ∧ fr r n = 0 ∧ ∀ j, j < n → fr r j ≠ 0
/-- A slice's length. -/
def lenV : Value → Nat
 | .slice _ n _ => n
 | _ => 0
/-- A fraction's text is handed back. -/
def PFrac (r : Nat) (w : World) (e : Ending) (w' : World) : Prop := ∃ n, FrN r n ∧ e = .returned (.string ⟨(frL r n).toArray⟩) ∧ Below w.heap.size w w'
set_option maxHeartbeats 3200000 in
theorem fraction_any (r : Nat) (w : World) (hr : r < 1048576) (hr0 : r ≠ 0) :
  Calls Tryz.prog 42 #[.int .i64 r] w (PFrac r w) := by
 obtain ⟨i0, hi0, hz0, hzz1, hzz2⟩ := info_parts Tryz.info5
 have HI := Lib.hid (And.intro hi0 (And.intro hz0 (And.intro hzz1 hzz2)))
 have HR0 := Lib.hid hr0
 have HZ := Lib.hid (fr_zero hr)
 clear hi0 hz0 hzz1 hzz2 hr0 hr
 go_enter Tryz.func42, Tryz.ntmps42
 go_wp2
 go_loopw [0, 3] (fun rv dv wr => ∃ k : Nat, k ≤ 20 ∧ rv = .int .i64 (fr r k : Nat) ∧ wr.ownsRow w.heap.size 5 1 dv k (vals .u8 (fun i => 48 + fd r i) k) ∧ (∀ j, j < k → fr r j ≠ 0) ∧ Below w.heap.size w wr) (fun _ dv _ => 20 - lenV dv)
 case atStart => exact ⟨0, Nat.zero_le _, by rw [HZ.out], World.ownsRow_nil _ _ _ _, fun j hj => by omega, Below.refl _ _⟩
 case round =>
  obtain ⟨k, hk, rfl, how, hall, hbl⟩ := hrel
  have HA := Lib.hid hall
  clear hall
  have hlt := fr_lt r k
  obtain ⟨R, hR⟩ : ∃ R : Int, R = ((fr r k : Nat) : Int) := ⟨_, rfl⟩
  rw [← hR]
  have hR1 : 0 ≤ R := by omega
  have hR2 : R ≤ 1048575 := by omega
  by_cases h0 : fr r k = 0
  ·
   have hk0 : 0 < k := by
    rcases Nat.eq_zero_or_pos k with h | h
    ·
     subst h; exact absurd (HZ.out.symm.trans h0) HR0.out
    ·
     exact h
   obtain ⟨a, c, rfl, hlie⟩ := lie_owned how
   obtain ⟨b, o, rfl, hb⟩ := hlie.some_of_pos hk0
   have hcv : ∃ str : ByteArray, str = ⟨(frL r k).toArray⟩ ∧ (convert 91 9 (.slice (some ⟨b, o, none⟩) k c)).run Tryz.prog wr = .ok (.string str) wr := by
    refine ⟨_, rfl, ?_⟩
    have := run_convert_bytes_back (P := Tryz.prog) wr 91 9 5 ⟨b, o, none⟩ c (frL r k) Tryz.u91 (by kernel_rfl) (by kernel_rfl) (fun j hj => by
     have hj' : j < k := by simpa [frL] using hj
     rw [show (⟨b, o, none⟩ : Addr).add j = ⟨b, o + j, none⟩ from by unfold Addr.add; split <;> simp_all, hlie.at j hj']
     have := fd_lt r j
     simp only [frL, List.getElem_map, List.getElem_range]
     congr 3
     show _ = (48 + fd r j) % 256
     omega)
    rw [show (frL r k).length = k from by simp [frL]] at this
    exact this
   obtain ⟨str, hstr, hrun⟩ := hcv
   have HS := Lib.hid hstr
   have HF : Hid (FrN r k) := ⟨hk, h0, HA.out⟩
   obtain rfl : R = 0 := by omega
   clear hstr hR hlt h0 hR1 hR2 how hlie
   go_wp2
   go_ret
   exact ⟨k, HF.out, by rw [← HS.out]; rfl, hbl⟩
  ·
   have hd0 : (R == 0) = false := by simp; omega
   have hd1 : (R != 0) = true := by simp; omega
   have hk2 : k < 20 := by
    rcases Nat.lt_or_ge k 20 with h | h
    ·
     exact h
    ·
     exfalso; obtain rfl : k = 20 := by omega
     exact h0 (fr_twenty r)
   have hdl := fd_lt r k
   have HD : Hid ((48 : Int) + R * 10 / 1048576 = ((48 + fd r k : Nat) : Int)) := by show _ = _; unfold fd; omega
   have HM : Hid (R * 10 % 1048576 = ((fr r (k + 1) : Nat) : Int)) := by show _ = _; rw [← fr_next]; omega
   have HA2 : Hid (∀ j, j < k + 1 → fr r j ≠ 0) := fun j hj => by
    rcases Nat.lt_or_ge j k with h | h
    ·
     exact HA.out j h
    ·
     obtain rfl : j = k := by omega
     exact h0
   have hd2 : R * 10 / 1048576 ≤ 9 := by omega
   have hd3 : 0 ≤ R * 10 / 1048576 := by omega
   clear h0 hlt hR
   go_wp2_with (first
    | (at_builtin; refine wpList_append_own _ rfl _ _ 91 rfl w.heap.size 5 i0 (.int .u8 0) 1 1 Tryz.u91 HI.out.1 HI.out.2.1 HI.out.2.2.1 HI.out.2.2.2 rfl (by decide) _ _ _ rfl (how.alloc _) ⟨wr.heap.size, 0, none⟩ 1 1 [.int .u8 ((48 : Int) + R * 10 / 1048576)] rfl rfl ?c1 ?c2 ?c3 ?c4 ?c5 ?_)
    | fail)
   case c1 => exact cell_one_new _ _ _
   case c2 => intro u hu; simp at hu; subst hu; rfl
   case c3 => unfold maxLen; omega
   case c4 => omega
   case c5 => have := hbl.size; simp; omega
   intro v' w3 hown' hgrow _
   rw [HD.out] at hown'
   have hown2 : w3.ownsRow w.heap.size 5 1 v' (k + 1) (vals .u8 (fun i => 48 + fd r i) (k + 1)) := by rw [← vals_succ]; exact hown'
   have hb3 : Below w.heap.size w w3 := (hbl.alloc hbl.size _).grown hgrow (by have := hbl.size; simp; omega) (fun q hq => (how.lt q hq).1)
   obtain ⟨a0, c0, hu3, _⟩ := lie_owned how
   obtain ⟨a4, c4, hv4, _⟩ := lie_owned hown2
   have HL : Hid (lenV u3 = k ∧ lenV v' = k + 1) := by show _ ∧ _; rw [hu3, hv4]; exact ⟨rfl, rfl⟩
   clear hgrow how hu3 hv4
   go_wp2
   go_roundw
   case rel => exact ⟨k + 1, by omega, by rw [HM.out], hown2, HA2.out, hb3⟩
   case measure => rw [HL.out.1, HL.out.2]; omega
end Go.Proofs.YtpahkpcoinbgcaaGreatDoor
