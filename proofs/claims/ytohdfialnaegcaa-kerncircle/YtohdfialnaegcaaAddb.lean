/- The walk of addBack. -/
import Derived.Test.YtohdfialnaegcaaTake
namespace Go.Proofs.Ytohdfialnaegcaa
open Go.RowKit

def PAddb (t : TypeId) (g T u n S R : Nat) (f : Nat → Nat) (w : World) (e : Ending) (w' : World) : Prop :=
  e = .returned (.tuple #[]) ∧ Own .u32 t w' g T (winK u n (n + 1) S R f) ∧ Only g w w'

set_option maxHeartbeats 1600000 in
theorem addBack_any (g T u n cp U D : Nat) (da : Option Addr) (dc : Nat) (f : Nat → Nat) (w : World) (hown : Own .u32 103 w g T f) (hT : u + n < T) (hTb : T ≤ 1000000000)
    (hf : ∀ j, j ≤ n → f (u + j) = lmb U j) (hd : Lie .u32 w da n dc (lmb D)) (hne : ∀ p, da = some p → p.block ≠ g) (hD : D < BB ^ n) :
    Calls Try.prog 119 #[.slice (some ⟨g, u, none⟩) ((n + 1 : Nat)) cp, .slice da n dc] w (PAddb 103 g T u n (U + D) U f w) := by
  have HF := Lib.hid hf
  have HD := Lib.hid hD
  have HNE := Lib.hid hne
  clear hf hD hne
  go_enter Try.func119, Try.ntmps119
  go_wp2
  go_loopw [4, 9] (fun cv iv wr => ∃ k : Nat, k ≤ n ∧ iv = .int .i64 k ∧ cv = .int .u64 (cy U D k) ∧ Own .u32 103 wr g T (winK u n k (U + D) U f) ∧ Only g w wr) (fun _ iv _ => n - (intOf iv).toNat)
  case atStart => exact ⟨0, Nat.zero_le _, rfl, by rw [cy_zero]; rfl, hown.congr (winK_zero HF.out), Only.refl _ _⟩
  case round =>
    obtain ⟨k, hk, rfl, rfl, hown1, ho1⟩ := hrel
    have hcb := cy_le U D k
    have hst := cy_step U D k
    have c1 : wr.cell? ⟨g, u + k, none⟩ = some (.int .u32 (lmb U k)) := by rw [hown1.cell (u + k) (by omega), winK_at hk]
    have c2 := hown1.free (u + k)
    have hlr := lmb_lt U k
    have hld := lmb_lt D k
    by_cases hlt : k < n
    · obtain ⟨b1, o1, rfl, hb1⟩ := hd.some_of_pos (by omega)
      have c3 := (hd.only ho1 HNE.out).at k hlt
      have HX : Hid (((cy U D k : Int) + ((lmb U k : Int) + (lmb D k : Int))) % 4294967296 = ((lmb (U + D) k : Nat) : Int) ∧ ((cy U D k : Int) + ((lmb U k : Int) + (lmb D k : Int))) / 4294967296 = ((cy U D (k + 1) : Nat) : Int)) := by
        show _ ∧ _; omega
      clear hd hst
      go_wp2
      go_roundw
      case rel => exact ⟨k + 1, by omega, by go_num, by rw [HX.out.2], hown1.put (by omega) (by rw [HX.out.1, winK_put (by omega)]) (winK_next (fun j hj => rfl)), ho1.trans (Only.setCell _ _ _ _)⟩
      case measure => simp [intOf]; omega
    · obtain rfl : k = n := by omega
      have h0 := lmb_zero HD.out (Nat.le_refl k)
      have HX : Hid (((lmb U k : Int) + (cy U D k : Int)) % 4294967296 = ((lmb (U + D) k : Nat) : Int)) := by
        show _ = _; rw [h0] at hst; omega
      clear hd hst h0
      go_wp2
      go_end0
      exact ⟨rfl, hown1.put (by omega) (by rw [HX.out, winK_put (by omega)]) (winK_next (fun j hj => rfl)), ho1.trans (Only.setCell _ _ _ _)⟩
end Go.Proofs.Ytohdfialnaegcaa
