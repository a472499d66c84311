/- The document's numbers: the walks of size, plus, less. -/
import Derived.Test.YtpacbipencmjnaaDoorRten
namespace Go.Proofs.YtpacbipencmjnaaDoor
open Go.RowKit

set_option maxHeartbeats 800000 in
theorem rsize_any (a b : Option Addr) (n c m d A B : Nat) (w : World) (ha : Lie .i64 w a n c (dig A)) (hb : Lie .i64 w b m d (dig B)) (fa : Fit10 n A) (fb : Fit10 m B) :
    Calls Tryd.prog 43 #[.slice a n c, .slice b m d] w (PVal (.int .i64 (cmpN A B)) w) := by
  have hcm := ha.capm
  have hnc := ha.cap
  have hdm := hb.capm
  have hmd := hb.cap
  unfold maxLen at hcm hdm
  rcases Nat.lt_trichotomy n m with hlt | heq | hgt
  · have hR := Lib.hid (tcmp_len_lt fa fb hlt)
    clear fa fb ha hb
    go_enter Tryd.func43, Tryd.ntmps43
    go_wp2
    go_ret
    exact ⟨ret_int hR.out.symm, Below.refl _ _⟩
  · subst heq
    go_enter Tryd.func43, Tryd.ntmps43
    have HA := Lib.hid fa
    have HB := Lib.hid fb
    clear fa fb
    go_wp2
    go_loopw [5] (fun i wr => ∃ k : Nat, k ≤ n ∧ i = .int .i64 ((k : Int) - 1) ∧ A / 10 ^ k = B / 10 ^ k ∧ Below w.heap.size w wr) (fun i _ => (intOf i + 1).toNat)
    case atStart => exact ⟨n, Nat.le_refl _, rfl, by rw [Nat.div_eq_of_lt HA.out.1, Nat.div_eq_of_lt HB.out.1], Below.refl _ _⟩
    case round =>
      obtain ⟨k, hk, rfl, hup, hbl⟩ := hrel
      have HU := Lib.hid hup
      clear hup
      by_cases hp : 0 < k
      · obtain ⟨j, rfl⟩ : ∃ j, k = j + 1 := ⟨k - 1, by omega⟩
        obtain ⟨b1, o1, rfl, hb1⟩ := ha.some_of_pos (by omega)
        obtain ⟨b2, o2, rfl, hb2⟩ := hb.some_of_pos (by omega)
        have c1 := (ha.below hbl).at j (by omega)
        have c2 := (hb.below hbl).at j (by omega)
        rcases Nat.lt_trichotomy (dig A j) (dig B j) with hlt | heq | hgt
        · have hR := Lib.hid ((tcmp_up HU.out).1 hlt)
          clear ha hb
          go_wp2
          go_quiet (fail)
          go_wp2
          go_ret
          exact ⟨ret_int hR.out.symm, below_drewN hbl _⟩
        · have hR := Lib.hid ((tcmp_up HU.out).2.2 heq)
          have h1 : ¬ dig A j < dig B j := by omega
          have h2 : ¬ dig B j < dig A j := by omega
          have HE := Lib.hid heq
          clear ha hb heq
          go_wp2
          go_quiet (fail)
          go_wp2
          go_quiet (fail)
          go_wp2
          go_roundw
          case rel => exact ⟨j, by omega, by go_num, hR.out, below_drewN hbl _⟩
          case measure => simp [intOf]
        · have hR := Lib.hid ((tcmp_up HU.out).2.1 hgt)
          have h1 : ¬ dig A j < dig B j := by omega
          clear ha hb
          go_wp2
          go_quiet (fail)
          go_wp2
          go_quiet (fail)
          go_wp2
          go_ret
          exact ⟨ret_int hR.out.symm, below_drewN (below_drewN hbl _) _⟩
      · obtain rfl : k = 0 := by omega
        have hR := Lib.hid (tcmp_all HU.out)
        clear ha hb
        go_wp2
        go_ret
        exact ⟨ret_int hR.out.symm, hbl⟩
  · have hR := Lib.hid (tcmp_len_gt fa fb hgt)
    clear fa fb ha hb
    go_enter Tryd.func43, Tryd.ntmps43
    go_wp2
    go_ret
    exact ⟨ret_int hR.out.symm, Below.refl _ _⟩

end Go.Proofs.YtpacbipencmjnaaDoor
