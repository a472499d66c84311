/- Parts of the proof. -/
import Derived.Test.YtolpfibihialkaaDoorGd33
import Derived.Test.YtolpfibihialkaaDoorGd34
import Derived.Test.YtolpfibihialkaaDoorGd35
import Derived.Test.YtolpfibihialkaaDoorGd36
import Derived.Test.YtolpfibihialkaaDoorGd37
/- The law LinRules of layer 7, walked. No statement of the seat is proved here. -/
namespace Go.Proofs.YtolpfibihialkaaDoor
open Go Go.RowKit
open Classical in
theorem lruAny {X0 : Nat → Prop} {w : World} (hX : NX X0 w) (ra rb : Sl) (ma mb : Nat) (ca cb : Nat → Nat) (Ra Rb : Nat → Nat → Int) (vi vk tm : Int) (hra : Mi ma ca Ra ra X0 w) (hrb : Mi mb cb Rb rb X0 w) (rga0 : ∀ i j, i < ma → j < ca i → -9223372036854775808 ≤ Ra i j ∧ Ra i j ≤ 9223372036854775807) (rgb0 : ∀ i j, i < mb → j < cb i → -9223372036854775808 ≤ Rb i j ∧ Rb i j ≤ 9223372036854775807) (btm : -9223372036854775808 ≤ tm ∧ tm ≤ 9223372036854775807)  : Calls Tryd.prog 6 #[ra.v, rb.v, .int .i64 vi, .int .i64 vk, .int .i64 tm] w (PVal (.bool true) w) := by
 by_cases ha : (ma ≤ 7 ∧ ∀ k, k < ma → ca k = ma)
 ·
  by_cases hb : (mb ≤ 7 ∧ ∀ k, k < mb → cb k = mb)
  ·
   by_cases eab : ma = mb
   ·
    by_cases t0 : vi < 0
    ·
     exact lru4 hX ra rb ma mb ca cb Ra Rb vi vk tm hra hrb rga0 rgb0 btm ha hb eab (Lib.hid t0)
    ·
     by_cases t1 : vk < 0
     ·
      exact lru5 hX ra rb ma mb ca cb Ra Rb vi vk tm hra hrb rga0 rgb0 btm ha hb eab (Lib.hid t0) (Lib.hid t1)
     ·
      by_cases t2 : (ma : Int) ≤ vi
      ·
       exact lru6 hX ra rb ma mb ca cb Ra Rb vi vk tm hra hrb rga0 rgb0 btm ha hb eab (Lib.hid t0) (Lib.hid t1) (Lib.hid t2)
      ·
       by_cases t3 : (ma : Int) ≤ vk
       ·
        exact lru7 hX ra rb ma mb ca cb Ra Rb vi vk tm hra hrb rga0 rgb0 btm ha hb eab (Lib.hid t0) (Lib.hid t1) (Lib.hid t2) (Lib.hid t3)
       ·
        by_cases t4 : vi = vk
        ·
         exact lru8 hX ra rb ma mb ca cb Ra Rb vi vk tm hra hrb rga0 rgb0 btm ha hb eab (Lib.hid t0) (Lib.hid t1) (Lib.hid t2) (Lib.hid t3) (Lib.hid t4)
        ·
         obtain ⟨p, rfl⟩ : ∃ p : Nat, vi = ((p : Nat) : Int) := ⟨vi.toNat, by omega⟩
         obtain ⟨q, rfl⟩ : ∃ q : Nat, vk = ((q : Nat) : Int) := ⟨vk.toNat, by omega⟩
         exact lru9 hX ra rb ma mb ca cb Ra Rb p q tm hra hrb rga0 rgb0 btm ha hb eab (by omega) (by omega) (by omega)
   ·
    exact lru3 hX ra rb ma mb ca cb Ra Rb vi vk tm hra hrb rga0 rgb0 btm ha hb eab
  ·
   exact lru2 hX ra rb ma mb ca cb Ra Rb vi vk tm hra hrb rga0 rgb0 btm ha hb
 ·
  exact lru1 hX ra rb ma mb ca cb Ra Rb vi vk tm hra hrb rga0 rgb0 btm ha
end Go.Proofs.YtolpfibihialkaaDoor
