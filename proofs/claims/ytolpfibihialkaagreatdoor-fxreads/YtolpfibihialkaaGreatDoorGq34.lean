/- Parts of the proof. -/
import Derived.Test.YtolpfibihialkaaGreatDoorGq32
import Derived.Test.YtolpfibihialkaaGreatDoorGq33
import Derived.Test.YtolpfibihialkaaGreatDoorGq31
import Derived.Test.YtolpfibihialkaaGreatDoorGq28
/- The walk of the law FxReads. No statement of the seat is proved here. -/
namespace Go.Proofs.YtolpfibihialkaaGreatDoor
open Go Go.RowKit
set_option maxRecDepth 100000 in
set_option maxHeartbeats 12800000 in
theorem FReads_w (s : ByteArray) (n e : Int) (p : Bool) (hHaw : ∀ W : World, Glob W → Calls Tryz.prog 5 #[] W (PVal (.bool true) W)) (hHpa : ∀ W : World, Glob W → Calls Tryz.prog 6 #[.string s] W (PVal (.tuple #[.int .i64 n, .bool p, .int .i64 e]) W)) (hHrp : ∀ W : World, Calls Tryz.prog 7 #[.string s] W (PVal (.tuple #[.int .i64 n, .bool p, .int .i64 e]) W))   (w : World) (hG : Glob w) : Calls Tryz.prog 3 #[.string s] w (PVal (.bool true) w) := by
 have Haw := Lib.hid hHaw
 have Hpa := Lib.hid hHpa
 have Hrp := Lib.hid hHrp
 clear hHaw hHpa hHrp
 have hJ0 := es_nil w
 go_enter Tryz.func3, Tryz.ntmps3
 go_wp2_with fail
 refine (Haw.out _ (hG.below hJ0.below)).mono ?_
 rintro zz W1 ⟨rfl, hB⟩
 have hJ1 := hJ0.later hB
 clear hB
 clear hJ0
 go_wp2_with fail
 refine (Hpa.out _ (hG.below hJ1.below)).mono ?_
 rintro zz W2 ⟨rfl, hB⟩
 have hJ2 := hJ1.later hB
 clear hB
 clear hJ1
 go_wp2_with fail
 refine (Hrp.out _).mono ?_
 rintro zz W3 ⟨rfl, hB⟩
 have hJ3 := hJ2.later hB
 clear hB
 clear hJ2
 go_wp2
 go_ret
 exact ⟨rfl, hJ3.below⟩
theorem FxReads_any (s : ByteArray) (w : World) (hs' : s.size ≤ maxLen) (hG : Glob w) : Calls Tryz.prog 3 #[.string s] w (PVal (.bool true) w) := by
 by_cases hs : s.size ≤ 40
 ·
  have hP : ∀ W : World, Glob W → Calls Tryz.prog 6 #[.string s] W (PVal (.tuple #[.int .i64 (fxV s.data.toList), .bool (fxC s.data.toList), .int .i64 (fxE s.data.toList)]) W) := fun W h => by
   obtain ⟨m, hm⟩ := h.mx
   exact fxParse_any s m W hs hm
  have hR : ∀ W : World, Calls Tryz.prog 7 #[.string s] W (PVal (.tuple #[.int .i64 (fxV s.data.toList), .bool (fxC s.data.toList), .int .i64 (fxE s.data.toList)]) W) := fun W => by
   by_cases h0 : 0 < s.size
   ·
    by_cases hm : chr s 0 = 45
    ·
     exact rfParse_neg s (X0 := fun _ => False) W (fun _ h => h.elim) hs h0 hm
    ·
     exact rfParse_pos s (X0 := fun _ => False) W (fun _ h => h.elim) hs h0 hm
   ·
    exact rfParse_nil s (X0 := fun _ => False) W (fun _ h => h.elim) (by omega)
  exact FReads_w s _ _ _ (fun W h => fawake_any W h) hP hR w hG
 ·
  exact FReads_w s 0 2 false (fun W h => fawake_any W h) (fun W _ => fxParse_long s W (by omega) hs') (fun W => rfParse_long s W (by omega) hs') w hG
end Go.Proofs.YtolpfibihialkaaGreatDoor
