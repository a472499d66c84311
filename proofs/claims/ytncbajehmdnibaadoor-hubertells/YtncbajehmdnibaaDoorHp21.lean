/- Parts of the proof. -/
import Derived.Test.YtncbajehmdnibaaDoorHp0
import Derived.Test.YtncbajehmdnibaaDoorHp20
import Derived.Test.YtncbajehmdnibaaDoorHp19
import Derived.Test.YtncbajehmdnibaaDoorHp16
import Derived.Test.YtncbajehmdnibaaDoorHp10
import Derived.Test.YtncbajehmdnibaaDoorHp13
import Derived.Test.YtncbajehmdnibaaDoorHp4
import Derived.Defers
import Derived.Lib.MinMax
import Derived.IntWalk
import Derived.Test.YtncbajehmdnibaaDoorHp11
import Derived.Test.YtncbajehmdnibaaDoorHp12
set_option linter.unusedSimpArgs false
set_option linter.unusedVariables false
/- Package gimbalref09: the walks of cut, Weight, Slope. -/
namespace Go.Proofs.YtncbajehmdnibaaDoor
open Go Go.RowKit
set_option maxRecDepth 100000 in
set_option maxHeartbeats 12800000 in
theorem rc_lo0 (r k:Int)  (w:World) (d0:decide (r < -2147483647)=true) (d1:decide (k < 0)=true)  :Calls Tryd.prog 21 #[.int .i64 r,.int .i64 k] w (PVal (.tuple #[.int .i64 2147483647,.bool true,.int .i64 0]) w):=by
 have hJ0:=es_nil w
 go_enter Tryd.func21,Tryd.ntmps21
 go_wp2
 exact bodyPost_ret (v:=.tuple #[.int .i64 2147483647,.bool true,.int .i64 0]) (by simp [results,Tryd.results21,go_sem]) rfl ⟨rfl,hJ0.below⟩
set_option maxRecDepth 100000 in
set_option maxHeartbeats 12800000 in
theorem rc_lo1 (r k:Int)  (w:World) (d0:decide (r < -2147483647)=true) (d1:decide (k < 0)=false) (d2:decide (2147483647 < k)=false)  :Calls Tryd.prog 21 #[.int .i64 r,.int .i64 k] w (PVal (.tuple #[.int .i64 2147483647,.bool true,.int .i64 k]) w):=by
 have hJ0:=es_nil w
 go_enter Tryd.func21,Tryd.ntmps21
 go_wp2
 exact bodyPost_ret (v:=.tuple #[.int .i64 2147483647,.bool true,.int .i64 k]) (by simp [results,Tryd.results21,go_sem]) rfl ⟨rfl,hJ0.below⟩
set_option maxRecDepth 100000 in
set_option maxHeartbeats 12800000 in
theorem rc_lo2 (r k:Int)  (w:World) (d0:decide (r < -2147483647)=true) (d1:decide (k < 0)=false) (d2:decide (2147483647 < k)=true)  :Calls Tryd.prog 21 #[.int .i64 r,.int .i64 k] w (PVal (.tuple #[.int .i64 2147483647,.bool true,.int .i64 2147483647]) w):=by
 have hJ0:=es_nil w
 go_enter Tryd.func21,Tryd.ntmps21
 go_wp2
 exact bodyPost_ret (v:=.tuple #[.int .i64 2147483647,.bool true,.int .i64 2147483647]) (by simp [results,Tryd.results21,go_sem]) rfl ⟨rfl,hJ0.below⟩
set_option maxRecDepth 100000 in
set_option maxHeartbeats 12800000 in
theorem rc_ng0 (r k:Int)  (w:World) (d0:decide (r < -2147483647)=false) (d1:decide (2147483647 < r)=false) (d2:decide (r < 0)=true) (d3:decide (k < 0)=true) (hr1:-2147483647≤r) (hr2:r≤2147483647) :Calls Tryd.prog 21 #[.int .i64 r,.int .i64 k] w (PVal (.tuple #[.int .i64 (-r),.bool true,.int .i64 0]) w):=by
 have hJ0:=es_nil w
 go_enter Tryd.func21,Tryd.ntmps21
 go_wp2
 exact bodyPost_ret (v:=.tuple #[.int .i64 (-r),.bool true,.int .i64 0]) (by simp [results,Tryd.results21,go_sem]) rfl ⟨rfl,hJ0.below⟩
set_option maxRecDepth 100000 in
set_option maxHeartbeats 12800000 in
theorem rc_ng1 (r k:Int)  (w:World) (d0:decide (r < -2147483647)=false) (d1:decide (2147483647 < r)=false) (d2:decide (r < 0)=true) (d3:decide (k < 0)=false) (d4:decide (2147483647 < k)=false) (hr1:-2147483647≤r) (hr2:r≤2147483647) :Calls Tryd.prog 21 #[.int .i64 r,.int .i64 k] w (PVal (.tuple #[.int .i64 (-r),.bool true,.int .i64 k]) w):=by
 have hJ0:=es_nil w
 go_enter Tryd.func21,Tryd.ntmps21
 go_wp2
 exact bodyPost_ret (v:=.tuple #[.int .i64 (-r),.bool true,.int .i64 k]) (by simp [results,Tryd.results21,go_sem]) rfl ⟨rfl,hJ0.below⟩
set_option maxRecDepth 100000 in
set_option maxHeartbeats 12800000 in
theorem rc_ng2 (r k:Int)  (w:World) (d0:decide (r < -2147483647)=false) (d1:decide (2147483647 < r)=false) (d2:decide (r < 0)=true) (d3:decide (k < 0)=false) (d4:decide (2147483647 < k)=true) (hr1:-2147483647≤r) (hr2:r≤2147483647) :Calls Tryd.prog 21 #[.int .i64 r,.int .i64 k] w (PVal (.tuple #[.int .i64 (-r),.bool true,.int .i64 2147483647]) w):=by
 have hJ0:=es_nil w
 go_enter Tryd.func21,Tryd.ntmps21
 go_wp2
 exact bodyPost_ret (v:=.tuple #[.int .i64 (-r),.bool true,.int .i64 2147483647]) (by simp [results,Tryd.results21,go_sem]) rfl ⟨rfl,hJ0.below⟩
set_option maxRecDepth 100000 in
set_option maxHeartbeats 12800000 in
theorem rc_in0 (r k:Int)  (w:World) (d0:decide (r < -2147483647)=false) (d1:decide (2147483647 < r)=false) (d2:decide (r < 0)=false) (d3:decide (k < 0)=true)  :Calls Tryd.prog 21 #[.int .i64 r,.int .i64 k] w (PVal (.tuple #[.int .i64 r,.bool false,.int .i64 0]) w):=by
 have hJ0:=es_nil w
 go_enter Tryd.func21,Tryd.ntmps21
 go_wp2
 exact bodyPost_ret (v:=.tuple #[.int .i64 r,.bool false,.int .i64 0]) (by simp [results,Tryd.results21,go_sem]) rfl ⟨rfl,hJ0.below⟩
set_option maxRecDepth 100000 in
set_option maxHeartbeats 12800000 in
theorem rc_in1 (r k:Int)  (w:World) (d0:decide (r < -2147483647)=false) (d1:decide (2147483647 < r)=false) (d2:decide (r < 0)=false) (d3:decide (k < 0)=false) (d4:decide (2147483647 < k)=false)  :Calls Tryd.prog 21 #[.int .i64 r,.int .i64 k] w (PVal (.tuple #[.int .i64 r,.bool false,.int .i64 k]) w):=by
 have hJ0:=es_nil w
 go_enter Tryd.func21,Tryd.ntmps21
 go_wp2
 exact bodyPost_ret (v:=.tuple #[.int .i64 r,.bool false,.int .i64 k]) (by simp [results,Tryd.results21,go_sem]) rfl ⟨rfl,hJ0.below⟩
set_option maxRecDepth 100000 in
set_option maxHeartbeats 12800000 in
theorem rc_in2 (r k:Int)  (w:World) (d0:decide (r < -2147483647)=false) (d1:decide (2147483647 < r)=false) (d2:decide (r < 0)=false) (d3:decide (k < 0)=false) (d4:decide (2147483647 < k)=true)  :Calls Tryd.prog 21 #[.int .i64 r,.int .i64 k] w (PVal (.tuple #[.int .i64 r,.bool false,.int .i64 2147483647]) w):=by
 have hJ0:=es_nil w
 go_enter Tryd.func21,Tryd.ntmps21
 go_wp2
 exact bodyPost_ret (v:=.tuple #[.int .i64 r,.bool false,.int .i64 2147483647]) (by simp [results,Tryd.results21,go_sem]) rfl ⟨rfl,hJ0.below⟩
set_option maxRecDepth 100000 in
set_option maxHeartbeats 12800000 in
theorem rc_hi0 (r k:Int)  (w:World) (d0:decide (r < -2147483647)=false) (d1:decide (2147483647 < r)=true) (d2:decide (k < 0)=true)  :Calls Tryd.prog 21 #[.int .i64 r,.int .i64 k] w (PVal (.tuple #[.int .i64 2147483647,.bool false,.int .i64 0]) w):=by
 have hJ0:=es_nil w
 go_enter Tryd.func21,Tryd.ntmps21
 go_wp2
 exact bodyPost_ret (v:=.tuple #[.int .i64 2147483647,.bool false,.int .i64 0]) (by simp [results,Tryd.results21,go_sem]) rfl ⟨rfl,hJ0.below⟩
set_option maxRecDepth 100000 in
set_option maxHeartbeats 12800000 in
theorem rc_hi1 (r k:Int)  (w:World) (d0:decide (r < -2147483647)=false) (d1:decide (2147483647 < r)=true) (d2:decide (k < 0)=false) (d3:decide (2147483647 < k)=false)  :Calls Tryd.prog 21 #[.int .i64 r,.int .i64 k] w (PVal (.tuple #[.int .i64 2147483647,.bool false,.int .i64 k]) w):=by
 have hJ0:=es_nil w
 go_enter Tryd.func21,Tryd.ntmps21
 go_wp2
 exact bodyPost_ret (v:=.tuple #[.int .i64 2147483647,.bool false,.int .i64 k]) (by simp [results,Tryd.results21,go_sem]) rfl ⟨rfl,hJ0.below⟩
set_option maxRecDepth 100000 in
set_option maxHeartbeats 12800000 in
theorem rc_hi2 (r k:Int)  (w:World) (d0:decide (r < -2147483647)=false) (d1:decide (2147483647 < r)=true) (d2:decide (k < 0)=false) (d3:decide (2147483647 < k)=true)  :Calls Tryd.prog 21 #[.int .i64 r,.int .i64 k] w (PVal (.tuple #[.int .i64 2147483647,.bool false,.int .i64 2147483647]) w):=by
 have hJ0:=es_nil w
 go_enter Tryd.func21,Tryd.ntmps21
 go_wp2
 exact bodyPost_ret (v:=.tuple #[.int .i64 2147483647,.bool false,.int .i64 2147483647]) (by simp [results,Tryd.results21,go_sem]) rfl ⟨rfl,hJ0.below⟩
theorem rcut_any (r k:Int) (w:World):Calls Tryd.prog 21 #[.int .i64 r,.int .i64 k] w (PVal (.tuple #[.int .i64 (aC r),.bool (decide (r < 0)),.int .i64 (kC k)]) w):=by
 by_cases a1:r < -2147483647
 ·
  by_cases b1:k < 0
  ·
   rw [show aC r=2147483647 by unfold aC cC; omega,show kC k=0 by unfold kC; omega,decide_eq_true (show r < 0 by omega)]
   exact rc_lo0 r k w (decide_eq_true a1) (decide_eq_true b1)
  by_cases b2:2147483647 < k
  ·
   rw [show aC r=2147483647 by unfold aC cC; omega,show kC k=2147483647 by unfold kC; omega,decide_eq_true (show r < 0 by omega)]
   exact rc_lo2 r k w (decide_eq_true a1) (decide_eq_false b1) (decide_eq_true b2)
  ·
   rw [show aC r=2147483647 by unfold aC cC; omega,show kC k=k by unfold kC; omega,decide_eq_true (show r < 0 by omega)]
   exact rc_lo1 r k w (decide_eq_true a1) (decide_eq_false b1) (decide_eq_false b2)
 by_cases a2:2147483647 < r
 ·
  by_cases b1:k < 0
  ·
   rw [show aC r=2147483647 by unfold aC cC; omega,show kC k=0 by unfold kC; omega,decide_eq_false (show ¬ r < 0 by omega)]
   exact rc_hi0 r k w (decide_eq_false a1) (decide_eq_true a2) (decide_eq_true b1)
  by_cases b2:2147483647 < k
  ·
   rw [show aC r=2147483647 by unfold aC cC; omega,show kC k=2147483647 by unfold kC; omega,decide_eq_false (show ¬ r < 0 by omega)]
   exact rc_hi2 r k w (decide_eq_false a1) (decide_eq_true a2) (decide_eq_false b1) (decide_eq_true b2)
  ·
   rw [show aC r=2147483647 by unfold aC cC; omega,show kC k=k by unfold kC; omega,decide_eq_false (show ¬ r < 0 by omega)]
   exact rc_hi1 r k w (decide_eq_false a1) (decide_eq_true a2) (decide_eq_false b1) (decide_eq_false b2)
 by_cases a3:r < 0
 ·
  by_cases b1:k < 0
  ·
   rw [show aC r=-r by unfold aC cC; omega,show kC k=0 by unfold kC; omega,decide_eq_true (show r < 0 by omega)]
   exact rc_ng0 r k w (decide_eq_false a1) (decide_eq_false a2) (decide_eq_true a3) (decide_eq_true b1) (by omega) (by omega)
  by_cases b2:2147483647 < k
  ·
   rw [show aC r=-r by unfold aC cC; omega,show kC k=2147483647 by unfold kC; omega,decide_eq_true (show r < 0 by omega)]
   exact rc_ng2 r k w (decide_eq_false a1) (decide_eq_false a2) (decide_eq_true a3) (decide_eq_false b1) (decide_eq_true b2) (by omega) (by omega)
  ·
   rw [show aC r=-r by unfold aC cC; omega,show kC k=k by unfold kC; omega,decide_eq_true (show r < 0 by omega)]
   exact rc_ng1 r k w (decide_eq_false a1) (decide_eq_false a2) (decide_eq_true a3) (decide_eq_false b1) (decide_eq_false b2) (by omega) (by omega)
 ·
  by_cases b1:k < 0
  ·
   rw [show aC r=r by unfold aC cC; omega,show kC k=0 by unfold kC; omega,decide_eq_false (show ¬ r < 0 by omega)]
   exact rc_in0 r k w (decide_eq_false a1) (decide_eq_false a2) (decide_eq_false a3) (decide_eq_true b1)
  by_cases b2:2147483647 < k
  ·
   rw [show aC r=r by unfold aC cC; omega,show kC k=2147483647 by unfold kC; omega,decide_eq_false (show ¬ r < 0 by omega)]
   exact rc_in2 r k w (decide_eq_false a1) (decide_eq_false a2) (decide_eq_false a3) (decide_eq_false b1) (decide_eq_true b2)
  ·
   rw [show aC r=r by unfold aC cC; omega,show kC k=k by unfold kC; omega,decide_eq_false (show ¬ r < 0 by omega)]
   exact rc_in1 r k w (decide_eq_false a1) (decide_eq_false a2) (decide_eq_false a3) (decide_eq_false b1) (decide_eq_false b2)
set_option maxRecDepth 100000 in
set_option maxHeartbeats 12800000 in
theorem rwt0 (r k a b:Int) (s:Bool) (hHc:∀ W:World,Calls Tryd.prog 21 #[.int .i64 r,.int .i64 k] W (PVal (.tuple #[.int .i64 a,.bool s,.int .i64 b]) W)) (w:World) (d0:decide (a≤b)=true)  :Calls Tryd.prog 10 #[.int .i64 r,.int .i64 k] w (PVal (.tuple #[.int .i64 1,.int .i64 1]) w):=by
 have Hc:=Lib.hid hHc
 clear hHc
 have hJ0:=es_nil w
 go_enter Tryd.func10,Tryd.ntmps10
 go_wp2_with fail
 refine (Hc.out _).mono ?_
 rintro zz W1 ⟨rfl,hB⟩
 have hJ1:=hJ0.later hB
 clear hB hJ0
 go_wp2
 exact bodyPost_ret (v:=.tuple #[.int .i64 1,.int .i64 1]) (by simp [results,Tryd.results10,go_sem]) rfl ⟨rfl,hJ1.below⟩
set_option maxRecDepth 100000 in
set_option maxHeartbeats 12800000 in
theorem rwt1 (r k a b:Int) (s:Bool) (hHc:∀ W:World,Calls Tryd.prog 21 #[.int .i64 r,.int .i64 k] W (PVal (.tuple #[.int .i64 a,.bool s,.int .i64 b]) W)) (w:World) (d0:decide (a≤b)=false)  :Calls Tryd.prog 10 #[.int .i64 r,.int .i64 k] w (PVal (.tuple #[.int .i64 b,.int .i64 a]) w):=by
 have Hc:=Lib.hid hHc
 clear hHc
 have hJ0:=es_nil w
 go_enter Tryd.func10,Tryd.ntmps10
 go_wp2_with fail
 refine (Hc.out _).mono ?_
 rintro zz W1 ⟨rfl,hB⟩
 have hJ1:=hJ0.later hB
 clear hB hJ0
 go_wp2
 exact bodyPost_ret (v:=.tuple #[.int .i64 b,.int .i64 a]) (by simp [results,Tryd.results10,go_sem]) rfl ⟨rfl,hJ1.below⟩
theorem rweight_any (r k:Int) (w:World):Calls Tryd.prog 10 #[.int .i64 r,.int .i64 k] w (PVal (.tuple #[.int .i64 (wN r k),.int .i64 (wD r k)]) w):=by
 unfold wN wD
 by_cases h:aC r≤kC k
 ·
  rw [if_pos h,if_pos h]
  exact rwt0 r k _ _ _ (rcut_any r k) w (decide_eq_true h)
 ·
  rw [if_neg h,if_neg h]
  exact rwt1 r k _ _ _ (rcut_any r k) w (decide_eq_false h)
set_option maxRecDepth 100000 in
set_option maxHeartbeats 12800000 in
theorem rsl_up0 (r k a b:Int) (hHc:∀ W:World,Calls Tryd.prog 21 #[.int .i64 r,.int .i64 k] W (PVal (.tuple #[.int .i64 a,.bool false,.int .i64 b]) W)) (w:World) (d0:decide (b < a)=true)  :Calls Tryd.prog 12 #[.int .i64 r,.int .i64 k] w (PVal (.int .i64 b) w):=by
 have Hc:=Lib.hid hHc
 clear hHc
 have hJ0:=es_nil w
 go_enter Tryd.func12,Tryd.ntmps12
 go_wp2_with fail
 refine (Hc.out _).mono ?_
 rintro zz W1 ⟨rfl,hB⟩
 have hJ1:=hJ0.later hB
 clear hB hJ0
 go_wp2
 go_ret
 exact ⟨rfl,hJ1.below⟩
set_option maxRecDepth 100000 in
set_option maxHeartbeats 12800000 in
theorem rsl_in0 (r k a b:Int) (hHc:∀ W:World,Calls Tryd.prog 21 #[.int .i64 r,.int .i64 k] W (PVal (.tuple #[.int .i64 a,.bool false,.int .i64 b]) W)) (w:World) (d0:decide (b < a)=false)  :Calls Tryd.prog 12 #[.int .i64 r,.int .i64 k] w (PVal (.int .i64 a) w):=by
 have Hc:=Lib.hid hHc
 clear hHc
 have hJ0:=es_nil w
 go_enter Tryd.func12,Tryd.ntmps12
 go_wp2_with fail
 refine (Hc.out _).mono ?_
 rintro zz W1 ⟨rfl,hB⟩
 have hJ1:=hJ0.later hB
 clear hB hJ0
 go_wp2
 go_ret
 exact ⟨rfl,hJ1.below⟩
set_option maxRecDepth 100000 in
set_option maxHeartbeats 12800000 in
theorem rsl_up1 (r k a b:Int) (hHc:∀ W:World,Calls Tryd.prog 21 #[.int .i64 r,.int .i64 k] W (PVal (.tuple #[.int .i64 a,.bool true,.int .i64 b]) W)) (w:World) (d0:decide (b < a)=true) (b1:0≤b) (b2:b≤2147483647) :Calls Tryd.prog 12 #[.int .i64 r,.int .i64 k] w (PVal (.int .i64 (-b)) w):=by
 have Hc:=Lib.hid hHc
 clear hHc
 have hJ0:=es_nil w
 go_enter Tryd.func12,Tryd.ntmps12
 go_wp2_with fail
 refine (Hc.out _).mono ?_
 rintro zz W1 ⟨rfl,hB⟩
 have hJ1:=hJ0.later hB
 clear hB hJ0
 go_wp2
 go_ret
 exact ⟨rfl,hJ1.below⟩
set_option maxRecDepth 100000 in
set_option maxHeartbeats 12800000 in
theorem rsl_in1 (r k a b:Int) (hHc:∀ W:World,Calls Tryd.prog 21 #[.int .i64 r,.int .i64 k] W (PVal (.tuple #[.int .i64 a,.bool true,.int .i64 b]) W)) (w:World) (d0:decide (b < a)=false) (a1:0≤a) (a2:a≤2147483647) :Calls Tryd.prog 12 #[.int .i64 r,.int .i64 k] w (PVal (.int .i64 (-a)) w):=by
 have Hc:=Lib.hid hHc
 clear hHc
 have hJ0:=es_nil w
 go_enter Tryd.func12,Tryd.ntmps12
 go_wp2_with fail
 refine (Hc.out _).mono ?_
 rintro zz W1 ⟨rfl,hB⟩
 have hJ1:=hJ0.later hB
 clear hB hJ0
 go_wp2
 go_ret
 exact ⟨rfl,hJ1.below⟩
theorem rslope_any (r k:Int) (w:World):Calls Tryd.prog 12 #[.int .i64 r,.int .i64 k] w (PVal (.int .i64 (slp r k)) w):=by
 have ha:=aC_bd r
 have hk:=kC_bd k
 have hc:=rcut_any r k
 unfold slp slA
 by_cases hr:r < 0 <;> by_cases h:aC r≤kC k
 ·
  rw [if_pos hr,if_pos h]
  rw [decide_eq_true hr] at hc
  exact rsl_in1 r k _ _ hc w (decide_eq_false (by omega)) ha.1 ha.2
 ·
  rw [if_pos hr,if_neg h]
  rw [decide_eq_true hr] at hc
  exact rsl_up1 r k _ _ hc w (decide_eq_true (by omega)) hk.1 hk.2
 ·
  rw [if_neg hr,if_pos h]
  rw [decide_eq_false hr] at hc
  exact rsl_in0 r k _ _ hc w (decide_eq_false (by omega))
 ·
  rw [if_neg hr,if_neg h]
  rw [decide_eq_false hr] at hc
  exact rsl_up0 r k _ _ hc w (decide_eq_true (by omega))
/-- A number is handed back. -/
def PN (z:Int) (w:World) (e:Ending) (w':World):Prop:=∃ p:NR,p.z=z∧e=.returned (.agg #[.bool p.b,.slice p.a p.n p.c])∧p.is w'∧Below w.heap.size w w'
theorem NR.len {p:NR} {W:World} (h:p.is W) {k:Nat} (hz:p.z.natAbs < 10 ^ k):p.n≤k:=fit10_le h.fit hz
theorem NR.below {p:NR} {W W':World} (h:p.is W) (hb:Below W.heap.size W W'):p.is W':=RNum.below h hb
theorem nOf (z:Int) (h1:-9223372036854775808≤z) (h2:z≤9223372036854775807) (w:World):Calls Tryd.prog 22 #[.int .i64 z] w (PN z w) :=
 (rOf_any z w h1 h2).mono fun _ _ ⟨b,a,n,c,e,g,_,hB⟩=>⟨⟨b,a,n,c,z⟩,rfl,e,g,hB⟩
/-- A variable of two numbers. -/
def F4 (W:World) (T:TypeId) (k:Nat) (p q:NR):Prop:=W.heap[k]?=some (.cells #[.bool p.b,.slice p.a p.n p.c,.bool q.b,.slice q.a q.n q.c] T (0,0))
theorem F4.below {W W':World} {T:TypeId} {k:Nat} {p q:NR} (h:F4 W T k p q) (hb:Below W.heap.size W W'):F4 W' T k p q:=by
 unfold F4 at h ⊢
 rw [hb.block _ (Array.getElem?_eq_some_iff.1 h).1]
 exact h
theorem F4.cells {W:World} {T:TypeId} {k:Nat} {p q:NR} (h:F4 W T k p q):W.cell? ⟨k,0,none⟩=some (.bool p.b)∧W.cell? ⟨k,1,none⟩=some (.slice p.a p.n p.c)∧W.cell? ⟨k,2,none⟩=some (.bool q.b)∧W.cell? ⟨k,3,none⟩=some (.slice q.a q.n q.c)∧W.frozen? ⟨k,0,none⟩=false∧W.frozen? ⟨k,1,none⟩=false∧W.frozen? ⟨k,2,none⟩=false∧W.frozen? ⟨k,3,none⟩=false:=by
 unfold F4 at h
 refine ⟨?_,?_,?_,?_,?_,?_,?_,?_⟩ <;> simp [World.cell?,World.frozen?,h]
theorem F4.far {W:World} {T:TypeId} {k j o o':Nat} {p q:NR} (h:F4 W T k p q) (hne:k ≠ j) (x y:Value):F4 ((W.setCell ⟨j,o,none⟩ x).setCell ⟨j,o',none⟩ y) T k p q:=by
 unfold F4 at h ⊢
 rw [heap_set_ne _ _ hne,heap_set_ne _ _ hne]
 exact h
structure En (w W:World) (l:List (Nat × Array Value × TypeId)) (ns:List NR):Prop where
 es:Es w W l
 num:∀ p,p ∈ ns→p.is W
def noInt (C:Array Value):Bool:=C.toList.all fun v=>match v with
 | .int _ _=>false
 | _=>true
section
variable {w W W':World} {l:List (Nat × Array Value × TypeId)} {ns:List NR}
theorem en_nil (w:World):En w w [] []:=⟨es_nil w,nofun⟩
theorem En.later (h:En w W l ns) (hb:Below W.heap.size W W'):En w W' l ns:=⟨h.es.later hb,fun p hp=>NR.below (h.num p hp) hb⟩
theorem En.more (h:En w W l ns) {p:NR} (hp:p.is W):En w W l (p :: ns):=⟨h.es,fun q hq=>by
 rcases List.mem_cons.1 hq with rfl | hq
 ·
  exact hp
 ·
  exact h.num q hq⟩
theorem En.drop (h:En w W l ns):En w W l []:=⟨h.es,nofun⟩
theorem En.cell (h:En w W l ns) (j:Nat) {b:Nat} {C:Array Value} {T:TypeId} (hj:l[j]?=some (b,C,T)) (i:Nat) {v:Value} (hi:C[i]?=some v):W.cell? ⟨b,i,none⟩=some v:=h.es.cell j hj i hi
theorem En.below (h:En w W l ns):Below w.heap.size w W:=h.es.below
theorem NR.keep {p:NR} {b:Nat} {C:Array Value} {T:TypeId} (h:p.is W) (hc:Cl W (b,C,T)) (hn:noInt C=true) (hk:∀ k,k ≠ b→W'.heap[k]?=W.heap[k]?) (hz:W'.heap.size=W.heap.size):p.is W':=by
 unfold NR.is at *
 refine ⟨⟨h.lie.cap,h.lie.capm,h.lie.nil,fun a ha=>⟨(h.lie.spot a ha).1,by rw [hz]; exact (h.lie.spot a ha).2⟩,fun a ha i hi=>?_⟩,h.fit,h.sgn⟩
 have h1:=h.lie.cell a ha i hi
 have hne:a.block ≠ b:=by
  intro e
  unfold Cl at hc
  change W.heap[b]?=some (.cells C T (0,0)) at hc
  unfold World.cell? at h1
  rw [e,hc] at h1
  simp only at h1
  split at h1
  ·
   cases h1
  ·
   have:=List.all_eq_true.1 hn _ (by
    have h2:=Array.mem_of_getElem? h1
    exact Array.mem_toList_iff.2 h2)
   simp at this
 unfold World.cell? at h1 ⊢
 rw [hk _ hne]
 exact h1
end
section
variable {P:Program} {ops:Array Oper} {Q:Exit→Act→World→Prop} {a:Act} {w W:World} {rest:List Oper} {o:Oper} {l:List (Nat × Array Value × TypeId)} {ns:List NR}
theorem stopn_alloc (T:TypeId) (C:Array Value) (z:Value) (hg:o.guard=none) (ho:o.op=.alloc T) (hz:∀ W,(zeroValue T).run P W=.ok z W) (hC:z.cells=C) (h:En w W l ns) (k:∀ (b:Nat) (W':World),En w W' ((b,C,T) :: l) ns→Stop (wpList P ops Q rest (a.put o.dst (.pointer (some ⟨b,0,none⟩))) W')):wpList P ops Q (o :: rest) a W :=
 wpList_plain hg fun K hK=>wp_alloc T ho z hz (hK _ _ (k _ _ ⟨hC ▸ h.es.new z.cells T,(h.later ((Below.refl _ _).alloc (Nat.le_refl _) _)).num⟩))
theorem stopn_store (T:TypeId) (p x:Operand) (j b off:Nat) (C:Array Value) (T':TypeId) (n:Nat) (vs:List Value) (C':Array Value) (l':List (Nat × Array Value × TypeId)) (hni:(noInt C || ns.isEmpty)=true) (hg:o.guard=none) (ho:o.op=.store T p x) (hp:a.eval p=.pointer (some ⟨b,off,none⟩)) (hx:(a.eval x).cells.toList=vs) (hn:∀ W,(sizeOf T).run P W=.ok n W) (h:En w W l ns) (hj:l[j]?=some (b,C,T')) (hv:vs.length=n) (hs:off+n≤C.size) (hb:vs.all (·.oneCell')=true) (hC:putC C off vs=C') (hl:l.set j (b,C',T')=l')
  (k:∀ W',En w W' l' ns→Stop (wpList P ops Q rest (a.put o.dst undef) W')):wpList P ops Q (o :: rest) a W :=
 wpList_plain hg fun K hK=>wp_store T p x ho j b off C T' n vs h.es hj hp hx hn hv hs hb (fun W' e hk hz=>hK _ _ (k W' ⟨(by rw [hC,hl] at e; exact e),fun q hq=>by
  rw [Bool.or_eq_true] at hni
  rcases hni with hni | hni
  ·
   exact NR.keep (h.num q hq) (h.es.at' _ (List.mem_of_getElem? hj)) hni hk hz
  ·
   cases ns with
   | nil=>cases hq
   | cons _ _=>cases hni⟩))
end
/-- What an operation of a region gives: a value; a number; a number beside something; two numbers, of which the first is known, beside something. -/
inductive VN' where
 | eq (v:Value)
 | num (z:Int)
 | num1 (z:Int) (v:Value)
 | num2 (z:Int) (v:Value)
 | num3 (z y:Int) (v:Value)
 | numu
 | any
def NR.w (p:NR):Value:=.agg #[.bool p.b,.slice p.a p.n p.c]
def vnP:VN'→Value→World→Prop
 | .eq c,v,_=>v=c
 | .num z,v,W=>∃ p:NR,p.z=z∧v=.agg #[.bool p.b,.slice p.a p.n p.c]∧p.is W
 | .num1 z c,v,W=>∃ p:NR,p.z=z∧v=.tuple #[.agg #[.bool p.b,.slice p.a p.n p.c],c]∧p.is W
 | .num2 z c,v,W=>∃ p r:NR,p.z=z∧v=.tuple #[.agg #[.bool p.b,.slice p.a p.n p.c],.agg #[.bool r.b,.slice r.a r.n r.c],c]∧p.is W∧r.is W
 | .num3 z y c,v,W=>∃ p r:NR,p.z=z∧r.z=y∧v=.tuple #[.agg #[.bool p.b,.slice p.a p.n p.c],.agg #[.bool r.b,.slice r.a r.n r.c],c]∧p.is W∧r.is W
 | .numu,v,W=>∃ p:NR,v=.agg #[.bool p.b,.slice p.a p.n p.c]∧p.is W
 | .any,_,_=>True
def vnL (ks:List VN') (j:Nat):Value→World→Prop:=vnP (ks.getD j .any)
theorem vn_mono {k:VN'} {v:Value} {W W':World} (h:vnP k v W) (hm:∀ p:NR,p.is W→p.is W'):vnP k v W':=by
 cases k with
 | eq c=>exact h
 | num z=>obtain ⟨p,e,h1,h2⟩:=h; exact ⟨p,e,h1,hm p h2⟩
 | num1 z c=>obtain ⟨p,e,h1,h2⟩:=h; exact ⟨p,e,h1,hm p h2⟩
 | num2 z c=>obtain ⟨p,r,e,h1,h2,h3⟩:=h; exact ⟨p,r,e,h1,hm p h2,hm r h3⟩
 | numu=>obtain ⟨p,h1,h2⟩:=h; exact ⟨p,h1,hm p h2⟩
 | num3 z y c=>obtain ⟨p,r,e,e',h1,h2,h3⟩:=h; exact ⟨p,r,e,e',h1,hm p h2,hm r h3⟩
 | any=>trivial
theorem vnL_later {n:Nat} {ks:List VN'} {u:Nat→Value} {W W':World} (hb:Below W.heap.size W W'):∀ j,j < n→vnL ks j (u j) W→vnL ks j (u j) W':=fun _ _ h=>vn_mono h fun _ hp=>NR.below hp hb
theorem vnL_same {n:Nat} {ks:List VN'} {u:Nat→Value} {W:World}:∀ j,j < n→vnL ks j (u j) W→vnL ks j (u j) W:=fun _ _ h=>h
/-- The invariant of a region: as Jz, with numbers; what was stored is told by its operation's value. -/
structure Jn (w:World) (m:Nat) (l:List (Nat × Array Value × TypeId)) (ns:List NR) (al:List (Nat × Nat × TypeId)) (sts:List (Nat × Nat × Nat × TypeId)) (L:Nat→Bool) (u:Nat→Value) (W:World):Prop where
 em:Em w m l W
 num:∀ p,p ∈ ns→p.is W
 bx:∀ a,a ∈ al→L a.1=true→∃ (b:Nat) (C:Array Value),u a.1=.pointer (some ⟨b,0,none⟩)∧m≤b∧C.size=a.2.1∧noInt C=true∧Cl W (b,C,a.2.2)
 ne:∀ a a',a ∈ al→a' ∈ al→a.1 ≠ a'.1→L a.1=true→L a'.1=true→u a.1 ≠ u a'.1
 st:∀ s,s ∈ sts→L s.1=true→L s.2.1=true∧L s.2.2.1=true∧∃ b:Nat,u s.2.1=.pointer (some ⟨b,0,none⟩)∧Cl W (b,(u s.2.2.1).cells,s.2.2.2)
section
variable {w W:World} {m:Nat} {l:List (Nat × Array Value × TypeId)} {ns:List NR} {al:List (Nat × Nat × TypeId)} {sts:List (Nat × Nat × Nat × TypeId)} {L:Nat→Bool} {u:Nat→Value}
theorem Jn.start (h:En w W l ns) (u:Nat→Value):Jn w W.heap.size l ns al sts (fun _=>false) u W.drew:=⟨h.es.em,fun p hp=>NR.below (h.num p hp) (Below.refl _ _).drew,nofun,nofun,nofun⟩
theorem Jn.grow {W':World} {i:Nat} {v:Value} (h:Jn w m l ns al sts L u W) (hLi:L i=false) (ha:∀ a,a ∈ al→a.1 ≠ i) (hs:∀ s,s ∈ sts→s.1 ≠ i) (hb:Below W.heap.size W W'):Jn w m l ns al sts (upd L i) (updV u i v) W':=by
 refine ⟨h.em.later hb,fun p hp=>NR.below (h.num p hp) hb,fun a ha' hL=>?_,fun a a' h1 h2 hne hL1 hL2=>?_,fun s hs' hL=>?_⟩
 ·
  rw [upd_ne (ha a ha')] at hL
  obtain ⟨b,C,e1,e2,e3,e5,e4⟩:=h.bx a ha' hL
  exact ⟨b,C,by rw [updV_ne (ha a ha')]; exact e1,e2,e3,e5,e4.below hb⟩
 ·
  rw [upd_ne (ha a h1)] at hL1
  rw [upd_ne (ha a' h2)] at hL2
  rw [updV_ne (ha a h1),updV_ne (ha a' h2)]
  exact h.ne a a' h1 h2 hne hL1 hL2
 ·
  rw [upd_ne (hs s hs')] at hL
  obtain ⟨k1,k2,b,e1,e2⟩:=h.st s hs' hL
  exact ⟨upd_mono k1,upd_mono k2,b,by rw [updV_ne (ne_of hLi k1)]; exact e1,by rw [updV_ne (ne_of hLi k2)]; exact e2.below hb⟩
theorem Jn.alloc {i n:Nat} {C:Array Value} {T:TypeId} (h:Jn w m l ns al sts L u W) (hLi:L i=false) (hn:C.size=n) (hno:noInt C=true) (hin:∀ a,a ∈ al→a.1=i→a=(i,n,T)) (hs:∀ s,s ∈ sts→s.1 ≠ i):Jn w m l ns al sts (upd L i) (updV u i (.pointer (some ⟨W.heap.size,0,none⟩))) (W.alloc (.cells C T)):=by
 have hb:Below W.heap.size W (W.alloc (.cells C T)):=(Below.refl _ _).alloc (Nat.le_refl _) _
 have old:∀ a,a ∈ al→a.1 ≠ i→upd L i a.1=true→updV u i (.pointer (some ⟨W.heap.size,0,none⟩)) a.1 ≠ .pointer (some ⟨W.heap.size,0,none⟩):=by
  intro a ha e hL hc
  rw [upd_ne e] at hL
  obtain ⟨b,C',e1,_,_,_,e4⟩:=h.bx a ha hL
  rw [updV_ne e,e1] at hc
  have:=(Array.getElem?_eq_some_iff.1 e4).1
  injection hc with hc
  injection hc with hc
  injection hc with hc
  change b < W.heap.size at this
  omega
 refine ⟨h.em.later hb,fun p hp=>NR.below (h.num p hp) hb,fun a ha' hL=>?_,fun a a' h1 h2 hne hL1 hL2=>?_,fun s hs' hL=>?_⟩
 ·
  by_cases e:a.1=i
  ·
   rw [hin a ha' e]
   exact ⟨W.heap.size,C,by simp [updV],h.em.le,hn,hno,heap_new W _⟩
  ·
   rw [upd_ne e] at hL
   obtain ⟨b,C',e1,e2,e3,e5,e4⟩:=h.bx a ha' hL
   exact ⟨b,C',by rw [updV_ne e]; exact e1,e2,e3,e5,e4.below hb⟩
 ·
  by_cases e:a.1=i
  ·
   have e':a'.1 ≠ i:=fun x=>hne (e.trans x.symm)
   intro hc
   refine old a' h2 e' hL2 ?_
   rw [← hc,e]
   simp [updV]
  ·
   by_cases e':a'.1=i
   ·
    intro hc
    refine old a h1 e hL1 ?_
    rw [hc,e']
    simp [updV]
   ·
    rw [upd_ne e] at hL1
    rw [upd_ne e'] at hL2
    rw [updV_ne e,updV_ne e']
    exact h.ne a a' h1 h2 hne hL1 hL2
 ·
  rw [upd_ne (hs s hs')] at hL
  obtain ⟨k1,k2,b,e1,e2⟩:=h.st s hs' hL
  exact ⟨upd_mono k1,upd_mono k2,b,by rw [updV_ne (ne_of hLi k1)]; exact e1,by rw [updV_ne (ne_of hLi k2)]; exact e2.below hb⟩
theorem Jn.store {W':World} {i a x b n:Nat} {T:TypeId} {Co Cn:Array Value} {v:Value} (h:Jn w m l ns al sts L u W) (hLi:L i=false) (ha:∀ a,a ∈ al→a.1 ≠ i) (hin:(a,n,T) ∈ al) (hun:∀ x,x ∈ al→x.1=a→x=(a,n,T)) (hua:∀ s,s ∈ sts→s.1=i→s=(i,a,x,T)) (hal:∀ s,s ∈ sts→∃ x,x ∈ al∧x.1=s.2.1) (hus:∀ s,s ∈ sts→s.1 ≠ i→s.2.1 ≠ a) (hLa:L a=true) (hLx:L x=true)
  (eu:u a=.pointer (some ⟨b,0,none⟩)) (hm:m≤b) (hn:Cn.size=n) (hno:noInt Cn=true) (hx:(u x).cells=Cn) (ho:Cl W (b,Co,T)) (hoi:noInt Co=true) (hE:Es w W' ((b,Cn,T) :: l)) (hk:∀ k,k ≠ b→W'.heap[k]?=W.heap[k]?) (hz:W'.heap.size=W.heap.size):Jn w m l ns al sts (upd L i) (updV u i v) W':=by
 have hCl:Cl W' (b,Cn,T):=hE.at' _ (List.mem_cons_self ..)
 refine ⟨⟨hE.sub (List.sublist_cons_self _ _),by rw [hz]; exact h.em.le,h.em.lt,h.em.ge⟩,fun p hp=>NR.keep (h.num p hp) ho hoi hk hz,fun a1 ha' hL=>?_,fun a1 a2 h1 h2 hne hL1 hL2=>?_,fun s hs' hL=>?_⟩
 ·
  rw [upd_ne (ha a1 ha')] at hL
  obtain ⟨b1,C1,e1,e2,e3,e5,e4⟩:=h.bx a1 ha' hL
  by_cases hb:b1=b
  ·
   subst hb
   have:a1.1=a:=by
    refine Classical.byContradiction fun hc=>h.ne a1 (a,n,T) ha' hin hc hL hLa ?_
    rw [e1,eu]
   rw [hun a1 ha' this]
   exact ⟨b1,Cn,by rw [updV_ne (ne_of hLi hLa)]; exact eu,hm,hn,hno,hCl⟩
  ·
   exact ⟨b1,C1,by rw [updV_ne (ha a1 ha')]; exact e1,e2,e3,e5,e4.keep hb hk⟩
 ·
  rw [upd_ne (ha a1 h1)] at hL1
  rw [upd_ne (ha a2 h2)] at hL2
  rw [updV_ne (ha a1 h1),updV_ne (ha a2 h2)]
  exact h.ne a1 a2 h1 h2 hne hL1 hL2
 ·
  by_cases hs:s.1=i
  ·
   rw [hua s hs' hs]
   exact ⟨upd_mono hLa,upd_mono hLx,b,by rw [updV_ne (ne_of hLi hLa)]; exact eu,by rw [updV_ne (ne_of hLi hLx),hx]; exact hCl⟩
  ·
   rw [upd_ne hs] at hL
   obtain ⟨k1,k2,b1,e1,e2⟩:=h.st s hs' hL
   have hb:b1 ≠ b:=by
    intro hc
    obtain ⟨y,hy,ey⟩:=hal s hs'
    refine h.ne y (a,n,T) hy hin (by rw [ey]; exact hus s hs' hs) (by rw [ey]; exact k1) hLa ?_
    rw [ey,e1,eu,hc]
   exact ⟨upd_mono k1,upd_mono k2,b1,by rw [updV_ne (ne_of hLi k1)]; exact e1,by rw [updV_ne (ne_of hLi k2)]; exact e2.keep hb hk⟩
end
open Classical in
/-- The text of a number. -/
noncomputable def dcT (z:Int):List UInt8:=if h:∃ l,Txt z l then Classical.choose h else []
theorem dcT_eq {z:Int} {l:List UInt8} (h:Txt z l):l=dcT z:=by
 have hx:∃ l,Txt z l:=⟨l,h⟩
 unfold dcT
 rw [dif_pos hx]
 exact txt_uniq h (Classical.choose_spec hx)
theorem zv51 (W:World):(zeroValue 51).run Tryd.prog W=.ok (.agg #[.bool false,.slice none 0 0]) W:=by kernel_rfl
theorem sz51 (W:World):(sizeOf 51).run Tryd.prog W=.ok 2 W:=by kernel_rfl
set_option maxRecDepth 100000 in
set_option maxHeartbeats 12800000 in
theorem rrho_in (r k a b:Int) (s:Bool) (T:ByteArray) (hHc:∀ (W:World),Calls Tryd.prog 21 #[.int .i64 r,.int .i64 k] W (PVal (.tuple #[.int .i64 a,.bool s,.int .i64 b]) W)) (hHa:∀ (W:World),Calls Tryd.prog 22 #[.int .i64 a] W (PN (a) W)) (hHm:∀ (p0 p1:NR) (W:World),p0.z=a→p1.z=a→p0.is W→p1.is W→Calls Tryd.prog 23 #[.agg #[.bool p0.b,.slice p0.a p0.n p0.c],.agg #[.bool p1.b,.slice p1.a p1.n p1.c]] W (PN (a*a) W)) (hHt:∀ (p0:NR) (W:World),p0.z=a*a→p0.is W→Calls Tryd.prog 24 #[.agg #[.bool p0.b,.slice p0.a p0.n p0.c]] W (PVal (.string T) W)) (d:decide (a≤b)=true)  (w:World):Calls Tryd.prog 11 #[.int .i64 r,.int .i64 k] w (PVal (.string T) w):=by
 have Hc:=Lib.hid hHc
 have Ha:=Lib.hid hHa
 have Hm:=Lib.hid hHm
 have Ht:=Lib.hid hHt
 clear hHc hHa hHm hHt
 have hJ0:=en_nil w
 go_enter Tryd.func11,Tryd.ntmps11
 go_wp2_with fail
 refine (Hc.out _).mono ?_
 rintro zz W1 ⟨rfl,hB⟩
 have hJ1:=hJ0.later hB
 clear hB hJ0
 go_wp2_with fail
 refine (Ha.out _).mono ?_
 rintro zz W2 ⟨pn1,hz_pn1,rfl,hi_pn1,hB⟩
 have hJ2:=(hJ1.later hB).more hi_pn1
 have Hz_pn1:=Lib.hid hz_pn1
 clear hz_pn1 hi_pn1 hB hJ1
 go_wp2_with (refine stopn_alloc 51 #[.bool false,.slice none 0 0] (.agg #[.bool false,.slice none 0 0]) rfl rfl zv51 rfl hJ2 (fun bk1 W3 hJ3=>?_))
 clear hJ2
 simp only [Stop,Act.put,zzC,zzD,zzE]
 go_wp2_with (refine stopn_store 51 (.tmp 8) (.tmp 18) 0 bk1 0 #[.bool false,.slice none 0 0] 51 2 [.bool pn1.b,.slice pn1.a pn1.n pn1.c] #[.bool pn1.b,.slice pn1.a pn1.n pn1.c] [(bk1,#[.bool pn1.b,.slice pn1.a pn1.n pn1.c],51)] (by kernel_rfl) rfl rfl rfl rfl sz51 hJ3 rfl rfl (zzF (by kernel_rfl)) (by kernel_rfl) (by kernel_rfl) (by kernel_rfl) (fun W4 hJ4=>?_))
 clear hJ3
 simp only [Stop,Act.put,zzC,zzD,zzE]
 have f0:W4.cell? ⟨bk1,0,none⟩=some (.bool pn1.b):=hJ4.cell 0 rfl 0 rfl
 have f1:W4.cell? ⟨bk1,1,none⟩=some (.slice pn1.a pn1.n pn1.c):=hJ4.cell 0 rfl 1 rfl
 go_wp2_with fail
 refine (Hm.out pn1 pn1 _ Hz_pn1.out Hz_pn1.out (hJ4.num pn1 (by simp)) (hJ4.num pn1 (by simp))).mono ?_
 rintro zz W5 ⟨pn2,hz_pn2,rfl,hi_pn2,hB⟩
 have hJ5:=(hJ4.later hB).more hi_pn2
 have Hz_pn2:=Lib.hid hz_pn2
 clear hz_pn2 hi_pn2 hB f0 f1 hJ4
 go_wp2_with fail
 refine (Ht.out pn2 _ Hz_pn2.out (hJ5.num pn2 (by simp))).mono ?_
 rintro zz W6 ⟨rfl,hB⟩
 have hJ6:=hJ5.later hB
 clear hB hJ5
 go_wp2
 go_ret
 exact ⟨rfl,hJ6.below⟩
set_option maxRecDepth 100000 in
set_option maxHeartbeats 12800000 in
theorem rrho_out (r k a b:Int) (s:Bool) (T:ByteArray) (hHc:∀ (W:World),Calls Tryd.prog 21 #[.int .i64 r,.int .i64 k] W (PVal (.tuple #[.int .i64 a,.bool s,.int .i64 b]) W)) (hHa:∀ (W:World),Calls Tryd.prog 22 #[.int .i64 a] W (PN (a) W)) (hHb:∀ (W:World),Calls Tryd.prog 22 #[.int .i64 b] W (PN (b) W)) (hHm:∀ (p0 p1:NR) (W:World),p0.z=b→p1.z=a→p0.is W→p1.is W→Calls Tryd.prog 23 #[.agg #[.bool p0.b,.slice p0.a p0.n p0.c],.agg #[.bool p1.b,.slice p1.a p1.n p1.c]] W (PN (b*a) W)) (hHp:∀ (p0 p1:NR) (W:World),p0.z=b*a→p1.z=b*a→p0.is W→p1.is W→Calls Tryd.prog 25 #[.agg #[.bool p0.b,.slice p0.a p0.n p0.c],.agg #[.bool p1.b,.slice p1.a p1.n p1.c]] W (PN (b*a+b*a) W)) (hHk:∀ (p0 p1:NR) (W:World),p0.z=b→p1.z=b→p0.is W→p1.is W→Calls Tryd.prog 23 #[.agg #[.bool p0.b,.slice p0.a p0.n p0.c],.agg #[.bool p1.b,.slice p1.a p1.n p1.c]] W (PN (b*b) W)) (hHs:∀ (p0 p1:NR) (W:World),p0.z=b*a+b*a→p1.z=b*b→p0.is W→p1.is W→Calls Tryd.prog 26 #[.agg #[.bool p0.b,.slice p0.a p0.n p0.c],.agg #[.bool p1.b,.slice p1.a p1.n p1.c]] W (PN (b*a+b*a - b*b) W)) (hHt:∀ (p0:NR) (W:World),p0.z=b*a+b*a - b*b→p0.is W→Calls Tryd.prog 24 #[.agg #[.bool p0.b,.slice p0.a p0.n p0.c]] W (PVal (.string T) W)) (d:decide (a≤b)=false)  (w:World):Calls Tryd.prog 11 #[.int .i64 r,.int .i64 k] w (PVal (.string T) w):=by
 have Hc:=Lib.hid hHc
 have Ha:=Lib.hid hHa
 have Hb:=Lib.hid hHb
 have Hm:=Lib.hid hHm
 have Hp:=Lib.hid hHp
 have Hk:=Lib.hid hHk
 have Hs:=Lib.hid hHs
 have Ht:=Lib.hid hHt
 clear hHc hHa hHb hHm hHp hHk hHs hHt
 have hJ0:=en_nil w
 go_enter Tryd.func11,Tryd.ntmps11
 go_wp2_with fail
 refine (Hc.out _).mono ?_
 rintro zz W1 ⟨rfl,hB⟩
 have hJ1:=hJ0.later hB
 clear hB hJ0
 go_wp2_with fail
 refine (Ha.out _).mono ?_
 rintro zz W2 ⟨pn1,hz_pn1,rfl,hi_pn1,hB⟩
 have hJ2:=(hJ1.later hB).more hi_pn1
 have Hz_pn1:=Lib.hid hz_pn1
 clear hz_pn1 hi_pn1 hB hJ1
 go_wp2_with (refine stopn_alloc 51 #[.bool false,.slice none 0 0] (.agg #[.bool false,.slice none 0 0]) rfl rfl zv51 rfl hJ2 (fun bk1 W3 hJ3=>?_))
 clear hJ2
 simp only [Stop,Act.put,zzC,zzD,zzE]
 go_wp2_with (refine stopn_store 51 (.tmp 8) (.tmp 18) 0 bk1 0 #[.bool false,.slice none 0 0] 51 2 [.bool pn1.b,.slice pn1.a pn1.n pn1.c] #[.bool pn1.b,.slice pn1.a pn1.n pn1.c] [(bk1,#[.bool pn1.b,.slice pn1.a pn1.n pn1.c],51)] (by kernel_rfl) rfl rfl rfl rfl sz51 hJ3 rfl rfl (zzF (by kernel_rfl)) (by kernel_rfl) (by kernel_rfl) (by kernel_rfl) (fun W4 hJ4=>?_))
 clear hJ3
 simp only [Stop,Act.put,zzC,zzD,zzE]
 go_wp2_with fail
 refine (Hb.out _).mono ?_
 rintro zz W5 ⟨pn2,hz_pn2,rfl,hi_pn2,hB⟩
 have hJ5:=(hJ4.later hB).more hi_pn2
 have Hz_pn2:=Lib.hid hz_pn2
 clear hz_pn2 hi_pn2 hB hJ4
 go_wp2_with (refine stopn_alloc 51 #[.bool false,.slice none 0 0] (.agg #[.bool false,.slice none 0 0]) rfl rfl zv51 rfl hJ5 (fun bk2 W6 hJ6=>?_))
 clear hJ5
 simp only [Stop,Act.put,zzC,zzD,zzE]
 go_wp2_with (refine stopn_store 51 (.tmp 9) (.tmp 27) 0 bk2 0 #[.bool false,.slice none 0 0] 51 2 [.bool pn2.b,.slice pn2.a pn2.n pn2.c] #[.bool pn2.b,.slice pn2.a pn2.n pn2.c] [(bk2,#[.bool pn2.b,.slice pn2.a pn2.n pn2.c],51),(bk1,#[.bool pn1.b,.slice pn1.a pn1.n pn1.c],51)] (by kernel_rfl) rfl rfl rfl rfl sz51 hJ6 rfl rfl (zzF (by kernel_rfl)) (by kernel_rfl) (by kernel_rfl) (by kernel_rfl) (fun W7 hJ7=>?_))
 clear hJ6
 simp only [Stop,Act.put,zzC,zzD,zzE]
 go_wp2
 obtain ⟨m6_7,hm⟩:∃ m,m=W7.heap.size:=⟨_,rfl⟩
 have hM:∀ uu,Jn w m6_7 [(bk2,#[.bool pn2.b,.slice pn2.a pn2.n pn2.c],51),(bk1,#[.bool pn1.b,.slice pn1.a pn1.n pn1.c],51)] [pn2,pn1] [] [] (fun _=>false) uu W7.drew:=fun uu=>by rw [hm]; exact Jn.start hJ7 uu
 clear hm hJ7
 refine wp_region_y 13 [some 28,some 29,some 30,some 31,some 32,some 33,some 34,some 35,some 36,some 37,some 38,some 39,some 4] (vnL [.eq (.agg #[.bool pn2.b,.slice pn2.a pn2.n pn2.c]),.eq (.agg #[.bool pn1.b,.slice pn1.a pn1.n pn1.c]),.num (b*a),.eq (.agg #[.bool pn2.b,.slice pn2.a pn2.n pn2.c]),.eq (.agg #[.bool pn1.b,.slice pn1.a pn1.n pn1.c]),.num (b*a),.num (b*a+b*a),.eq (.agg #[.bool pn2.b,.slice pn2.a pn2.n pn2.c]),.eq (.agg #[.bool pn2.b,.slice pn2.a pn2.n pn2.c]),.num (b*b),.num (b*a+b*a - b*b),.eq (.string T),.eq (.string T)]) (Jn w m6_7 [(bk2,#[.bool pn2.b,.slice pn2.a pn2.n pn2.c],51),(bk1,#[.bool pn1.b,.slice pn1.a pn1.n pn1.c],51)] [pn2,pn1] [] []) (by kernel_rfl) (by kernel_rfl) (by rfl) (by decide) (by rfl) hM ?_ ?_
 ·
  intro i hl hi LL uu ww aa hLi hJ hd hev hin
  clear hM
  obtain rfl | rfl | rfl | rfl | rfl | rfl | rfl | rfl | rfl | rfl | rfl | rfl | rfl:i=0∨i=1∨i=2∨i=3∨i=4∨i=5∨i=6∨i=7∨i=8∨i=9∨i=10∨i=11∨i=12:=by omega
  ·
   have x9:aa.tmps[9]?=some (.pointer (some ⟨bk2,0,none⟩)):=(hev 9 (by decide)).trans rfl
   clear hd hev hin
   simp only [zzA,zzB]
   clear hl
   refine .inr ⟨rfl,fun K' hK=>?_⟩
   have HK:=Lib.hid hK
   clear hK
   have f0:ww.cell? ⟨bk2,0,none⟩=some (.bool pn2.b):=hJ.em.es.cell 0 rfl 0 rfl
   have f1:ww.cell? ⟨bk2,1,none⟩=some (.slice pn2.a pn2.n pn2.c):=hJ.em.es.cell 0 rfl 1 rfl
   go_simp
   exact HK.out (.agg #[.bool pn2.b,.slice pn2.a pn2.n pn2.c]) _ (hJ.grow hLi (by simp) (by simp) (Below.refl _ _)) rfl vnL_same
  ·
   have x8:aa.tmps[8]?=some (.pointer (some ⟨bk1,0,none⟩)):=(hev 8 (by decide)).trans rfl
   clear hd hev hin
   simp only [zzA,zzB]
   clear hl
   refine .inr ⟨rfl,fun K' hK=>?_⟩
   have HK:=Lib.hid hK
   clear hK
   have f0:ww.cell? ⟨bk1,0,none⟩=some (.bool pn1.b):=hJ.em.es.cell 1 rfl 0 rfl
   have f1:ww.cell? ⟨bk1,1,none⟩=some (.slice pn1.a pn1.n pn1.c):=hJ.em.es.cell 1 rfl 1 rfl
   go_simp
   exact HK.out (.agg #[.bool pn1.b,.slice pn1.a pn1.n pn1.c]) _ (hJ.grow hLi (by simp) (by simp) (Below.refl _ _)) rfl vnL_same
  ·
   have x28:aa.tmps[28]?=some (.agg #[.bool pn2.b,.slice pn2.a pn2.n pn2.c]):=zzH (hin 0 28 rfl) (hd 0 (by decide) (by kernel_rfl)).2
   have x29:aa.tmps[29]?=some (.agg #[.bool pn1.b,.slice pn1.a pn1.n pn1.c]):=zzH (hin 1 29 rfl) (hd 1 (by decide) (by kernel_rfl)).2
   clear hd hev hin
   simp only [zzA,zzB]
   clear hl
   refine .inr ⟨rfl,fun K' hK=>?_⟩
   have HK:=Lib.hid hK
   clear hK
   go_simp
   refine (Hm.out pn2 pn1 ww Hz_pn2.out Hz_pn1.out (hJ.num pn2 (by simp)) (hJ.num pn1 (by simp))).mono ?_
   rintro zz W' ⟨py0,hzy0,rfl,ipy0,hB⟩
   exact HK.out (.agg #[.bool py0.b,.slice py0.a py0.n py0.c]) _ (hJ.grow hLi (by simp) (by simp) hB) ⟨py0,hzy0,rfl,ipy0⟩ (vnL_later hB)
  ·
   have x9:aa.tmps[9]?=some (.pointer (some ⟨bk2,0,none⟩)):=(hev 9 (by decide)).trans rfl
   clear hd hev hin
   simp only [zzA,zzB]
   clear hl
   refine .inr ⟨rfl,fun K' hK=>?_⟩
   have HK:=Lib.hid hK
   clear hK
   have f0:ww.cell? ⟨bk2,0,none⟩=some (.bool pn2.b):=hJ.em.es.cell 0 rfl 0 rfl
   have f1:ww.cell? ⟨bk2,1,none⟩=some (.slice pn2.a pn2.n pn2.c):=hJ.em.es.cell 0 rfl 1 rfl
   go_simp
   exact HK.out (.agg #[.bool pn2.b,.slice pn2.a pn2.n pn2.c]) _ (hJ.grow hLi (by simp) (by simp) (Below.refl _ _)) rfl vnL_same
  ·
   have x8:aa.tmps[8]?=some (.pointer (some ⟨bk1,0,none⟩)):=(hev 8 (by decide)).trans rfl
   clear hd hev hin
   simp only [zzA,zzB]
   clear hl
   refine .inr ⟨rfl,fun K' hK=>?_⟩
   have HK:=Lib.hid hK
   clear hK
   have f0:ww.cell? ⟨bk1,0,none⟩=some (.bool pn1.b):=hJ.em.es.cell 1 rfl 0 rfl
   have f1:ww.cell? ⟨bk1,1,none⟩=some (.slice pn1.a pn1.n pn1.c):=hJ.em.es.cell 1 rfl 1 rfl
   go_simp
   exact HK.out (.agg #[.bool pn1.b,.slice pn1.a pn1.n pn1.c]) _ (hJ.grow hLi (by simp) (by simp) (Below.refl _ _)) rfl vnL_same
  ·
   have x31:aa.tmps[31]?=some (.agg #[.bool pn2.b,.slice pn2.a pn2.n pn2.c]):=zzH (hin 3 31 rfl) (hd 3 (by decide) (by kernel_rfl)).2
   have x32:aa.tmps[32]?=some (.agg #[.bool pn1.b,.slice pn1.a pn1.n pn1.c]):=zzH (hin 4 32 rfl) (hd 4 (by decide) (by kernel_rfl)).2
   clear hd hev hin
   simp only [zzA,zzB]
   clear hl
   refine .inr ⟨rfl,fun K' hK=>?_⟩
   have HK:=Lib.hid hK
   clear hK
   go_simp
   refine (Hm.out pn2 pn1 ww Hz_pn2.out Hz_pn1.out (hJ.num pn2 (by simp)) (hJ.num pn1 (by simp))).mono ?_
   rintro zz W' ⟨py0,hzy0,rfl,ipy0,hB⟩
   exact HK.out (.agg #[.bool py0.b,.slice py0.a py0.n py0.c]) _ (hJ.grow hLi (by simp) (by simp) hB) ⟨py0,hzy0,rfl,ipy0⟩ (vnL_later hB)
  ·
   obtain ⟨q2,z2,e2,iq2⟩:=(show vnP (.num (b*a)) (uu 2) ww from (hd 2 (by decide) (by kernel_rfl)).2)
   have x30:aa.tmps[30]?=some (.agg #[.bool q2.b,.slice q2.a q2.n q2.c]):=(hin 2 30 rfl).trans (congrArg some e2)
   obtain ⟨q5,z5,e5,iq5⟩:=(show vnP (.num (b*a)) (uu 5) ww from (hd 5 (by decide) (by kernel_rfl)).2)
   have x33:aa.tmps[33]?=some (.agg #[.bool q5.b,.slice q5.a q5.n q5.c]):=(hin 5 33 rfl).trans (congrArg some e5)
   clear hd hev hin
   simp only [zzA,zzB]
   clear hl
   refine .inr ⟨rfl,fun K' hK=>?_⟩
   have HK:=Lib.hid hK
   clear hK
   go_simp
   refine (Hp.out q2 q5 ww z2 z5 iq2 iq5).mono ?_
   rintro zz W' ⟨py0,hzy0,rfl,ipy0,hB⟩
   exact HK.out (.agg #[.bool py0.b,.slice py0.a py0.n py0.c]) _ (hJ.grow hLi (by simp) (by simp) hB) ⟨py0,hzy0,rfl,ipy0⟩ (vnL_later hB)
  ·
   have x9:aa.tmps[9]?=some (.pointer (some ⟨bk2,0,none⟩)):=(hev 9 (by decide)).trans rfl
   clear hd hev hin
   simp only [zzA,zzB]
   clear hl
   refine .inr ⟨rfl,fun K' hK=>?_⟩
   have HK:=Lib.hid hK
   clear hK
   have f0:ww.cell? ⟨bk2,0,none⟩=some (.bool pn2.b):=hJ.em.es.cell 0 rfl 0 rfl
   have f1:ww.cell? ⟨bk2,1,none⟩=some (.slice pn2.a pn2.n pn2.c):=hJ.em.es.cell 0 rfl 1 rfl
   go_simp
   exact HK.out (.agg #[.bool pn2.b,.slice pn2.a pn2.n pn2.c]) _ (hJ.grow hLi (by simp) (by simp) (Below.refl _ _)) rfl vnL_same
  ·
   have x9:aa.tmps[9]?=some (.pointer (some ⟨bk2,0,none⟩)):=(hev 9 (by decide)).trans rfl
   clear hd hev hin
   simp only [zzA,zzB]
   clear hl
   refine .inr ⟨rfl,fun K' hK=>?_⟩
   have HK:=Lib.hid hK
   clear hK
   have f0:ww.cell? ⟨bk2,0,none⟩=some (.bool pn2.b):=hJ.em.es.cell 0 rfl 0 rfl
   have f1:ww.cell? ⟨bk2,1,none⟩=some (.slice pn2.a pn2.n pn2.c):=hJ.em.es.cell 0 rfl 1 rfl
   go_simp
   exact HK.out (.agg #[.bool pn2.b,.slice pn2.a pn2.n pn2.c]) _ (hJ.grow hLi (by simp) (by simp) (Below.refl _ _)) rfl vnL_same
  ·
   have x35:aa.tmps[35]?=some (.agg #[.bool pn2.b,.slice pn2.a pn2.n pn2.c]):=zzH (hin 7 35 rfl) (hd 7 (by decide) (by kernel_rfl)).2
   have x36:aa.tmps[36]?=some (.agg #[.bool pn2.b,.slice pn2.a pn2.n pn2.c]):=zzH (hin 8 36 rfl) (hd 8 (by decide) (by kernel_rfl)).2
   clear hd hev hin
   simp only [zzA,zzB]
   clear hl
   refine .inr ⟨rfl,fun K' hK=>?_⟩
   have HK:=Lib.hid hK
   clear hK
   go_simp
   refine (Hk.out pn2 pn2 ww Hz_pn2.out Hz_pn2.out (hJ.num pn2 (by simp)) (hJ.num pn2 (by simp))).mono ?_
   rintro zz W' ⟨py0,hzy0,rfl,ipy0,hB⟩
   exact HK.out (.agg #[.bool py0.b,.slice py0.a py0.n py0.c]) _ (hJ.grow hLi (by simp) (by simp) hB) ⟨py0,hzy0,rfl,ipy0⟩ (vnL_later hB)
  ·
   obtain ⟨q6,z6,e6,iq6⟩:=(show vnP (.num (b*a+b*a)) (uu 6) ww from (hd 6 (by decide) (by kernel_rfl)).2)
   have x34:aa.tmps[34]?=some (.agg #[.bool q6.b,.slice q6.a q6.n q6.c]):=(hin 6 34 rfl).trans (congrArg some e6)
   obtain ⟨q9,z9,e9,iq9⟩:=(show vnP (.num (b*b)) (uu 9) ww from (hd 9 (by decide) (by kernel_rfl)).2)
   have x37:aa.tmps[37]?=some (.agg #[.bool q9.b,.slice q9.a q9.n q9.c]):=(hin 9 37 rfl).trans (congrArg some e9)
   clear hd hev hin
   simp only [zzA,zzB]
   clear hl
   refine .inr ⟨rfl,fun K' hK=>?_⟩
   have HK:=Lib.hid hK
   clear hK
   go_simp
   refine (Hs.out q6 q9 ww z6 z9 iq6 iq9).mono ?_
   rintro zz W' ⟨py0,hzy0,rfl,ipy0,hB⟩
   exact HK.out (.agg #[.bool py0.b,.slice py0.a py0.n py0.c]) _ (hJ.grow hLi (by simp) (by simp) hB) ⟨py0,hzy0,rfl,ipy0⟩ (vnL_later hB)
  ·
   obtain ⟨q10,z10,e10,iq10⟩:=(show vnP (.num (b*a+b*a - b*b)) (uu 10) ww from (hd 10 (by decide) (by kernel_rfl)).2)
   have x38:aa.tmps[38]?=some (.agg #[.bool q10.b,.slice q10.a q10.n q10.c]):=(hin 10 38 rfl).trans (congrArg some e10)
   clear hd hev hin
   simp only [zzA,zzB]
   clear hl
   refine .inr ⟨rfl,fun K' hK=>?_⟩
   have HK:=Lib.hid hK
   clear hK
   go_simp
   refine (Ht.out q10 ww z10 iq10).mono ?_
   rintro zz W' ⟨rfl,hB⟩
   exact HK.out (.string T) _ (hJ.grow hLi (by simp) (by simp) hB) rfl (vnL_later hB)
  ·
   have x39:aa.tmps[39]?=some (.string T):=zzH (hin 11 39 rfl) (hd 11 (by decide) (by kernel_rfl)).2
   clear hd hev hin
   simp only [zzA,zzB]
   clear hl
   refine .inr ⟨rfl,fun K' hK=>?_⟩
   have HK:=Lib.hid hK
   clear hK
   go_simp
   exact HK.out (.string T) _ (hJ.grow hLi (by simp) (by simp) (Below.refl _ _)) rfl vnL_same
 clear hM
 intro LL uu W8 hLL hJm hd
 have e_0:uu 0=.agg #[.bool pn2.b,.slice pn2.a pn2.n pn2.c]:=hd 0 (by decide)
 have e_1:uu 1=.agg #[.bool pn1.b,.slice pn1.a pn1.n pn1.c]:=hd 1 (by decide)
 obtain ⟨pn3,hz_pn3,e_2,hi_pn3⟩:=(show vnP (.num (b*a)) (uu 2) W8 from hd 2 (by decide))
 have Hz_pn3:=Lib.hid hz_pn3
 clear hz_pn3
 have e_3:uu 3=.agg #[.bool pn2.b,.slice pn2.a pn2.n pn2.c]:=hd 3 (by decide)
 have e_4:uu 4=.agg #[.bool pn1.b,.slice pn1.a pn1.n pn1.c]:=hd 4 (by decide)
 obtain ⟨pn4,hz_pn4,e_5,hi_pn4⟩:=(show vnP (.num (b*a)) (uu 5) W8 from hd 5 (by decide))
 have Hz_pn4:=Lib.hid hz_pn4
 clear hz_pn4
 obtain ⟨pn5,hz_pn5,e_6,hi_pn5⟩:=(show vnP (.num (b*a+b*a)) (uu 6) W8 from hd 6 (by decide))
 have Hz_pn5:=Lib.hid hz_pn5
 clear hz_pn5
 have e_7:uu 7=.agg #[.bool pn2.b,.slice pn2.a pn2.n pn2.c]:=hd 7 (by decide)
 have e_8:uu 8=.agg #[.bool pn2.b,.slice pn2.a pn2.n pn2.c]:=hd 8 (by decide)
 obtain ⟨pn6,hz_pn6,e_9,hi_pn6⟩:=(show vnP (.num (b*b)) (uu 9) W8 from hd 9 (by decide))
 have Hz_pn6:=Lib.hid hz_pn6
 clear hz_pn6
 obtain ⟨pn7,hz_pn7,e_10,hi_pn7⟩:=(show vnP (.num (b*a+b*a - b*b)) (uu 10) W8 from hd 10 (by decide))
 have Hz_pn7:=Lib.hid hz_pn7
 clear hz_pn7
 have e_11:uu 11=.string T:=hd 11 (by decide)
 have e_12:uu 12=.string T:=hd 12 (by decide)
 clear hd hLL
 simp only [layS,Act.put,zzC,zzD,zzE,Nat.zero_add,Nat.reduceAdd,List.drop_succ_cons,List.drop_zero,List.drop_nil,e_0,e_1,e_2,e_3,e_4,e_5,e_6,e_7,e_8,e_9,e_10,e_11,e_12]
 have hJ8:=((((((⟨hJm.em.es,hJm.num⟩:En w W8 [(bk2,#[.bool pn2.b,.slice pn2.a pn2.n pn2.c],51),(bk1,#[.bool pn1.b,.slice pn1.a pn1.n pn1.c],51)] [pn2,pn1])).more hi_pn3).more hi_pn4).more hi_pn5).more hi_pn6).more hi_pn7
 clear hJm e_0 e_1 e_2 e_3 e_4 e_5 e_6 e_7 e_8 e_9 e_10 e_11 e_12 hi_pn3 hi_pn4 hi_pn5 hi_pn6 hi_pn7
 go_wp2
 go_ret
 exact ⟨rfl,hJ8.below⟩
theorem nat_lt {x:Int} (h0:-18446744073709551616≤x) (h1:x≤18446744073709551616):x.natAbs < 10 ^ 20:=by
 have e:(10:Nat) ^ 20=100000000000000000000:=by decide
 rw [e]; omega
theorem nStr {z:Int} (h0:-18446744073709551616≤z) (h1:z≤18446744073709551616) (p:NR) (W:World) (hz:p.z=z) (h:p.is W):Calls Tryd.prog 24 #[.agg #[.bool p.b,.slice p.a p.n p.c]] W (PVal (.string ⟨(dcT z).toArray⟩) W) :=
 (rString_all p.b p.a p.n p.c p.z W h (Nat.le_trans (NR.len h (nat_lt (by omega) (by omega))) (by decide))).mono fun _ _ ⟨l,e,g,hB⟩=>⟨by rw [e,dcT_eq g,hz],hB⟩
theorem nMulA {x y:Int} (x0:-4294967296≤x) (x1:x≤4294967296) (y0:-4294967296≤y) (y1:y≤4294967296) (p r:NR) (W:World) (hx:p.z=x) (hy:r.z=y) (h:p.is W) (g:r.is W):Calls Tryd.prog 23 #[.agg #[.bool p.b,.slice p.a p.n p.c],.agg #[.bool r.b,.slice r.a r.n r.c]] W (PN (x*y) W) :=
 (rMul_any p.b p.a p.n p.c p.z r.b r.a r.n r.c r.z W h g (Nat.le_trans (NR.len h (nat_lt (by omega) (by omega))) (by decide)) (Nat.le_trans (NR.len g (nat_lt (by omega) (by omega))) (by decide))).mono fun _ _ ⟨b,a,n,c,e,q,_,hB⟩=>⟨⟨b,a,n,c,x*y⟩,rfl,e,by rw [hx,hy] at q; exact q,hB⟩
theorem nAddA {x y:Int} (x0:-18446744073709551616≤x) (x1:x≤18446744073709551616) (y0:-18446744073709551616≤y) (y1:y≤18446744073709551616) (p r:NR) (W:World) (hx:p.z=x) (hy:r.z=y) (h:p.is W) (g:r.is W):Calls Tryd.prog 25 #[.agg #[.bool p.b,.slice p.a p.n p.c],.agg #[.bool r.b,.slice r.a r.n r.c]] W (PN (x+y) W) :=
 (rAdd_any p.b p.a p.n p.c p.z r.b r.a r.n r.c r.z W h g (Nat.le_trans (NR.len h (nat_lt (by omega) (by omega))) (by decide)) (Nat.le_trans (NR.len g (nat_lt (by omega) (by omega))) (by decide))).mono fun _ _ ⟨b,a,n,c,e,q,_,hB⟩=>⟨⟨b,a,n,c,x+y⟩,rfl,e,by rw [hx,hy] at q; exact q,hB⟩
theorem nSubA {x y:Int} (x0:-18446744073709551616≤x) (x1:x≤18446744073709551616) (y0:-18446744073709551616≤y) (y1:y≤18446744073709551616) (p r:NR) (W:World) (hx:p.z=x) (hy:r.z=y) (h:p.is W) (g:r.is W):Calls Tryd.prog 26 #[.agg #[.bool p.b,.slice p.a p.n p.c],.agg #[.bool r.b,.slice r.a r.n r.c]] W (PN (x - y) W) :=
 (rSub_any p.b p.a p.n p.c p.z r.b r.a r.n r.c r.z W h g (Nat.le_trans (NR.len h (nat_lt (by omega) (by omega))) (by decide)) (Nat.le_trans (NR.len g (nat_lt (by omega) (by omega))) (by decide))).mono fun _ _ ⟨b,a,n,c,e,q,_,hB⟩=>⟨⟨b,a,n,c,x - y⟩,rfl,e,by rw [hx,hy] at q; exact q,hB⟩
theorem rrho_any (r k:Int) (w:World):Calls Tryd.prog 11 #[.int .i64 r,.int .i64 k] w (PVal (.string ⟨(dcT (rho r k)).toArray⟩) w):=by
 have ha:=aC_bd r
 have hk:=kC_bd k
 have m1:=mul_up ha.1 ha.1 ha.2 ha.2
 have m2:=mul_up hk.1 ha.1 hk.2 ha.2
 have m3:=mul_up hk.1 hk.1 hk.2 hk.2
 by_cases h:aC r≤kC k
 ·
  have e:rho r k=aC r*aC r:=if_pos h
  rw [e]
  exact rrho_in r k _ _ _ _ (rcut_any r k) (nOf _ (by omega) (by omega)) (nMulA (by omega) (by omega) (by omega) (by omega)) (nStr (by omega) (by omega)) (decide_eq_true h) w
 ·
  have e:rho r k=kC k*aC r+kC k*aC r - kC k*kC k:=by
   rw [show rho r k=2*kC k*aC r - kC k*kC k from if_neg h]
   grind
  rw [e]
  exact rrho_out r k _ _ _ _ (rcut_any r k) (nOf _ (by omega) (by omega)) (nOf _ (by omega) (by omega)) (nMulA (by omega) (by omega) (by omega) (by omega)) (nAddA (by omega) (by omega) (by omega) (by omega)) (nMulA (by omega) (by omega) (by omega) (by omega)) (nSubA (by omega) (by omega) (by omega) (by omega)) (nStr (by omega) (by omega)) (decide_eq_false h) w
theorem rho_big (r k:Int):0≤rho r k∧rho r k≤4611686014132420609:=by
 have ha:=aC_bd r
 exact ⟨rhA_nonneg ha.1 (kC_bd k).1,Int.le_trans (rhA_sq ha.1 (kC_bd k).1) (mul_up ha.1 ha.1 ha.2 ha.2).2⟩
theorem rho_lo (r k:Int):Hid (-9223372036854775808≤rho r k):=by have:=rho_big r k; exact Lib.hid (by omega)
theorem rho_hi (r k:Int):Hid (rho r k≤9223372036854775807):=by have:=rho_big r k; exact Lib.hid (by omega)
theorem rho_two (r k:Int):Hid ((rho r k).natAbs < BB ^ 2):=by
 have:=rho_big r k
 have e:BB ^ 2=18446744073709551616:=by decide
 exact Lib.hid (by rw [e]; omega)
set_option maxRecDepth 100000 in
set_option maxHeartbeats 12800000 in
theorem HuberTells_any (r k:Int)  (w:World)  :Calls Tryd.prog 3 #[.int .i64 r,.int .i64 k] w (PVal (.bool true) w):=by
 have hJ0:=es_nil w
 go_enter Tryd.func3,Tryd.ntmps3
 go_wp2_with fail
 refine (hawake_any w).mono ?_
 rintro zz W1 ⟨rfl,hB⟩
 have hJ1:=hJ0.later hB
 clear hB hJ0
 go_wp2_with fail
 refine (rho_any r k _).mono ?_
 rintro zz Wa ⟨rfl,hB⟩
 have hJa:=hJ1.later hB
 clear hB hJ1
 go_wp2_with fail
 refine (Of_any _ _ (rho_lo r k).out (rho_hi r k).out).mono ?_
 rintro zz Wb ⟨bl,al,nl,cl,rfl,hN,_,hB⟩
 have hJb:=hJa.later hB
 clear hB hJa
 go_wp2_with fail
 refine (String_all bl al nl cl _ _ hN (num_len' hN (k:=2) (rho_two r k).out (by decide))).mono ?_
 rintro zz Wc ⟨tx,rfl,hl,hB⟩
 have hJc:=hJb.later hB
 clear hB hJb hN
 obtain rfl:=dcT_eq hl
 clear hl
 go_wp2_with fail
 refine (slope_any r k Wc).mono ?_
 rintro zz W2 ⟨rfl,hB⟩
 have hJ2:=hJc.later hB
 clear hB hJc
 go_wp2_with fail
 refine (weight_any r k W2).mono ?_
 rintro zz W3 ⟨rfl,hB⟩
 have hJ3:=hJ2.later hB
 clear hB hJ2
 go_wp2_with fail
 refine (rweight_any r k W3).mono ?_
 rintro zz W4 ⟨rfl,hB⟩
 have hJ4:=hJ3.later hB
 clear hB hJ3
 go_wp2_with fail
 refine (rrho_any r k W4).mono ?_
 rintro zz W5 ⟨rfl,hB⟩
 have hJ5:=hJ4.later hB
 clear hB hJ4
 go_wp2_with fail
 refine (rslope_any r k W5).mono ?_
 rintro zz W6 ⟨rfl,hB⟩
 have hJ6:=hJ5.later hB
 clear hB hJ5
 go_wp2
 go_ret
 exact ⟨rfl,hJ6.below⟩
end Go.Proofs.YtncbajehmdnibaaDoor
