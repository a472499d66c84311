/- Parts of the proof. -/
import Derived.Test.YtncbajehmdnibaaHp15
set_option linter.unusedSimpArgs false
set_option linter.unusedVariables false
/- The walk of the law HuberAbove. -/
namespace Go.Proofs.Ytncbajehmdnibaa
open Go Go.RowKit
set_option maxRecDepth 100000 in
set_option maxHeartbeats 12800000 in
theorem hab_w (r c k n d:Int) (hBr90:∀ W:World,Calls Try.prog 9 #[.int .i64 r,.int .i64 c,.int .i64 k] W (PVal (.tuple #[.int .i64 n,.int .i64 d,.int .i64 90]) W)) (w:World)   :Calls Try.prog 4 #[.int .i64 r,.int .i64 c,.int .i64 k] w (PVal (.bool true) w):=by
 have Br90:=Lib.hid hBr90
 clear hBr90
 have hJ0:=es_nil w
 go_enter Try.func4,Try.ntmps4
 go_wp2_with fail
 refine (hawake_any w).mono ?_
 rintro zz W1 ⟨rfl,hB⟩
 have hJ1:=hJ0.later hB
 clear hB hJ0
 go_wp2_with fail
 refine (Br90.out _).mono ?_
 rintro zz W2 ⟨rfl,hB⟩
 have hJ2:=hJ1.later hB
 clear hB hJ1
 go_wp2
 go_ret
 exact ⟨rfl,hJ2.below⟩
set_option maxRecDepth 100000 in
set_option maxHeartbeats 12800000 in
theorem hab_i (r c k n d m f u v p q s:Int) (hBr0:∀ W:World,Calls Try.prog 9 #[.int .i64 r,.int .i64 c,.int .i64 k] W (PVal (.tuple #[.int .i64 n,.int .i64 d,.int .i64 0]) W)) (hBq:∀ W:World,Calls Try.prog 9 #[.int .i64 c,.int .i64 c,.int .i64 k] W (PVal (.tuple #[.int .i64 m,.int .i64 f,.int .i64 0]) W)) (hRu:∀ W:World,Calls Try.prog 11 #[.int .i64 r,.int .i64 k] W (PVal (.int .i64 u) W)) (hRv:∀ W:World,Calls Try.prog 11 #[.int .i64 c,.int .i64 k] W (PVal (.int .i64 v) W)) (hWt:∀ W:World,Calls Try.prog 12 #[.int .i64 c,.int .i64 k] W (PVal (.tuple #[.int .i64 p,.int .i64 q]) W)) (hSl:∀ W:World,Calls Try.prog 13 #[.int .i64 c,.int .i64 k] W (PVal (.int .i64 s) W)) (w:World) (d0:decide (0 < d)=true) (d1:decide (u*d≤n)=true) (d2:(m == v*f)=true) (d3:(p*c == s*q)=true)  (hQ0:-9223372036854775808≤u*d∧u*d≤9223372036854775807) (hQ1:-9223372036854775808≤v*f∧v*f≤9223372036854775807) (hQ2:-9223372036854775808≤p*c∧p*c≤9223372036854775807) (hQ3:-9223372036854775808≤s*q∧s*q≤9223372036854775807):Calls Try.prog 4 #[.int .i64 r,.int .i64 c,.int .i64 k] w (PVal (.bool true) w):=by
 have Br0:=Lib.hid hBr0
 have Bq:=Lib.hid hBq
 have Ru:=Lib.hid hRu
 have Rv:=Lib.hid hRv
 have Wt:=Lib.hid hWt
 have Sl:=Lib.hid hSl
 clear hBr0 hBq hRu hRv hWt hSl
 have Q0:=Lib.hid hQ0
 have Q1:=Lib.hid hQ1
 have Q2:=Lib.hid hQ2
 have Q3:=Lib.hid hQ3
 clear hQ0 hQ1 hQ2 hQ3
 have hJ0:=es_nil w
 go_enter Try.func4,Try.ntmps4
 go_wp2_with fail
 refine (hawake_any w).mono ?_
 rintro zz W1 ⟨rfl,hB⟩
 have hJ1:=hJ0.later hB
 clear hB hJ0
 go_wp2_with fail
 refine (Br0.out _).mono ?_
 rintro zz W2 ⟨rfl,hB⟩
 have hJ2:=hJ1.later hB
 clear hB hJ1
 go_wp2_with fail
 refine (Bq.out _).mono ?_
 rintro zz W3 ⟨rfl,hB⟩
 have hJ3:=hJ2.later hB
 clear hB hJ2
 go_wp2_with fail
 refine (Ru.out _).mono ?_
 rintro zz W4 ⟨rfl,hB⟩
 have hJ4:=hJ3.later hB
 clear hB hJ3
 go_wp2_with fail
 refine (Rv.out _).mono ?_
 rintro zz W5 ⟨rfl,hB⟩
 have hJ5:=hJ4.later hB
 clear hB hJ4
 go_wp2_with fail
 refine (Wt.out _).mono ?_
 rintro zz W6 ⟨rfl,hB⟩
 have hJ6:=hJ5.later hB
 clear hB hJ5
 go_wp2_with fail
 refine (Sl.out _).mono ?_
 rintro zz W7 ⟨rfl,hB⟩
 have hJ7:=hJ6.later hB
 clear hB hJ6
 have qQ0:=Q0.out
 have qQ1:=Q1.out
 have qQ2:=Q2.out
 have qQ3:=Q3.out
 go_wp2
 go_ret
 exact ⟨rfl,hJ7.below⟩
theorem abs_sq (c:Int):(if c < 0 then -c else c)*(if c < 0 then -c else c)=c*c:=by
 split
 ·
  exact Int.neg_mul_neg c c
 ·
  rfl
/-- A parabola's numerator goes by the square of what has no sign. -/
theorem par_sq (n r l:Int):n*r*r+l=n*((if r < 0 then -r else r)*(if r < 0 then -r else r))+l:=by rw [abs_sq,Int.mul_assoc]
theorem above {r c k:Int} (hr:-32768≤r∧r≤32768) (hc:-32768≤c∧c≤32768) (h0:0≤k) (h1:k≤32768) :
  (0 < wD c k∧wD c k≤32768)∧rho r k*wD c k≤wN c k*r*r+lft c k∧wN c k*c*c+lft c k=rho c k*wD c k∧wN c k*c=slp c k*wD c k∧(0≤rho r k∧rho r k≤1073741824)∧(0≤rho c k∧rho c k≤1073741824)∧(0≤wN c k∧wN c k≤32768):=by
 have er:=aC_in hr
 have ec:=aC_in hc
 have ek:=kC_in h0 h1
 have br:0≤rho r k∧rho r k≤1073741824:=by
  refine ⟨rhA_nonneg er.2.1 (kC_bd k).1,Int.le_trans (rhA_sq er.2.1 (kC_bd k).1) ?_⟩
  rw [er.1,abs_sq]
  exact (sq_near hr).2
 have bc:0≤rho c k∧rho c k≤1073741824:=by
  refine ⟨rhA_nonneg ec.2.1 (kC_bd k).1,Int.le_trans (rhA_sq ec.2.1 (kC_bd k).1) ?_⟩
  rw [ec.1,abs_sq]
  exact (sq_near hc).2
 rw [par_sq,par_sq,← er.1,← ec.1]
 unfold wN wD lft slp slA
 by_cases h:aC c≤kC k
 ·
  rw [if_pos h,if_pos h,if_pos h,if_pos h]
  refine ⟨by omega,?_,?_,?_,br,bc,by omega⟩
  ·
   have:=bound_in (a:=aC r) (k:=kC k) er.2.1 (kC_bd k).1
   rw [Int.one_mul,Int.add_zero]
   exact this
  ·
   rw [show rho c k=aC c*aC c from if_pos h]
   omega
  ·
   rw [ec.1]
   by_cases hs:c < 0
   ·
    rw [if_pos hs,if_pos hs]; omega
   ·
    rw [if_neg hs,if_neg hs]; omega
 ·
  rw [if_neg h,if_neg h,if_neg h,if_neg h]
  refine ⟨by omega,bound_out er.2.1 (kC_bd k).1 (by omega),bound_at (by omega),?_,br,bc,by omega⟩
  rw [ec.1]
  by_cases hs:c < 0
  ·
   rw [if_pos hs,if_pos hs,Int.neg_mul_neg]
  ·
   rw [if_neg hs,if_neg hs]
theorem HuberAbove_any (r c k:Int) (w:World):Calls Try.prog 4 #[.int .i64 r,.int .i64 c,.int .i64 k] w (PVal (.bool true) w):=by
 have hb:=hbound_any r c k
 have hm:=hbound_any c c k
 by_cases hw:wideB r c k=true
 ·
  rw [show bE r c k=90 from if_pos hw] at hb
  exact hab_w r c k _ _ hb w
 ·
  have hall:(-32768≤r∧r≤32768)∧(-32768≤c∧c≤32768)∧0≤k∧k≤32768:=by
   unfold wideB nearB at hw
   simp at hw
   omega
  obtain ⟨r1,c1,k1,k2⟩:=hall
  have hw2:¬ wideB c c k=true:=by
   unfold wideB nearB
   simp
   omega
  rw [show bN r c k=wN c k*r*r+lft c k from if_neg hw,show bD r c k=wD c k from if_neg hw,show bE r c k=0 from if_neg hw] at hb
  rw [show bN c c k=wN c k*c*c+lft c k from if_neg hw2,show bD c c k=wD c k from if_neg hw2,show bE c c k=0 from if_neg hw2] at hm
  obtain ⟨h1,h2,h3,h4,h5,h6,h7⟩:=above r1 c1 k1 k2
  have hn:=nrr h7 r1
  have hn2:=nrr h7 c1
  have hu:=mul_up h5.1 (show 0≤wD c k by omega) h5.2 h1.2
  have hv:=mul_up h6.1 (show 0≤wD c k by omega) h6.2 h1.2
  exact hab_i r c k _ _ _ _ _ _ _ _ _ hb hm (rho_any r k) (rho_any c k) (weight_any c k) (slope_any c k) w (decide_eq_true h1.1) (decide_eq_true h2) (beq_iff_eq.2 h3) (beq_iff_eq.2 h4) (by omega) (by omega) (by omega) (by rw [← h4]; omega)
set_option maxRecDepth 100000 in
set_option maxHeartbeats 12800000 in
theorem hgr_o0 (r s k l:Int)  (w:World) (d0:decide (r < 0)=true)  :Calls Try.prog 5 #[.int .i64 r,.int .i64 s,.int .i64 k,.int .i64 l] w (PVal (.bool true) w):=by
 have hJ0:=es_nil w
 go_enter Try.func5,Try.ntmps5
 go_wp2_with fail
 refine (hawake_any w).mono ?_
 rintro zz W1 ⟨rfl,hB⟩
 have hJ1:=hJ0.later hB
 clear hB hJ0
 go_wp2
 go_ret
 exact ⟨rfl,hJ1.below⟩
set_option maxRecDepth 100000 in
set_option maxHeartbeats 12800000 in
theorem hgr_o1 (r s k l:Int)  (w:World) (d0:decide (r < 0)=false) (d1:decide (s < r)=true)  :Calls Try.prog 5 #[.int .i64 r,.int .i64 s,.int .i64 k,.int .i64 l] w (PVal (.bool true) w):=by
 have hJ0:=es_nil w
 go_enter Try.func5,Try.ntmps5
 go_wp2_with fail
 refine (hawake_any w).mono ?_
 rintro zz W1 ⟨rfl,hB⟩
 have hJ1:=hJ0.later hB
 clear hB hJ0
 go_wp2
 go_ret
 exact ⟨rfl,hJ1.below⟩
set_option maxRecDepth 100000 in
set_option maxHeartbeats 12800000 in
theorem hgr_o2 (r s k l:Int)  (w:World) (d0:decide (r < 0)=false) (d1:decide (s < r)=false) (d2:decide (2147483647 < s)=true)  :Calls Try.prog 5 #[.int .i64 r,.int .i64 s,.int .i64 k,.int .i64 l] w (PVal (.bool true) w):=by
 have hJ0:=es_nil w
 go_enter Try.func5,Try.ntmps5
 go_wp2_with fail
 refine (hawake_any w).mono ?_
 rintro zz W1 ⟨rfl,hB⟩
 have hJ1:=hJ0.later hB
 clear hB hJ0
 go_wp2
 go_ret
 exact ⟨rfl,hJ1.below⟩
set_option maxRecDepth 100000 in
set_option maxHeartbeats 12800000 in
theorem hgr_o3 (r s k l:Int)  (w:World) (d0:decide (r < 0)=false) (d1:decide (s < r)=false) (d2:decide (2147483647 < s)=false) (d3:decide (k < 0)=true)  :Calls Try.prog 5 #[.int .i64 r,.int .i64 s,.int .i64 k,.int .i64 l] w (PVal (.bool true) w):=by
 have hJ0:=es_nil w
 go_enter Try.func5,Try.ntmps5
 go_wp2_with fail
 refine (hawake_any w).mono ?_
 rintro zz W1 ⟨rfl,hB⟩
 have hJ1:=hJ0.later hB
 clear hB hJ0
 go_wp2
 go_ret
 exact ⟨rfl,hJ1.below⟩
set_option maxRecDepth 100000 in
set_option maxHeartbeats 12800000 in
theorem hgr_o4 (r s k l:Int)  (w:World) (d0:decide (r < 0)=false) (d1:decide (s < r)=false) (d2:decide (2147483647 < s)=false) (d3:decide (k < 0)=false) (d4:decide (l < k)=true)  :Calls Try.prog 5 #[.int .i64 r,.int .i64 s,.int .i64 k,.int .i64 l] w (PVal (.bool true) w):=by
 have hJ0:=es_nil w
 go_enter Try.func5,Try.ntmps5
 go_wp2_with fail
 refine (hawake_any w).mono ?_
 rintro zz W1 ⟨rfl,hB⟩
 have hJ1:=hJ0.later hB
 clear hB hJ0
 go_wp2
 go_ret
 exact ⟨rfl,hJ1.below⟩
set_option maxRecDepth 100000 in
set_option maxHeartbeats 12800000 in
theorem hgr_o5 (r s k l:Int)  (w:World) (d0:decide (r < 0)=false) (d1:decide (s < r)=false) (d2:decide (2147483647 < s)=false) (d3:decide (k < 0)=false) (d4:decide (l < k)=false) (d5:decide (2147483647 < l)=true)  :Calls Try.prog 5 #[.int .i64 r,.int .i64 s,.int .i64 k,.int .i64 l] w (PVal (.bool true) w):=by
 have hJ0:=es_nil w
 go_enter Try.func5,Try.ntmps5
 go_wp2_with fail
 refine (hawake_any w).mono ?_
 rintro zz W1 ⟨rfl,hB⟩
 have hJ1:=hJ0.later hB
 clear hB hJ0
 go_wp2
 go_ret
 exact ⟨rfl,hJ1.below⟩
set_option maxRecDepth 100000 in
set_option maxHeartbeats 12800000 in
theorem hgr_i (r s k l a c e p q:Int) (hHa:∀ W:World,Calls Try.prog 11 #[.int .i64 r,.int .i64 k] W (PVal (.int .i64 a) W)) (hHb:∀ W:World,Calls Try.prog 11 #[.int .i64 (-r),.int .i64 k] W (PVal (.int .i64 a) W)) (hHc:∀ W:World,Calls Try.prog 11 #[.int .i64 s,.int .i64 k] W (PVal (.int .i64 c) W)) (hHx:∀ W:World,Calls Try.prog 11 #[.int .i64 r,.int .i64 l] W (PVal (.int .i64 e) W)) (hHp:∀ W:World,Calls Try.prog 13 #[.int .i64 r,.int .i64 k] W (PVal (.int .i64 p) W)) (hHq:∀ W:World,Calls Try.prog 13 #[.int .i64 s,.int .i64 k] W (PVal (.int .i64 q) W)) (w:World) (d0:decide (r < 0)=false) (d1:decide (s < r)=false) (d2:decide (2147483647 < s)=false) (d3:decide (k < 0)=false) (d4:decide (l < k)=false) (d5:decide (2147483647 < l)=false) (d6:decide (0≤a)=true) (d7:decide (a≤r*r)=true) (d8:decide (a≤c)=true) (d9:decide (a≤e)=true) (d10:decide (p≤q)=true) (d11:decide (0≤p)=true) (r0:0≤r) (r1:r≤2147483647) (hQ0:-9223372036854775808≤r*r∧r*r≤9223372036854775807):Calls Try.prog 5 #[.int .i64 r,.int .i64 s,.int .i64 k,.int .i64 l] w (PVal (.bool true) w):=by
 have Ha:=Lib.hid hHa
 have Hb:=Lib.hid hHb
 have Hc:=Lib.hid hHc
 have Hx:=Lib.hid hHx
 have Hp:=Lib.hid hHp
 have Hq:=Lib.hid hHq
 clear hHa hHb hHc hHx hHp hHq
 have Q0:=Lib.hid hQ0
 clear hQ0
 have hJ0:=es_nil w
 go_enter Try.func5,Try.ntmps5
 go_wp2_with fail
 refine (hawake_any w).mono ?_
 rintro zz W1 ⟨rfl,hB⟩
 have hJ1:=hJ0.later hB
 clear hB hJ0
 go_wp2_with fail
 refine (Ha.out _).mono ?_
 rintro zz W2 ⟨rfl,hB⟩
 have hJ2:=hJ1.later hB
 clear hB hJ1
 go_wp2_with fail
 refine (Hb.out _).mono ?_
 rintro zz W3 ⟨rfl,hB⟩
 have hJ3:=hJ2.later hB
 clear hB hJ2
 go_wp2_with fail
 refine (Hc.out _).mono ?_
 rintro zz W4 ⟨rfl,hB⟩
 have hJ4:=hJ3.later hB
 clear hB hJ3
 go_wp2_with fail
 refine (Hx.out _).mono ?_
 rintro zz W5 ⟨rfl,hB⟩
 have hJ5:=hJ4.later hB
 clear hB hJ4
 go_wp2_with fail
 refine (Hp.out _).mono ?_
 rintro zz W6 ⟨rfl,hB⟩
 have hJ6:=hJ5.later hB
 clear hB hJ5
 go_wp2_with fail
 refine (Hq.out _).mono ?_
 rintro zz W7 ⟨rfl,hB⟩
 have hJ7:=hJ6.later hB
 clear hB hJ6
 have qQ0:=Q0.out
 go_wp2
 go_ret
 exact ⟨rfl,hJ7.below⟩
theorem HuberGrows_any (r s k l:Int) (w:World):Calls Try.prog 5 #[.int .i64 r,.int .i64 s,.int .i64 k,.int .i64 l] w (PVal (.bool true) w):=by
 by_cases h0:r < 0
 ·
  exact hgr_o0 r s k l w  (decide_eq_true h0)
 by_cases h1:s < r
 ·
  exact hgr_o1 r s k l w (decide_eq_false h0) (decide_eq_true h1)
 by_cases h2:2147483647 < s
 ·
  exact hgr_o2 r s k l w (decide_eq_false h0) (decide_eq_false h1) (decide_eq_true h2)
 by_cases h3:k < 0
 ·
  exact hgr_o3 r s k l w (decide_eq_false h0) (decide_eq_false h1) (decide_eq_false h2) (decide_eq_true h3)
 by_cases h4:l < k
 ·
  exact hgr_o4 r s k l w (decide_eq_false h0) (decide_eq_false h1) (decide_eq_false h2) (decide_eq_false h3) (decide_eq_true h4)
 by_cases h5:2147483647 < l
 ·
  exact hgr_o5 r s k l w (decide_eq_false h0) (decide_eq_false h1) (decide_eq_false h2) (decide_eq_false h3) (decide_eq_false h4) (decide_eq_true h5)
 have er:aC r=r:=by unfold aC cC; omega
 have en:aC (-r)=r:=by unfold aC cC; omega
 have es:aC s=s:=by unfold aC cC; omega
 have ek:kC k=k:=by unfold kC; omega
 have el:kC l=l:=by unfold kC; omega
 have ha:=rho_any r k
 have hb:=rho_any (-r) k
 have hc:=rho_any s k
 have hd:=rho_any r l
 have hp:=slope_any r k
 have hq:=slope_any s k
 unfold rho at ha hb hc hd
 unfold slp at hp hq
 rw [er,ek] at ha hp
 rw [en,ek] at hb
 rw [es,ek] at hc hq
 rw [er,el] at hd
 rw [if_neg (show ¬ r < 0 by omega)] at hp
 rw [if_neg (show ¬ s < 0 by omega)] at hq
 have hs:=mul_up (show 0≤r by omega) (show 0≤r by omega) (show r≤2147483647 by omega) (show r≤2147483647 by omega)
 exact hgr_i r s k l _ _ _ _ _ ha hb hc hd hp hq w (decide_eq_false h0) (decide_eq_false h1) (decide_eq_false h2) (decide_eq_false h3) (decide_eq_false h4) (decide_eq_false h5) (decide_eq_true (rhA_nonneg (by omega) (by omega))) (decide_eq_true (rhA_sq (by omega) (by omega))) (decide_eq_true (rhA_grows (by omega) (by omega) (by omega))) (decide_eq_true (rhA_knee (by omega) (by omega) (by omega))) (decide_eq_true (slA_grows (by omega))) (decide_eq_true (slA_nonneg (by omega) (by omega))) (by omega) (by omega) (by omega)
set_option maxRecDepth 100000 in
set_option maxHeartbeats 12800000 in
theorem hbe_o0 (r s k:Int)  (w:World) (d0:decide (r < -1000000)=true)  :Calls Try.prog 6 #[.int .i64 r,.int .i64 s,.int .i64 k] w (PVal (.bool true) w):=by
 have hJ0:=es_nil w
 go_enter Try.func6,Try.ntmps6
 go_wp2_with fail
 refine (hawake_any w).mono ?_
 rintro zz W1 ⟨rfl,hB⟩
 have hJ1:=hJ0.later hB
 clear hB hJ0
 go_wp2
 go_ret
 exact ⟨rfl,hJ1.below⟩
set_option maxRecDepth 100000 in
set_option maxHeartbeats 12800000 in
theorem hbe_o1 (r s k:Int)  (w:World) (d0:decide (r < -1000000)=false) (d1:decide (1000000 < r)=true)  :Calls Try.prog 6 #[.int .i64 r,.int .i64 s,.int .i64 k] w (PVal (.bool true) w):=by
 have hJ0:=es_nil w
 go_enter Try.func6,Try.ntmps6
 go_wp2_with fail
 refine (hawake_any w).mono ?_
 rintro zz W1 ⟨rfl,hB⟩
 have hJ1:=hJ0.later hB
 clear hB hJ0
 go_wp2
 go_ret
 exact ⟨rfl,hJ1.below⟩
set_option maxRecDepth 100000 in
set_option maxHeartbeats 12800000 in
theorem hbe_o2 (r s k:Int)  (w:World) (d0:decide (r < -1000000)=false) (d1:decide (1000000 < r)=false) (d2:decide (s < -1000000)=true)  :Calls Try.prog 6 #[.int .i64 r,.int .i64 s,.int .i64 k] w (PVal (.bool true) w):=by
 have hJ0:=es_nil w
 go_enter Try.func6,Try.ntmps6
 go_wp2_with fail
 refine (hawake_any w).mono ?_
 rintro zz W1 ⟨rfl,hB⟩
 have hJ1:=hJ0.later hB
 clear hB hJ0
 go_wp2
 go_ret
 exact ⟨rfl,hJ1.below⟩
set_option maxRecDepth 100000 in
set_option maxHeartbeats 12800000 in
theorem hbe_o3 (r s k:Int)  (w:World) (d0:decide (r < -1000000)=false) (d1:decide (1000000 < r)=false) (d2:decide (s < -1000000)=false) (d3:decide (1000000 < s)=true)  :Calls Try.prog 6 #[.int .i64 r,.int .i64 s,.int .i64 k] w (PVal (.bool true) w):=by
 have hJ0:=es_nil w
 go_enter Try.func6,Try.ntmps6
 go_wp2_with fail
 refine (hawake_any w).mono ?_
 rintro zz W1 ⟨rfl,hB⟩
 have hJ1:=hJ0.later hB
 clear hB hJ0
 go_wp2
 go_ret
 exact ⟨rfl,hJ1.below⟩
set_option maxRecDepth 100000 in
set_option maxHeartbeats 12800000 in
theorem hbe_o4 (r s k:Int)  (w:World) (d0:decide (r < -1000000)=false) (d1:decide (1000000 < r)=false) (d2:decide (s < -1000000)=false) (d3:decide (1000000 < s)=false) (d4:decide (k < 0)=true)  :Calls Try.prog 6 #[.int .i64 r,.int .i64 s,.int .i64 k] w (PVal (.bool true) w):=by
 have hJ0:=es_nil w
 go_enter Try.func6,Try.ntmps6
 go_wp2_with fail
 refine (hawake_any w).mono ?_
 rintro zz W1 ⟨rfl,hB⟩
 have hJ1:=hJ0.later hB
 clear hB hJ0
 go_wp2
 go_ret
 exact ⟨rfl,hJ1.below⟩
set_option maxRecDepth 100000 in
set_option maxHeartbeats 12800000 in
theorem hbe_o5 (r s k:Int)  (w:World) (d0:decide (r < -1000000)=false) (d1:decide (1000000 < r)=false) (d2:decide (s < -1000000)=false) (d3:decide (1000000 < s)=false) (d4:decide (k < 0)=false) (d5:decide (1000000 < k)=true)  :Calls Try.prog 6 #[.int .i64 r,.int .i64 s,.int .i64 k] w (PVal (.bool true) w):=by
 have hJ0:=es_nil w
 go_enter Try.func6,Try.ntmps6
 go_wp2_with fail
 refine (hawake_any w).mono ?_
 rintro zz W1 ⟨rfl,hB⟩
 have hJ1:=hJ0.later hB
 clear hB hJ0
 go_wp2
 go_ret
 exact ⟨rfl,hJ1.below⟩
set_option maxRecDepth 100000 in
set_option maxHeartbeats 12800000 in
theorem hbe_o6 (r s k x:Int)  (w:World) (d0:decide (r < -1000000)=false) (d1:decide (1000000 < r)=false) (d2:decide (s < -1000000)=false) (d3:decide (1000000 < s)=false) (d4:decide (k < 0)=false) (d5:decide (1000000 < k)=false) (d6:(x != 0)=true) (r1:-1000000≤r) (r2:r≤1000000) (s1:-1000000≤s) (s2:s≤1000000) (hQR:(r - s).tmod 2=x∧-1≤x∧x≤1):Calls Try.prog 6 #[.int .i64 r,.int .i64 s,.int .i64 k] w (PVal (.bool true) w):=by
 have QR:=Lib.hid hQR
 clear hQR
 have hJ0:=es_nil w
 go_enter Try.func6,Try.ntmps6
 go_wp2_with fail
 refine (hawake_any w).mono ?_
 rintro zz W1 ⟨rfl,hB⟩
 have hJ1:=hJ0.later hB
 clear hB hJ0
 have qQR:=QR.out
 go_wp2
 go_ret
 exact ⟨rfl,hJ1.below⟩
set_option maxRecDepth 100000 in
set_option maxHeartbeats 12800000 in
theorem hbe_i (r s k x m a b c p:Int) (hHa:∀ W:World,Calls Try.prog 11 #[.int .i64 r,.int .i64 k] W (PVal (.int .i64 a) W)) (hHb:∀ W:World,Calls Try.prog 11 #[.int .i64 s,.int .i64 k] W (PVal (.int .i64 b) W)) (hHm:∀ W:World,Calls Try.prog 11 #[.int .i64 m,.int .i64 k] W (PVal (.int .i64 c) W)) (hHp:∀ W:World,Calls Try.prog 13 #[.int .i64 s,.int .i64 k] W (PVal (.int .i64 p) W)) (w:World) (d0:decide (r < -1000000)=false) (d1:decide (1000000 < r)=false) (d2:decide (s < -1000000)=false) (d3:decide (1000000 < s)=false) (d4:decide (k < 0)=false) (d5:decide (1000000 < k)=false) (d6:(x != 0)=false) (d7:decide (2*c≤a+b)=true) (d8:decide (b+((2*p)*(r - s))≤a)=true) (r1:-1000000≤r) (r2:r≤1000000) (s1:-1000000≤s) (s2:s≤1000000) (a1:0≤a) (a2:a≤1000000000000) (b1:0≤b) (b2:b≤1000000000000) (c1:0≤c) (c2:c≤1000000000000) (p1:-1000000≤p) (p2:p≤1000000) (hQ0:-9223372036854775808≤2*p*(r - s)∧2*p*(r - s)≤9223372036854775807) (hQ1:-9223372036854775808≤b+2*p*(r - s)∧b+2*p*(r - s)≤9223372036854775807) (hQR:(r - s).tmod 2=x∧-1≤x∧x≤1) (hQM:(r+s).tdiv 2=m∧-1000000≤m∧m≤1000000):Calls Try.prog 6 #[.int .i64 r,.int .i64 s,.int .i64 k] w (PVal (.bool true) w):=by
 have Ha:=Lib.hid hHa
 have Hb:=Lib.hid hHb
 have Hm:=Lib.hid hHm
 have Hp:=Lib.hid hHp
 clear hHa hHb hHm hHp
 have Q0:=Lib.hid hQ0
 have Q1:=Lib.hid hQ1
 have QR:=Lib.hid hQR
 have QM:=Lib.hid hQM
 clear hQ0 hQ1 hQR hQM
 have hJ0:=es_nil w
 go_enter Try.func6,Try.ntmps6
 go_wp2_with fail
 refine (hawake_any w).mono ?_
 rintro zz W1 ⟨rfl,hB⟩
 have hJ1:=hJ0.later hB
 clear hB hJ0
 have qQR:=QR.out
 have qQM:=QM.out
 go_wp2_with fail
 refine (Ha.out _).mono ?_
 rintro zz W2 ⟨rfl,hB⟩
 have hJ2:=hJ1.later hB
 clear hB qQR qQM hJ1
 go_wp2_with fail
 refine (Hb.out _).mono ?_
 rintro zz W3 ⟨rfl,hB⟩
 have hJ3:=hJ2.later hB
 clear hB hJ2
 go_wp2_with fail
 refine (Hm.out _).mono ?_
 rintro zz W4 ⟨rfl,hB⟩
 have hJ4:=hJ3.later hB
 clear hB hJ3
 go_wp2_with fail
 refine (Hb.out _).mono ?_
 rintro zz W5 ⟨rfl,hB⟩
 have hJ5:=hJ4.later hB
 clear hB hJ4
 go_wp2_with fail
 refine (Hp.out _).mono ?_
 rintro zz W6 ⟨rfl,hB⟩
 have hJ6:=hJ5.later hB
 clear hB hJ5
 have qQ0:=Q0.out
 have qQ1:=Q1.out
 go_wp2
 go_ret
 exact ⟨rfl,hJ6.below⟩
theorem rho_S {r:Int} (k:Int) (h:-1000000000≤r∧r≤1000000000) (hk:0≤k∧k≤1000000000):rho r k=rhS r k∧slp r k=slS r k:=by
 have e:aC r=(if r < 0 then -r else r):=by unfold aC cC; split <;> omega
 have ek:kC k=k:=by unfold kC; omega
 unfold rho slp rhS slS
 rw [e,ek]
 by_cases hr:r < 0
 ·
  rw [if_pos hr,if_pos hr,if_pos hr]; exact ⟨rfl,rfl⟩
 ·
  rw [if_neg hr,if_neg hr,if_neg hr]; exact ⟨rfl,rfl⟩
theorem rho_up {r k:Int} (h:-1000000≤r∧r≤1000000):0≤rho r k∧rho r k≤1000000000000:=by
 have ha:0≤aC r∧aC r≤1000000:=by unfold aC cC; omega
 exact ⟨rhA_nonneg ha.1 (kC_bd k).1,Int.le_trans (rhA_sq ha.1 (kC_bd k).1) (mul_up ha.1 ha.1 ha.2 ha.2).2⟩
theorem slp_up {r k:Int} (h:-1000000≤r∧r≤1000000):-1000000≤slp r k∧slp r k≤1000000:=by
 have ha:0≤aC r∧aC r≤1000000:=by unfold aC cC; omega
 have hk:=kC_bd k
 unfold slp slA
 split <;> split <;> omega
theorem prod_up {x y A B:Int} (hx:-A≤x∧x≤A) (hy:-B≤y∧y≤B):-(A*B)≤x*y∧x*y≤A*B:=by
 have h1:=mul_nn (show 0≤A - x by omega) (show 0≤B - y by omega)
 have h2:=mul_nn (show 0≤A+x by omega) (show 0≤B+y by omega)
 have h3:=mul_nn (show 0≤A - x by omega) (show 0≤B+y by omega)
 have h4:=mul_nn (show 0≤A+x by omega) (show 0≤B - y by omega)
 constructor <;> grind
theorem tm2 (x:Int):(-1≤x.tmod 2∧x.tmod 2≤1)∧2*x.tdiv 2+x.tmod 2=x:=by
 have h:=Int.mul_tdiv_add_tmod x 2
 have e:(x.tmod 2).natAbs=x.natAbs % 2:=by rw [Int.natAbs_tmod]; rfl
 omega
theorem HuberBends_any (r s k:Int) (w:World):Calls Try.prog 6 #[.int .i64 r,.int .i64 s,.int .i64 k] w (PVal (.bool true) w):=by
 by_cases h0:r < -1000000
 ·
  exact hbe_o0 r s k w  (decide_eq_true h0)
 by_cases h1:1000000 < r
 ·
  exact hbe_o1 r s k w (decide_eq_false h0) (decide_eq_true h1)
 by_cases h2:s < -1000000
 ·
  exact hbe_o2 r s k w (decide_eq_false h0) (decide_eq_false h1) (decide_eq_true h2)
 by_cases h3:1000000 < s
 ·
  exact hbe_o3 r s k w (decide_eq_false h0) (decide_eq_false h1) (decide_eq_false h2) (decide_eq_true h3)
 by_cases h4:k < 0
 ·
  exact hbe_o4 r s k w (decide_eq_false h0) (decide_eq_false h1) (decide_eq_false h2) (decide_eq_false h3) (decide_eq_true h4)
 by_cases h5:1000000 < k
 ·
  exact hbe_o5 r s k w (decide_eq_false h0) (decide_eq_false h1) (decide_eq_false h2) (decide_eq_false h3) (decide_eq_false h4) (decide_eq_true h5)
 have gx:=tm2 (r - s)
 have gm:=tm2 (r+s)
 have hx:=gx.1
 have hm:-1000000≤(r+s).tdiv 2∧(r+s).tdiv 2≤1000000:=by omega
 by_cases hz:(r - s).tmod 2=0
 ·
  have hk:0≤k∧k≤1000000000:=by omega
  have e2:r+s=2*(r+s).tdiv 2:=by omega
  generalize hmm:(r+s).tdiv 2=m at *
  have er:=rho_S (r:=r) k (by omega) hk
  have es:=rho_S (r:=s) k (by omega) hk
  have em:=rho_S (r:=m) k (by omega) hk
  have g1:=rhS_mean (k:=k) hk.1 e2
  have g2:=rhS_line (s:=s) (r:=r) hk.1
  rw [← er.1,← es.1,← em.1] at g1
  rw [← er.1,← es.1,← es.2] at g2
  have ua:=rho_up (r:=r) (k:=k) (by omega)
  have ub:=rho_up (r:=s) (k:=k) (by omega)
  have uc:=rho_up (r:=m) (k:=k) (by omega)
  have us:=slp_up (r:=s) (k:=k) (by omega)
  have up:=prod_up (x:=2*slp s k) (y:=r - s) (A:=2000000) (B:=2000000) (by omega) (by omega)
  exact hbe_i r s k _ m _ _ _ _ (rho_any r k) (rho_any s k) (rho_any m k) (slope_any s k) w (decide_eq_false h0) (decide_eq_false h1) (decide_eq_false h2) (decide_eq_false h3) (decide_eq_false h4) (decide_eq_false h5) (by rw [hz]; rfl) (decide_eq_true g1) (decide_eq_true g2) (by omega) (by omega) (by omega) (by omega) ua.1 ua.2 ub.1 ub.2 uc.1 uc.2 us.1 us.2 (by omega) (by omega) ⟨rfl,hx⟩ ⟨hmm,hm⟩
 ·
  exact hbe_o6 r s k _ w (decide_eq_false h0) (decide_eq_false h1) (decide_eq_false h2) (decide_eq_false h3) (decide_eq_false h4) (decide_eq_false h5) (bne_iff_ne.2 hz) (by omega) (by omega) (by omega) (by omega) ⟨rfl,hx⟩
set_option maxRecDepth 100000 in
set_option maxHeartbeats 12800000 in
theorem hsc_o0 (r k t:Int)  (w:World) (d0:decide (r < -1000000)=true)  :Calls Try.prog 7 #[.int .i64 r,.int .i64 k,.int .i64 t] w (PVal (.bool true) w):=by
 have hJ0:=es_nil w
 go_enter Try.func7,Try.ntmps7
 go_wp2_with fail
 refine (hawake_any w).mono ?_
 rintro zz W1 ⟨rfl,hB⟩
 have hJ1:=hJ0.later hB
 clear hB hJ0
 go_wp2
 go_ret
 exact ⟨rfl,hJ1.below⟩
set_option maxRecDepth 100000 in
set_option maxHeartbeats 12800000 in
theorem hsc_o1 (r k t:Int)  (w:World) (d0:decide (r < -1000000)=false) (d1:decide (1000000 < r)=true)  :Calls Try.prog 7 #[.int .i64 r,.int .i64 k,.int .i64 t] w (PVal (.bool true) w):=by
 have hJ0:=es_nil w
 go_enter Try.func7,Try.ntmps7
 go_wp2_with fail
 refine (hawake_any w).mono ?_
 rintro zz W1 ⟨rfl,hB⟩
 have hJ1:=hJ0.later hB
 clear hB hJ0
 go_wp2
 go_ret
 exact ⟨rfl,hJ1.below⟩
set_option maxRecDepth 100000 in
set_option maxHeartbeats 12800000 in
theorem hsc_o2 (r k t:Int)  (w:World) (d0:decide (r < -1000000)=false) (d1:decide (1000000 < r)=false) (d2:decide (k < 0)=true)  :Calls Try.prog 7 #[.int .i64 r,.int .i64 k,.int .i64 t] w (PVal (.bool true) w):=by
 have hJ0:=es_nil w
 go_enter Try.func7,Try.ntmps7
 go_wp2_with fail
 refine (hawake_any w).mono ?_
 rintro zz W1 ⟨rfl,hB⟩
 have hJ1:=hJ0.later hB
 clear hB hJ0
 go_wp2
 go_ret
 exact ⟨rfl,hJ1.below⟩
set_option maxRecDepth 100000 in
set_option maxHeartbeats 12800000 in
theorem hsc_o3 (r k t:Int)  (w:World) (d0:decide (r < -1000000)=false) (d1:decide (1000000 < r)=false) (d2:decide (k < 0)=false) (d3:decide (1000000 < k)=true)  :Calls Try.prog 7 #[.int .i64 r,.int .i64 k,.int .i64 t] w (PVal (.bool true) w):=by
 have hJ0:=es_nil w
 go_enter Try.func7,Try.ntmps7
 go_wp2_with fail
 refine (hawake_any w).mono ?_
 rintro zz W1 ⟨rfl,hB⟩
 have hJ1:=hJ0.later hB
 clear hB hJ0
 go_wp2
 go_ret
 exact ⟨rfl,hJ1.below⟩
set_option maxRecDepth 100000 in
set_option maxHeartbeats 12800000 in
theorem hsc_o4 (r k t:Int)  (w:World) (d0:decide (r < -1000000)=false) (d1:decide (1000000 < r)=false) (d2:decide (k < 0)=false) (d3:decide (1000000 < k)=false) (d4:decide (t < 0)=true)  :Calls Try.prog 7 #[.int .i64 r,.int .i64 k,.int .i64 t] w (PVal (.bool true) w):=by
 have hJ0:=es_nil w
 go_enter Try.func7,Try.ntmps7
 go_wp2_with fail
 refine (hawake_any w).mono ?_
 rintro zz W1 ⟨rfl,hB⟩
 have hJ1:=hJ0.later hB
 clear hB hJ0
 go_wp2
 go_ret
 exact ⟨rfl,hJ1.below⟩
set_option maxRecDepth 100000 in
set_option maxHeartbeats 12800000 in
theorem hsc_o5 (r k t:Int)  (w:World) (d0:decide (r < -1000000)=false) (d1:decide (1000000 < r)=false) (d2:decide (k < 0)=false) (d3:decide (1000000 < k)=false) (d4:decide (t < 0)=false) (d5:decide (100 < t)=true)  :Calls Try.prog 7 #[.int .i64 r,.int .i64 k,.int .i64 t] w (PVal (.bool true) w):=by
 have hJ0:=es_nil w
 go_enter Try.func7,Try.ntmps7
 go_wp2_with fail
 refine (hawake_any w).mono ?_
 rintro zz W1 ⟨rfl,hB⟩
 have hJ1:=hJ0.later hB
 clear hB hJ0
 go_wp2
 go_ret
 exact ⟨rfl,hJ1.below⟩
set_option maxRecDepth 100000 in
set_option maxHeartbeats 12800000 in
theorem hsc_i (r k t a b c e:Int) (hHa:∀ W:World,Calls Try.prog 11 #[.int .i64 r,.int .i64 k] W (PVal (.int .i64 a) W)) (hHb:∀ W:World,Calls Try.prog 11 #[.int .i64 (t*r),.int .i64 (t*k)] W (PVal (.int .i64 b) W)) (hHc:∀ W:World,Calls Try.prog 13 #[.int .i64 r,.int .i64 k] W (PVal (.int .i64 c) W)) (hHe:∀ W:World,Calls Try.prog 13 #[.int .i64 (t*r),.int .i64 (t*k)] W (PVal (.int .i64 e) W)) (w:World) (d0:decide (r < -1000000)=false) (d1:decide (1000000 < r)=false) (d2:decide (k < 0)=false) (d3:decide (1000000 < k)=false) (d4:decide (t < 0)=false) (d5:decide (100 < t)=false) (d6:(b == (t*t)*a)=true) (d7:(e == t*c)=true)  (hQ0:-9223372036854775808≤t*r∧t*r≤9223372036854775807) (hQ1:-9223372036854775808≤t*k∧t*k≤9223372036854775807) (hQ2:-9223372036854775808≤t*t∧t*t≤9223372036854775807) (hQ3:-9223372036854775808≤t*t*a∧t*t*a≤9223372036854775807) (hQ4:-9223372036854775808≤t*c∧t*c≤9223372036854775807):Calls Try.prog 7 #[.int .i64 r,.int .i64 k,.int .i64 t] w (PVal (.bool true) w):=by
 have Ha:=Lib.hid hHa
 have Hb:=Lib.hid hHb
 have Hc:=Lib.hid hHc
 have He:=Lib.hid hHe
 clear hHa hHb hHc hHe
 have Q0:=Lib.hid hQ0
 have Q1:=Lib.hid hQ1
 have Q2:=Lib.hid hQ2
 have Q3:=Lib.hid hQ3
 have Q4:=Lib.hid hQ4
 clear hQ0 hQ1 hQ2 hQ3 hQ4
 have hJ0:=es_nil w
 go_enter Try.func7,Try.ntmps7
 go_wp2_with fail
 refine (hawake_any w).mono ?_
 rintro zz W1 ⟨rfl,hB⟩
 have hJ1:=hJ0.later hB
 clear hB hJ0
 go_wp2_with fail
 refine (Ha.out _).mono ?_
 rintro zz W2 ⟨rfl,hB⟩
 have hJ2:=hJ1.later hB
 clear hB hJ1
 have qQ0:=Q0.out
 have qQ1:=Q1.out
 go_wp2_with fail
 refine (Hb.out _).mono ?_
 rintro zz W3 ⟨rfl,hB⟩
 have hJ3:=hJ2.later hB
 clear hB qQ0 qQ1 hJ2
 go_wp2_with fail
 refine (Hc.out _).mono ?_
 rintro zz W4 ⟨rfl,hB⟩
 have hJ4:=hJ3.later hB
 clear hB hJ3
 have qQ0:=Q0.out
 have qQ1:=Q1.out
 go_wp2_with fail
 refine (He.out _).mono ?_
 rintro zz W5 ⟨rfl,hB⟩
 have hJ5:=hJ4.later hB
 clear hB qQ0 qQ1 hJ4
 have qQ2:=Q2.out
 have qQ3:=Q3.out
 have qQ4:=Q4.out
 go_wp2
 go_ret
 exact ⟨rfl,hJ5.below⟩
theorem scale_S {r k t:Int} (hr:-1000000≤r∧r≤1000000) (hk:0≤k∧k≤1000000) (ht:0≤t∧t≤100):rho (t*r) (t*k)=t*t*rho r k∧slp (t*r) (t*k)=t*slp r k:=by
 have br:=prod_up (x:=t) (y:=r) (A:=100) (B:=1000000) (by omega) (by omega)
 have bk:=mul_up ht.1 hk.1 ht.2 hk.2
 have e1:=rho_S (r:=t*r) (t*k) (by omega) (by omega)
 have e2:=rho_S (r:=r) k (by omega) (by omega)
 rw [e1.1,e1.2,e2.1,e2.2]
 by_cases hz:t=0
 ·
  subst hz
  rw [Int.zero_mul,Int.zero_mul,Int.zero_mul,Int.zero_mul,Int.zero_mul]
  exact ⟨by decide,by decide⟩
 ·
  have ht0:0 < t:=by omega
  unfold rhS slS
  by_cases hs:r < 0
  ·
   have hs':t*r < 0:=by
    have:=Int.mul_lt_mul_of_pos_left hs ht0
    rwa [Int.mul_zero] at this
   have h:=rhA_scale (a:=-r) (k:=k) ht0
   rw [if_pos hs,if_pos hs',if_pos hs,if_pos hs',← Int.mul_neg]
   exact ⟨h.1,by rw [h.2,Int.mul_neg]⟩
  ·
   have hs':¬ t*r < 0:=by have:=mul_nn ht.1 (show 0≤r by omega); omega
   have h:=rhA_scale (a:=r) (k:=k) ht0
   rw [if_neg hs,if_neg hs',if_neg hs,if_neg hs']
   exact h
theorem HuberScale_any (r k t:Int) (w:World):Calls Try.prog 7 #[.int .i64 r,.int .i64 k,.int .i64 t] w (PVal (.bool true) w):=by
 by_cases h0:r < -1000000
 ·
  exact hsc_o0 r k t w  (decide_eq_true h0)
 by_cases h1:1000000 < r
 ·
  exact hsc_o1 r k t w (decide_eq_false h0) (decide_eq_true h1)
 by_cases h2:k < 0
 ·
  exact hsc_o2 r k t w (decide_eq_false h0) (decide_eq_false h1) (decide_eq_true h2)
 by_cases h3:1000000 < k
 ·
  exact hsc_o3 r k t w (decide_eq_false h0) (decide_eq_false h1) (decide_eq_false h2) (decide_eq_true h3)
 by_cases h4:t < 0
 ·
  exact hsc_o4 r k t w (decide_eq_false h0) (decide_eq_false h1) (decide_eq_false h2) (decide_eq_false h3) (decide_eq_true h4)
 by_cases h5:100 < t
 ·
  exact hsc_o5 r k t w (decide_eq_false h0) (decide_eq_false h1) (decide_eq_false h2) (decide_eq_false h3) (decide_eq_false h4) (decide_eq_true h5)
 have hr:-1000000≤r∧r≤1000000:=by omega
 have hk:0≤k∧k≤1000000:=by omega
 have ht:0≤t∧t≤100:=by omega
 have hs:=scale_S hr hk ht
 have q1:=prod_up (x:=t) (y:=r) (A:=100) (B:=1000000) (by omega) (by omega)
 have q2:=mul_up ht.1 hk.1 ht.2 hk.2
 have q3:=mul_up ht.1 ht.1 ht.2 ht.2
 have ua:=rho_up (r:=r) (k:=k) hr
 have q4:=mul_up q3.1 ua.1 q3.2 ua.2
 have q5:=prod_up (x:=t) (y:=slp r k) (A:=100) (B:=1000000) (by omega) (slp_up hr)
 exact hsc_i r k t _ _ _ _ (rho_any r k) (rho_any (t*r) (t*k)) (slope_any r k) (slope_any (t*r) (t*k)) w (decide_eq_false h0) (decide_eq_false h1) (decide_eq_false h2) (decide_eq_false h3) (decide_eq_false h4) (decide_eq_false h5) (beq_iff_eq.2 hs.1) (beq_iff_eq.2 hs.2) (by omega) (by omega) (by omega) (by omega) (by omega)
end Go.Proofs.Ytncbajehmdnibaa
