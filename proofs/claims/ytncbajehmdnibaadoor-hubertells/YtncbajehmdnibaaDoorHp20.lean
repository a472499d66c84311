/- Parts of the proof. -/
import Derived.Test.YtncbajehmdnibaaDoorHp0
import Derived.Test.YtncbajehmdnibaaDoorHp19
import Derived.Test.YtncbajehmdnibaaDoorHp2
import Derived.Lib.MinMax
set_option linter.unusedSimpArgs false
set_option linter.unusedVariables false
/- Package huber: the walks of its functions. No statement of the seat is proved here. -/
namespace Go.Proofs.YtncbajehmdnibaaDoor
open Go Go.RowKit
theorem zv41 (W:World):(zeroValue 41).run Tryd.prog W=.ok (.agg #[.nilFunc,.nilFunc,.nilFunc,.nilFunc]) W:=by kernel_rfl
theorem sz41 (W:World):(sizeOf 41).run Tryd.prog W=.ok 4 W:=by kernel_rfl
theorem ag41 (W:World):(isAgg 41).run Tryd.prog W=.ok true W:=by kernel_rfl
theorem bmap4 {a:Act} {i j k l:Nat} {x y z p:Operand} {u v t q:Value} (h1:a.eval x=u) (h2:a.eval y=v) (h3:a.eval z=t) (h4:a.eval p=q):#[(i,x),(j,y),(k,z),(l,p)].map (fun (i,x)=>(i,a.eval x))=#[(i,u),(j,v),(k,t),(l,q)]:=by simp [h1,h2,h3,h4]
set_option maxRecDepth 100000 in
set_option maxHeartbeats 12800000 in
theorem hsquare   (w:World)  :Calls Tryd.prog 29 #[] w (PVal (.agg #[.func (.func 42) #[] #[],.func (.func 43) #[] #[],.func (.func 44) #[] #[],.func (.func 45) #[] #[]]) w):=by
 have hJ0:=es_nil w
 go_enter Tryd.func29,Tryd.ntmps29
 go_wp2_with (refine stop_alloc 41 #[.nilFunc,.nilFunc,.nilFunc,.nilFunc] (.agg #[.nilFunc,.nilFunc,.nilFunc,.nilFunc]) rfl rfl zv41 rfl hJ0 (fun bk1 W1 hJ1=>?_))
 clear hJ0
 simp only [Stop,Act.put,zzC,zzD,zzE]
 go_wp2_with (refine zso rfl (fun K hK=>wp_bld (v:=.agg #[.func (.func 42) #[] #[],.func (.func 43) #[] #[],.func (.func 44) #[] #[],.func (.func 45) #[] #[]]) (pv:=#[(0,.func (.func 42) #[] #[]),(1,.func (.func 43) #[] #[]),(2,.func (.func 44) #[] #[]),(3,.func (.func 45) #[] #[])]) 41 #[(0,.func 42),(1,.func 43),(2,.func 44),(3,.func 45)] rfl (bmap4 rfl rfl rfl rfl) (fun _=>by kernel_rfl) (hK _ _ ?_)))
 simp only [Stop,Act.put,zzC,zzD,zzE]
 go_wp2_with (refine stop_store 41 (.tmp 0) (.tmp 1) 0 bk1 0 #[.nilFunc,.nilFunc,.nilFunc,.nilFunc] 41 4 #[.func (.func 42) #[] #[],.func (.func 43) #[] #[],.func (.func 44) #[] #[],.func (.func 45) #[] #[]].toList #[.func (.func 42) #[] #[],.func (.func 43) #[] #[],.func (.func 44) #[] #[],.func (.func 45) #[] #[]] [(bk1,#[.func (.func 42) #[] #[],.func (.func 43) #[] #[],.func (.func 44) #[] #[],.func (.func 45) #[] #[]],41)] rfl rfl rfl rfl sz41 hJ1 rfl (by kernel_rfl) (zzF (by kernel_rfl)) (by kernel_rfl) (by kernel_rfl) (by kernel_rfl) (fun W2 hJ2=>?_))
 clear hJ1
 simp only [Stop,Act.put,zzC,zzD,zzE]
 go_wp2
 exact bodyPost_ret (v:=.agg #[.func (.func 42) #[] #[],.func (.func 43) #[] #[],.func (.func 44) #[] #[],.func (.func 45) #[] #[]]) (results_cell 0 Tryd.results29 hJ2 rfl ag41 sz41 (zzF (by kernel_rfl)) rfl (by kernel_rfl)) rfl ⟨rfl,hJ2.below⟩
set_option maxRecDepth 100000 in
set_option maxHeartbeats 12800000 in
theorem hline   (w:World)  :Calls Tryd.prog 30 #[] w (PVal (.agg #[.func (.func 46) #[] #[],.func (.func 47) #[] #[],.func (.func 48) #[] #[],.func (.func 49) #[] #[]]) w):=by
 have hJ0:=es_nil w
 go_enter Tryd.func30,Tryd.ntmps30
 go_wp2_with (refine stop_alloc 41 #[.nilFunc,.nilFunc,.nilFunc,.nilFunc] (.agg #[.nilFunc,.nilFunc,.nilFunc,.nilFunc]) rfl rfl zv41 rfl hJ0 (fun bk1 W1 hJ1=>?_))
 clear hJ0
 simp only [Stop,Act.put,zzC,zzD,zzE]
 go_wp2_with (refine zso rfl (fun K hK=>wp_bld (v:=.agg #[.func (.func 46) #[] #[],.func (.func 47) #[] #[],.func (.func 48) #[] #[],.func (.func 49) #[] #[]]) (pv:=#[(0,.func (.func 46) #[] #[]),(1,.func (.func 47) #[] #[]),(2,.func (.func 48) #[] #[]),(3,.func (.func 49) #[] #[])]) 41 #[(0,.func 46),(1,.func 47),(2,.func 48),(3,.func 49)] rfl (bmap4 rfl rfl rfl rfl) (fun _=>by kernel_rfl) (hK _ _ ?_)))
 simp only [Stop,Act.put,zzC,zzD,zzE]
 go_wp2_with (refine stop_store 41 (.tmp 0) (.tmp 1) 0 bk1 0 #[.nilFunc,.nilFunc,.nilFunc,.nilFunc] 41 4 #[.func (.func 46) #[] #[],.func (.func 47) #[] #[],.func (.func 48) #[] #[],.func (.func 49) #[] #[]].toList #[.func (.func 46) #[] #[],.func (.func 47) #[] #[],.func (.func 48) #[] #[],.func (.func 49) #[] #[]] [(bk1,#[.func (.func 46) #[] #[],.func (.func 47) #[] #[],.func (.func 48) #[] #[],.func (.func 49) #[] #[]],41)] rfl rfl rfl rfl sz41 hJ1 rfl (by kernel_rfl) (zzF (by kernel_rfl)) (by kernel_rfl) (by kernel_rfl) (by kernel_rfl) (fun W2 hJ2=>?_))
 clear hJ1
 simp only [Stop,Act.put,zzC,zzD,zzE]
 go_wp2
 exact bodyPost_ret (v:=.agg #[.func (.func 46) #[] #[],.func (.func 47) #[] #[],.func (.func 48) #[] #[],.func (.func 49) #[] #[]]) (results_cell 0 Tryd.results30 hJ2 rfl ag41 sz41 (zzF (by kernel_rfl)) rfl (by kernel_rfl)) rfl ⟨rfl,hJ2.below⟩
set_option maxRecDepth 100000 in
set_option maxHeartbeats 12800000 in
theorem hrule_sq (a k:Int)  (w:World) (h:decide (a≤k)=true) :Calls Tryd.prog 16 #[.int .i64 a,.int .i64 k] w (PVal (.agg #[.func (.func 42) #[] #[],.func (.func 43) #[] #[],.func (.func 44) #[] #[],.func (.func 45) #[] #[]]) w):=by
 have hJ0:=es_nil w
 go_enter Tryd.func16,Tryd.ntmps16
 go_wp2_with (refine stop_alloc 41 #[.nilFunc,.nilFunc,.nilFunc,.nilFunc] (.agg #[.nilFunc,.nilFunc,.nilFunc,.nilFunc]) rfl rfl zv41 rfl hJ0 (fun bk1 W1 hJ1=>?_))
 clear hJ0
 simp only [Stop,Act.put,zzC,zzD,zzE]
 go_wp2_with fail
 refine (hsquare W1).mono ?_
 rintro zz W2 ⟨rfl,hB⟩
 have hJ2:=hJ1.later hB
 clear hB hJ1
 go_wp2_with (refine stop_store 41 (.tmp 4) (.tmp 8) 0 bk1 0 #[.nilFunc,.nilFunc,.nilFunc,.nilFunc] 41 4 #[.func (.func 42) #[] #[],.func (.func 43) #[] #[],.func (.func 44) #[] #[],.func (.func 45) #[] #[]].toList #[.func (.func 42) #[] #[],.func (.func 43) #[] #[],.func (.func 44) #[] #[],.func (.func 45) #[] #[]] [(bk1,#[.func (.func 42) #[] #[],.func (.func 43) #[] #[],.func (.func 44) #[] #[],.func (.func 45) #[] #[]],41)] rfl rfl rfl rfl sz41 hJ2 rfl (by kernel_rfl) (zzF (by kernel_rfl)) (by kernel_rfl) (by kernel_rfl) (by kernel_rfl) (fun W3 hJ3=>?_))
 clear hJ2
 simp only [Stop,Act.put,zzC,zzD,zzE]
 go_wp2
 exact bodyPost_ret (v:=.agg #[.func (.func 42) #[] #[],.func (.func 43) #[] #[],.func (.func 44) #[] #[],.func (.func 45) #[] #[]]) (results_cell 0 Tryd.results16 hJ3 rfl ag41 sz41 (zzF (by kernel_rfl)) rfl (by kernel_rfl)) rfl ⟨rfl,hJ3.below⟩
set_option maxRecDepth 100000 in
set_option maxHeartbeats 12800000 in
theorem hrule_ln (a k:Int)  (w:World) (h:decide (a≤k)=false) :Calls Tryd.prog 16 #[.int .i64 a,.int .i64 k] w (PVal (.agg #[.func (.func 46) #[] #[],.func (.func 47) #[] #[],.func (.func 48) #[] #[],.func (.func 49) #[] #[]]) w):=by
 have hJ0:=es_nil w
 go_enter Tryd.func16,Tryd.ntmps16
 go_wp2_with (refine stop_alloc 41 #[.nilFunc,.nilFunc,.nilFunc,.nilFunc] (.agg #[.nilFunc,.nilFunc,.nilFunc,.nilFunc]) rfl rfl zv41 rfl hJ0 (fun bk1 W1 hJ1=>?_))
 clear hJ0
 simp only [Stop,Act.put,zzC,zzD,zzE]
 go_wp2_with fail
 refine (hline W1).mono ?_
 rintro zz W2 ⟨rfl,hB⟩
 have hJ2:=hJ1.later hB
 clear hB hJ1
 go_wp2_with (refine stop_store 41 (.tmp 4) (.tmp 9) 0 bk1 0 #[.nilFunc,.nilFunc,.nilFunc,.nilFunc] 41 4 #[.func (.func 46) #[] #[],.func (.func 47) #[] #[],.func (.func 48) #[] #[],.func (.func 49) #[] #[]].toList #[.func (.func 46) #[] #[],.func (.func 47) #[] #[],.func (.func 48) #[] #[],.func (.func 49) #[] #[]] [(bk1,#[.func (.func 46) #[] #[],.func (.func 47) #[] #[],.func (.func 48) #[] #[],.func (.func 49) #[] #[]],41)] rfl rfl rfl rfl sz41 hJ2 rfl (by kernel_rfl) (zzF (by kernel_rfl)) (by kernel_rfl) (by kernel_rfl) (by kernel_rfl) (fun W3 hJ3=>?_))
 clear hJ2
 simp only [Stop,Act.put,zzC,zzD,zzE]
 go_wp2
 exact bodyPost_ret (v:=.agg #[.func (.func 46) #[] #[],.func (.func 47) #[] #[],.func (.func 48) #[] #[],.func (.func 49) #[] #[]]) (results_cell 0 Tryd.results16 hJ3 rfl ag41 sz41 (zzF (by kernel_rfl)) rfl (by kernel_rfl)) rfl ⟨rfl,hJ3.below⟩
theorem ag27 (W:World):(isAgg 27).run Tryd.prog W=.ok false W:=by kernel_rfl
theorem ag30 (W:World):(isAgg 30).run Tryd.prog W=.ok false W:=by kernel_rfl
theorem run_rf0 (a b c d:Value) (W:World):Sem.run Tryd.prog (Instr.field 41 (.agg #[a,b,c,d]) 0) W=.ok a W:=by kernel_rfl
theorem run_rf1 (a b c d:Value) (W:World):Sem.run Tryd.prog (Instr.field 41 (.agg #[a,b,c,d]) 1) W=.ok b W:=by kernel_rfl
theorem run_rf2 (a b c d:Value) (W:World):Sem.run Tryd.prog (Instr.field 41 (.agg #[a,b,c,d]) 2) W=.ok c W:=by kernel_rfl
attribute [local go_sem ↓] run_rf0 run_rf1 run_rf2
/-- A residual and a knee, cut; a residual without its sign. -/
def cC (r:Int):Int:=max (-2147483647) (min r 2147483647)
def aC (r:Int):Int:=max (cC r) (-cC r)
def kC (k:Int):Int:=max 0 (min k 2147483647)
theorem aC_bd (r:Int):0≤aC r∧aC r≤2147483647:=by unfold aC cC; omega
theorem kC_bd (k:Int):0≤kC k∧kC k≤2147483647:=by unfold kC; omega
theorem wr {n:Int} (h:-9223372036854775808≤n) (h':n≤9223372036854775807):wrap64 n=n:=by unfold wrap64; omega
theorem mul_up {a b A B:Int} (ha:0≤a) (hb:0≤b) (hA:a≤A) (hB:b≤B):0≤a*b∧a*b≤A*B:=⟨Int.mul_nonneg ha hb,Int.mul_le_mul hA hB hb (by omega)⟩
set_option maxRecDepth 100000 in
set_option maxHeartbeats 12800000 in
theorem hcut_any (r k:Int) (w:World):Calls Tryd.prog 15 #[.int .i64 r,.int .i64 k] w (PVal (.tuple #[.int .i64 (aC r),.int .i64 (kC k)]) w):=by
 obtain ⟨x,hx⟩:∃ x,x=cC r:=⟨_,rfl⟩
 have ha:aC r=max x (-x):=by rw [hx]; rfl
 have hb:-2147483647≤x∧x≤2147483647:=by rw [hx]; unfold cC; omega
 have hx':max (-2147483647) (min r 2147483647)=x:=hx.symm
 have hk':max 0 (min k 2147483647)=kC k:=rfl
 rw [ha]
 clear ha hx
 go_enter Tryd.func15,Tryd.ntmps15
 go_wp2
 exact bodyPost_ret (v:=.tuple #[.int .i64 (max x (-x)),.int .i64 (kC k)]) (by simp [results,Tryd.results15,go_sem]) rfl ⟨rfl,Below.refl _ _⟩
set_option maxRecDepth 100000 in
set_option maxHeartbeats 12800000 in
theorem sq1_w (a k:Int)  (w:World)  (hQ1:-9223372036854775808≤a*a∧a*a≤9223372036854775807):Calls Tryd.prog 42 #[.int .i64 a,.int .i64 k] w (PVal (.int .i64 (a*a)) w):=by
 have Q1:=Lib.hid hQ1
 clear hQ1
 have hJ0:=es_nil w
 go_enter Tryd.func42,Tryd.ntmps42
 have qQ1:=Q1.out
 go_wp2
 go_ret
 exact ⟨rfl,hJ0.below⟩
set_option maxRecDepth 100000 in
set_option maxHeartbeats 12800000 in
theorem sq2 (a k:Int)  (w:World)  :Calls Tryd.prog 43 #[.int .i64 a,.int .i64 k] w (PVal (.int .i64 a) w):=by
 have hJ0:=es_nil w
 go_enter Tryd.func43,Tryd.ntmps43
 go_wp2
 go_ret
 exact ⟨rfl,hJ0.below⟩
set_option maxRecDepth 100000 in
set_option maxHeartbeats 12800000 in
theorem sq3 (a k:Int)  (w:World)  :Calls Tryd.prog 44 #[.int .i64 a,.int .i64 k] w (PVal (.tuple #[.int .i64 1,.int .i64 1]) w):=by
 have hJ0:=es_nil w
 go_enter Tryd.func44,Tryd.ntmps44
 go_wp2
 exact bodyPost_ret (v:=.tuple #[.int .i64 1,.int .i64 1]) (by simp [results,Tryd.results44,go_sem]) rfl ⟨rfl,hJ0.below⟩
set_option maxRecDepth 100000 in
set_option maxHeartbeats 12800000 in
theorem sq4 (a k:Int)  (w:World)  :Calls Tryd.prog 45 #[.int .i64 a,.int .i64 k] w (PVal (.int .i64 0) w):=by
 have hJ0:=es_nil w
 go_enter Tryd.func45,Tryd.ntmps45
 go_wp2
 go_ret
 exact ⟨rfl,hJ0.below⟩
set_option maxRecDepth 100000 in
set_option maxHeartbeats 12800000 in
theorem ln1_w (a k:Int)  (w:World)  (hQ1:-9223372036854775808≤2*k∧2*k≤9223372036854775807) (hQ2:-9223372036854775808≤2*k*a∧2*k*a≤9223372036854775807) (hQ3:-9223372036854775808≤k*k∧k*k≤9223372036854775807) (hQ4:-9223372036854775808≤2*k*a - k*k∧2*k*a - k*k≤9223372036854775807):Calls Tryd.prog 46 #[.int .i64 a,.int .i64 k] w (PVal (.int .i64 (((2*k)*a) - (k*k))) w):=by
 have Q1:=Lib.hid hQ1
 have Q2:=Lib.hid hQ2
 have Q3:=Lib.hid hQ3
 have Q4:=Lib.hid hQ4
 clear hQ1 hQ2 hQ3 hQ4
 have hJ0:=es_nil w
 go_enter Tryd.func46,Tryd.ntmps46
 have qQ1:=Q1.out
 have qQ2:=Q2.out
 have qQ3:=Q3.out
 have qQ4:=Q4.out
 go_wp2
 go_ret
 exact ⟨rfl,hJ0.below⟩
set_option maxRecDepth 100000 in
set_option maxHeartbeats 12800000 in
theorem ln2 (a k:Int)  (w:World)  :Calls Tryd.prog 47 #[.int .i64 a,.int .i64 k] w (PVal (.int .i64 k) w):=by
 have hJ0:=es_nil w
 go_enter Tryd.func47,Tryd.ntmps47
 go_wp2
 go_ret
 exact ⟨rfl,hJ0.below⟩
set_option maxRecDepth 100000 in
set_option maxHeartbeats 12800000 in
theorem ln3 (a k:Int)  (w:World)  :Calls Tryd.prog 48 #[.int .i64 a,.int .i64 k] w (PVal (.tuple #[.int .i64 k,.int .i64 a]) w):=by
 have hJ0:=es_nil w
 go_enter Tryd.func48,Tryd.ntmps48
 go_wp2
 exact bodyPost_ret (v:=.tuple #[.int .i64 k,.int .i64 a]) (by simp [results,Tryd.results48,go_sem]) rfl ⟨rfl,hJ0.below⟩
set_option maxRecDepth 100000 in
set_option maxHeartbeats 12800000 in
theorem ln4_w (a k:Int)  (w:World)  (hQ1:-9223372036854775808≤k*a∧k*a≤9223372036854775807) (hQ2:-9223372036854775808≤k*k∧k*k≤9223372036854775807) (hQ3:-9223372036854775808≤k*a - k*k∧k*a - k*k≤9223372036854775807) (hQ4:-9223372036854775808≤a*(k*a - k*k)∧a*(k*a - k*k)≤9223372036854775807):Calls Tryd.prog 49 #[.int .i64 a,.int .i64 k] w (PVal (.int .i64 (a*((k*a) - (k*k)))) w):=by
 have Q1:=Lib.hid hQ1
 have Q2:=Lib.hid hQ2
 have Q3:=Lib.hid hQ3
 have Q4:=Lib.hid hQ4
 clear hQ1 hQ2 hQ3 hQ4
 have hJ0:=es_nil w
 go_enter Tryd.func49,Tryd.ntmps49
 have qQ1:=Q1.out
 have qQ2:=Q2.out
 have qQ3:=Q3.out
 have qQ4:=Q4.out
 go_wp2
 go_ret
 exact ⟨rfl,hJ0.below⟩
set_option maxRecDepth 100000 in
set_option maxHeartbeats 12800000 in
theorem rho_square (r k a b v:Int) (hHc:∀ W:World,Calls Tryd.prog 15 #[.int .i64 r,.int .i64 k] W (PVal (.tuple #[.int .i64 a,.int .i64 b]) W)) (hHr:∀ W:World,Calls Tryd.prog 16 #[.int .i64 a,.int .i64 b] W (PVal (.agg #[.func (.func 42) #[] #[],.func (.func 43) #[] #[],.func (.func 44) #[] #[],.func (.func 45) #[] #[]]) W)) (hHf:∀ W:World,Calls Tryd.prog 42 #[.int .i64 a,.int .i64 b] W (PVal (.int .i64 v) W)) (w:World)  :Calls Tryd.prog 6 #[.int .i64 r,.int .i64 k] w (PVal (.int .i64 v) w):=by
 have Hc:=Lib.hid hHc
 have Hr:=Lib.hid hHr
 have Hf:=Lib.hid hHf
 clear hHc hHr hHf
 have hJ0:=es_nil w
 go_enter Tryd.func6,Tryd.ntmps6
 go_wp2_with fail
 refine (Hc.out _).mono ?_
 rintro zz W1 ⟨rfl,hB⟩
 have hJ1:=hJ0.later hB
 clear hB hJ0
 go_wp2_with fail
 refine (Hr.out _).mono ?_
 rintro zz W2 ⟨rfl,hB⟩
 have hJ2:=hJ1.later hB
 clear hB hJ1
 go_wp2_with fail
 refine (Hf.out _).mono ?_
 rintro zz W3 ⟨rfl,hB⟩
 have hJ3:=hJ2.later hB
 clear hB hJ2
 go_wp2
 go_ret
 exact ⟨rfl,hJ3.below⟩
set_option maxRecDepth 100000 in
set_option maxHeartbeats 12800000 in
theorem slope_square0 (r k a b v:Int) (hHc:∀ W:World,Calls Tryd.prog 15 #[.int .i64 r,.int .i64 k] W (PVal (.tuple #[.int .i64 a,.int .i64 b]) W)) (hHr:∀ W:World,Calls Tryd.prog 16 #[.int .i64 a,.int .i64 b] W (PVal (.agg #[.func (.func 42) #[] #[],.func (.func 43) #[] #[],.func (.func 44) #[] #[],.func (.func 45) #[] #[]]) W)) (hHf:∀ W:World,Calls Tryd.prog 43 #[.int .i64 a,.int .i64 b] W (PVal (.int .i64 v) W)) (w:World) (d:decide (r < 0)=false) :Calls Tryd.prog 8 #[.int .i64 r,.int .i64 k] w (PVal (.int .i64 v) w):=by
 have Hc:=Lib.hid hHc
 have Hr:=Lib.hid hHr
 have Hf:=Lib.hid hHf
 clear hHc hHr hHf
 have hJ0:=es_nil w
 go_enter Tryd.func8,Tryd.ntmps8
 go_wp2_with fail
 refine (Hc.out _).mono ?_
 rintro zz W1 ⟨rfl,hB⟩
 have hJ1:=hJ0.later hB
 clear hB hJ0
 go_wp2_with fail
 refine (Hr.out _).mono ?_
 rintro zz W2 ⟨rfl,hB⟩
 have hJ2:=hJ1.later hB
 clear hB hJ1
 go_wp2_with fail
 refine (Hf.out _).mono ?_
 rintro zz W3 ⟨rfl,hB⟩
 have hJ3:=hJ2.later hB
 clear hB hJ2
 go_wp2
 go_ret
 exact ⟨rfl,hJ3.below⟩
set_option maxRecDepth 100000 in
set_option maxHeartbeats 12800000 in
theorem slope_square1 (r k a b v:Int) (hHc:∀ W:World,Calls Tryd.prog 15 #[.int .i64 r,.int .i64 k] W (PVal (.tuple #[.int .i64 a,.int .i64 b]) W)) (hHr:∀ W:World,Calls Tryd.prog 16 #[.int .i64 a,.int .i64 b] W (PVal (.agg #[.func (.func 42) #[] #[],.func (.func 43) #[] #[],.func (.func 44) #[] #[],.func (.func 45) #[] #[]]) W)) (hHf:∀ W:World,Calls Tryd.prog 43 #[.int .i64 a,.int .i64 b] W (PVal (.int .i64 v) W)) (w:World) (d:decide (r < 0)=true) (v1:0≤v) (v2:v≤2147483647) :Calls Tryd.prog 8 #[.int .i64 r,.int .i64 k] w (PVal (.int .i64 (-v)) w):=by
 have Hc:=Lib.hid hHc
 have Hr:=Lib.hid hHr
 have Hf:=Lib.hid hHf
 clear hHc hHr hHf
 have hJ0:=es_nil w
 go_enter Tryd.func8,Tryd.ntmps8
 go_wp2_with fail
 refine (Hc.out _).mono ?_
 rintro zz W1 ⟨rfl,hB⟩
 have hJ1:=hJ0.later hB
 clear hB hJ0
 go_wp2_with fail
 refine (Hr.out _).mono ?_
 rintro zz W2 ⟨rfl,hB⟩
 have hJ2:=hJ1.later hB
 clear hB hJ1
 go_wp2_with fail
 refine (Hf.out _).mono ?_
 rintro zz W3 ⟨rfl,hB⟩
 have hJ3:=hJ2.later hB
 clear hB hJ2
 go_wp2
 go_ret
 exact ⟨rfl,hJ3.below⟩
set_option maxRecDepth 100000 in
set_option maxHeartbeats 12800000 in
theorem weight_square (r k a b n d:Int) (hHc:∀ W:World,Calls Tryd.prog 15 #[.int .i64 r,.int .i64 k] W (PVal (.tuple #[.int .i64 a,.int .i64 b]) W)) (hHr:∀ W:World,Calls Tryd.prog 16 #[.int .i64 a,.int .i64 b] W (PVal (.agg #[.func (.func 42) #[] #[],.func (.func 43) #[] #[],.func (.func 44) #[] #[],.func (.func 45) #[] #[]]) W)) (hHf:∀ W:World,Calls Tryd.prog 44 #[.int .i64 a,.int .i64 b] W (PVal (.tuple #[.int .i64 n,.int .i64 d]) W)) (w:World)  :Calls Tryd.prog 9 #[.int .i64 r,.int .i64 k] w (PVal (.tuple #[.int .i64 n,.int .i64 d]) w):=by
 have Hc:=Lib.hid hHc
 have Hr:=Lib.hid hHr
 have Hf:=Lib.hid hHf
 clear hHc hHr hHf
 have hJ0:=es_nil w
 go_enter Tryd.func9,Tryd.ntmps9
 go_wp2_with fail
 refine (Hc.out _).mono ?_
 rintro zz W1 ⟨rfl,hB⟩
 have hJ1:=hJ0.later hB
 clear hB hJ0
 go_wp2_with fail
 refine (Hr.out _).mono ?_
 rintro zz W2 ⟨rfl,hB⟩
 have hJ2:=hJ1.later hB
 clear hB hJ1
 go_wp2_with fail
 refine (Hf.out _).mono ?_
 rintro zz W3 ⟨rfl,hB⟩
 have hJ3:=hJ2.later hB
 clear hB hJ2
 go_wp2
 exact bodyPost_ret (v:=.tuple #[.int .i64 n,.int .i64 d]) (by simp [results,Tryd.results9,go_sem]) rfl ⟨rfl,hJ3.below⟩
set_option maxRecDepth 100000 in
set_option maxHeartbeats 12800000 in
theorem rho_line (r k a b v:Int) (hHc:∀ W:World,Calls Tryd.prog 15 #[.int .i64 r,.int .i64 k] W (PVal (.tuple #[.int .i64 a,.int .i64 b]) W)) (hHr:∀ W:World,Calls Tryd.prog 16 #[.int .i64 a,.int .i64 b] W (PVal (.agg #[.func (.func 46) #[] #[],.func (.func 47) #[] #[],.func (.func 48) #[] #[],.func (.func 49) #[] #[]]) W)) (hHf:∀ W:World,Calls Tryd.prog 46 #[.int .i64 a,.int .i64 b] W (PVal (.int .i64 v) W)) (w:World)  :Calls Tryd.prog 6 #[.int .i64 r,.int .i64 k] w (PVal (.int .i64 v) w):=by
 have Hc:=Lib.hid hHc
 have Hr:=Lib.hid hHr
 have Hf:=Lib.hid hHf
 clear hHc hHr hHf
 have hJ0:=es_nil w
 go_enter Tryd.func6,Tryd.ntmps6
 go_wp2_with fail
 refine (Hc.out _).mono ?_
 rintro zz W1 ⟨rfl,hB⟩
 have hJ1:=hJ0.later hB
 clear hB hJ0
 go_wp2_with fail
 refine (Hr.out _).mono ?_
 rintro zz W2 ⟨rfl,hB⟩
 have hJ2:=hJ1.later hB
 clear hB hJ1
 go_wp2_with fail
 refine (Hf.out _).mono ?_
 rintro zz W3 ⟨rfl,hB⟩
 have hJ3:=hJ2.later hB
 clear hB hJ2
 go_wp2
 go_ret
 exact ⟨rfl,hJ3.below⟩
set_option maxRecDepth 100000 in
set_option maxHeartbeats 12800000 in
theorem slope_line0 (r k a b v:Int) (hHc:∀ W:World,Calls Tryd.prog 15 #[.int .i64 r,.int .i64 k] W (PVal (.tuple #[.int .i64 a,.int .i64 b]) W)) (hHr:∀ W:World,Calls Tryd.prog 16 #[.int .i64 a,.int .i64 b] W (PVal (.agg #[.func (.func 46) #[] #[],.func (.func 47) #[] #[],.func (.func 48) #[] #[],.func (.func 49) #[] #[]]) W)) (hHf:∀ W:World,Calls Tryd.prog 47 #[.int .i64 a,.int .i64 b] W (PVal (.int .i64 v) W)) (w:World) (d:decide (r < 0)=false) :Calls Tryd.prog 8 #[.int .i64 r,.int .i64 k] w (PVal (.int .i64 v) w):=by
 have Hc:=Lib.hid hHc
 have Hr:=Lib.hid hHr
 have Hf:=Lib.hid hHf
 clear hHc hHr hHf
 have hJ0:=es_nil w
 go_enter Tryd.func8,Tryd.ntmps8
 go_wp2_with fail
 refine (Hc.out _).mono ?_
 rintro zz W1 ⟨rfl,hB⟩
 have hJ1:=hJ0.later hB
 clear hB hJ0
 go_wp2_with fail
 refine (Hr.out _).mono ?_
 rintro zz W2 ⟨rfl,hB⟩
 have hJ2:=hJ1.later hB
 clear hB hJ1
 go_wp2_with fail
 refine (Hf.out _).mono ?_
 rintro zz W3 ⟨rfl,hB⟩
 have hJ3:=hJ2.later hB
 clear hB hJ2
 go_wp2
 go_ret
 exact ⟨rfl,hJ3.below⟩
set_option maxRecDepth 100000 in
set_option maxHeartbeats 12800000 in
theorem slope_line1 (r k a b v:Int) (hHc:∀ W:World,Calls Tryd.prog 15 #[.int .i64 r,.int .i64 k] W (PVal (.tuple #[.int .i64 a,.int .i64 b]) W)) (hHr:∀ W:World,Calls Tryd.prog 16 #[.int .i64 a,.int .i64 b] W (PVal (.agg #[.func (.func 46) #[] #[],.func (.func 47) #[] #[],.func (.func 48) #[] #[],.func (.func 49) #[] #[]]) W)) (hHf:∀ W:World,Calls Tryd.prog 47 #[.int .i64 a,.int .i64 b] W (PVal (.int .i64 v) W)) (w:World) (d:decide (r < 0)=true) (v1:0≤v) (v2:v≤2147483647) :Calls Tryd.prog 8 #[.int .i64 r,.int .i64 k] w (PVal (.int .i64 (-v)) w):=by
 have Hc:=Lib.hid hHc
 have Hr:=Lib.hid hHr
 have Hf:=Lib.hid hHf
 clear hHc hHr hHf
 have hJ0:=es_nil w
 go_enter Tryd.func8,Tryd.ntmps8
 go_wp2_with fail
 refine (Hc.out _).mono ?_
 rintro zz W1 ⟨rfl,hB⟩
 have hJ1:=hJ0.later hB
 clear hB hJ0
 go_wp2_with fail
 refine (Hr.out _).mono ?_
 rintro zz W2 ⟨rfl,hB⟩
 have hJ2:=hJ1.later hB
 clear hB hJ1
 go_wp2_with fail
 refine (Hf.out _).mono ?_
 rintro zz W3 ⟨rfl,hB⟩
 have hJ3:=hJ2.later hB
 clear hB hJ2
 go_wp2
 go_ret
 exact ⟨rfl,hJ3.below⟩
set_option maxRecDepth 100000 in
set_option maxHeartbeats 12800000 in
theorem weight_line (r k a b n d:Int) (hHc:∀ W:World,Calls Tryd.prog 15 #[.int .i64 r,.int .i64 k] W (PVal (.tuple #[.int .i64 a,.int .i64 b]) W)) (hHr:∀ W:World,Calls Tryd.prog 16 #[.int .i64 a,.int .i64 b] W (PVal (.agg #[.func (.func 46) #[] #[],.func (.func 47) #[] #[],.func (.func 48) #[] #[],.func (.func 49) #[] #[]]) W)) (hHf:∀ W:World,Calls Tryd.prog 48 #[.int .i64 a,.int .i64 b] W (PVal (.tuple #[.int .i64 n,.int .i64 d]) W)) (w:World)  :Calls Tryd.prog 9 #[.int .i64 r,.int .i64 k] w (PVal (.tuple #[.int .i64 n,.int .i64 d]) w):=by
 have Hc:=Lib.hid hHc
 have Hr:=Lib.hid hHr
 have Hf:=Lib.hid hHf
 clear hHc hHr hHf
 have hJ0:=es_nil w
 go_enter Tryd.func9,Tryd.ntmps9
 go_wp2_with fail
 refine (Hc.out _).mono ?_
 rintro zz W1 ⟨rfl,hB⟩
 have hJ1:=hJ0.later hB
 clear hB hJ0
 go_wp2_with fail
 refine (Hr.out _).mono ?_
 rintro zz W2 ⟨rfl,hB⟩
 have hJ2:=hJ1.later hB
 clear hB hJ1
 go_wp2_with fail
 refine (Hf.out _).mono ?_
 rintro zz W3 ⟨rfl,hB⟩
 have hJ3:=hJ2.later hB
 clear hB hJ2
 go_wp2
 exact bodyPost_ret (v:=.tuple #[.int .i64 n,.int .i64 d]) (by simp [results,Tryd.results9,go_sem]) rfl ⟨rfl,hJ3.below⟩
/-- A residual's cost with a knee, half of how steep it is, its weight, what the parabola is at 0. -/
def rho (r k:Int):Int:=rhA (aC r) (kC k)
def slp (r k:Int):Int:=if r < 0 then -slA (aC r) (kC k) else slA (aC r) (kC k)
def wN (r k:Int):Int:=if aC r≤kC k then 1 else kC k
def wD (r k:Int):Int:=if aC r≤kC k then 1 else aC r
def lft (r k:Int):Int:=if aC r≤kC k then 0 else aC r*(kC k*aC r - kC k*kC k)
theorem sq1 {a:Int} (k:Int) (h:0≤a∧a≤2147483647) (w:World):Calls Tryd.prog 42 #[.int .i64 a,.int .i64 k] w (PVal (.int .i64 (a*a)) w) :=
 sq1_w a k w (by have:=mul_up h.1 h.1 h.2 h.2; omega)
theorem ln1 {a k:Int} (h:0≤a∧a≤2147483647) (hk:0≤k∧k≤2147483647) (w:World):Calls Tryd.prog 46 #[.int .i64 a,.int .i64 k] w (PVal (.int .i64 (2*k*a - k*k)) w):=by
 have h1:=mul_up (show 0≤2*k by omega) h.1 (show 2*k≤4294967294 by omega) h.2
 have h2:=mul_up hk.1 hk.1 hk.2 hk.2
 exact ln1_w a k w (by omega) (by omega) (by omega) (by omega)
theorem rho_any (r k:Int) (w:World):Calls Tryd.prog 6 #[.int .i64 r,.int .i64 k] w (PVal (.int .i64 (rho r k)) w):=by
 by_cases h:aC r≤kC k
 ·
  have e:rho r k=aC r*aC r:=if_pos h
  rw [e]
  exact rho_square r k _ _ _ (hcut_any r k) (fun W=>hrule_sq _ _ W (decide_eq_true h)) (sq1 _ (aC_bd r)) w
 ·
  have e:rho r k=2*kC k*aC r - kC k*kC k:=if_neg h
  rw [e]
  exact rho_line r k _ _ _ (hcut_any r k) (fun W=>hrule_ln _ _ W (decide_eq_false h)) (ln1 (aC_bd r) (kC_bd k)) w
theorem slope_any (r k:Int) (w:World):Calls Tryd.prog 8 #[.int .i64 r,.int .i64 k] w (PVal (.int .i64 (slp r k)) w):=by
 have ha:=aC_bd r
 have hk:=kC_bd k
 unfold slp slA
 by_cases h:aC r≤kC k <;> by_cases hr:r < 0
 ·
  rw [if_pos hr,if_pos h]
  exact slope_square1 r k _ _ _ (hcut_any r k) (fun W=>hrule_sq _ _ W (decide_eq_true h)) (sq2 _ _) w (decide_eq_true hr) ha.1 ha.2
 ·
  rw [if_neg hr,if_pos h]
  exact slope_square0 r k _ _ _ (hcut_any r k) (fun W=>hrule_sq _ _ W (decide_eq_true h)) (sq2 _ _) w (decide_eq_false hr)
 ·
  rw [if_pos hr,if_neg h]
  exact slope_line1 r k _ _ _ (hcut_any r k) (fun W=>hrule_ln _ _ W (decide_eq_false h)) (ln2 _ _) w (decide_eq_true hr) hk.1 hk.2
 ·
  rw [if_neg hr,if_neg h]
  exact slope_line0 r k _ _ _ (hcut_any r k) (fun W=>hrule_ln _ _ W (decide_eq_false h)) (ln2 _ _) w (decide_eq_false hr)
theorem weight_any (r k:Int) (w:World):Calls Tryd.prog 9 #[.int .i64 r,.int .i64 k] w (PVal (.tuple #[.int .i64 (wN r k),.int .i64 (wD r k)]) w):=by
 unfold wN wD
 by_cases h:aC r≤kC k
 ·
  rw [if_pos h,if_pos h]
  exact weight_square r k _ _ _ _ (hcut_any r k) (fun W=>hrule_sq _ _ W (decide_eq_true h)) (sq3 _ _) w
 ·
  rw [if_neg h,if_neg h]
  exact weight_line r k _ _ _ _ (hcut_any r k) (fun W=>hrule_ln _ _ W (decide_eq_false h)) (ln3 _ _) w
set_option maxRecDepth 100000 in
set_option maxHeartbeats 12800000 in
theorem hnear0 (n:Int)  (w:World) (d:decide (-32768≤n)=false) :Calls Tryd.prog 27 #[.int .i64 n] w (PVal (.bool false) w):=by
 have hJ0:=es_nil w
 go_enter Tryd.func27,Tryd.ntmps27
 go_wp2
 go_ret
 exact ⟨rfl,hJ0.below⟩
set_option maxRecDepth 100000 in
set_option maxHeartbeats 12800000 in
theorem hnear1 (n:Int)  (w:World) (d:decide (-32768≤n)=true) (e:decide (n≤32768)=false) :Calls Tryd.prog 27 #[.int .i64 n] w (PVal (.bool false) w):=by
 have hJ0:=es_nil w
 go_enter Tryd.func27,Tryd.ntmps27
 go_wp2
 go_ret
 exact ⟨rfl,hJ0.below⟩
set_option maxRecDepth 100000 in
set_option maxHeartbeats 12800000 in
theorem hnear2 (n:Int)  (w:World) (d:decide (-32768≤n)=true) (e:decide (n≤32768)=true) :Calls Tryd.prog 27 #[.int .i64 n] w (PVal (.bool true) w):=by
 have hJ0:=es_nil w
 go_enter Tryd.func27,Tryd.ntmps27
 go_wp2
 go_ret
 exact ⟨rfl,hJ0.below⟩
/-- Does Bound take n? -/
def nearB (n:Int):Bool:=decide (-32768≤n) && decide (n≤32768)
theorem near_any (n:Int) (w:World):Calls Tryd.prog 27 #[.int .i64 n] w (PVal (.bool (nearB n)) w):=by
 unfold nearB
 by_cases d:-32768≤n
 ·
  by_cases e:n≤32768
  ·
   rw [decide_eq_true d,decide_eq_true e]
   exact hnear2 n w (decide_eq_true d) (decide_eq_true e)
  ·
   rw [decide_eq_true d,decide_eq_false e]
   exact hnear1 n w (decide_eq_true d) (decide_eq_false e)
 ·
  rw [decide_eq_false d]
  exact hnear0 n w (decide_eq_false d)
theorem near_of {n:Int} (h:nearB n=true):-32768≤n∧n≤32768:=by unfold nearB at h; simpa using h
set_option maxRecDepth 100000 in
set_option maxHeartbeats 12800000 in
theorem bound_w0 (r c k:Int) (hNr:∀ W:World,Calls Tryd.prog 27 #[.int .i64 r] W (PVal (.bool false) W)) (w:World)  :Calls Tryd.prog 13 #[.int .i64 r,.int .i64 c,.int .i64 k] w (PVal (.tuple #[.int .i64 0,.int .i64 0,.int .i64 90]) w):=by
 have Nr:=Lib.hid hNr
 clear hNr
 have hJ0:=es_nil w
 go_enter Tryd.func13,Tryd.ntmps13
 go_wp2_with fail
 refine (Nr.out _).mono ?_
 rintro zz W1 ⟨rfl,hB⟩
 have hJ1:=hJ0.later hB
 clear hB hJ0
 go_wp2
 exact bodyPost_ret (v:=.tuple #[.int .i64 0,.int .i64 0,.int .i64 90]) (by simp [results,Tryd.results13,go_sem]) rfl ⟨rfl,hJ1.below⟩
set_option maxRecDepth 100000 in
set_option maxHeartbeats 12800000 in
theorem bound_w1 (r c k:Int) (hNr:∀ W:World,Calls Tryd.prog 27 #[.int .i64 r] W (PVal (.bool true) W)) (hNc:∀ W:World,Calls Tryd.prog 27 #[.int .i64 c] W (PVal (.bool false) W)) (w:World)  :Calls Tryd.prog 13 #[.int .i64 r,.int .i64 c,.int .i64 k] w (PVal (.tuple #[.int .i64 0,.int .i64 0,.int .i64 90]) w):=by
 have Nr:=Lib.hid hNr
 have Nc:=Lib.hid hNc
 clear hNr hNc
 have hJ0:=es_nil w
 go_enter Tryd.func13,Tryd.ntmps13
 go_wp2_with fail
 refine (Nr.out _).mono ?_
 rintro zz W1 ⟨rfl,hB⟩
 have hJ1:=hJ0.later hB
 clear hB hJ0
 go_wp2_with fail
 refine (Nc.out _).mono ?_
 rintro zz W2 ⟨rfl,hB⟩
 have hJ2:=hJ1.later hB
 clear hB hJ1
 go_wp2
 exact bodyPost_ret (v:=.tuple #[.int .i64 0,.int .i64 0,.int .i64 90]) (by simp [results,Tryd.results13,go_sem]) rfl ⟨rfl,hJ2.below⟩
set_option maxRecDepth 100000 in
set_option maxHeartbeats 12800000 in
theorem bound_w2 (r c k:Int) (hNr:∀ W:World,Calls Tryd.prog 27 #[.int .i64 r] W (PVal (.bool true) W)) (hNc:∀ W:World,Calls Tryd.prog 27 #[.int .i64 c] W (PVal (.bool true) W)) (hNk:∀ W:World,Calls Tryd.prog 27 #[.int .i64 k] W (PVal (.bool false) W)) (w:World)  :Calls Tryd.prog 13 #[.int .i64 r,.int .i64 c,.int .i64 k] w (PVal (.tuple #[.int .i64 0,.int .i64 0,.int .i64 90]) w):=by
 have Nr:=Lib.hid hNr
 have Nc:=Lib.hid hNc
 have Nk:=Lib.hid hNk
 clear hNr hNc hNk
 have hJ0:=es_nil w
 go_enter Tryd.func13,Tryd.ntmps13
 go_wp2_with fail
 refine (Nr.out _).mono ?_
 rintro zz W1 ⟨rfl,hB⟩
 have hJ1:=hJ0.later hB
 clear hB hJ0
 go_wp2_with fail
 refine (Nc.out _).mono ?_
 rintro zz W2 ⟨rfl,hB⟩
 have hJ2:=hJ1.later hB
 clear hB hJ1
 go_wp2_with fail
 refine (Nk.out _).mono ?_
 rintro zz W3 ⟨rfl,hB⟩
 have hJ3:=hJ2.later hB
 clear hB hJ2
 go_wp2
 exact bodyPost_ret (v:=.tuple #[.int .i64 0,.int .i64 0,.int .i64 90]) (by simp [results,Tryd.results13,go_sem]) rfl ⟨rfl,hJ3.below⟩
set_option maxRecDepth 100000 in
set_option maxHeartbeats 12800000 in
theorem bound_w3 (r c k:Int) (hNr:∀ W:World,Calls Tryd.prog 27 #[.int .i64 r] W (PVal (.bool true) W)) (hNc:∀ W:World,Calls Tryd.prog 27 #[.int .i64 c] W (PVal (.bool true) W)) (hNk:∀ W:World,Calls Tryd.prog 27 #[.int .i64 k] W (PVal (.bool true) W)) (w:World) (d:decide (k < 0)=true) :Calls Tryd.prog 13 #[.int .i64 r,.int .i64 c,.int .i64 k] w (PVal (.tuple #[.int .i64 0,.int .i64 0,.int .i64 90]) w):=by
 have Nr:=Lib.hid hNr
 have Nc:=Lib.hid hNc
 have Nk:=Lib.hid hNk
 clear hNr hNc hNk
 have hJ0:=es_nil w
 go_enter Tryd.func13,Tryd.ntmps13
 go_wp2_with fail
 refine (Nr.out _).mono ?_
 rintro zz W1 ⟨rfl,hB⟩
 have hJ1:=hJ0.later hB
 clear hB hJ0
 go_wp2_with fail
 refine (Nc.out _).mono ?_
 rintro zz W2 ⟨rfl,hB⟩
 have hJ2:=hJ1.later hB
 clear hB hJ1
 go_wp2_with fail
 refine (Nk.out _).mono ?_
 rintro zz W3 ⟨rfl,hB⟩
 have hJ3:=hJ2.later hB
 clear hB hJ2
 go_wp2
 exact bodyPost_ret (v:=.tuple #[.int .i64 0,.int .i64 0,.int .i64 90]) (by simp [results,Tryd.results13,go_sem]) rfl ⟨rfl,hJ3.below⟩
set_option maxRecDepth 100000 in
set_option maxHeartbeats 12800000 in
theorem bound_square (r c k a b n d l:Int) (hNr:∀ W:World,Calls Tryd.prog 27 #[.int .i64 r] W (PVal (.bool true) W)) (hNc:∀ W:World,Calls Tryd.prog 27 #[.int .i64 c] W (PVal (.bool true) W)) (hNk:∀ W:World,Calls Tryd.prog 27 #[.int .i64 k] W (PVal (.bool true) W)) (hHc:∀ W:World,Calls Tryd.prog 15 #[.int .i64 c,.int .i64 k] W (PVal (.tuple #[.int .i64 a,.int .i64 b]) W)) (hHr:∀ W:World,Calls Tryd.prog 16 #[.int .i64 a,.int .i64 b] W (PVal (.agg #[.func (.func 42) #[] #[],.func (.func 43) #[] #[],.func (.func 44) #[] #[],.func (.func 45) #[] #[]]) W)) (hHf:∀ W:World,Calls Tryd.prog 44 #[.int .i64 a,.int .i64 b] W (PVal (.tuple #[.int .i64 n,.int .i64 d]) W)) (hHg:∀ W:World,Calls Tryd.prog 45 #[.int .i64 a,.int .i64 b] W (PVal (.int .i64 l) W)) (w:World) (dk:decide (k < 0)=false) (hQ1:-9223372036854775808≤n*r∧n*r≤9223372036854775807) (hQ2:-9223372036854775808≤n*r*r∧n*r*r≤9223372036854775807) (hQ3:-9223372036854775808≤n*r*r+l∧n*r*r+l≤9223372036854775807):Calls Tryd.prog 13 #[.int .i64 r,.int .i64 c,.int .i64 k] w (PVal (.tuple #[.int .i64 (((n*r)*r)+l),.int .i64 d,.int .i64 0]) w):=by
 have Nr:=Lib.hid hNr
 have Nc:=Lib.hid hNc
 have Nk:=Lib.hid hNk
 have Hc:=Lib.hid hHc
 have Hr:=Lib.hid hHr
 have Hf:=Lib.hid hHf
 have Hg:=Lib.hid hHg
 clear hNr hNc hNk hHc hHr hHf hHg
 have Q1:=Lib.hid hQ1
 have Q2:=Lib.hid hQ2
 have Q3:=Lib.hid hQ3
 clear hQ1 hQ2 hQ3
 have hJ0:=es_nil w
 go_enter Tryd.func13,Tryd.ntmps13
 go_wp2_with fail
 refine (Nr.out _).mono ?_
 rintro zz W1 ⟨rfl,hB⟩
 have hJ1:=hJ0.later hB
 clear hB hJ0
 go_wp2_with fail
 refine (Nc.out _).mono ?_
 rintro zz W2 ⟨rfl,hB⟩
 have hJ2:=hJ1.later hB
 clear hB hJ1
 go_wp2_with fail
 refine (Nk.out _).mono ?_
 rintro zz W3 ⟨rfl,hB⟩
 have hJ3:=hJ2.later hB
 clear hB hJ2
 go_wp2_with fail
 refine (Hc.out _).mono ?_
 rintro zz W4 ⟨rfl,hB⟩
 have hJ4:=hJ3.later hB
 clear hB hJ3
 go_wp2_with fail
 refine (Hr.out _).mono ?_
 rintro zz W5 ⟨rfl,hB⟩
 have hJ5:=hJ4.later hB
 clear hB hJ4
 go_wp2_with (refine stop_alloc 41 #[.nilFunc,.nilFunc,.nilFunc,.nilFunc] (.agg #[.nilFunc,.nilFunc,.nilFunc,.nilFunc]) rfl rfl zv41 rfl hJ5 (fun bk1 W6 hJ6=>?_))
 clear hJ5
 simp only [Stop,Act.put,zzC,zzD,zzE]
 go_wp2_with (refine stop_store 41 (.tmp 11) (.tmp 37) 0 bk1 0 #[.nilFunc,.nilFunc,.nilFunc,.nilFunc] 41 4 #[.func (.func 42) #[] #[],.func (.func 43) #[] #[],.func (.func 44) #[] #[],.func (.func 45) #[] #[]].toList #[.func (.func 42) #[] #[],.func (.func 43) #[] #[],.func (.func 44) #[] #[],.func (.func 45) #[] #[]] [(bk1,#[.func (.func 42) #[] #[],.func (.func 43) #[] #[],.func (.func 44) #[] #[],.func (.func 45) #[] #[]],41)] rfl rfl rfl rfl sz41 hJ6 rfl (by kernel_rfl) (zzF (by kernel_rfl)) (by kernel_rfl) (by kernel_rfl) (by kernel_rfl) (fun W7 hJ7=>?_))
 clear hJ6
 simp only [Stop,Act.put,zzC,zzD,zzE]
 go_wp2_with (refine zso rfl (fun K hK=>wp_load1 (v:=.func (.func 44) #[] #[]) 30 (.tmp 39) rfl bk1 2 #[.func (.func 42) #[] #[],.func (.func 43) #[] #[],.func (.func 44) #[] #[],.func (.func 45) #[] #[]] 41 (hJ7.at' _ (zzG (i:=0) rfl)) rfl ag30 (by kernel_rfl) (hK _ _ ?_)))
 simp only [Stop,Act.put,zzC,zzD,zzE]
 go_wp2_with fail
 refine (Hf.out _).mono ?_
 rintro zz W8 ⟨rfl,hB⟩
 have hJ8:=hJ7.later hB
 clear hB hJ7
 have qQ1:=Q1.out
 have qQ2:=Q2.out
 go_wp2_with (refine zso rfl (fun K hK=>wp_load1 (v:=.func (.func 45) #[] #[]) 27 (.tmp 51) rfl bk1 3 #[.func (.func 42) #[] #[],.func (.func 43) #[] #[],.func (.func 44) #[] #[],.func (.func 45) #[] #[]] 41 (hJ8.at' _ (zzG (i:=0) rfl)) rfl ag27 (by kernel_rfl) (hK _ _ ?_)))
 clear qQ1 qQ2
 simp only [Stop,Act.put,zzC,zzD,zzE]
 go_wp2_with fail
 refine (Hg.out _).mono ?_
 rintro zz W9 ⟨rfl,hB⟩
 have hJ9:=hJ8.later hB
 clear hB hJ8
 have qQ3:=Q3.out
 go_wp2
 exact bodyPost_ret (v:=.tuple #[.int .i64 (((n*r)*r)+l),.int .i64 d,.int .i64 0]) (by simp [results,Tryd.results13,go_sem,qQ3]) rfl ⟨rfl,hJ9.below⟩
set_option maxRecDepth 100000 in
set_option maxHeartbeats 12800000 in
theorem bound_line (r c k a b n d l:Int) (hNr:∀ W:World,Calls Tryd.prog 27 #[.int .i64 r] W (PVal (.bool true) W)) (hNc:∀ W:World,Calls Tryd.prog 27 #[.int .i64 c] W (PVal (.bool true) W)) (hNk:∀ W:World,Calls Tryd.prog 27 #[.int .i64 k] W (PVal (.bool true) W)) (hHc:∀ W:World,Calls Tryd.prog 15 #[.int .i64 c,.int .i64 k] W (PVal (.tuple #[.int .i64 a,.int .i64 b]) W)) (hHr:∀ W:World,Calls Tryd.prog 16 #[.int .i64 a,.int .i64 b] W (PVal (.agg #[.func (.func 46) #[] #[],.func (.func 47) #[] #[],.func (.func 48) #[] #[],.func (.func 49) #[] #[]]) W)) (hHf:∀ W:World,Calls Tryd.prog 48 #[.int .i64 a,.int .i64 b] W (PVal (.tuple #[.int .i64 n,.int .i64 d]) W)) (hHg:∀ W:World,Calls Tryd.prog 49 #[.int .i64 a,.int .i64 b] W (PVal (.int .i64 l) W)) (w:World) (dk:decide (k < 0)=false) (hQ1:-9223372036854775808≤n*r∧n*r≤9223372036854775807) (hQ2:-9223372036854775808≤n*r*r∧n*r*r≤9223372036854775807) (hQ3:-9223372036854775808≤n*r*r+l∧n*r*r+l≤9223372036854775807):Calls Tryd.prog 13 #[.int .i64 r,.int .i64 c,.int .i64 k] w (PVal (.tuple #[.int .i64 (((n*r)*r)+l),.int .i64 d,.int .i64 0]) w):=by
 have Nr:=Lib.hid hNr
 have Nc:=Lib.hid hNc
 have Nk:=Lib.hid hNk
 have Hc:=Lib.hid hHc
 have Hr:=Lib.hid hHr
 have Hf:=Lib.hid hHf
 have Hg:=Lib.hid hHg
 clear hNr hNc hNk hHc hHr hHf hHg
 have Q1:=Lib.hid hQ1
 have Q2:=Lib.hid hQ2
 have Q3:=Lib.hid hQ3
 clear hQ1 hQ2 hQ3
 have hJ0:=es_nil w
 go_enter Tryd.func13,Tryd.ntmps13
 go_wp2_with fail
 refine (Nr.out _).mono ?_
 rintro zz W1 ⟨rfl,hB⟩
 have hJ1:=hJ0.later hB
 clear hB hJ0
 go_wp2_with fail
 refine (Nc.out _).mono ?_
 rintro zz W2 ⟨rfl,hB⟩
 have hJ2:=hJ1.later hB
 clear hB hJ1
 go_wp2_with fail
 refine (Nk.out _).mono ?_
 rintro zz W3 ⟨rfl,hB⟩
 have hJ3:=hJ2.later hB
 clear hB hJ2
 go_wp2_with fail
 refine (Hc.out _).mono ?_
 rintro zz W4 ⟨rfl,hB⟩
 have hJ4:=hJ3.later hB
 clear hB hJ3
 go_wp2_with fail
 refine (Hr.out _).mono ?_
 rintro zz W5 ⟨rfl,hB⟩
 have hJ5:=hJ4.later hB
 clear hB hJ4
 go_wp2_with (refine stop_alloc 41 #[.nilFunc,.nilFunc,.nilFunc,.nilFunc] (.agg #[.nilFunc,.nilFunc,.nilFunc,.nilFunc]) rfl rfl zv41 rfl hJ5 (fun bk1 W6 hJ6=>?_))
 clear hJ5
 simp only [Stop,Act.put,zzC,zzD,zzE]
 go_wp2_with (refine stop_store 41 (.tmp 11) (.tmp 37) 0 bk1 0 #[.nilFunc,.nilFunc,.nilFunc,.nilFunc] 41 4 #[.func (.func 46) #[] #[],.func (.func 47) #[] #[],.func (.func 48) #[] #[],.func (.func 49) #[] #[]].toList #[.func (.func 46) #[] #[],.func (.func 47) #[] #[],.func (.func 48) #[] #[],.func (.func 49) #[] #[]] [(bk1,#[.func (.func 46) #[] #[],.func (.func 47) #[] #[],.func (.func 48) #[] #[],.func (.func 49) #[] #[]],41)] rfl rfl rfl rfl sz41 hJ6 rfl (by kernel_rfl) (zzF (by kernel_rfl)) (by kernel_rfl) (by kernel_rfl) (by kernel_rfl) (fun W7 hJ7=>?_))
 clear hJ6
 simp only [Stop,Act.put,zzC,zzD,zzE]
 go_wp2_with (refine zso rfl (fun K hK=>wp_load1 (v:=.func (.func 48) #[] #[]) 30 (.tmp 39) rfl bk1 2 #[.func (.func 46) #[] #[],.func (.func 47) #[] #[],.func (.func 48) #[] #[],.func (.func 49) #[] #[]] 41 (hJ7.at' _ (zzG (i:=0) rfl)) rfl ag30 (by kernel_rfl) (hK _ _ ?_)))
 simp only [Stop,Act.put,zzC,zzD,zzE]
 go_wp2_with fail
 refine (Hf.out _).mono ?_
 rintro zz W8 ⟨rfl,hB⟩
 have hJ8:=hJ7.later hB
 clear hB hJ7
 have qQ1:=Q1.out
 have qQ2:=Q2.out
 go_wp2_with (refine zso rfl (fun K hK=>wp_load1 (v:=.func (.func 49) #[] #[]) 27 (.tmp 51) rfl bk1 3 #[.func (.func 46) #[] #[],.func (.func 47) #[] #[],.func (.func 48) #[] #[],.func (.func 49) #[] #[]] 41 (hJ8.at' _ (zzG (i:=0) rfl)) rfl ag27 (by kernel_rfl) (hK _ _ ?_)))
 clear qQ1 qQ2
 simp only [Stop,Act.put,zzC,zzD,zzE]
 go_wp2_with fail
 refine (Hg.out _).mono ?_
 rintro zz W9 ⟨rfl,hB⟩
 have hJ9:=hJ8.later hB
 clear hB hJ8
 have qQ3:=Q3.out
 go_wp2
 exact bodyPost_ret (v:=.tuple #[.int .i64 (((n*r)*r)+l),.int .i64 d,.int .i64 0]) (by simp [results,Tryd.results13,go_sem,qQ3]) rfl ⟨rfl,hJ9.below⟩
/-- What Bound tells. -/
def wideB (r c k:Int):Bool:=!(nearB r && nearB c && nearB k) || decide (k < 0)
def bN (r c k:Int):Int:=if wideB r c k then 0 else wN c k*r*r+lft c k
def bD (r c k:Int):Int:=if wideB r c k then 0 else wD c k
def bE (r c k:Int):Int:=if wideB r c k then 90 else 0
theorem aC_in {c:Int} (h:-32768≤c∧c≤32768):aC c=(if c < 0 then -c else c)∧0≤aC c∧aC c≤32768:=by unfold aC cC; split <;> omega
theorem kC_in {k:Int} (h0:0≤k) (h:k≤32768):kC k=k:=by unfold kC; omega
theorem sq_near {r:Int} (h:-32768≤r∧r≤32768):0≤r*r∧r*r≤1073741824:=by
 refine ⟨hsq_nonneg r,?_⟩
 have:=mul_nn (show 0≤32768 - r by omega) (show 0≤32768+r by omega)
 grind
theorem nrr {n r:Int} (hn:0≤n∧n≤32768) (h:-32768≤r∧r≤32768):(-1073741824≤n*r∧n*r≤1073741824)∧0≤n*r*r∧n*r*r≤35184372088832:=by
 have h1:=Int.mul_le_mul_of_nonneg_left h.2 hn.1
 have h2:=Int.mul_le_mul_of_nonneg_left h.1 hn.1
 have h3:=mul_up hn.1 (sq_near h).1 hn.2 (sq_near h).2
 rw [Int.mul_assoc n r r]
 omega
theorem lft_in {a k:Int} (ha:0≤a∧a≤32768) (hk:0≤k∧k≤32768) (h:k < a):(0≤k*a∧k*a≤1073741824)∧(0≤k*k∧k*k≤1073741824)∧0≤k*a - k*k∧0≤a*(k*a - k*k)∧a*(k*a - k*k)≤35184372088832:=by
 have h1:=mul_up hk.1 ha.1 hk.2 ha.2
 have h2:=mul_up hk.1 hk.1 hk.2 hk.2
 have h3:=mul_nn hk.1 (show 0≤a - k by omega)
 rw [Int.mul_sub] at h3
 have h4:=mul_up ha.1 h3 ha.2 (show k*a - k*k≤1073741824 by omega)
 exact ⟨by omega,by omega,h3,by omega⟩
theorem hbound_any (r c k:Int) (w:World):Calls Tryd.prog 13 #[.int .i64 r,.int .i64 c,.int .i64 k] w (PVal (.tuple #[.int .i64 (bN r c k),.int .i64 (bD r c k),.int .i64 (bE r c k)]) w):=by
 have nr:=near_any r
 have nc:=near_any c
 have nk:=near_any k
 unfold bN bD bE wideB
 cases h1:nearB r
 ·
  rw [h1] at nr
  exact bound_w0 r c k nr w
 cases h2:nearB c
 ·
  rw [h1] at nr
  rw [h2] at nc
  exact bound_w1 r c k nr nc w
 cases h3:nearB k
 ·
  rw [h1] at nr
  rw [h2] at nc
  rw [h3] at nk
  exact bound_w2 r c k nr nc nk w
 rw [h1] at nr
 rw [h2] at nc
 rw [h3] at nk
 by_cases h4:k < 0
 ·
  rw [decide_eq_true h4]
  exact bound_w3 r c k nr nc nk w (decide_eq_true h4)
 ·
  rw [decide_eq_false h4]
  have r1:=near_of h1
  have c1:=aC_in (near_of h2)
  have k1:=kC_in (by omega) (near_of h3).2
  have k2:=(near_of h3).2
  show Calls Tryd.prog 13 #[.int .i64 r,.int .i64 c,.int .i64 k] w (PVal (.tuple #[.int .i64 (wN c k*r*r+lft c k),.int .i64 (wD c k),.int .i64 0]) w)
  unfold wN wD lft
  by_cases h:aC c≤kC k
  ·
   rw [if_pos h,if_pos h,if_pos h]
   have hq:=nrr (n:=1) (by omega) r1
   exact bound_square r c k _ _ _ _ _ nr nc nk (hcut_any c k) (fun W=>hrule_sq _ _ W (decide_eq_true h)) (sq3 _ _) (sq4 _ _) w (decide_eq_false h4) (by omega) (by omega) (by omega)
  ·
   rw [if_neg h,if_neg h,if_neg h]
   have hq:=nrr (n:=kC k) (by omega) r1
   have hl:=lft_in (a:=aC c) (k:=kC k) c1.2 (by omega) (by omega)
   exact bound_line r c k _ _ _ _ _ nr nc nk (hcut_any c k) (fun W=>hrule_ln _ _ W (decide_eq_false h)) (ln3 _ _) (fun W=>ln4_w _ _ W (by omega) (by omega) (by omega) (by omega)) w (decide_eq_false h4) (by omega) (by omega) (by omega)
theorem rho_at {r k v:Int} (h:rho r k=v) (w:World):Calls Tryd.prog 6 #[.int .i64 r,.int .i64 k] w (PVal (.int .i64 v) w):=h ▸ rho_any r k w
theorem slope_at {r k v:Int} (h:slp r k=v) (w:World):Calls Tryd.prog 8 #[.int .i64 r,.int .i64 k] w (PVal (.int .i64 v) w):=h ▸ slope_any r k w
theorem weight_at {r k n d:Int} (h:wN r k=n∧wD r k=d) (w:World):Calls Tryd.prog 9 #[.int .i64 r,.int .i64 k] w (PVal (.tuple #[.int .i64 n,.int .i64 d]) w):=by
 rw [← h.1,← h.2]
 exact weight_any r k w
theorem hbound_at {r c k n d e:Int} (h:bN r c k=n∧bD r c k=d∧bE r c k=e) (w:World):Calls Tryd.prog 13 #[.int .i64 r,.int .i64 c,.int .i64 k] w (PVal (.tuple #[.int .i64 n,.int .i64 d,.int .i64 e]) w):=by
 rw [← h.1,← h.2.1,← h.2.2]
 exact hbound_any r c k w
set_option maxRecDepth 100000 in
set_option maxHeartbeats 12800000 in
theorem hawake_any   (w:World)  :Calls Tryd.prog 4 #[] w (PVal (.bool true) w):=by
 have hJ0:=es_nil w
 go_enter Tryd.func4,Tryd.ntmps4
 go_wp2_with fail
 refine (rho_at (v:=9) (by decide) w).mono ?_
 rintro zz W1 ⟨rfl,hB⟩
 have hJ1:=hJ0.later hB
 clear hB hJ0
 go_wp2_with fail
 refine (rho_at (v:=45) (by decide) W1).mono ?_
 rintro zz W2 ⟨rfl,hB⟩
 have hJ2:=hJ1.later hB
 clear hB hJ1
 go_wp2_with fail
 refine (rho_at (v:=0) (by decide) W2).mono ?_
 rintro zz W3 ⟨rfl,hB⟩
 have hJ3:=hJ2.later hB
 clear hB hJ2
 go_wp2_with fail
 refine (slope_at (v:=3) (by decide) W3).mono ?_
 rintro zz W4 ⟨rfl,hB⟩
 have hJ4:=hJ3.later hB
 clear hB hJ3
 go_wp2_with fail
 refine (slope_at (v:=-5) (by decide) W4).mono ?_
 rintro zz W5 ⟨rfl,hB⟩
 have hJ5:=hJ4.later hB
 clear hB hJ4
 go_wp2_with fail
 refine (weight_at (n:=5) (d:=7) (by decide) W5).mono ?_
 rintro zz W6 ⟨rfl,hB⟩
 have hJ6:=hJ5.later hB
 clear hB hJ5
 go_wp2_with fail
 refine (hbound_at (n:=90) (d:=7) (e:=0) (by decide) W6).mono ?_
 rintro zz W7 ⟨rfl,hB⟩
 have hJ7:=hJ6.later hB
 clear hB hJ6
 go_wp2
 go_ret
 exact ⟨rfl,hJ7.below⟩
end Go.Proofs.YtncbajehmdnibaaDoor
