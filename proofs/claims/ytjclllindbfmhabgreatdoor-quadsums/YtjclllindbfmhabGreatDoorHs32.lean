/- Parts of the proof. -/
import Derived.Test.YtjclllindbfmhabGreatDoorHs0
import Derived.Test.YtjclllindbfmhabGreatDoorHs30
import Derived.Test.YtjclllindbfmhabGreatDoorHs27
import Derived.Test.YtjclllindbfmhabGreatDoorHs26
import Derived.Test.YtjclllindbfmhabGreatDoorHs22
import Derived.Test.YtjclllindbfmhabGreatDoorHs21
import Derived.Test.YtjclllindbfmhabGreatDoorHs31
import Derived.Test.YtjclllindbfmhabGreatDoorHs23
import Derived.Test.YtjclllindbfmhabGreatDoorHs24
import Derived.Test.YtjclllindbfmhabGreatDoorHs28
set_option linter.unusedSimpArgs false
set_option linter.unusedVariables false
namespace Go.Proofs.YtjclllindbfmhabGreatDoor
/- Package quad: the walk of Of. No statement of the seat is proved here. -/
open Go Go.RowKit
/-- A function, no error. -/
def PUE (X:Nat→Prop) (n:Nat) (P:Nat→Nat→Int) (q:Nat→Int) (C:Int) (w:World) (e:Ending) (w':World):Prop:=∃ (p s:Sl) (c:NL),e=.returned (.tuple #[.agg #[p.v,s.v,.bool c.b,.slice c.a c.n c.c],.int .i64 0])∧Mt n (fun _=>n) P p X w'∧Ls n q s X w'∧c.z=C∧c.is X w'∧Below w.heap.size w w'
/-- Where a function is least, the divisor, its value. -/
def PLe (X:Nat→Prop) (n:Nat) (P:Nat→Nat→Int) (q:Nat→Int) (C:Int) (w:World) (e:Ending) (w':World):Prop:=∃ (s:Sl) (d t:NL),e=.returned (.tuple #[s.v,.agg #[.bool d.b,.slice d.a d.n d.c],.agg #[.bool t.b,.slice t.a t.n t.c],.int .i64 0])∧Ls n (crx n P q) s X w'∧d.z=M.dt n P∧d.is X w'∧t.z=topq n P q C∧t.is X w'∧Below w.heap.size w w'
set_option maxRecDepth 100000 in
set_option maxHeartbeats 12800000 in
theorem uOf1 {X0:Nat→Prop} {w:World} (hX:NX X0 w) {k:Nat} {ls:Sl} {x:Nat→Int} (bL i:Nat) (hi:i < k) (cL:Cf bL #[ls.v] 23 X0 w) (hl:Li k x ls X0 w) (hx:∀ i,i < k→-9223372036854775808≤x i∧x i≤9223372036854775807):Calls Tryz.prog 43 #[.int .i64 ((i:Nat):Int),.pointer (some ⟨bL,0,none⟩)] w (PNX X0 (x i) w):=by
 have hZ0:=zs_start hX
 have hZ1:=hZ0.more (f:=Cf bL #[ls.v] 23) (Cf.stb _ _ _) cL
 clear hZ0
 have hZ2:=hZ1.more (f:=Li k x ls) (Li.stb _ _ _) hl
 clear hZ1
 go_enter Tryz.func43,Tryz.ntmps43
 go_wp2_with (refine zsa 30 #[.bool false,.slice none 0 0] (.agg #[.bool false,.slice none 0 0]) rfl rfl zv30 rfl hZ2 (fun bk1 X3 W1 hZ3=>?_))
 clear hZ2
 simp only [Stop,Act.put,zzC,zzD,zzE]
 go_wp2_with (refine zso rfl (fun K hK=>wp_load1 (v:=ls.v) 23 (.tmp 1) rfl bL 0 #[ls.v] 23 (hZ3.get 1 (f:=Cf bL #[ls.v] 23) rfl).1 rfl ag23 (by kernel_rfl) (hK _ _ ?_)))
 simp only [Stop,Act.put,zzC,zzD,zzE]
 go_wp2_with (refine zso rfl (fun K hK=>wp_ixs 23 (.tmp 4) (.tmp 5) ls i 1 2 rfl rfl rfl (by kernel_rfl) sz2 (fun h=>((hZ3.get 0 (f:=Li k x ls) rfl).sq.nil h).1) ((hZ3.get 0 (f:=Li k x ls) rfl).n ▸ (by omega)) (hK _ _ ?_)))
 simp only [Stop,Act.put,zzC,zzD,zzE]
 go_wp2_with (refine zso rfl (fun K hK=>wp_ldi 2 (.tmp 6) ls i k x rfl rfl (hZ3.get 0 (f:=Li k x ls) rfl) (by omega) ag2 (hK _ _ ?_)))
 simp only [Stop,Act.put,zzC,zzD,zzE]
 go_wp2_with fail
 refine (zOf hZ3.nx (hx i hi).1 (hx i hi).2).mono ?_
 rintro zz W2 ⟨q1,rfl,ez_q1,hi_q1,hB⟩
 have hZ4:=hZ3.later hB
 clear hB hZ3
 have hZ5:=hZ4.more (f:=q1.is) q1.stb hi_q1
 clear hZ4 hi_q1
 go_wp2_with (refine zss 30 (.tmp 3) (.tmp 8) 0 bk1 0 #[.bool false,.slice none 0 0] 30 2 [.bool q1.b,.slice q1.a q1.n q1.c] #[.bool q1.b,.slice q1.a q1.n q1.c] [(bk1,#[.bool q1.b,.slice q1.a q1.n q1.c],30)] rfl rfl rfl rfl sz30 hZ5 rfl rfl (zzF (by kernel_rfl)) (by kernel_rfl) (by kernel_rfl) (by kernel_rfl) (fun W3 hZ6=>?_))
 clear hZ5
 simp only [Stop,Act.put,zzC,zzD,zzE]
 go_wp2
 exact bodyPost_ret (v:=q1.v) (results_cell 0 Tryz.results43 hZ6.es rfl ag30 sz30 (zzF (by kernel_rfl)) rfl (by kernel_rfl)) rfl ⟨q1,rfl,ez_q1,hZ6.out 0 (f:=q1.is) rfl,hZ6.below⟩
open Classical in
set_option maxRecDepth 100000 in
set_option maxHeartbeats 12800000 in
theorem uOfArg3 {X0:Nat→Prop} {w:World} (hX:NX X0 w) (rs ls:Sl) {m:Nat} {c:Nat→Nat} {R:Nat→Nat→Int} {x:Nat→Int} {cc:Int} (hr:Mi m c R rs X0 w) (hl:Li m x ls X0 w) (hR:∀ i j,i < m→j < c i→-9223372036854775808≤R i j∧R i j≤9223372036854775807) (ha:m≤12∧∀ k,k < m→c k=m) (hS:¬ Sym m R):Calls Tryz.prog 13 #[rs.v,ls.v,.int .i64 cc] w (PVal (.tuple #[.agg #[.slice none 0 0,.slice none 0 0,.bool false,.slice none 0 0],.int .i64 1]) w):=by
 have HS:=Lib.hid hS
 clear hS
 have hZ0:=zs_start hX
 have hZ1:=hZ0.more (f:=Li m x ls) (Li.stb _ _ _) hl
 clear hZ0
 have hZ2:=hZ1.more (f:=Mi m c R rs) (Mi.stb _ _ _ _) hr
 clear hZ1
 go_enter Tryz.func13,Tryz.ntmps13
 go_wp2_with (refine zsb 23 (.tmp 1) #[ls.v] rfl rfl rfl hZ2 (fun bk1 X3 W1 hZ3=>?_))
 clear hZ2
 simp only [Stop,Act.put,zzC,zzD,zzE]
 go_wp2_with (refine zsa 32 #[.slice none 0 0,.slice none 0 0,.bool false,.slice none 0 0] (.agg #[.slice none 0 0,.slice none 0 0,.bool false,.slice none 0 0]) rfl rfl zv32 rfl hZ3 (fun bk2 X4 W2 hZ4=>?_))
 clear hZ3
 simp only [Stop,Act.put,zzC,zzD,zzE]
 go_wp2_with fail
 refine ((lOf hZ4.nx rs (hZ4.get 0 (f:=Mi m c R rs) rfl) (fun _ hck i j hi hj=>hR i j hi (by rw [hck i hi]; exact hj))).mono (of_ok ha.1 ha.2)).mono ?_
 rintro zz W3 ⟨sa,rfl,hi_sa,hB⟩
 have hZ5:=hZ4.later hB
 clear hB hZ4
 have hZ6:=hZ5.more (f:=Mt m (fun _=>m) R sa) (Mt.stb _ _ _ _) hi_sa
 clear hZ5 hi_sa
 have hm12:m≤12:=ha.1
 go_wp2_with (refine zso rfl (fun K hK=>wp_load1 (v:=ls.v) 23 (.tmp 4) rfl bk1 0 #[ls.v] 23 (hZ6.es.at' _ (zzG (i:=1) rfl)) rfl ag23 (by kernel_rfl) (hK _ _ ?_)))
 simp only [Stop,Act.put,zzC,zzD,zzE]
 go_wp2_with (refine zso rfl (fun K hK=>wp_lenq (.tmp 20) 23 2 ls rfl (by kernel_rfl) rfl (hZ6.get 2 (f:=Li m x ls) rfl).n (hK _ _ ?_)))
 simp only [Stop,Act.put,zzC,zzD,zzE]
 go_wp2_with (refine zso rfl (fun K hK=>wp_lenq (.tmp 22) 26 27 sa rfl (by kernel_rfl) rfl (hZ6.get 0 (f:=Mt m (fun _=>m) R sa) rfl).n (hK _ _ ?_)))
 simp only [Stop,Act.put,zzC,zzD,zzE]
 go_wp2_with (refine zso rfl (fun K hK=>wp_neqi (.tmp 21) (.tmp 23) 3 3 rfl rfl rfl rfl (r:=false) (decide_eq_false (by simp)) (hK _ _ ?_)))
 simp only [Stop,Act.put,zzC,zzD,zzE]
 go_wp2_with fail
 refine ((uOwn hZ6.nx sa (by omega) (hZ6.get 0 (f:=Mt m (fun _=>m) R sa) rfl)).mono (fun _ _ h=>by rw [decide_eq_false HS.out] at h; exact h)).mono ?_
 rintro zz W4 ⟨rfl,hB⟩
 have hZ7:=hZ6.later hB
 clear hB hZ6
 go_wp2_with (refine zss 32 (.tmp 6) (.tmp 30) 0 bk2 0 #[.slice none 0 0,.slice none 0 0,.bool false,.slice none 0 0] 32 4 [.slice none 0 0,.slice none 0 0,.bool false,.slice none 0 0] #[.slice none 0 0,.slice none 0 0,.bool false,.slice none 0 0] [(bk2,#[.slice none 0 0,.slice none 0 0,.bool false,.slice none 0 0],32),(bk1,#[ls.v],23)] rfl rfl rfl rfl sz32 hZ7 rfl rfl (zzF (by kernel_rfl)) (by kernel_rfl) (by kernel_rfl) (by kernel_rfl) (fun W5 hZ8=>?_))
 clear hZ7
 simp only [Stop,Act.put,zzC,zzD,zzE]
 go_wp2
 refine bodyPost_ret (v:=.tuple #[.agg #[.slice none 0 0,.slice none 0 0,.bool false,.slice none 0 0],.int .i64 1]) (results_ct Tryz.results13 (hZ8.es.loadBox 0 rfl ag32 sz32 (zzF (by kernel_rfl)) (by kernel_rfl)) rfl rfl) rfl ?_
 exact ⟨rfl,hZ8.below⟩
open Classical in
set_option maxRecDepth 100000 in
set_option maxHeartbeats 12800000 in
theorem uOfY {X0:Nat→Prop} {w:World} (hX:NX X0 w) (rs ls:Sl) {m:Nat} {c:Nat→Nat} {R:Nat→Nat→Int} {x:Nat→Int} {cc:Int} (hr:Mi m c R rs X0 w) (hl:Li m x ls X0 w) (hR:∀ i j,i < m→j < c i→-9223372036854775808≤R i j∧R i j≤9223372036854775807) (ha:m≤12∧∀ k,k < m→c k=m) (hS:Sym m R) (hx:∀ i,i < m→-9223372036854775808≤x i∧x i≤9223372036854775807) (hcc:-9223372036854775808≤cc∧cc≤9223372036854775807):Calls Tryz.prog 13 #[rs.v,ls.v,.int .i64 cc] w (PUE X0 m R x cc w):=by
 have HS:=Lib.hid hS
 clear hS
 have hZ0:=zs_start hX
 have hZ1:=hZ0.more (f:=Li m x ls) (Li.stb _ _ _) hl
 clear hZ0
 have hZ2:=hZ1.more (f:=Mi m c R rs) (Mi.stb _ _ _ _) hr
 clear hZ1
 go_enter Tryz.func13,Tryz.ntmps13
 go_wp2_with (refine zsb 23 (.tmp 1) #[ls.v] rfl rfl rfl hZ2 (fun bk1 X3 W1 hZ3=>?_))
 clear hZ2
 simp only [Stop,Act.put,zzC,zzD,zzE]
 go_wp2_with (refine zsa 32 #[.slice none 0 0,.slice none 0 0,.bool false,.slice none 0 0] (.agg #[.slice none 0 0,.slice none 0 0,.bool false,.slice none 0 0]) rfl rfl zv32 rfl hZ3 (fun bk2 X4 W2 hZ4=>?_))
 clear hZ3
 simp only [Stop,Act.put,zzC,zzD,zzE]
 go_wp2_with fail
 refine ((lOf hZ4.nx rs (hZ4.get 0 (f:=Mi m c R rs) rfl) (fun _ hck i j hi hj=>hR i j hi (by rw [hck i hi]; exact hj))).mono (of_ok ha.1 ha.2)).mono ?_
 rintro zz W3 ⟨sa,rfl,hi_sa,hB⟩
 have hZ5:=hZ4.later hB
 clear hB hZ4
 have hZ6:=hZ5.more (f:=Mt m (fun _=>m) R sa) (Mt.stb _ _ _ _) hi_sa
 clear hZ5 hi_sa
 have hm12:m≤12:=ha.1
 go_wp2_with (refine zso rfl (fun K hK=>wp_load1 (v:=ls.v) 23 (.tmp 4) rfl bk1 0 #[ls.v] 23 (hZ6.es.at' _ (zzG (i:=1) rfl)) rfl ag23 (by kernel_rfl) (hK _ _ ?_)))
 simp only [Stop,Act.put,zzC,zzD,zzE]
 go_wp2_with (refine zso rfl (fun K hK=>wp_lenq (.tmp 20) 23 2 ls rfl (by kernel_rfl) rfl (hZ6.get 2 (f:=Li m x ls) rfl).n (hK _ _ ?_)))
 simp only [Stop,Act.put,zzC,zzD,zzE]
 go_wp2_with (refine zso rfl (fun K hK=>wp_lenq (.tmp 22) 26 27 sa rfl (by kernel_rfl) rfl (hZ6.get 0 (f:=Mt m (fun _=>m) R sa) rfl).n (hK _ _ ?_)))
 simp only [Stop,Act.put,zzC,zzD,zzE]
 go_wp2_with (refine zso rfl (fun K hK=>wp_neqi (.tmp 21) (.tmp 23) 3 3 rfl rfl rfl rfl (r:=false) (decide_eq_false (by simp)) (hK _ _ ?_)))
 simp only [Stop,Act.put,zzC,zzD,zzE]
 go_wp2_with fail
 refine ((uOwn hZ6.nx sa (by omega) (hZ6.get 0 (f:=Mt m (fun _=>m) R sa) rfl)).mono (fun _ _ h=>by rw [decide_eq_true HS.out] at h; exact h)).mono ?_
 rintro zz W4 ⟨rfl,hB⟩
 have hZ7:=hZ6.later hB
 clear hB hZ6
 have hZ8:=hZ7.perm (List.Perm.swap _ _ _)
 clear hZ7
 have hZ9:=hZ8.release hX
 clear hZ8
 go_wp2_with (refine zso rfl (fun K hK=>wp_load1 (v:=ls.v) 23 (.tmp 4) rfl bk1 0 #[ls.v] 23 (hZ9.get 0 (f:=Cf bk1 #[ls.v] 23) rfl).1 rfl ag23 (by kernel_rfl) (hK _ _ ?_)))
 simp only [Stop,Act.put,zzC,zzD,zzE]
 go_wp2_with (refine zso rfl (fun K hK=>wp_lenq (.tmp 31) 23 2 ls rfl (by kernel_rfl) rfl (hZ9.get 3 (f:=Li m x ls) rfl).n (hK _ _ ?_)))
 simp only [Stop,Act.put,zzC,zzD,zzE]
 go_wp2_with (refine zso rfl (fun K hK=>wp_mkf 43 #[.tmp 4] #[.pointer (some ⟨bk1,0,none⟩)] rfl (map1 rfl) (hK _ _ ?_)))
 simp only [Stop,Act.put,zzC,zzD,zzE]
 go_wp2_with fail
 refine (uMadeN hZ9.nx m 43 #[.pointer (some ⟨bk1,0,none⟩)] x (by omega) ⟨fun _ _=>rfl,fun i hi X' W' hx_ he hb=>(show Calls _ _ #[.int .i64 ((i:Nat):Int),.pointer (some ⟨bk1,0,none⟩)] _ _ from uOf1 hx_ bk1 i hi (Cf.stb _ _ _ _ _ _ _ he (hZ9.get 0 (f:=Cf bk1 #[ls.v] 23) rfl)) (Li.stb _ _ _ _ _ _ _ he (hZ9.get 3 (f:=Li m x ls) rfl)) hx)⟩).mono ?_
 rintro zz W5 ⟨s1,rfl,hi_s1,hB⟩
 have hZ10:=hZ9.later hB
 clear hB hZ9
 have hZ11:=hZ10.more (f:=Ls m x s1) (Ls.stb _ _ _) hi_s1
 clear hZ10 hi_s1
 go_wp2_with fail
 refine (zOf hZ11.nx hcc.1 hcc.2).mono ?_
 rintro zz W6 ⟨q2,rfl,ez_q2,hi_q2,hB⟩
 have hZ12:=hZ11.later hB
 clear hB hZ11
 have hZ13:=hZ12.more (f:=q2.is) q2.stb hi_q2
 clear hZ12 hi_q2
 go_wp2_with (refine zso rfl (fun K hK=>wp_bld (v:=.agg #[sa.v,s1.v,.bool q2.b,.slice q2.a q2.n q2.c]) 32 #[(0,.tmp 35),(1,.tmp 36),(2,.tmp 38)] rfl (bmap3 (u:=sa.v) (v:=s1.v) (t:=q2.v) rfl rfl rfl) (fun _=>by kernel_rfl) (hK _ _ ?_)))
 simp only [Stop,Act.put,zzC,zzD,zzE]
 go_wp2_with (refine zss 32 (.tmp 6) (.tmp 39) 0 bk2 0 #[.slice none 0 0,.slice none 0 0,.bool false,.slice none 0 0] 32 4 [sa.v,s1.v,.bool q2.b,.slice q2.a q2.n q2.c] #[sa.v,s1.v,.bool q2.b,.slice q2.a q2.n q2.c] [(bk2,#[sa.v,s1.v,.bool q2.b,.slice q2.a q2.n q2.c],32)] rfl rfl rfl rfl sz32 hZ13 rfl rfl (zzF (by kernel_rfl)) (by kernel_rfl) (by kernel_rfl) (by kernel_rfl) (fun W7 hZ14=>?_))
 clear hZ13
 simp only [Stop,Act.put,zzC,zzD,zzE]
 go_wp2
 refine bodyPost_ret (v:=.tuple #[.agg #[sa.v,s1.v,.bool q2.b,.slice q2.a q2.n q2.c],.int .i64 0]) (results_ct Tryz.results13 (hZ14.es.loadBox 0 rfl ag32 sz32 (zzF (by kernel_rfl)) (by kernel_rfl)) rfl rfl) rfl ?_
 exact ⟨sa,s1,q2,rfl,(hZ14.out 3 (f:=Mt m (fun _=>m) R sa) rfl),(hZ14.out 1 (f:=Ls m x s1) rfl),ez_q2,hZ14.out 0 (f:=q2.is) rfl,hZ14.below⟩
set_option maxRecDepth 100000 in
set_option maxHeartbeats 12800000 in
theorem uValue {X0:Nat→Prop} {w:World} (hX:NX X0 w) (p s:Sl) (c:NL) {n e:Nat} {P:Nat→Nat→Int} {q:Nat→Int} {C:Int} {x:Nat→Int} (xs:Sl) (hp:Mt n (fun _=>n) P p X0 w) (hq:Ls n q s X0 w) (hc:c.is X0 w) (ez_c:c.z=C) (hxs:Ls n x xs X0 w) (bP:∀ i j,i < n→j < n→Sz e (P i j)) (bq:∀ i,i < n→Sz e (q i)) (bC:Sz e C) (bx:∀ i,i < n→Sz e (x i)) (hn:n≤100) (he:e≤100000):Calls Tryz.prog 10 #[.agg #[p.v,s.v,.bool c.b,.slice c.a c.n c.c],xs.v] w (PNX X0 (Vq n P q C x) w):=by
 have hZ0:=zs_start hX
 have hZ1:=hZ0.more (f:=c.is) c.stb hc
 clear hZ0
 have hZ2:=hZ1.more (f:=Ls n q s) (Ls.stb _ _ _) hq
 clear hZ1
 have hZ3:=hZ2.more (f:=Mt n (fun _=>n) P p) (Mt.stb _ _ _ _) hp
 clear hZ2
 have hZ4:=hZ3.more (f:=Ls n x xs) (Ls.stb _ _ _) hxs
 clear hZ3
 go_enter Tryz.func10,Tryz.ntmps10
 go_wp2_with (refine zsb 32 (.tmp 0) #[p.v,s.v,.bool c.b,.slice c.a c.n c.c] rfl rfl rfl hZ4 (fun bk1 X5 W1 hZ5=>?_))
 clear hZ4
 simp only [Stop,Act.put,zzC,zzD,zzE]
 go_wp2_with (refine zsa 30 #[.bool false,.slice none 0 0] (.agg #[.bool false,.slice none 0 0]) rfl rfl zv30 rfl hZ5 (fun bk2 X6 W2 hZ6=>?_))
 clear hZ5
 simp only [Stop,Act.put,zzC,zzD,zzE]
 go_wp2_with (refine zso rfl (fun K hK=>wp_fda (v:=.pointer (some ⟨bk1,1,none⟩)) 32 (.tmp 2) 1 rfl rfl (fun _=>by kernel_rfl) (hK _ _ ?_)))
 simp only [Stop,Act.put,zzC,zzD,zzE]
 go_wp2_with (refine zso rfl (fun K hK=>wp_load1 (v:=s.v) 27 (.tmp 6) rfl bk1 1 #[p.v,s.v,.bool c.b,.slice c.a c.n c.c] 32 (hZ6.es.at' _ (zzG (i:=1) rfl)) rfl ag27 (by kernel_rfl) (hK _ _ ?_)))
 simp only [Stop,Act.put,zzC,zzD,zzE]
 go_wp2_with fail
 refine ((show Calls _ _ #[s.v,xs.v] _ (PNX _ (M.sm n (fun t=>q t*x t)) _) from uInner hZ6.nx s xs (e:=e+e) (hZ6.get 2 (f:=Ls n q s) rfl) (hZ6.get 0 (f:=Ls n x xs) rfl) (by omega) (fun (tq:Nat) htq=>(bq tq htq).mono (Nat.le_add_right _ _)) (fun (tq:Nat) htq=>(bx tq (by omega)).mono (Nat.le_add_left _ _)) (by omega) (by omega))).mono ?_
 rintro zz W3 ⟨q1,rfl,ez_q1,hi_q1,hB⟩
 have hZ7:=hZ6.later hB
 clear hB hZ6
 have hZ8:=hZ7.more (f:=q1.is) q1.stb hi_q1
 clear hZ7 hi_q1
 go_wp2_with (refine zsa 30 #[.bool false,.slice none 0 0] (.agg #[.bool false,.slice none 0 0]) rfl rfl zv30 rfl hZ8 (fun bk3 X9 W4 hZ9=>?_))
 clear hZ8
 simp only [Stop,Act.put,zzC,zzD,zzE]
 go_wp2_with (refine zss 30 (.tmp 5) (.tmp 9) 0 bk3 0 #[.bool false,.slice none 0 0] 30 2 [.bool q1.b,.slice q1.a q1.n q1.c] #[.bool q1.b,.slice q1.a q1.n q1.c] [(bk3,#[.bool q1.b,.slice q1.a q1.n q1.c],30),(bk2,#[.bool false,.slice none 0 0],30),(bk1,#[p.v,s.v,.bool c.b,.slice c.a c.n c.c],32)] rfl rfl rfl rfl sz30 hZ9 rfl rfl (zzF (by kernel_rfl)) (by kernel_rfl) (by kernel_rfl) (by kernel_rfl) (fun W5 hZ10=>?_))
 clear hZ9
 simp only [Stop,Act.put,zzC,zzD,zzE]
 go_wp2
 obtain ⟨XR2,hZ11⟩:∃ Xr,Zs w W5 X0 Xr [(bk3,#[.bool q1.b,.slice q1.a q1.n q1.c],30),(bk2,#[.bool false,.slice none 0 0],30),(bk1,#[p.v,s.v,.bool c.b,.slice c.a c.n c.c],32)] [q1.is,Ls n x xs,Mt n (fun _=>n) P p,Ls n q s,c.is]:=⟨_,hZ10⟩
 clear hZ10
 refine zrp 11 [some 10,some 11,some 12,some 13,some 14,some 15,some 16,some 17,some 18,some 19,some 20] [veq (.pointer (some ⟨bk1,0,none⟩)),veq (p.v),veq (xs.v),vnum (Qf n P x),veq (q1.v),vnum ((Qf n P x) - (M.sm n (fun t=>q t*x t))),veq (q1.v),vnum (((Qf n P x) - (M.sm n (fun t=>q t*x t))) - (M.sm n (fun t=>q t*x t))),veq (.pointer (some ⟨bk1,2,none⟩)),veq (c.v),vnum ((((Qf n P x) - (M.sm n (fun t=>q t*x t))) - (M.sm n (fun t=>q t*x t)))+C)] (by kernel_rfl) (by kernel_rfl) (by rfl) (by decide) (by rfl) hZ11 ?_ ?_
 ·
  intro iq hlq hiq LL uu ww aa hLi hLc hJ hd hall hev hin hold
  clear hZ11
  obtain rfl | rfl | rfl | rfl | rfl | rfl | rfl | rfl | rfl | rfl | rfl:iq=0∨iq=1∨iq=2∨iq=3∨iq=4∨iq=5∨iq=6∨iq=7∨iq=8∨iq=9∨iq=10:=by omega
  ·
   exact oz rfl (fun _ hK=>wp_fda (v:=.pointer (some ⟨bk1,0,none⟩)) 32 (.tmp 2) 0 rfl (zet ((hev 2 (by decide)).trans rfl)) (fun _=>by kernel_rfl) (hK _ _ hJ rfl vsm))
  ·
   exact oz rfl (fun _ hK=>wp_load1 (v:=p.v) 26 (.tmp 10) rfl bk1 0 #[p.v,s.v,.bool c.b,.slice c.a c.n c.c] 32 (hJ.es.at' _ (zzG (i:=2) rfl)) (zj (hin 0 10 rfl) (show uu 0=.pointer (some ⟨bk1,0,none⟩) from (hd 0 (by kernel_rfl)))) ag26 (by kernel_rfl) (hK _ _ hJ rfl vsm))
  ·
   exact oz rfl (fun _ hK=>wp_move (.tmp 1) rfl (zet ((hev 1 (by decide)).trans rfl)) (hK _ _ hJ rfl vsm))
  ·
   refine oz rfl (fun _ hK=>zcz (.func 34) #[.tmp 11,.tmp 12] #[26,27] 34 #[] #[p.v,xs.v] _ rfl rfl (map2 (zj (hin 1 11 rfl) (show uu 1=p.v from (hd 1 (by kernel_rfl)))) (zj (hin 2 12 rfl) (show uu 2=xs.v from (hd 2 (by kernel_rfl))))) rfl (fun _ _=>rfl) (lQuad hJ.nx p xs (e:=e+e) (hJ.get 2 (f:=Mt n (fun _=>n) P p) rfl) (hJ.get 1 (f:=Ls n x xs) rfl) (fun i k hi hk=>(bP i k hi hk).mono (Nat.le_add_right _ _)) (fun k hk=>(bx k hk).mono (Nat.le_add_left _ _)) (by omega) (by omega)) ?_)
   rintro zz ww2 ⟨q2,rfl,ez_q2,hi_q2,hB⟩
   exact ⟨_,rfl,hK _ _ (hJ.later hB) ⟨q2,rfl,ez_q2,hi_q2⟩ (vlat hB)⟩
  ·
   exact oz rfl (fun _ hK=>wp_load 30 (.tmp 5) rfl bk3 0 2 #[.bool q1.b,.slice q1.a q1.n q1.c] #[.bool q1.b,.slice q1.a q1.n q1.c] 30 (hJ.es.at' _ (zzG (i:=0) rfl)) (zet ((hev 5 (by decide)).trans rfl)) ag30 sz30 (zzF (by kernel_rfl)) (by kernel_rfl) (hK _ _ hJ rfl vsm))
  ·
   obtain ⟨q2,e3,ez_q2,hi_q2⟩:=(show (vnum (Qf n P x)) (uu 3) XR2 ww from (hd 3 (by kernel_rfl)))
   replace hJ:=hJ.more (f:=q2.is) q2.stb hi_q2
   refine oz rfl (fun _ hK=>zcz (.func 35) #[.tmp 13,.tmp 14] #[30,30] 35 #[] #[q2.v,q1.v] _ rfl rfl (map2 (zj (hin 3 13 rfl) e3) (zj (hin 4 14 rfl) (show uu 4=q1.v from (hd 4 (by kernel_rfl))))) rfl (fun _ _=>rfl) (zSub hJ.nx (hJ.get 0 (f:=q2.is) rfl) (hJ.get 1 (f:=q1.is) rfl) ez_q2 ez_q1 (show Sz (e+(e+e+n)+n) (Qf n P x) from sm_sz (fun (i:Nat) (hi:i < n)=>Sz.mul (bx i hi) (sm_sz (fun (t:Nat) (ht:t < n)=>Sz.mul (bP i t hi ht) (bx t ht))))) (sm_sz (fun (tq:Nat) htq=>Sz.mul (bq tq htq) (bx tq (by omega)))) (by omega) (by omega)) ?_)
   rintro zz ww2 ⟨q3,rfl,ez_q3,hi_q3,hB⟩
   exact ⟨_,rfl,hK _ _ ((hJ.only [q1.is,Ls n x xs,Mt n (fun _=>n) P p,Ls n q s,c.is] (by simp)).later hB) ⟨q3,rfl,ez_q3,hi_q3⟩ (vlat hB)⟩
  ·
   exact oz rfl (fun _ hK=>wp_load 30 (.tmp 5) rfl bk3 0 2 #[.bool q1.b,.slice q1.a q1.n q1.c] #[.bool q1.b,.slice q1.a q1.n q1.c] 30 (hJ.es.at' _ (zzG (i:=0) rfl)) (zet ((hev 5 (by decide)).trans rfl)) ag30 sz30 (zzF (by kernel_rfl)) (by kernel_rfl) (hK _ _ hJ rfl vsm))
  ·
   obtain ⟨q3,e5,ez_q3,hi_q3⟩:=(show (vnum ((Qf n P x) - (M.sm n (fun t=>q t*x t)))) (uu 5) XR2 ww from (hd 5 (by kernel_rfl)))
   replace hJ:=hJ.more (f:=q3.is) q3.stb hi_q3
   refine oz rfl (fun _ hK=>zcz (.func 35) #[.tmp 15,.tmp 16] #[30,30] 35 #[] #[q3.v,q1.v] _ rfl rfl (map2 (zj (hin 5 15 rfl) e5) (zj (hin 6 16 rfl) (show uu 6=q1.v from (hd 6 (by kernel_rfl))))) rfl (fun _ _=>rfl) (zSub hJ.nx (hJ.get 0 (f:=q3.is) rfl) (hJ.get 1 (f:=q1.is) rfl) ez_q3 ez_q1 ((Sz.minus (Sz.mono (show Sz (e+(e+e+n)+n) (Qf n P x) from sm_sz (fun (i:Nat) (hi:i < n)=>Sz.mul (bx i hi) (sm_sz (fun (t:Nat) (ht:t < n)=>Sz.mul (bP i t hi ht) (bx t ht))))) (Nat.le_add_right _ (e+e+n))) (Sz.mono (sm_sz (fun (tq:Nat) htq=>Sz.mul (bq tq htq) (bx tq (by omega)))) (Nat.le_add_left _ (e+(e+e+n)+n))))) (sm_sz (fun (tq:Nat) htq=>Sz.mul (bq tq htq) (bx tq (by omega)))) (by omega) (by omega)) ?_)
   rintro zz ww2 ⟨q4,rfl,ez_q4,hi_q4,hB⟩
   exact ⟨_,rfl,hK _ _ ((hJ.only [q1.is,Ls n x xs,Mt n (fun _=>n) P p,Ls n q s,c.is] (by simp)).later hB) ⟨q4,rfl,ez_q4,hi_q4⟩ (vlat hB)⟩
  ·
   exact oz rfl (fun _ hK=>wp_fda (v:=.pointer (some ⟨bk1,2,none⟩)) 32 (.tmp 2) 2 rfl (zet ((hev 2 (by decide)).trans rfl)) (fun _=>by kernel_rfl) (hK _ _ hJ rfl vsm))
  ·
   exact oz rfl (fun _ hK=>wp_load 30 (.tmp 18) rfl bk1 2 2 #[p.v,s.v,.bool c.b,.slice c.a c.n c.c] #[.bool c.b,.slice c.a c.n c.c] 32 (hJ.es.at' _ (zzG (i:=2) rfl)) (zj (hin 8 18 rfl) (show uu 8=.pointer (some ⟨bk1,2,none⟩) from (hd 8 (by kernel_rfl)))) ag30 sz30 (zzF (by kernel_rfl)) (by kernel_rfl) (hK _ _ hJ rfl vsm))
  ·
   obtain ⟨q4,e7,ez_q4,hi_q4⟩:=(show (vnum (((Qf n P x) - (M.sm n (fun t=>q t*x t))) - (M.sm n (fun t=>q t*x t)))) (uu 7) XR2 ww from (hd 7 (by kernel_rfl)))
   replace hJ:=hJ.more (f:=q4.is) q4.stb hi_q4
   refine oz rfl (fun _ hK=>zcz (.func 11) #[.tmp 17,.tmp 19] #[30,30] 11 #[] #[q4.v,c.v] _ rfl rfl (map2 (zj (hin 7 17 rfl) e7) (zj (hin 9 19 rfl) (show uu 9=c.v from (hd 9 (by kernel_rfl))))) rfl (fun _ _=>rfl) (zAdd hJ.nx (hJ.get 0 (f:=q4.is) rfl) (hJ.get 5 (f:=c.is) rfl) ez_q4 ez_c ((Sz.minus (Sz.mono ((Sz.minus (Sz.mono (show Sz (e+(e+e+n)+n) (Qf n P x) from sm_sz (fun (i:Nat) (hi:i < n)=>Sz.mul (bx i hi) (sm_sz (fun (t:Nat) (ht:t < n)=>Sz.mul (bP i t hi ht) (bx t ht))))) (Nat.le_add_right _ (e+e+n))) (Sz.mono (sm_sz (fun (tq:Nat) htq=>Sz.mul (bq tq htq) (bx tq (by omega)))) (Nat.le_add_left _ (e+(e+e+n)+n))))) (Nat.le_add_right _ (e+e+n))) (Sz.mono (sm_sz (fun (tq:Nat) htq=>Sz.mul (bq tq htq) (bx tq (by omega)))) (Nat.le_add_left _ ((e+(e+e+n)+n)+(e+e+n)+1))))) bC (by omega) (by omega)) ?_)
   rintro zz ww2 ⟨q5,rfl,ez_q5,hi_q5,hB⟩
   exact ⟨_,rfl,hK _ _ ((hJ.only [q1.is,Ls n x xs,Mt n (fun _=>n) P p,Ls n q s,c.is] (by simp)).later hB) ⟨q5,rfl,ez_q5,hi_q5⟩ (vlat hB)⟩
 clear hZ11
 intro uu W6 hZ12 hd
 have e_0:uu 0=.pointer (some ⟨bk1,0,none⟩):=hd 0 (by decide)
 have e_1:uu 1=p.v:=hd 1 (by decide)
 have e_2:uu 2=xs.v:=hd 2 (by decide)
 obtain ⟨q2,e_3,ez_q2,hi_q2⟩:=(show (vnum (Qf n P x)) (uu 3) XR2 W6 from hd 3 (by decide))
 have e_4:uu 4=q1.v:=hd 4 (by decide)
 obtain ⟨q3,e_5,ez_q3,hi_q3⟩:=(show (vnum ((Qf n P x) - (M.sm n (fun t=>q t*x t)))) (uu 5) XR2 W6 from hd 5 (by decide))
 have e_6:uu 6=q1.v:=hd 6 (by decide)
 obtain ⟨q4,e_7,ez_q4,hi_q4⟩:=(show (vnum (((Qf n P x) - (M.sm n (fun t=>q t*x t))) - (M.sm n (fun t=>q t*x t)))) (uu 7) XR2 W6 from hd 7 (by decide))
 have e_8:uu 8=.pointer (some ⟨bk1,2,none⟩):=hd 8 (by decide)
 have e_9:uu 9=c.v:=hd 9 (by decide)
 obtain ⟨q5,e_10,ez_q5,hi_q5⟩:=(show (vnum ((((Qf n P x) - (M.sm n (fun t=>q t*x t))) - (M.sm n (fun t=>q t*x t)))+C)) (uu 10) XR2 W6 from hd 10 (by decide))
 clear hd
 simp only [layS,Act.put,zzC,zzD,zzE,Nat.zero_add,Nat.reduceAdd,List.drop_succ_cons,List.drop_zero,List.drop_nil,e_0,e_1,e_2,e_3,e_4,e_5,e_6,e_7,e_8,e_9,e_10]
 clear e_0 e_1 e_2 e_3 e_4 e_5 e_6 e_7 e_8 e_9 e_10
 have hZ13:=hZ12.more (f:=q2.is) q2.stb hi_q2
 clear hZ12 hi_q2
 have hZ14:=hZ13.more (f:=q3.is) q3.stb hi_q3
 clear hZ13 hi_q3
 have hZ15:=hZ14.more (f:=q4.is) q4.stb hi_q4
 clear hZ14 hi_q4
 have hZ16:=hZ15.more (f:=q5.is) q5.stb hi_q5
 clear hZ15 hi_q5
 go_wp2_with (refine zss 30 (.tmp 4) (.tmp 20) 1 bk2 0 #[.bool false,.slice none 0 0] 30 2 [.bool q5.b,.slice q5.a q5.n q5.c] #[.bool q5.b,.slice q5.a q5.n q5.c] [(bk3,#[.bool q1.b,.slice q1.a q1.n q1.c],30),(bk2,#[.bool q5.b,.slice q5.a q5.n q5.c],30),(bk1,#[p.v,s.v,.bool c.b,.slice c.a c.n c.c],32)] rfl rfl rfl rfl sz30 hZ16 rfl rfl (zzF (by kernel_rfl)) (by kernel_rfl) (by kernel_rfl) (by kernel_rfl) (fun W7 hZ17=>?_))
 clear hZ16
 simp only [Stop,Act.put,zzC,zzD,zzE]
 go_wp2
 exact bodyPost_ret (v:=q5.v) (results_cell 1 Tryz.results10 hZ17.es rfl ag30 sz30 (zzF (by kernel_rfl)) rfl (by kernel_rfl)) rfl ⟨q5,rfl,ez_q5.trans (by unfold Vq; omega),hZ17.out 0 (f:=q5.is) rfl,hZ17.below⟩
set_option maxRecDepth 100000 in
set_option maxHeartbeats 12800000 in
theorem uSlope1 {X0:Nat→Prop} {w:World} (hX:NX X0 w) {p s bs:Sl} {c:NL} {n e f:Nat} {q y:Nat→Int} (bB bF i:Nat) (hi:i < n) (cB:Cf bB #[bs.v] 27 X0 w) (cF:Cf bF #[p.v,s.v,.bool c.b,.slice c.a c.n c.c] 32 X0 w) (hbs:Ls n y bs X0 w) (hq:Ls n q s X0 w) (bq:∀ i,i < n→Sz e (q i)) (by_:∀ i,i < n→Sz f (y i)) (he:e≤1000000) (hf:f≤1000000):Calls Tryz.prog 49 #[.int .i64 ((i:Nat):Int),.pointer (some ⟨bB,0,none⟩),.pointer (some ⟨bF,0,none⟩)] w (PNX X0 (y i - q i) w):=by
 have hZ0:=zs_start hX
 have hZ1:=hZ0.more (f:=Cf bB #[bs.v] 27) (Cf.stb _ _ _) cB
 clear hZ0
 have hZ2:=hZ1.more (f:=Cf bF #[p.v,s.v,.bool c.b,.slice c.a c.n c.c] 32) (Cf.stb _ _ _) cF
 clear hZ1
 have hZ3:=hZ2.more (f:=Ls n y bs) (Ls.stb _ _ _) hbs
 clear hZ2
 have hZ4:=hZ3.more (f:=Ls n q s) (Ls.stb _ _ _) hq
 clear hZ3
 go_enter Tryz.func49,Tryz.ntmps49
 go_wp2_with (refine zsa 30 #[.bool false,.slice none 0 0] (.agg #[.bool false,.slice none 0 0]) rfl rfl zv30 rfl hZ4 (fun bk1 X5 W1 hZ5=>?_))
 clear hZ4
 simp only [Stop,Act.put,zzC,zzD,zzE]
 go_wp2
 obtain ⟨XR1,hZ6⟩:∃ Xr,Zs w W1 X0 Xr [(bk1,#[.bool false,.slice none 0 0],30)] [Ls n q s,Ls n y bs,Cf bF #[p.v,s.v,.bool c.b,.slice c.a c.n c.c] 32,Cf bB #[bs.v] 27]:=⟨_,hZ5⟩
 clear hZ5
 refine zrp 9 [some 5,some 6,some 7,some 8,some 9,some 10,some 11,some 12,some 13] [veq (bs.v),veq (.int .i64 (((i:Nat):Int))),veq ((bs.at 2 i)),vnum (y i),veq (.pointer (some ⟨bF,1,none⟩)),veq (s.v),veq (.int .i64 (((i:Nat):Int))),veq ((s.at 2 i)),vnum (q i)] (by kernel_rfl) (by kernel_rfl) (by rfl) (by decide) (by rfl) hZ6 ?_ ?_
 ·
  intro iq hlq hiq LL uu ww aa hLi hLc hJ hd hall hev hin hold
  clear hZ6
  obtain rfl | rfl | rfl | rfl | rfl | rfl | rfl | rfl | rfl:iq=0∨iq=1∨iq=2∨iq=3∨iq=4∨iq=5∨iq=6∨iq=7∨iq=8:=by omega
  ·
   exact oz rfl (fun _ hK=>wp_load1 (v:=bs.v) 27 (.tmp 1) rfl bB 0 #[bs.v] 27 (hJ.get 3 (f:=Cf bB #[bs.v] 27) rfl).1 (zet ((hev 1 (by decide)).trans rfl)) ag27 (by kernel_rfl) (hK _ _ hJ rfl vsm))
  ·
   exact oz rfl (fun _ hK=>wp_move (.tmp 0) rfl (zet ((hev 0 (by decide)).trans rfl)) (hK _ _ hJ rfl vsm))
  ·
   exact oz rfl (fun _ hK=>wp_ixs 27 (.tmp 5) (.tmp 6) bs i 2 30 rfl (zj (hin 0 5 rfl) (show uu 0=bs.v from (hd 0 (by kernel_rfl)))) (zj (hin 1 6 rfl) (show uu 1=.int .i64 (((i:Nat):Int)) from (hd 1 (by kernel_rfl)))) (by kernel_rfl) sz30 (fun h=>((hJ.get 1 (f:=Ls n y bs) rfl).sq.nil h).1) ((hJ.get 1 (f:=Ls n y bs) rfl).n ▸ (by omega)) (hK _ _ hJ rfl vsm))
  ·
   exact oz rfl (fun _ hK=>wp_ldn 30 (.tmp 7) bs i n y rfl (zj (hin 2 7 rfl) (show uu 2=(bs.at 2 i) from (hd 2 (by kernel_rfl)))) (hJ.get 1 (f:=Ls n y bs) rfl) (by omega) ag30 sz30 (fun q1 ez_q1 hi_q1=>hK _ _ hJ ⟨q1,rfl,ez_q1,hi_q1⟩ vsm))
  ·
   exact oz rfl (fun _ hK=>wp_fda (v:=.pointer (some ⟨bF,1,none⟩)) 32 (.tmp 2) 1 rfl (zet ((hev 2 (by decide)).trans rfl)) (fun _=>by kernel_rfl) (hK _ _ hJ rfl vsm))
  ·
   exact oz rfl (fun _ hK=>wp_load1 (v:=s.v) 27 (.tmp 9) rfl bF 1 #[p.v,s.v,.bool c.b,.slice c.a c.n c.c] 32 (hJ.get 2 (f:=Cf bF #[p.v,s.v,.bool c.b,.slice c.a c.n c.c] 32) rfl).1 (zj (hin 4 9 rfl) (show uu 4=.pointer (some ⟨bF,1,none⟩) from (hd 4 (by kernel_rfl)))) ag27 (by kernel_rfl) (hK _ _ hJ rfl vsm))
  ·
   exact oz rfl (fun _ hK=>wp_move (.tmp 0) rfl (zet ((hev 0 (by decide)).trans rfl)) (hK _ _ hJ rfl vsm))
  ·
   exact oz rfl (fun _ hK=>wp_ixs 27 (.tmp 10) (.tmp 11) s i 2 30 rfl (zj (hin 5 10 rfl) (show uu 5=s.v from (hd 5 (by kernel_rfl)))) (zj (hin 6 11 rfl) (show uu 6=.int .i64 (((i:Nat):Int)) from (hd 6 (by kernel_rfl)))) (by kernel_rfl) sz30 (fun h=>((hJ.get 0 (f:=Ls n q s) rfl).sq.nil h).1) ((hJ.get 0 (f:=Ls n q s) rfl).n ▸ (by omega)) (hK _ _ hJ rfl vsm))
  ·
   exact oz rfl (fun _ hK=>wp_ldn 30 (.tmp 12) s i n q rfl (zj (hin 7 12 rfl) (show uu 7=(s.at 2 i) from (hd 7 (by kernel_rfl)))) (hJ.get 0 (f:=Ls n q s) rfl) (by omega) ag30 sz30 (fun q2 ez_q2 hi_q2=>hK _ _ hJ ⟨q2,rfl,ez_q2,hi_q2⟩ vsm))
 clear hZ6
 intro uu W2 hZ7 hd
 have e_0:uu 0=bs.v:=hd 0 (by decide)
 have e_1:uu 1=.int .i64 (((i:Nat):Int)):=hd 1 (by decide)
 have e_2:uu 2=(bs.at 2 i):=hd 2 (by decide)
 obtain ⟨q1,e_3,ez_q1,hi_q1⟩:=(show (vnum (y i)) (uu 3) XR1 W2 from hd 3 (by decide))
 have e_4:uu 4=.pointer (some ⟨bF,1,none⟩):=hd 4 (by decide)
 have e_5:uu 5=s.v:=hd 5 (by decide)
 have e_6:uu 6=.int .i64 (((i:Nat):Int)):=hd 6 (by decide)
 have e_7:uu 7=(s.at 2 i):=hd 7 (by decide)
 obtain ⟨q2,e_8,ez_q2,hi_q2⟩:=(show (vnum (q i)) (uu 8) XR1 W2 from hd 8 (by decide))
 clear hd
 simp only [layS,Act.put,zzC,zzD,zzE,Nat.zero_add,Nat.reduceAdd,List.drop_succ_cons,List.drop_zero,List.drop_nil,e_0,e_1,e_2,e_3,e_4,e_5,e_6,e_7,e_8]
 clear e_0 e_1 e_2 e_3 e_4 e_5 e_6 e_7 e_8
 have hZ8:=hZ7.more (f:=q1.is) q1.stb hi_q1
 clear hZ7 hi_q1
 have hZ9:=hZ8.more (f:=q2.is) q2.stb hi_q2
 clear hZ8 hi_q2
 go_wp2_with fail
 refine (zSub hZ9.nx (hZ9.get 1 (f:=q1.is) rfl) (hZ9.get 0 (f:=q2.is) rfl) ez_q1 ez_q2 (by_ i (by omega)) (bq i (by omega)) (by omega) (by omega)).mono ?_
 rintro zz W3 ⟨q3,rfl,ez_q3,hi_q3,hB⟩
 have hZ10:=hZ9.later hB
 clear hB hZ9
 have hZ11:=hZ10.more (f:=q3.is) q3.stb hi_q3
 clear hZ10 hi_q3
 go_wp2_with (refine zss 30 (.tmp 4) (.tmp 14) 0 bk1 0 #[.bool false,.slice none 0 0] 30 2 [.bool q3.b,.slice q3.a q3.n q3.c] #[.bool q3.b,.slice q3.a q3.n q3.c] [(bk1,#[.bool q3.b,.slice q3.a q3.n q3.c],30)] rfl rfl rfl rfl sz30 hZ11 rfl rfl (zzF (by kernel_rfl)) (by kernel_rfl) (by kernel_rfl) (by kernel_rfl) (fun W4 hZ12=>?_))
 clear hZ11
 simp only [Stop,Act.put,zzC,zzD,zzE]
 go_wp2
 exact bodyPost_ret (v:=q3.v) (results_cell 0 Tryz.results49 hZ12.es rfl ag30 sz30 (zzF (by kernel_rfl)) rfl (by kernel_rfl)) rfl ⟨q3,rfl,ez_q3,hZ12.out 0 (f:=q3.is) rfl,hZ12.below⟩
set_option maxRecDepth 100000 in
set_option maxHeartbeats 12800000 in
theorem uSlope {X0:Nat→Prop} {w:World} (hX:NX X0 w) (p s:Sl) (c:NL) {n e:Nat} {P:Nat→Nat→Int} {q:Nat→Int} {C:Int} {x:Nat→Int} (xs:Sl) (hp:Mt n (fun _=>n) P p X0 w) (hq:Ls n q s X0 w) (hc:c.is X0 w) (ez_c:c.z=C) (hxs:Ls n x xs X0 w) (bP:∀ i j,i < n→j < n→Sz e (P i j)) (bq:∀ i,i < n→Sz e (q i)) (bC:Sz e C) (bx:∀ i,i < n→Sz e (x i)) (hn:n≤100) (he:e≤100000):Calls Tryz.prog 15 #[.agg #[p.v,s.v,.bool c.b,.slice c.a c.n c.c],xs.v] w (PLX X0 n (fun i=>M.mulv n P x i - q i) w):=by
 have hZ0:=zs_start hX
 have hZ1:=hZ0.more (f:=c.is) c.stb hc
 clear hZ0
 have hZ2:=hZ1.more (f:=Ls n q s) (Ls.stb _ _ _) hq
 clear hZ1
 have hZ3:=hZ2.more (f:=Mt n (fun _=>n) P p) (Mt.stb _ _ _ _) hp
 clear hZ2
 have hZ4:=hZ3.more (f:=Ls n x xs) (Ls.stb _ _ _) hxs
 clear hZ3
 go_enter Tryz.func15,Tryz.ntmps15
 go_wp2_with (refine zsb 32 (.tmp 0) #[p.v,s.v,.bool c.b,.slice c.a c.n c.c] rfl rfl rfl hZ4 (fun bk1 X5 W1 hZ5=>?_))
 clear hZ4
 simp only [Stop,Act.put,zzC,zzD,zzE]
 go_wp2_with (refine zso rfl (fun K hK=>wp_fda (v:=.pointer (some ⟨bk1,0,none⟩)) 32 (.tmp 2) 0 rfl rfl (fun _=>by kernel_rfl) (hK _ _ ?_)))
 simp only [Stop,Act.put,zzC,zzD,zzE]
 go_wp2_with (refine zso rfl (fun K hK=>wp_load1 (v:=p.v) 26 (.tmp 6) rfl bk1 0 #[p.v,s.v,.bool c.b,.slice c.a c.n c.c] 32 (hZ5.es.at' _ (zzG (i:=0) rfl)) rfl ag26 (by kernel_rfl) (hK _ _ ?_)))
 simp only [Stop,Act.put,zzC,zzD,zzE]
 go_wp2_with fail
 refine (lApply hZ5.nx p xs (e:=e+e) (hZ5.get 1 (f:=Mt n (fun _=>n) P p) rfl) (hZ5.get 0 (f:=Ls n x xs) rfl) (fun i k hi hk=>(bP i k hi hk).mono (Nat.le_add_right _ _)) (fun k hk=>(bx k hk).mono (Nat.le_add_left _ _)) (by omega) (by omega)).mono ?_
 rintro zz W2 ⟨s2,rfl,hi_s2,hB⟩
 have hZ6:=hZ5.later hB
 clear hB hZ5
 have hZ7:=hZ6.more (f:=Ls n (M.mulv n P x) s2) (Ls.stb _ _ _) hi_s2
 clear hZ6 hi_s2
 go_wp2_with (refine zsa 27 #[.slice none 0 0] (.slice none 0 0) rfl rfl zv27 rfl hZ7 (fun bk2 X8 W3 hZ8=>?_))
 clear hZ7
 simp only [Stop,Act.put,zzC,zzD,zzE]
 go_wp2_with (refine zss 27 (.tmp 5) (.tmp 9) 0 bk2 0 #[.slice none 0 0] 27 1 [s2.v] #[s2.v] [(bk2,#[s2.v],27),(bk1,#[p.v,s.v,.bool c.b,.slice c.a c.n c.c],32)] rfl rfl rfl rfl sz27 hZ8 rfl rfl (zzF (by kernel_rfl)) (by kernel_rfl) (by kernel_rfl) (by kernel_rfl) (fun W4 hZ9=>?_))
 clear hZ8
 simp only [Stop,Act.put,zzC,zzD,zzE]
 have hZ10:=hZ9.release hX
 clear hZ9
 have hZ11:=hZ10.release hX
 clear hZ10
 go_wp2_with (refine zso rfl (fun K hK=>wp_fda (v:=.pointer (some ⟨bk1,1,none⟩)) 32 (.tmp 2) 1 rfl rfl (fun _=>by kernel_rfl) (hK _ _ ?_)))
 simp only [Stop,Act.put,zzC,zzD,zzE]
 go_wp2_with (refine zso rfl (fun K hK=>wp_load1 (v:=s.v) 27 (.tmp 10) rfl bk1 1 #[p.v,s.v,.bool c.b,.slice c.a c.n c.c] 32 (hZ11.get 0 (f:=Cf bk1 #[p.v,s.v,.bool c.b,.slice c.a c.n c.c] 32) rfl).1 rfl ag27 (by kernel_rfl) (hK _ _ ?_)))
 simp only [Stop,Act.put,zzC,zzD,zzE]
 go_wp2_with (refine zso rfl (fun K hK=>wp_lenq (.tmp 11) 27 30 s rfl (by kernel_rfl) rfl (hZ11.get 5 (f:=Ls n q s) rfl).n (hK _ _ ?_)))
 simp only [Stop,Act.put,zzC,zzD,zzE]
 go_wp2_with (refine zso rfl (fun K hK=>wp_mkf 49 #[.tmp 5,.tmp 2] #[.pointer (some ⟨bk2,0,none⟩),.pointer (some ⟨bk1,0,none⟩)] rfl (map2 rfl rfl) (hK _ _ ?_)))
 simp only [Stop,Act.put,zzC,zzD,zzE]
 go_wp2_with fail
 refine (uMadeN hZ11.nx n 49 #[.pointer (some ⟨bk2,0,none⟩),.pointer (some ⟨bk1,0,none⟩)] (fun i=>M.mulv n P x i - q i) (by omega) ⟨fun _ _=>rfl,fun i hi X' W' hx_ he_ hb=>(show Calls _ _ #[.int .i64 ((i:Nat):Int),.pointer (some ⟨bk2,0,none⟩),.pointer (some ⟨bk1,0,none⟩)] _ _ from uSlope1 hx_ bk2 bk1 i hi (Cf.stb _ _ _ _ _ _ _ he_ (hZ11.get 1 (f:=Cf bk2 #[s2.v] 27) rfl)) (Cf.stb _ _ _ _ _ _ _ he_ (hZ11.get 0 (f:=Cf bk1 #[p.v,s.v,.bool c.b,.slice c.a c.n c.c] 32) rfl)) (Ls.stb _ _ _ _ _ _ _ he_ (hZ11.get 2 (f:=Ls n (M.mulv n P x) s2) rfl)) (Ls.stb _ _ _ _ _ _ _ he_ (hZ11.get 5 (f:=Ls n q s) rfl)) bq (fun (i:Nat) (hi:i < n)=>sm_sz (fun (t:Nat) (ht:t < n)=>Sz.mul (bP i t hi ht) (bx t ht))) (by omega) (by omega))⟩).mono ?_
 rintro zz W5 ⟨s3,rfl,hi_s3,hB⟩
 have hZ12:=hZ11.later hB
 clear hB hZ11
 have hZ13:=hZ12.more (f:=Ls n (fun i=>M.mulv n P x i - q i) s3) (Ls.stb _ _ _) hi_s3
 clear hZ12 hi_s3
 go_wp2
 go_ret
 exact ⟨s3,rfl,hZ13.out 0 (f:=Ls n (fun i=>M.mulv n P x i - q i) s3) rfl,hZ13.below⟩
end Go.Proofs.YtjclllindbfmhabGreatDoor
