/- Parts of the proof. -/
import Derived.Test.YtjclllindbfmhaaGreatDoorHn0
import Derived.Test.YtjclllindbfmhaaGreatDoorHn35
import Derived.Test.YtjclllindbfmhaaGreatDoorHn34
import Derived.Test.YtjclllindbfmhaaGreatDoorHn38
namespace Go.Proofs.YtjclllindbfmhaaGreatDoor
/- Package quad: the walk of With. No statement of the seat is proved here. -/
open Go Go.RowKit
set_option maxRecDepth 100000 in
set_option maxHeartbeats 12800000 in
theorem uWith1 {X0:Nat→Prop} {w:World} (hX:NX X0 w) {n f:Nat} {ss:Sl} {y:Nat→Int} (bS i:Nat) (hi:i < n) (cS:Cf bS #[ss.v] 27 X0 w) (hss:Ls n y ss X0 w) (by_:∀ i,i < n→Sz f (y i)) (hf:f≤1000000):Calls Tryz.prog 65 #[.int .i64 ((i:Nat):Int),.pointer (some ⟨bS,0,none⟩)] w (PNX X0 (-y i) w):=by
 have hZ0:=zs_start hX
 have hZ1:=hZ0.more (f:=Cf bS #[ss.v] 27) (Cf.stb _ _ _) cS
 clear hZ0
 have hZ2:=hZ1.more (f:=Ls n y ss) (Ls.stb _ _ _) hss
 clear hZ1
 go_enter Tryz.func65,Tryz.ntmps65
 go_wp2_with (refine stopz_alloc 30 #[.bool false,.slice none 0 0] (.agg #[.bool false,.slice none 0 0]) rfl rfl zv30 rfl hZ2 (fun bk1 X3 W1 hZ3=>?_))
 clear hZ2
 simp only [Stop,Act.put,zzC,zzD,zzE]
 go_wp2_with (refine stop_op rfl (fun K hK=>wp_load1 (v:=ss.v) 27 (.tmp 1) rfl bS 0 #[ss.v] 27 (hZ3.get 1 (f:=Cf bS #[ss.v] 27) rfl).1 rfl ag27 (by kernel_rfl) (hK _ _ ?_)))
 simp only [Stop,Act.put,zzC,zzD,zzE]
 go_wp2_with (refine stop_op rfl (fun K hK=>wp_ixs 27 (.tmp 4) (.tmp 5) ss i 2 30 rfl rfl rfl (by kernel_rfl) sz30 (fun h=>((hZ3.get 0 (f:=Ls n y ss) rfl).sq.nil h).1) ((hZ3.get 0 (f:=Ls n y ss) rfl).n ▸ (by omega)) (hK _ _ ?_)))
 simp only [Stop,Act.put,zzC,zzD,zzE]
 go_wp2_with (refine stop_op rfl (fun K hK=>wp_ldn 30 (.tmp 6) ss i n y rfl rfl (hZ3.get 0 (f:=Ls n y ss) rfl) (by omega) ag30 sz30 (fun q1 ez_q1 hi_q1=>hK _ _ ?_)))
 simp only [Stop,Act.put,zzC,zzD,zzE]
 have hZ4:=hZ3.more (f:=q1.is) q1.stb hi_q1
 clear hZ3 hi_q1
 go_wp2_with fail
 refine (zNeg hZ4.nx (hZ4.get 0 (f:=q1.is) rfl) ez_q1 (by_ i (by omega)) (by omega)).mono ?_
 rintro zz W2 ⟨q2,rfl,ez_q2,hi_q2,hB⟩
 have hZ5:=hZ4.later hB
 clear hB hZ4
 have hZ6:=hZ5.more (f:=q2.is) q2.stb hi_q2
 clear hZ5 hi_q2
 go_wp2_with (refine stopz_store 30 (.tmp 3) (.tmp 8) 0 bk1 0 #[.bool false,.slice none 0 0] 30 2 [.bool q2.b,.slice q2.a q2.n q2.c] #[.bool q2.b,.slice q2.a q2.n q2.c] [(bk1,#[.bool q2.b,.slice q2.a q2.n q2.c],30)] rfl rfl rfl rfl sz30 hZ6 rfl rfl (zzF (by kernel_rfl)) (by kernel_rfl) (by kernel_rfl) (by kernel_rfl) (fun W3 hZ7=>?_))
 clear hZ6
 simp only [Stop,Act.put,zzC,zzD,zzE]
 go_wp2
 exact bodyPost_ret (v:=q2.v) (results_cell 0 Tryz.results65 hZ7.es rfl ag30 sz30 (zzF (by kernel_rfl)) rfl (by kernel_rfl)) rfl ⟨q2,rfl,ez_q2,hZ7.out 0 (f:=q2.is) rfl,hZ7.below⟩
set_option maxRecDepth 100000 in
set_option maxHeartbeats 12800000 in
theorem uWithArg {X0:Nat→Prop} {w:World} (hX:NX X0 w) (p s ys:Sl) (c:NL) {n r:Nat} {P:Nat→Nat→Int} {q y:Nat→Int} {C:Int} (hp:Mt n (fun _=>n) P p X0 w) (hq:Ls n q s X0 w) (hc:c.is X0 w) (ez_c:c.z=C) (hys:Ls r y ys X0 w) (hn:n≤1000) (hr:r≤1000) (hnr:n < r):Calls Tryz.prog 27 #[.agg #[p.v,s.v,.bool c.b,.slice c.a c.n c.c],ys.v] w (PVal (.tuple #[.agg #[.slice none 0 0,.slice none 0 0,.bool false,.slice none 0 0],.int .i64 1]) w):=by
 have hZ0:=zs_start hX
 have hZ1:=hZ0.more (f:=c.is) c.stb hc
 clear hZ0
 have hZ2:=hZ1.more (f:=Ls n q s) (Ls.stb _ _ _) hq
 clear hZ1
 have hZ3:=hZ2.more (f:=Mt n (fun _=>n) P p) (Mt.stb _ _ _ _) hp
 clear hZ2
 have hZ4:=hZ3.more (f:=Ls r y ys) (Ls.stb _ _ _) hys
 clear hZ3
 go_enter Tryz.func27,Tryz.ntmps27
 go_wp2_with (refine stopz_box 32 (.tmp 0) #[p.v,s.v,.bool c.b,.slice c.a c.n c.c] rfl rfl rfl hZ4 (fun bk1 X5 W1 hZ5=>?_))
 clear hZ4
 simp only [Stop,Act.put,zzC,zzD,zzE]
 go_wp2_with (refine stopz_alloc 32 #[.slice none 0 0,.slice none 0 0,.bool false,.slice none 0 0] (.agg #[.slice none 0 0,.slice none 0 0,.bool false,.slice none 0 0]) rfl rfl zv32 rfl hZ5 (fun bk2 X6 W2 hZ6=>?_))
 clear hZ5
 simp only [Stop,Act.put,zzC,zzD,zzE]
 go_wp2_with (refine stop_op rfl (fun K hK=>wp_fda (v:=.pointer (some ⟨bk1,1,none⟩)) 32 (.tmp 2) 1 rfl rfl (fun _=>by kernel_rfl) (hK _ _ ?_)))
 simp only [Stop,Act.put,zzC,zzD,zzE]
 go_wp2_with (refine stop_op rfl (fun K hK=>wp_load1 (v:=s.v) 27 (.tmp 9) rfl bk1 1 #[p.v,s.v,.bool c.b,.slice c.a c.n c.c] 32 (hZ6.es.at' _ (zzG (i:=1) rfl)) rfl ag27 (by kernel_rfl) (hK _ _ ?_)))
 simp only [Stop,Act.put,zzC,zzD,zzE]
 go_wp2_with (refine stop_op rfl (fun K hK=>wp_lenq (.tmp 10) 27 30 s rfl (by kernel_rfl) rfl (hZ6.get 2 (f:=Ls n q s) rfl).n (hK _ _ ?_)))
 simp only [Stop,Act.put,zzC,zzD,zzE]
 go_wp2_with (refine stop_op rfl (fun K hK=>wp_lenq (.tmp 12) 27 30 ys rfl (by kernel_rfl) rfl (hZ6.get 0 (f:=Ls r y ys) rfl).n (hK _ _ ?_)))
 simp only [Stop,Act.put,zzC,zzD,zzE]
 go_wp2_with (refine stop_op rfl (fun K hK=>wp_subi (.tmp 11) (.tmp 13) rfl rfl rfl (C:=(((n:Nat):Int) - ((r:Nat):Int))) (by omega) (by omega) (by omega) (hK _ _ ?_)))
 simp only [Stop,Act.put,zzC,zzD,zzE]
 go_wp2_with (refine stop_op rfl (fun K hK=>wp_lssi (.tmp 15) (.const (.int .i64 0)) rfl rfl rfl (r:=true) (decide_eq_true (by omega)) (hK _ _ ?_)))
 simp only [Stop,Act.put,zzC,zzD,zzE]
 go_wp2_with (refine stopz_store 32 (.tmp 4) (.tmp 17) 0 bk2 0 #[.slice none 0 0,.slice none 0 0,.bool false,.slice none 0 0] 32 4 [.slice none 0 0,.slice none 0 0,.bool false,.slice none 0 0] #[.slice none 0 0,.slice none 0 0,.bool false,.slice none 0 0] [(bk2,#[.slice none 0 0,.slice none 0 0,.bool false,.slice none 0 0],32),(bk1,#[p.v,s.v,.bool c.b,.slice c.a c.n c.c],32)] rfl rfl rfl rfl sz32 hZ6 rfl rfl (zzF (by kernel_rfl)) (by kernel_rfl) (by kernel_rfl) (by kernel_rfl) (fun W3 hZ7=>?_))
 clear hZ6
 simp only [Stop,Act.put,zzC,zzD,zzE]
 go_wp2
 refine bodyPost_ret (v:=.tuple #[.agg #[.slice none 0 0,.slice none 0 0,.bool false,.slice none 0 0],.int .i64 1]) (results_ct Tryz.results27 (hZ7.es.loadBox 0 rfl ag32 sz32 (zzF (by kernel_rfl)) (by kernel_rfl)) rfl rfl) rfl ?_
 exact ⟨rfl,hZ7.below⟩
set_option maxRecDepth 100000 in
set_option maxHeartbeats 12800000 in
theorem uWithY {X0:Nat→Prop} {w:World} (hX:NX X0 w) (p s ys:Sl) (c:NL) {k r e:Nat} {P:Nat→Nat→Int} {q y:Nat→Int} {C:Int} (hp:Mt (k+r) (fun _=>k+r) P p X0 w) (hq:Ls (k+r) q s X0 w) (hc:c.is X0 w) (ez_c:c.z=C) (hys:Ls r y ys X0 w) (bP:∀ i j,i < k+r→j < k+r→Sz e (P i j)) (bq:∀ i,i < k+r→Sz e (q i)) (bC:Sz e C) (by_:∀ i,i < r→Sz e (y i)) (hs:Sym (k+r) P) (hkr:k+r≤100) (he:e≤100000):Calls Tryz.prog 27 #[.agg #[p.v,s.v,.bool c.b,.slice c.a c.n c.c],ys.v] w (PUE X0 k P (wq k r P q y) (wc k r P q C y) w):=by
 have bx:∀ i,i < k+r→Sz e (jn k (fun _=>0) y i):=fun i hi=>by
  unfold jn
  split
  ·
   exact sz_zero _
  ·
   exact by_ _ (by omega)
 have hZ0:=zs_start hX
 have hZ1:=hZ0.more (f:=c.is) c.stb hc
 clear hZ0
 have hZ2:=hZ1.more (f:=Ls (k+r) q s) (Ls.stb _ _ _) hq
 clear hZ1
 have hZ3:=hZ2.more (f:=Mt (k+r) (fun _=>k+r) P p) (Mt.stb _ _ _ _) hp
 clear hZ2
 have hZ4:=hZ3.more (f:=Ls r y ys) (Ls.stb _ _ _) hys
 clear hZ3
 go_enter Tryz.func27,Tryz.ntmps27
 go_wp2_with (refine stopz_box 32 (.tmp 0) #[p.v,s.v,.bool c.b,.slice c.a c.n c.c] rfl rfl rfl hZ4 (fun bk1 X5 W1 hZ5=>?_))
 clear hZ4
 simp only [Stop,Act.put,zzC,zzD,zzE]
 go_wp2_with (refine stopz_alloc 32 #[.slice none 0 0,.slice none 0 0,.bool false,.slice none 0 0] (.agg #[.slice none 0 0,.slice none 0 0,.bool false,.slice none 0 0]) rfl rfl zv32 rfl hZ5 (fun bk2 X6 W2 hZ6=>?_))
 clear hZ5
 simp only [Stop,Act.put,zzC,zzD,zzE]
 go_wp2_with (refine stop_op rfl (fun K hK=>wp_fda (v:=.pointer (some ⟨bk1,1,none⟩)) 32 (.tmp 2) 1 rfl rfl (fun _=>by kernel_rfl) (hK _ _ ?_)))
 simp only [Stop,Act.put,zzC,zzD,zzE]
 go_wp2_with (refine stop_op rfl (fun K hK=>wp_load1 (v:=s.v) 27 (.tmp 9) rfl bk1 1 #[p.v,s.v,.bool c.b,.slice c.a c.n c.c] 32 (hZ6.es.at' _ (zzG (i:=1) rfl)) rfl ag27 (by kernel_rfl) (hK _ _ ?_)))
 simp only [Stop,Act.put,zzC,zzD,zzE]
 go_wp2_with (refine stop_op rfl (fun K hK=>wp_lenq (.tmp 10) 27 30 s rfl (by kernel_rfl) rfl (hZ6.get 2 (f:=Ls (k+r) q s) rfl).n (hK _ _ ?_)))
 simp only [Stop,Act.put,zzC,zzD,zzE]
 go_wp2_with (refine stop_op rfl (fun K hK=>wp_lenq (.tmp 12) 27 30 ys rfl (by kernel_rfl) rfl (hZ6.get 0 (f:=Ls r y ys) rfl).n (hK _ _ ?_)))
 simp only [Stop,Act.put,zzC,zzD,zzE]
 go_wp2_with (refine stop_op rfl (fun K hK=>wp_subi (.tmp 11) (.tmp 13) rfl rfl rfl (C:=((k:Nat):Int)) (by omega) (by omega) (by omega) (hK _ _ ?_)))
 simp only [Stop,Act.put,zzC,zzD,zzE]
 go_wp2_with (refine stop_op rfl (fun K hK=>wp_lssi (.tmp 15) (.const (.int .i64 0)) rfl rfl rfl (r:=false) (decide_eq_false (by omega)) (hK _ _ ?_)))
 simp only [Stop,Act.put,zzC,zzD,zzE]
 go_wp2_with (refine stopz_makez ei27 (.tmp 18) (.tmp 18) k rfl rfl rfl rfl (by omega) hZ6 (fun o1 C1 X7 W3 hn_o1 hw_o1 hc_o1 hZ7x=>?_))
 simp only [Stop,Act.put,zzC,zzD,zzE]
 clear hZ6
 have hZ8:Zs w W3 X0 X7 ([(bk2,#[.slice none 0 0,.slice none 0 0,.bool false,.slice none 0 0],32),(bk1,#[p.v,s.v,.bool c.b,.slice c.a c.n c.c],32)]++owl o1 C1 30) [Ls r y ys,Mt (k+r) (fun _=>k+r) P p,Ls (k+r) q s,c.is]:=hZ7x.perm List.perm_append_comm
 clear hZ7x
 have hZ9:=hZ8.more (f:=Fl 2 (EN (fun _=>0)) k C1) (Fl.stb (EN.stb _) _ _) (fl_noughts hc_o1)
 clear hZ8
 have hZ10r:=(hZ9.get 0 (f:=Fl 2 (EN (fun _=>0)) k C1) rfl)
 obtain ⟨X11,hZ11⟩:=Zs.tell (hZ9.perm List.perm_append_comm) hX hw_o1 hn_o1 hZ10r
 clear hZ9 hZ10r
 go_wp2_with fail
 refine ((uLong hZ11.nx o1 ys (hZ11.get 0 (f:=Ls k (fun _=>0) o1) rfl) (hZ11.get 2 (f:=Ls r y ys) rfl) (by omega)).mono (plong_ls hZ11.nx)).mono ?_
 rintro zz W4 ⟨s2,rfl,hi_s2,hB⟩
 have hZ13:=hZ11.later hB
 clear hB hZ11
 have hZ14:=hZ13.more (f:=Ls (k+r) (jn k (fun _=>0) y) s2) (Ls.stb _ _ _) hi_s2
 clear hZ13 hi_s2
 go_wp2_with (refine stop_op rfl (fun K hK=>wp_load 32 (.tmp 2) rfl bk1 0 4 #[p.v,s.v,.bool c.b,.slice c.a c.n c.c] #[p.v,s.v,.bool c.b,.slice c.a c.n c.c] 32 (hZ14.es.at' _ (zzG (i:=1) rfl)) rfl ag32 sz32 (zzF (by kernel_rfl)) (by kernel_rfl) (hK _ _ ?_)))
 simp only [Stop,Act.put,zzC,zzD,zzE]
 go_wp2_with fail
 refine (uSlope hZ14.nx p s c (x:=jn k (fun _=>0) y) s2 (hZ14.get 4 (f:=Mt (k+r) (fun _=>k+r) P p) rfl) (hZ14.get 5 (f:=Ls (k+r) q s) rfl) (hZ14.get 6 (f:=c.is) rfl) ez_c (hZ14.get 0 (f:=Ls (k+r) (jn k (fun _=>0) y) s2) rfl) bP bq bC bx (by omega) (by omega)).mono ?_
 rintro zz W5 ⟨s3,rfl,hi_s3,hB⟩
 have hZ15:=hZ14.later hB
 clear hB hZ14
 have hZ16:=hZ15.more (f:=Ls (k+r) (fun i=>M.mulv (k+r) P (jn k (fun _=>0) y) i - q i) s3) (Ls.stb _ _ _) hi_s3
 clear hZ15 hi_s3
 go_wp2_with (refine stopz_alloc 27 #[.slice none 0 0] (.slice none 0 0) rfl rfl zv27 rfl hZ16 (fun bk3 X17 W6 hZ17=>?_))
 clear hZ16
 simp only [Stop,Act.put,zzC,zzD,zzE]
 go_wp2_with (refine stopz_store 27 (.tmp 8) (.tmp 24) 0 bk3 0 #[.slice none 0 0] 27 1 [s3.v] #[s3.v] [(bk3,#[s3.v],27),(bk2,#[.slice none 0 0,.slice none 0 0,.bool false,.slice none 0 0],32),(bk1,#[p.v,s.v,.bool c.b,.slice c.a c.n c.c],32)] rfl rfl rfl rfl sz27 hZ17 rfl rfl (zzF (by kernel_rfl)) (by kernel_rfl) (by kernel_rfl) (by kernel_rfl) (fun W7 hZ18=>?_))
 clear hZ17
 simp only [Stop,Act.put,zzC,zzD,zzE]
 have hZ19:=hZ18.release hX
 clear hZ18
 go_wp2
 obtain ⟨XR6,hZ20⟩:∃ Xr,Zs w W7 X0 Xr [(bk2,#[.slice none 0 0,.slice none 0 0,.bool false,.slice none 0 0],32),(bk1,#[p.v,s.v,.bool c.b,.slice c.a c.n c.c],32)] [Cf bk3 #[s3.v] 27,Ls (k+r) (fun i=>M.mulv (k+r) P (jn k (fun _=>0) y) i - q i) s3,Ls (k+r) (jn k (fun _=>0) y) s2,Ls k (fun _=>0) o1,Fl 2 (EN (fun _=>0)) k C1,Ls r y ys,Mt (k+r) (fun _=>k+r) P p,Ls (k+r) q s,c.is]:=⟨_,hZ19⟩
 clear hZ19
 have hVS6:∀ kq,kq ∈ ([veq (.pointer (some ⟨bk1,0,none⟩)),veq (p.v),veq (.int .i64 (((k:Nat):Int))),vmt k (fun _=>k) P,veq (.int .i64 (((k:Nat):Int))),veq (.func (.func 65) #[] #[.pointer (some ⟨bk3,0,none⟩)]),vls k (fun i=>-(M.mulv (k+r) P (jn k (fun _=>0) y) i - q i)),veq (.agg #[p.v,s.v,.bool c.b,.slice c.a c.n c.c]),veq (s2.v),vnum (Vq (k+r) P q C (jn k (fun _=>0) y))]:List VF)→VSt kq:=by
  intro kq hkq
  simp only [List.mem_cons,List.not_mem_nil,or_false] at hkq
  rcases hkq with rfl | rfl | rfl | rfl | rfl | rfl | rfl | rfl | rfl | rfl
  ·
   exact (veq_se _).st
  ·
   exact (veq_se _).st
  ·
   exact (veq_se _).st
  ·
   exact (vmt_se _ _ _).st
  ·
   exact (veq_se _).st
  ·
   exact (veq_se _).st
  ·
   exact (vls_se _ _).st
  ·
   exact (veq_se _).st
  ·
   exact (veq_se _).st
  ·
   exact (vnum_se _).st
 refine wp_region_s 10 [some 25,some 26,some 27,some 28,some 29,some 30,some 31,some 32,some 33,some 34] [veq (.pointer (some ⟨bk1,0,none⟩)),veq (p.v),veq (.int .i64 (((k:Nat):Int))),vmt k (fun _=>k) P,veq (.int .i64 (((k:Nat):Int))),veq (.func (.func 65) #[] #[.pointer (some ⟨bk3,0,none⟩)]),vls k (fun i=>-(M.mulv (k+r) P (jn k (fun _=>0) y) i - q i)),veq (.agg #[p.v,s.v,.bool c.b,.slice c.a c.n c.c]),veq (s2.v),vnum (Vq (k+r) P q C (jn k (fun _=>0) y))] (fun _ _ X1 l1=>XR6=X1∧[(bk2,#[.slice none 0 0,.slice none 0 0,.bool false,.slice none 0 0],32),(bk1,#[p.v,s.v,.bool c.b,.slice c.a c.n c.c],32)]=l1) [Cf bk3 #[s3.v] 27,Ls (k+r) (fun i=>M.mulv (k+r) P (jn k (fun _=>0) y) i - q i) s3,Ls (k+r) (jn k (fun _=>0) y) s2,Ls k (fun _=>0) o1,Fl 2 (EN (fun _=>0)) k C1,Ls r y ys,Mt (k+r) (fun _=>k+r) P p,Ls (k+r) q s,c.is] (by kernel_rfl) (by kernel_rfl) (by rfl) (by decide) (by rfl) (fun _=>⟨XR6,_,⟨rfl,rfl⟩,hZ20.later (Below.refl _ _).drew⟩) ?_ ?_
 ·
  intro iq hlq hiq LL uu ww aa X1 l1 hLi hLc hR hJ hd hall hev hin hold
  clear hZ20
  obtain rfl | rfl | rfl | rfl | rfl | rfl | rfl | rfl | rfl | rfl:iq=0∨iq=1∨iq=2∨iq=3∨iq=4∨iq=5∨iq=6∨iq=7∨iq=8∨iq=9:=by omega
  ·
   refine opS_z hJ (fun _=>hR) ?_
   obtain ⟨eX,el⟩:=hR
   subst eX
   subst el
   exact .inr ⟨rfl,fun K' hK=>wp_fda (v:=.pointer (some ⟨bk1,0,none⟩)) 32 (.tmp 2) 0 rfl (eval_tmp ((hev 2 (by decide)).trans rfl)) (fun _=>by kernel_rfl) (hK _ _ hJ rfl vzL_same)⟩
  ·
   refine opS_z hJ (fun _=>hR) ?_
   obtain ⟨eX,el⟩:=hR
   subst eX
   subst el
   exact .inr ⟨rfl,fun K' hK=>wp_load1 (v:=p.v) 26 (.tmp 25) rfl bk1 0 #[p.v,s.v,.bool c.b,.slice c.a c.n c.c] 32 (hJ.es.at' _ (zzG (i:=1) rfl)) (eval_tmp ((hin 0 25 rfl).trans (congrArg some (show uu 0=.pointer (some ⟨bk1,0,none⟩) from (hd 0 (by decide) (by kernel_rfl)).2)))) ag26 (by kernel_rfl) (hK _ _ hJ rfl vzL_same)⟩
  ·
   refine opS_z hJ (fun _=>hR) ?_
   obtain ⟨eX,el⟩:=hR
   subst eX
   subst el
   exact .inr ⟨rfl,fun K' hK=>wp_move (.tmp 6) rfl (eval_tmp ((hev 6 (by decide)).trans rfl)) (hK _ _ hJ rfl vzL_same)⟩
  ·
   refine opS_z hJ (fun _=>hR) ?_
   obtain ⟨eX,el⟩:=hR
   subst eX
   subst el
   refine .inr ⟨rfl,fun K' hK=>?_⟩
   refine wp_callz (.func 59) #[.tmp 26,.tmp 27] #[26,3] 59 #[] #[p.v,.int .i64 (((k:Nat):Int))] _ rfl rfl (map2 (eval_tmp ((hin 1 26 rfl).trans (congrArg some (show uu 1=p.v from (hd 1 (by decide) (by kernel_rfl)).2)))) (eval_tmp ((hin 2 27 rfl).trans (congrArg some (show uu 2=.int .i64 (((k:Nat):Int)) from (hd 2 (by decide) (by kernel_rfl)).2))))) rfl (fun _ _=>rfl) (uLead hJ.nx p k (hJ.get 6 (f:=Mt (k+r) (fun _=>k+r) P p) rfl) (by omega) (by omega)) ?_
   rintro zz ww2 ⟨s4,rfl,hi_s4,hB⟩
   exact ⟨_,rfl,hK _ _ (hJ.later hB) ⟨s4,rfl,hi_s4⟩ (vzL_later hVS6 hB)⟩
  ·
   refine opS_z hJ (fun _=>hR) ?_
   obtain ⟨eX,el⟩:=hR
   subst eX
   subst el
   exact .inr ⟨rfl,fun K' hK=>wp_move (.tmp 6) rfl (eval_tmp ((hev 6 (by decide)).trans rfl)) (hK _ _ hJ rfl vzL_same)⟩
  ·
   refine opS_z hJ (fun _=>hR) ?_
   obtain ⟨eX,el⟩:=hR
   subst eX
   subst el
   exact .inr ⟨rfl,fun K' hK=>wp_mkf 65 #[.tmp 8] #[.pointer (some ⟨bk3,0,none⟩)] rfl (map1 (eval_tmp ((hev 8 (by decide)).trans rfl))) (hK _ _ hJ rfl vzL_same)⟩
  ·
   refine opS_z hJ (fun _=>hR) ?_
   obtain ⟨eX,el⟩:=hR
   subst eX
   subst el
   refine .inr ⟨rfl,fun K' hK=>?_⟩
   refine wp_callz (.func 42) #[.tmp 29,.tmp 30] #[3,81] 42 #[] #[.int .i64 (((k:Nat):Int)),.func (.func 65) #[] #[.pointer (some ⟨bk3,0,none⟩)]] _ rfl rfl (map2 (eval_tmp ((hin 4 29 rfl).trans (congrArg some (show uu 4=.int .i64 (((k:Nat):Int)) from (hd 4 (by decide) (by kernel_rfl)).2)))) (eval_tmp ((hin 5 30 rfl).trans (congrArg some (show uu 5=.func (.func 65) #[] #[.pointer (some ⟨bk3,0,none⟩)] from (hd 5 (by decide) (by kernel_rfl)).2))))) rfl (fun _ _=>rfl) (uMadeN hJ.nx k 65 #[.pointer (some ⟨bk3,0,none⟩)] (fun i=>-(M.mulv (k+r) P (jn k (fun _=>0) y) i - q i)) (by omega) ⟨fun _ _=>rfl,fun i hi X' W' hx_ he_ hb=>(show Calls _ _ #[.int .i64 ((i:Nat):Int),.pointer (some ⟨bk3,0,none⟩)] _ _ from uWith1 hx_ bk3 i (show i < k+r by omega) (Cf.stb _ _ _ _ _ _ _ he_ (hJ.get 0 (f:=Cf bk3 #[s3.v] 27) rfl)) (Ls.stb _ _ _ _ _ _ _ he_ (hJ.get 1 (f:=Ls (k+r) (fun i=>M.mulv (k+r) P (jn k (fun _=>0) y) i - q i) s3) rfl)) (fun (i:Nat) (hi:i < k+r)=>Sz.minus (e:=3*e+k+r) ((sm_sz (fun (t:Nat) (ht:t < k+r)=>Sz.mul (bP i t hi ht) (bx t ht))).mono (by omega)) ((bq i hi).mono (by omega))) (by omega))⟩) ?_
   rintro zz ww2 ⟨s5,rfl,hi_s5,hB⟩
   exact ⟨_,rfl,hK _ _ (hJ.later hB) ⟨s5,rfl,hi_s5⟩ (vzL_later hVS6 hB)⟩
  ·
   refine opS_z hJ (fun _=>hR) ?_
   obtain ⟨eX,el⟩:=hR
   subst eX
   subst el
   exact .inr ⟨rfl,fun K' hK=>wp_load 32 (.tmp 2) rfl bk1 0 4 #[p.v,s.v,.bool c.b,.slice c.a c.n c.c] #[p.v,s.v,.bool c.b,.slice c.a c.n c.c] 32 (hJ.es.at' _ (zzG (i:=1) rfl)) (eval_tmp ((hev 2 (by decide)).trans rfl)) ag32 sz32 (zzF (by kernel_rfl)) (by kernel_rfl) (hK _ _ hJ rfl vzL_same)⟩
  ·
   refine opS_z hJ (fun _=>hR) ?_
   obtain ⟨eX,el⟩:=hR
   subst eX
   subst el
   exact .inr ⟨rfl,fun K' hK=>wp_move (.tmp 7) rfl (eval_tmp ((hev 7 (by decide)).trans rfl)) (hK _ _ hJ rfl vzL_same)⟩
  ·
   refine opS_z hJ (fun _=>hR) ?_
   obtain ⟨eX,el⟩:=hR
   subst eX
   subst el
   refine .inr ⟨rfl,fun K' hK=>?_⟩
   refine wp_callz (.func 16) #[.tmp 32,.tmp 33] #[32,27] 16 #[] #[.agg #[p.v,s.v,.bool c.b,.slice c.a c.n c.c],s2.v] _ rfl rfl (map2 (eval_tmp ((hin 7 32 rfl).trans (congrArg some (show uu 7=.agg #[p.v,s.v,.bool c.b,.slice c.a c.n c.c] from (hd 7 (by decide) (by kernel_rfl)).2)))) (eval_tmp ((hin 8 33 rfl).trans (congrArg some (show uu 8=s2.v from (hd 8 (by decide) (by kernel_rfl)).2))))) rfl (fun _ _=>rfl) (uValue hJ.nx p s c (x:=jn k (fun _=>0) y) s2 (hJ.get 6 (f:=Mt (k+r) (fun _=>k+r) P p) rfl) (hJ.get 7 (f:=Ls (k+r) q s) rfl) (hJ.get 8 (f:=c.is) rfl) ez_c (hJ.get 2 (f:=Ls (k+r) (jn k (fun _=>0) y) s2) rfl) bP bq bC bx (by omega) (by omega)) ?_
   rintro zz ww2 ⟨q6,rfl,ez_q6,hi_q6,hB⟩
   exact ⟨_,rfl,hK _ _ (hJ.later hB) ⟨q6,rfl,ez_q6,hi_q6⟩ (vzL_later hVS6 hB)⟩
 clear hZ20
 intro LL uu W8 X1 l1 hLL hR hZ21 hd
 obtain ⟨eX,el⟩:=hR
 subst eX
 subst el
 have e_0:uu 0=.pointer (some ⟨bk1,0,none⟩):=hd 0 (by decide)
 have e_1:uu 1=p.v:=hd 1 (by decide)
 have e_2:uu 2=.int .i64 (((k:Nat):Int)):=hd 2 (by decide)
 obtain ⟨s4,e_3,hi_s4⟩:=(show (vmt k (fun _=>k) P) (uu 3) XR6 W8 from hd 3 (by decide))
 have e_4:uu 4=.int .i64 (((k:Nat):Int)):=hd 4 (by decide)
 have e_5:uu 5=.func (.func 65) #[] #[.pointer (some ⟨bk3,0,none⟩)]:=hd 5 (by decide)
 obtain ⟨s5,e_6,hi_s5⟩:=(show (vls k (fun i=>-(M.mulv (k+r) P (jn k (fun _=>0) y) i - q i))) (uu 6) XR6 W8 from hd 6 (by decide))
 have e_7:uu 7=.agg #[p.v,s.v,.bool c.b,.slice c.a c.n c.c]:=hd 7 (by decide)
 have e_8:uu 8=s2.v:=hd 8 (by decide)
 obtain ⟨q6,e_9,ez_q6,hi_q6⟩:=(show (vnum (Vq (k+r) P q C (jn k (fun _=>0) y))) (uu 9) XR6 W8 from hd 9 (by decide))
 clear hd hVS6
 simp only [layS,Act.put,zzC,zzD,zzE,Nat.zero_add,Nat.reduceAdd,List.drop_succ_cons,List.drop_zero,List.drop_nil,e_0,e_1,e_2,e_3,e_4,e_5,e_6,e_7,e_8,e_9]
 clear e_0 e_1 e_2 e_3 e_4 e_5 e_6 e_7 e_8 e_9
 have hZ22:=hZ21.more (f:=Mt k (fun _=>k) P s4) (Mt.stb _ _ _ _) hi_s4
 clear hZ21 hi_s4
 have hZ23:=hZ22.more (f:=Ls k (fun i=>-(M.mulv (k+r) P (jn k (fun _=>0) y) i - q i)) s5) (Ls.stb _ _ _) hi_s5
 clear hZ22 hi_s5
 have hZ24:=hZ23.more (f:=q6.is) q6.stb hi_q6
 clear hZ23 hi_q6
 go_wp2_with (refine stop_op rfl (fun K hK=>wp_bld (v:=.agg #[s4.v,s5.v,.bool q6.b,.slice q6.a q6.n q6.c]) 32 #[(0,.tmp 28),(1,.tmp 31),(2,.tmp 34)] rfl (bmap3 (u:=s4.v) (v:=s5.v) (t:=q6.v) rfl rfl rfl) (fun _=>by kernel_rfl) (hK _ _ ?_)))
 simp only [Stop,Act.put,zzC,zzD,zzE]
 go_wp2_with (refine stopz_store 32 (.tmp 4) (.tmp 35) 0 bk2 0 #[.slice none 0 0,.slice none 0 0,.bool false,.slice none 0 0] 32 4 [s4.v,s5.v,.bool q6.b,.slice q6.a q6.n q6.c] #[s4.v,s5.v,.bool q6.b,.slice q6.a q6.n q6.c] [(bk2,#[s4.v,s5.v,.bool q6.b,.slice q6.a q6.n q6.c],32),(bk1,#[p.v,s.v,.bool c.b,.slice c.a c.n c.c],32)] rfl rfl rfl rfl sz32 hZ24 rfl rfl (zzF (by kernel_rfl)) (by kernel_rfl) (by kernel_rfl) (by kernel_rfl) (fun W9 hZ25=>?_))
 clear hZ24
 simp only [Stop,Act.put,zzC,zzD,zzE]
 go_wp2
 refine bodyPost_ret (v:=.tuple #[.agg #[s4.v,s5.v,.bool q6.b,.slice q6.a q6.n q6.c],.int .i64 0]) (results_ct Tryz.results27 (hZ25.es.loadBox 0 rfl ag32 sz32 (zzF (by kernel_rfl)) (by kernel_rfl)) rfl rfl) rfl ?_
 exact ⟨s4,s5,q6,rfl,(hZ25.out 2 (f:=Mt k (fun _=>k) P s4) rfl),(hZ25.out 1 (f:=Ls k (fun i=>-(M.mulv (k+r) P (jn k (fun _=>0) y) i - q i)) s5) rfl).congr (fun i _=>with_q k r P q y i),ez_q6.trans (with_c hs q C y),(hZ25.out 0 (f:=q6.is) rfl),hZ25.below⟩
end Go.Proofs.YtjclllindbfmhaaGreatDoor
