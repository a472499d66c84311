/- Parts of the proof. -/
import Derived.Test.YtjclllindbfmhaaGreatDoorHn0
import Derived.Test.YtjclllindbfmhaaGreatDoorHn44
import Derived.Test.YtjclllindbfmhaaGreatDoorHn33
import Derived.Test.YtjclllindbfmhaaGreatDoorHn32
import Derived.Test.YtjclllindbfmhaaGreatDoorHn38
set_option linter.unusedSimpArgs false
set_option linter.unusedVariables false
namespace Go.Proofs.YtjclllindbfmhaaGreatDoor
/- The document's Without of layer 8, walked. No statement of the seat is proved here. -/
open Go Go.RowKit
theorem bmap1 {a:Act} {i:Nat} {x:Operand} {u:Value} (h1:a.eval x=u):#[(i,x)].map (fun (i,x)=>(i,a.eval x))=#[(i,u)]:=by simp [h1]
section
variable {k r i j e:Nat} {P:Nat→Nat→Int} {q:Nat→Int} {C:Int}
/-- The numbers of the function without the first ones, as they are reckoned. -/
noncomputable def gpA (k:Nat) (P:Nat→Nat→Int) (i j:Nat):Int:=M.dt k P*P (k+i) (k+j) - M.sm k (fun t=>P (k+i) t*crx k P (P (k+j)) t)
noncomputable def gqA (k:Nat) (P:Nat→Nat→Int) (q:Nat→Int) (i:Nat):Int:=M.dt k P*q (k+i) - M.sm k (fun t=>P (k+i) t*crx k P q t)
theorem gpA_lp (hs:Sym (k+r) P) (hi:i < r) (hj:j < r):gpA k P i j=lp k P i j:=by
 unfold gpA lp
 congr 1
 exact M.sm_congr fun t ht=>by rw [hs (k+i) t (by omega) (by omega),crx_congr (fun _ _ _ _=>rfl) fun u hu=>hs (k+j) u (by omega) (by omega)]
theorem gqA_lq (hs:Sym (k+r) P) (hi:i < r):gqA k P q i=lq k P q i:=by
 unfold gqA lq
 congr 1
 exact M.sm_congr fun t ht=>by rw [hs (k+i) t (by omega) (by omega)]
end
/-- What is left without the first numbers, the scale: of the document's. -/
def PWor (X:Nat→Prop) (k r:Nat) (P:Nat→Nat→Int) (q:Nat→Int) (C:Int) (w:World) (e:Ending) (w':World):Prop:=∃ (p s:Sl) (c d:NL),e=.returned (.tuple #[.agg #[p.v,s.v,.bool c.b,.slice c.a c.n c.c],.agg #[.bool d.b,.slice d.a d.n d.c],.bool true])∧Mr r (fun _=>r) (lp k P) p X w'∧Lr r (lq k P q) s X w'∧c.z=lc k P q C∧c.ir X w'∧d.z=M.dt k P∧d.ir X w'∧Below w.heap.size w w'
open Classical in
set_option maxRecDepth 100000 in
set_option maxHeartbeats 12800000 in
theorem dWoFlat8 {X0:Nat→Prop} {w:World} (hX:NX X0 w) (p s:Sl) (c:NL) {k r e:Nat} {P:Nat→Nat→Int} {q:Nat→Int} {C:Int} (hp:Mr (k+r) (fun _=>k+r) P p X0 w) (hq:Lr (k+r) q s X0 w) (hc:c.ir X0 w) (ez_c:c.z=C) (bP:∀ i j,i < k+r→j < k+r→Sz e (P i j)) (bq:∀ i,i < k+r→Sz e (q i)) (bC:Sz e C) (hk:k≤12) (hkr:k+r≤90) (he1:1≤e) (he:e≤200) (ho:¬ (Sym k P∧∀ i,i < k→0 < M.dt (i+1) P)):Calls Tryz.prog 28 #[.agg #[p.v,s.v,.bool c.b,.slice c.a c.n c.c],.int .i64 ((k:Nat):Int)] w (PVal (.tuple #[.agg #[.slice none 0 0,.slice none 0 0,.bool false,.slice none 0 0],.agg #[.bool false,.slice none 0 0],.bool false]) w):=by
 have hdb:dtb e k≤3000:=dtb_le he hk
 have HO:=Lib.hid ho
 clear ho
 have hZ0:=zs_start hX
 have hZ1:=hZ0.more (f:=c.ir) c.stbr hc
 clear hZ0
 have hZ2:=hZ1.more (f:=Lr (k+r) q s) (Lr.stb _ _ _) hq
 clear hZ1
 have hZ3:=hZ2.more (f:=Mr (k+r) (fun _=>k+r) P p) (Mr.stb _ _ _ _) hp
 clear hZ2
 go_enter Tryz.func28,Tryz.ntmps28
 go_wp2_with (refine zsb 45 (.tmp 0) #[p.v,s.v,.bool c.b,.slice c.a c.n c.c] rfl rfl rfl hZ3 (fun bk1 X4 W1 hZ4=>?_))
 clear hZ3
 simp only [Stop,Act.put,zzC,zzD,zzE]
 go_wp2_with (refine zsa 45 #[.slice none 0 0,.slice none 0 0,.bool false,.slice none 0 0] (.agg #[.slice none 0 0,.slice none 0 0,.bool false,.slice none 0 0]) rfl rfl zv45 rfl hZ4 (fun bk2 X5 W2 hZ5=>?_))
 clear hZ4
 simp only [Stop,Act.put,zzC,zzD,zzE]
 go_wp2_with (refine zsa 43 #[.bool false,.slice none 0 0] (.agg #[.bool false,.slice none 0 0]) rfl rfl zv43 rfl hZ5 (fun bk3 X6 W3 hZ6=>?_))
 clear hZ5
 simp only [Stop,Act.put,zzC,zzD,zzE]
 have hZ7:=hZ6.perm ((List.Perm.cons _ (List.Perm.swap _ _ _)).trans (List.Perm.swap _ _ _))
 clear hZ6
 have hZ8:=hZ7.release hX
 clear hZ7
 go_wp2_with (refine zso rfl (fun K hK=>wp_fda (v:=.pointer (some ⟨bk1,0,none⟩)) 45 (.tmp 2) 0 rfl rfl (fun _=>by kernel_rfl) (hK _ _ ?_)))
 simp only [Stop,Act.put,zzC,zzD,zzE]
 go_wp2_with (refine zso rfl (fun K hK=>wp_load1 (v:=p.v) 39 (.tmp 16) rfl bk1 0 #[p.v,s.v,.bool c.b,.slice c.a c.n c.c] 45 (hZ8.get 0 (f:=Cf bk1 #[p.v,s.v,.bool c.b,.slice c.a c.n c.c] 45) rfl).1 rfl ag39 (by kernel_rfl) (hK _ _ ?_)))
 simp only [Stop,Act.put,zzC,zzD,zzE]
 go_wp2_with fail
 refine (dFirst hZ8.nx p k (hZ8.get 1 (f:=Mr (k+r) (fun _=>k+r) P p) rfl) (by omega) (by omega)).mono ?_
 rintro zz W4 ⟨pg,rfl,hi_pg,hB⟩
 have hZ9:=hZ8.later hB
 clear hB hZ8
 have hZ10:=hZ9.more (f:=Mr k (fun _=>k) P pg) (Mr.stb _ _ _ _) hi_pg
 clear hZ9 hi_pg
 go_wp2_with fail
 refine ((dDefinite hZ10.nx pg (e:=e) he1 he hk (hZ10.get 0 (f:=Mr k (fun _=>k) P pg) rfl) (fun (i j:Nat) hi hj=>bP i j (by omega) (by omega))).mono (fun _ _ h=>by rw [decide_eq_false HO.out] at h; exact h)).mono ?_
 rintro zz W5 ⟨rfl,hB⟩
 have hZ11:=hZ10.later hB
 clear hB hZ10
 go_wp2_with (refine zss 45 (.tmp 4) (.tmp 24) 1 bk2 0 #[.slice none 0 0,.slice none 0 0,.bool false,.slice none 0 0] 45 4 [.slice none 0 0,.slice none 0 0,.bool false,.slice none 0 0] #[.slice none 0 0,.slice none 0 0,.bool false,.slice none 0 0] [(bk3,#[.bool false,.slice none 0 0],43),(bk2,#[.slice none 0 0,.slice none 0 0,.bool false,.slice none 0 0],45)] rfl rfl rfl rfl sz45 hZ11 rfl rfl (zzF (by kernel_rfl)) (by kernel_rfl) (by kernel_rfl) (by kernel_rfl) (fun W6 hZ12=>?_))
 clear hZ11
 simp only [Stop,Act.put,zzC,zzD,zzE]
 go_wp2_with (refine zss 43 (.tmp 5) (.tmp 25) 0 bk3 0 #[.bool false,.slice none 0 0] 43 2 [.bool false,.slice none 0 0] #[.bool false,.slice none 0 0] [(bk3,#[.bool false,.slice none 0 0],43),(bk2,#[.slice none 0 0,.slice none 0 0,.bool false,.slice none 0 0],45)] rfl rfl rfl rfl sz43 hZ12 rfl rfl (zzF (by kernel_rfl)) (by kernel_rfl) (by kernel_rfl) (by kernel_rfl) (fun W7 hZ13=>?_))
 clear hZ12
 simp only [Stop,Act.put,zzC,zzD,zzE]
 go_wp2
 refine bodyPost_ret (v:=.tuple #[.agg #[.slice none 0 0,.slice none 0 0,.bool false,.slice none 0 0],.agg #[.bool false,.slice none 0 0],.bool false]) (results_cct Tryz.results28 (hZ13.es.loadBox 1 rfl ag45 sz45 (zzF (by kernel_rfl)) (by kernel_rfl)) (hZ13.es.loadBox 0 rfl ag43 sz43 (zzF (by kernel_rfl)) (by kernel_rfl)) rfl rfl rfl) rfl ?_
 exact ⟨rfl,hZ13.below⟩
open Classical in
set_option maxRecDepth 100000 in
set_option maxHeartbeats 12800000 in
theorem dWoY8 {X0:Nat→Prop} {w:World} (hX:NX X0 w) (p s:Sl) (c:NL) {k r e:Nat} {P:Nat→Nat→Int} {q:Nat→Int} {C:Int} (hp:Mr (k+r) (fun _=>k+r) P p X0 w) (hq:Lr (k+r) q s X0 w) (hc:c.ir X0 w) (ez_c:c.z=C) (bP:∀ i j,i < k+r→j < k+r→Sz e (P i j)) (bq:∀ i,i < k+r→Sz e (q i)) (bC:Sz e C) (hs:Sym (k+r) P) (hk:k≤12) (hkr:k+r≤90) (he1:1≤e) (he:e≤200) (ho:(Sym k P∧∀ i,i < k→0 < M.dt (i+1) P)):Calls Tryz.prog 28 #[.agg #[p.v,s.v,.bool c.b,.slice c.a c.n c.c],.int .i64 ((k:Nat):Int)] w (PWor X0 k r P q C w):=by
 have hdb:dtb e k≤3000:=dtb_le he hk
 have HO:=Lib.hid ho
 clear ho
 have hZ0:=zs_start hX
 have hZ1:=hZ0.more (f:=c.ir) c.stbr hc
 clear hZ0
 have hZ2:=hZ1.more (f:=Lr (k+r) q s) (Lr.stb _ _ _) hq
 clear hZ1
 have hZ3:=hZ2.more (f:=Mr (k+r) (fun _=>k+r) P p) (Mr.stb _ _ _ _) hp
 clear hZ2
 go_enter Tryz.func28,Tryz.ntmps28
 go_wp2_with (refine zsb 45 (.tmp 0) #[p.v,s.v,.bool c.b,.slice c.a c.n c.c] rfl rfl rfl hZ3 (fun bk1 X4 W1 hZ4=>?_))
 clear hZ3
 simp only [Stop,Act.put,zzC,zzD,zzE]
 go_wp2_with (refine zsa 45 #[.slice none 0 0,.slice none 0 0,.bool false,.slice none 0 0] (.agg #[.slice none 0 0,.slice none 0 0,.bool false,.slice none 0 0]) rfl rfl zv45 rfl hZ4 (fun bk2 X5 W2 hZ5=>?_))
 clear hZ4
 simp only [Stop,Act.put,zzC,zzD,zzE]
 go_wp2_with (refine zsa 43 #[.bool false,.slice none 0 0] (.agg #[.bool false,.slice none 0 0]) rfl rfl zv43 rfl hZ5 (fun bk3 X6 W3 hZ6=>?_))
 clear hZ5
 simp only [Stop,Act.put,zzC,zzD,zzE]
 have hZ7:=hZ6.perm ((List.Perm.cons _ (List.Perm.swap _ _ _)).trans (List.Perm.swap _ _ _))
 clear hZ6
 have hZ8:=hZ7.release hX
 clear hZ7
 go_wp2_with (refine zso rfl (fun K hK=>wp_fda (v:=.pointer (some ⟨bk1,0,none⟩)) 45 (.tmp 2) 0 rfl rfl (fun _=>by kernel_rfl) (hK _ _ ?_)))
 simp only [Stop,Act.put,zzC,zzD,zzE]
 go_wp2_with (refine zso rfl (fun K hK=>wp_load1 (v:=p.v) 39 (.tmp 16) rfl bk1 0 #[p.v,s.v,.bool c.b,.slice c.a c.n c.c] 45 (hZ8.get 0 (f:=Cf bk1 #[p.v,s.v,.bool c.b,.slice c.a c.n c.c] 45) rfl).1 rfl ag39 (by kernel_rfl) (hK _ _ ?_)))
 simp only [Stop,Act.put,zzC,zzD,zzE]
 go_wp2_with fail
 refine (dFirst hZ8.nx p k (hZ8.get 1 (f:=Mr (k+r) (fun _=>k+r) P p) rfl) (by omega) (by omega)).mono ?_
 rintro zz W4 ⟨pg,rfl,hi_pg,hB⟩
 have hZ9:=hZ8.later hB
 clear hB hZ8
 have hZ10:=hZ9.more (f:=Mr k (fun _=>k) P pg) (Mr.stb _ _ _ _) hi_pg
 clear hZ9 hi_pg
 go_wp2_with fail
 refine ((dDefinite hZ10.nx pg (e:=e) he1 he hk (hZ10.get 0 (f:=Mr k (fun _=>k) P pg) rfl) (fun (i j:Nat) hi hj=>bP i j (by omega) (by omega))).mono (fun _ _ h=>by rw [decide_eq_true HO.out] at h; exact h)).mono ?_
 rintro zz W5 ⟨rfl,hB⟩
 have hZ11:=hZ10.later hB
 clear hB hZ10
 have HS:=Lib.hid hs
 clear hs
 go_wp2_with fail
 refine (dDet (e:=e) he1 he k (by omega) _ _ hZ11.nx pg _ (hZ11.get 0 (f:=Mr k (fun _=>k) P pg) rfl) (fun (i j:Nat) hi hj=>bP i j (by omega) (by omega))).mono ?_
 rintro zz W6 ⟨q1,rfl,ez_q1,hi_q1,hB⟩
 have hZ12:=hZ11.later hB
 clear hB hZ11
 have hZ13:=hZ12.more (f:=q1.ir) q1.stbr hi_q1
 clear hZ12 hi_q1
 go_wp2_with (refine zsa 43 #[.bool false,.slice none 0 0] (.agg #[.bool false,.slice none 0 0]) rfl rfl zv43 rfl hZ13 (fun bk4 X14 W7 hZ14=>?_))
 clear hZ13
 simp only [Stop,Act.put,zzC,zzD,zzE]
 go_wp2_with (refine zss 43 (.tmp 9) (.tmp 27) 0 bk4 0 #[.bool false,.slice none 0 0] 43 2 [.bool q1.b,.slice q1.a q1.n q1.c] #[.bool q1.b,.slice q1.a q1.n q1.c] [(bk4,#[.bool q1.b,.slice q1.a q1.n q1.c],43),(bk3,#[.bool false,.slice none 0 0],43),(bk2,#[.slice none 0 0,.slice none 0 0,.bool false,.slice none 0 0],45)] rfl rfl rfl rfl sz43 hZ14 rfl rfl (zzF (by kernel_rfl)) (by kernel_rfl) (by kernel_rfl) (by kernel_rfl) (fun W8 hZ15=>?_))
 clear hZ14
 simp only [Stop,Act.put,zzC,zzD,zzE]
 have hZ16:=hZ15.release hX
 clear hZ15
 go_wp2_with (refine zso rfl (fun K hK=>wp_fda (v:=.pointer (some ⟨bk1,1,none⟩)) 45 (.tmp 2) 1 rfl rfl (fun _=>by kernel_rfl) (hK _ _ ?_)))
 simp only [Stop,Act.put,zzC,zzD,zzE]
 go_wp2_with (refine zso rfl (fun K hK=>wp_load1 (v:=s.v) 40 (.tmp 29) rfl bk1 1 #[p.v,s.v,.bool c.b,.slice c.a c.n c.c] 45 (hZ16.get 3 (f:=Cf bk1 #[p.v,s.v,.bool c.b,.slice c.a c.n c.c] 45) rfl).1 rfl ag40 (by kernel_rfl) (hK _ _ ?_)))
 simp only [Stop,Act.put,zzC,zzD,zzE]
 go_wp2_with (refine zso rfl (fun K hK=>wp_slh 40 43 (.tmp 30) (.tmp 31) s k rfl rfl rfl (by kernel_rfl) sz43 (hZ16.get 5 (f:=Lr (k+r) q s) rfl) (by omega) (fun s2 hi_s2=>hK _ _ ?_)))
 simp only [Stop,Act.put,zzC,zzD,zzE]
 have hZ17:=hZ16.more (f:=Lr k q s2) (Lr.stb _ _ _) hi_s2
 clear hZ16 hi_s2
 go_wp2_with fail
 refine (dSolve hZ17.nx pg s2 (e:=e) he1 he hk (hZ17.get 3 (f:=Mr k (fun _=>k) P pg) rfl) (hZ17.get 0 (f:=Lr k q s2) rfl) (fun (i j:Nat) hi hj=>bP i j (by omega) (by omega)) (fun (kv:Nat) (hkv:kv < k)=>bq kv (by omega))).mono ?_
 rintro zz W9 ⟨sm,rfl,hi_sm,hB⟩
 have hZ18:=hZ17.later hB
 clear hB hZ17
 have hZ19:=hZ18.more (f:=Lr k (crx k P q) sm) (Lr.stb _ _ _) hi_sm
 clear hZ18 hi_sm
 go_wp2
 obtain ⟨XR7,hZ20⟩:∃ Xr,Zs w W9 X0 Xr [(bk3,#[.bool false,.slice none 0 0],43),(bk2,#[.slice none 0 0,.slice none 0 0,.bool false,.slice none 0 0],45)] [Lr k (crx k P q) sm,Lr k q s2,Cf bk4 #[.bool q1.b,.slice q1.a q1.n q1.c] 43,q1.ir,Mr k (fun _=>k) P pg,Cf bk1 #[p.v,s.v,.bool c.b,.slice c.a c.n c.c] 45,Mr (k+r) (fun _=>k+r) P p,Lr (k+r) q s,c.ir]:=⟨_,hZ19⟩
 clear hZ19
 have hVS7:∀ kq,kq ∈ ([veq (q1.v),veq (.pointer (some ⟨bk1,2,none⟩)),veq (c.v),vnumr ((M.dt k P)*C),veq (.pointer (some ⟨bk1,1,none⟩)),veq (s.v),veq (.int .i64 (((k:Nat):Int))),vlsr k q,veq (sm.v),vnumr (M.sm k (fun t=>q t*crx k P q t)),vnumr (((M.dt k P)*C) - (M.sm k (fun t=>q t*crx k P q t))),vczr (((M.dt k P)*C) - (M.sm k (fun t=>q t*crx k P q t))),vany]:List VF)→VSt kq:=by
  intro kq hkq
  simp only [List.mem_cons,List.not_mem_nil,or_false] at hkq
  rcases hkq with rfl | rfl | rfl | rfl | rfl | rfl | rfl | rfl | rfl | rfl | rfl | rfl | rfl
  ·
   exact (zve _).st
  ·
   exact (zve _).st
  ·
   exact (zve _).st
  ·
   exact (vnum_ser _).st
  ·
   exact (zve _).st
  ·
   exact (zve _).st
  ·
   exact (zve _).st
  ·
   exact (vls_ser _ _).st
  ·
   exact (zve _).st
  ·
   exact (vnum_ser _).st
  ·
   exact (vnum_ser _).st
  ·
   exact (vczr_se _).st
  ·
   exact (vany_se).st
 have hVE7:∀ kq,kq ∈ ([veq (q1.v),veq (.pointer (some ⟨bk1,2,none⟩)),veq (c.v),vnumr ((M.dt k P)*C),veq (.pointer (some ⟨bk1,1,none⟩)),veq (s.v),veq (.int .i64 (((k:Nat):Int))),vlsr k q,veq (sm.v),vnumr (M.sm k (fun t=>q t*crx k P q t)),vnumr (((M.dt k P)*C) - (M.sm k (fun t=>q t*crx k P q t))),vczr (((M.dt k P)*C) - (M.sm k (fun t=>q t*crx k P q t))),vany]:List VF)→VSe kq:=by
  intro kq hkq
  simp only [List.mem_cons,List.not_mem_nil,or_false] at hkq
  rcases hkq with rfl | rfl | rfl | rfl | rfl | rfl | rfl | rfl | rfl | rfl | rfl | rfl | rfl
  ·
   exact zve _
  ·
   exact zve _
  ·
   exact zve _
  ·
   exact vnum_ser _
  ·
   exact zve _
  ·
   exact zve _
  ·
   exact zve _
  ·
   exact vls_ser _ _
  ·
   exact zve _
  ·
   exact vnum_ser _
  ·
   exact vnum_ser _
  ·
   exact vczr_se _
  ·
   exact vany_se
 refine wp_region_s4 13 [some 34,some 35,some 36,some 37,some 38,some 39,some 40,some 41,some 42,some 43,some 44,some 45,some 11] [veq (q1.v),veq (.pointer (some ⟨bk1,2,none⟩)),veq (c.v),vnumr ((M.dt k P)*C),veq (.pointer (some ⟨bk1,1,none⟩)),veq (s.v),veq (.int .i64 (((k:Nat):Int))),vlsr k q,veq (sm.v),vnumr (M.sm k (fun t=>q t*crx k P q t)),vnumr (((M.dt k P)*C) - (M.sm k (fun t=>q t*crx k P q t))),vczr (((M.dt k P)*C) - (M.sm k (fun t=>q t*crx k P q t))),vany] (RelA 12 XR7 [(bk3,#[.bool false,.slice none 0 0],43),(bk2,#[.slice none 0 0,.slice none 0 0,.bool false,.slice none 0 0],45)] 45 (fun C=>C=#[.slice none 0 0,.slice none 0 0,.bool false,.slice none 0 0])) [Lr k (crx k P q) sm,Lr k q s2,Cf bk4 #[.bool q1.b,.slice q1.a q1.n q1.c] 43,q1.ir,Mr k (fun _=>k) P pg,Cf bk1 #[p.v,s.v,.bool c.b,.slice c.a c.n c.c] 45,Mr (k+r) (fun _=>k+r) P p,Lr (k+r) q s,c.ir] (by kernel_rfl) (by kernel_rfl) (by rfl) (by decide) (by rfl) (fun u=>⟨XR7,[(bk3,#[.bool false,.slice none 0 0],43),(bk2,#[.slice none 0 0,.slice none 0 0,.bool false,.slice none 0 0],45)],RelA.start,hZ20.later (Below.refl _ _).drew⟩) ?_ ?_
 ·
  intro iq hlq hiq LL uu ww aa X1 l1 hLi hLc hR hJ hd hall hev hin hold
  clear hZ20
  obtain rfl | rfl | rfl | rfl | rfl | rfl | rfl | rfl | rfl | rfl | rfl | rfl | rfl:iq=0∨iq=1∨iq=2∨iq=3∨iq=4∨iq=5∨iq=6∨iq=7∨iq=8∨iq=9∨iq=10∨iq=11∨iq=12:=by omega
  ·
   refine zos hJ (fun _=>hR.keep (by decide) _) ?_
   exact .inr ⟨rfl,fun K' hK=>wp_load 43 (.tmp 9) rfl bk4 0 2 #[.bool q1.b,.slice q1.a q1.n q1.c] #[.bool q1.b,.slice q1.a q1.n q1.c] 43 (hJ.get 2 (f:=Cf bk4 #[.bool q1.b,.slice q1.a q1.n q1.c] 43) rfl).1 (zet ((hev 9 (by decide)).trans rfl)) ag43 sz43 (zzF (by kernel_rfl)) (by kernel_rfl) (hK _ _ hJ rfl zvs)⟩
  ·
   refine zos hJ (fun _=>hR.keep (by decide) _) ?_
   exact .inr ⟨rfl,fun K' hK=>wp_fda (v:=.pointer (some ⟨bk1,2,none⟩)) 45 (.tmp 2) 2 rfl (zet ((hev 2 (by decide)).trans rfl)) (fun _=>by kernel_rfl) (hK _ _ hJ rfl zvs)⟩
  ·
   refine zos hJ (fun _=>hR.keep (by decide) _) ?_
   exact .inr ⟨rfl,fun K' hK=>wp_load 43 (.tmp 35) rfl bk1 2 2 #[p.v,s.v,.bool c.b,.slice c.a c.n c.c] #[.bool c.b,.slice c.a c.n c.c] 45 (hJ.get 5 (f:=Cf bk1 #[p.v,s.v,.bool c.b,.slice c.a c.n c.c] 45) rfl).1 (zj (hin 1 35 rfl) (show uu 1=.pointer (some ⟨bk1,2,none⟩) from (hd 1 (by decide) (by kernel_rfl)).2)) ag43 sz43 (zzF (by kernel_rfl)) (by kernel_rfl) (hK _ _ hJ rfl zvs)⟩
  ·
   refine zos hJ (fun _=>hR.keep (by decide) _) ?_
   refine .inr ⟨rfl,fun K' hK=>?_⟩
   refine zcz (.func 71) #[.tmp 34,.tmp 36] #[43,43] 71 #[] #[q1.v,c.v] _ rfl rfl (map2 (zj (hin 0 34 rfl) (show uu 0=q1.v from (hd 0 (by decide) (by kernel_rfl)).2)) (zj (hin 2 36 rfl) (show uu 2=c.v from (hd 2 (by decide) (by kernel_rfl)).2))) rfl (fun _ _=>rfl) (zMulr hJ.nx (hJ.get 3 (f:=q1.ir) rfl) (hJ.get 8 (f:=c.ir) rfl) ez_q1 ez_c (dt_sz (fun (i j:Nat) hi hj=>bP i j (by omega) (by omega))) bC (by omega) (by omega)) ?_
   rintro zz ww2 ⟨q3,rfl,ez_q3,hi_q3,hB⟩
   exact ⟨_,rfl,hK _ _ (hJ.later hB) ⟨q3,rfl,ez_q3,hi_q3⟩ (zvl hVS7 hB)⟩
  ·
   refine zos hJ (fun _=>hR.keep (by decide) _) ?_
   exact .inr ⟨rfl,fun K' hK=>wp_fda (v:=.pointer (some ⟨bk1,1,none⟩)) 45 (.tmp 2) 1 rfl (zet ((hev 2 (by decide)).trans rfl)) (fun _=>by kernel_rfl) (hK _ _ hJ rfl zvs)⟩
  ·
   refine zos hJ (fun _=>hR.keep (by decide) _) ?_
   exact .inr ⟨rfl,fun K' hK=>wp_load1 (v:=s.v) 40 (.tmp 38) rfl bk1 1 #[p.v,s.v,.bool c.b,.slice c.a c.n c.c] 45 (hJ.get 5 (f:=Cf bk1 #[p.v,s.v,.bool c.b,.slice c.a c.n c.c] 45) rfl).1 (zj (hin 4 38 rfl) (show uu 4=.pointer (some ⟨bk1,1,none⟩) from (hd 4 (by decide) (by kernel_rfl)).2)) ag40 (by kernel_rfl) (hK _ _ hJ rfl zvs)⟩
  ·
   refine zos hJ (fun _=>hR.keep (by decide) _) ?_
   exact .inr ⟨rfl,fun K' hK=>wp_move (.tmp 1) rfl (zet ((hev 1 (by decide)).trans rfl)) (hK _ _ hJ rfl zvs)⟩
  ·
   refine zos hJ (fun _=>hR.keep (by decide) _) ?_
   exact .inr ⟨rfl,fun K' hK=>wp_slh 40 43 (.tmp 39) (.tmp 40) s k rfl (zj (hin 5 39 rfl) (show uu 5=s.v from (hd 5 (by decide) (by kernel_rfl)).2)) (zj (hin 6 40 rfl) (show uu 6=.int .i64 (((k:Nat):Int)) from (hd 6 (by decide) (by kernel_rfl)).2)) (by kernel_rfl) sz43 (hJ.get 7 (f:=Lr (k+r) q s) rfl) (by omega) (fun s4 hi_s4=>hK _ _ hJ ⟨s4,rfl,hi_s4⟩ zvs)⟩
  ·
   refine zos hJ (fun _=>hR.keep (by decide) _) ?_
   exact .inr ⟨rfl,fun K' hK=>wp_move (.tmp 10) rfl (zet ((hev 10 (by decide)).trans rfl)) (hK _ _ hJ rfl zvs)⟩
  ·
   refine zos hJ (fun _=>hR.keep (by decide) _) ?_
   obtain ⟨s4,e7,hi_s4⟩:=(show (vlsr k q) (uu 7) X1 ww from (hd 7 (by decide) (by kernel_rfl)).2)
   replace hJ:=hJ.more (f:=Lr k q s4) (Lr.stb _ _ _) hi_s4
   refine .inr ⟨rfl,fun K' hK=>?_⟩
   refine zcz (.func 54) #[.tmp 41,.tmp 42] #[40,40] 54 #[] #[s4.v,sm.v] _ rfl rfl (map2 (zj (hin 7 41 rfl) e7) (zj (hin 8 42 rfl) (show uu 8=sm.v from (hd 8 (by decide) (by kernel_rfl)).2))) rfl (fun _ _=>rfl) (dDot hJ.nx s4 sm (e:=(e+(dtb e k))) (hJ.get 0 (f:=Lr k q s4) rfl) (hJ.get 1 (f:=Lr k (crx k P q) sm) rfl) (fun kz hkz=>((fun (kv:Nat) (hkv:kv < k)=>bq kv (by omega)) kz hkz).mono (Nat.le_add_right _ _)) (fun kz hkz=>((fun (jv:Nat) (_:jv < k)=>crx_sz (fun (i j:Nat) hi hj=>bP i j (by omega) (by omega)) (fun (kv:Nat) (hkv:kv < k)=>bq kv (by omega)) jv) kz hkz).mono (Nat.le_add_left _ _)) (by omega) (by omega)) ?_
   rintro zz ww2 ⟨q5,rfl,ez_q5,hi_q5,hB⟩
   exact ⟨_,rfl,hK _ _ ((hJ.only [Lr k (crx k P q) sm,Lr k q s2,Cf bk4 #[.bool q1.b,.slice q1.a q1.n q1.c] 43,q1.ir,Mr k (fun _=>k) P pg,Cf bk1 #[p.v,s.v,.bool c.b,.slice c.a c.n c.c] 45,Mr (k+r) (fun _=>k+r) P p,Lr (k+r) q s,c.ir] (by simp)).later hB) ⟨q5,rfl,ez_q5,hi_q5⟩ (zvl hVS7 hB)⟩
  ·
   refine zos hJ (fun _=>hR.keep (by decide) _) ?_
   obtain ⟨q3,e3,ez_q3,hi_q3⟩:=(show (vnumr ((M.dt k P)*C)) (uu 3) X1 ww from (hd 3 (by decide) (by kernel_rfl)).2)
   obtain ⟨q5,e9,ez_q5,hi_q5⟩:=(show (vnumr (M.sm k (fun t=>q t*crx k P q t))) (uu 9) X1 ww from (hd 9 (by decide) (by kernel_rfl)).2)
   replace hJ:=hJ.more (f:=q3.ir) q3.stbr hi_q3
   replace hJ:=hJ.more (f:=q5.ir) q5.stbr hi_q5
   refine .inr ⟨rfl,fun K' hK=>?_⟩
   refine zcz (.func 57) #[.tmp 37,.tmp 43] #[43,43] 57 #[] #[q3.v,q5.v] _ rfl rfl (map2 (zj (hin 3 37 rfl) e3) (zj (hin 9 43 rfl) e9)) rfl (fun _ _=>rfl) (dSub hJ.nx q3 q5 (hJ.get 1 (f:=q3.ir) rfl) (hJ.get 0 (f:=q5.ir) rfl) ez_q3 ez_q5 (Sz.mul (dt_sz (fun (i j:Nat) hi hj=>bP i j (by omega) (by omega))) bC) (sm_sz (fun (t:Nat) (ht:t < k)=>Sz.mul ((fun (kv:Nat) (hkv:kv < k)=>bq kv (by omega)) t ht) ((fun (jv:Nat) (_:jv < k)=>crx_sz (fun (i j:Nat) hi hj=>bP i j (by omega) (by omega)) (fun (kv:Nat) (hkv:kv < k)=>bq kv (by omega)) jv) t ht))) (by omega) (by omega)) ?_
   rintro zz ww2 ⟨q6,rfl,ez_q6,hi_q6,hB⟩
   exact ⟨_,rfl,hK _ _ ((hJ.only [Lr k (crx k P q) sm,Lr k q s2,Cf bk4 #[.bool q1.b,.slice q1.a q1.n q1.c] 43,q1.ir,Mr k (fun _=>k) P pg,Cf bk1 #[p.v,s.v,.bool c.b,.slice c.a c.n c.c] 45,Mr (k+r) (fun _=>k+r) P p,Lr (k+r) q s,c.ir] (by simp)).later hB) ⟨q6,rfl,ez_q6,hi_q6⟩ (zvl hVS7 hB)⟩
  ·
   refine zos hJ (fun _=>hR.keep (by decide) _) ?_
   obtain ⟨q6,e10,ez_q6,hi_q6⟩:=(show (vnumr (((M.dt k P)*C) - (M.sm k (fun t=>q t*crx k P q t)))) (uu 10) X1 ww from (hd 10 (by decide) (by kernel_rfl)).2)
   replace hJ:=hJ.more (f:=q6.ir) q6.stbr hi_q6
   exact .inr ⟨rfl,fun K' hK=>wp_bld (v:=.agg #[.slice none 0 0,.slice none 0 0,.bool q6.b,.slice q6.a q6.n q6.c]) 45 #[(2,.tmp 44)] rfl (bmap1 (u:=q6.v) (zj (hin 10 44 rfl) e10)) (fun _=>by kernel_rfl) (hK _ _ (hJ.only [Lr k (crx k P q) sm,Lr k q s2,Cf bk4 #[.bool q1.b,.slice q1.a q1.n q1.c] 43,q1.ir,Mr k (fun _=>k) P pg,Cf bk1 #[p.v,s.v,.bool c.b,.slice c.a c.n c.c] 45,Mr (k+r) (fun _=>k+r) P p,Lr (k+r) q s,c.ir] (by simp)) ⟨q6,rfl,ez_q6,hi_q6⟩ zvs)⟩
  ·
   obtain ⟨eX,el⟩:=hR.no hLi
   subst el
   subst eX
   exact .inr ⟨rfl,fun K' hK=>wp_alloc 45 rfl (.agg #[.slice none 0 0,.slice none 0 0,.bool false,.slice none 0 0]) zv45 (hK _ _ _ _ (RelA.made rfl rfl) (hJ.new #[.slice none 0 0,.slice none 0 0,.bool false,.slice none 0 0] 45) trivial (vzL_e hVE7 (ext_new _ _ _ _)))⟩
 clear hZ20
 intro LL uu W10 X1 l1 hLL hR hZ21 hd
 obtain ⟨bk5,CA,eA,hsA,el⟩:=hR.yes (hLL 12 (by decide))
 subst el
 subst hsA
 have e_0:uu 0=q1.v:=hd 0 (by decide)
 have e_1:uu 1=.pointer (some ⟨bk1,2,none⟩):=hd 1 (by decide)
 have e_2:uu 2=c.v:=hd 2 (by decide)
 obtain ⟨q3,e_3,ez_q3,hi_q3⟩:=(show (vnumr ((M.dt k P)*C)) (uu 3) X1 W10 from hd 3 (by decide))
 have e_4:uu 4=.pointer (some ⟨bk1,1,none⟩):=hd 4 (by decide)
 have e_5:uu 5=s.v:=hd 5 (by decide)
 have e_6:uu 6=.int .i64 (((k:Nat):Int)):=hd 6 (by decide)
 obtain ⟨s4,e_7,hi_s4⟩:=(show (vlsr k q) (uu 7) X1 W10 from hd 7 (by decide))
 have e_8:uu 8=sm.v:=hd 8 (by decide)
 obtain ⟨q5,e_9,ez_q5,hi_q5⟩:=(show (vnumr (M.sm k (fun t=>q t*crx k P q t))) (uu 9) X1 W10 from hd 9 (by decide))
 obtain ⟨q6,e_10,ez_q6,hi_q6⟩:=(show (vnumr (((M.dt k P)*C) - (M.sm k (fun t=>q t*crx k P q t)))) (uu 10) X1 W10 from hd 10 (by decide))
 obtain ⟨q6_11,e_11,ez_q6_11,hi_q6_11⟩:=(show (vczr (((M.dt k P)*C) - (M.sm k (fun t=>q t*crx k P q t)))) (uu 11) X1 W10 from hd 11 (by decide))
 have e_12:uu 12=.pointer (some ⟨bk5,0,none⟩):=eA
 clear hd hVS7 hVE7
 simp only [layS,Act.put,zzC,zzD,zzE,Nat.zero_add,Nat.reduceAdd,List.drop_succ_cons,List.drop_zero,List.drop_nil,e_0,e_1,e_2,e_3,e_4,e_5,e_6,e_7,e_8,e_9,e_10,e_11,e_12]
 clear e_0 e_1 e_2 e_3 e_4 e_5 e_6 e_7 e_8 e_9 e_10 e_11 e_12
 have hZ22:=hZ21.more (f:=q3.ir) q3.stbr hi_q3
 clear hZ21 hi_q3
 have hZ23:=hZ22.more (f:=Lr k q s4) (Lr.stb _ _ _) hi_s4
 clear hZ22 hi_s4
 have hZ24:=hZ23.more (f:=q5.ir) q5.stbr hi_q5
 clear hZ23 hi_q5
 have hZ25:=hZ24.more (f:=q6.ir) q6.stbr hi_q6
 clear hZ24 hi_q6
 have hZ26:=hZ25.more (f:=q6_11.ir) q6_11.stbr hi_q6_11
 clear hZ25 hi_q6_11
 go_wp2_with (refine zss 45 (.tmp 11) (.tmp 45) 0 bk5 0 #[.slice none 0 0,.slice none 0 0,.bool false,.slice none 0 0] 45 4 [.slice none 0 0,.slice none 0 0,.bool q6_11.b,.slice q6_11.a q6_11.n q6_11.c] #[.slice none 0 0,.slice none 0 0,.bool q6_11.b,.slice q6_11.a q6_11.n q6_11.c] [(bk5,#[.slice none 0 0,.slice none 0 0,.bool q6_11.b,.slice q6_11.a q6_11.n q6_11.c],45),(bk3,#[.bool false,.slice none 0 0],43),(bk2,#[.slice none 0 0,.slice none 0 0,.bool false,.slice none 0 0],45)] rfl rfl rfl rfl sz45 hZ26 rfl rfl (zzF (by kernel_rfl)) (by kernel_rfl) (by kernel_rfl) (by kernel_rfl) (fun W11 hZ27=>?_))
 clear hZ26
 simp only [Stop,Act.put,zzC,zzD,zzE]
 have hZ28:=hZ27.only [q6_11.ir,Lr k (crx k P q) sm,Mr k (fun _=>k) P pg,q1.ir,Cf bk4 #[.bool q1.b,.slice q1.a q1.n q1.c] 43,Cf bk1 #[p.v,s.v,.bool c.b,.slice c.a c.n c.c] 45,Mr (k+r) (fun _=>k+r) P p,Lr (k+r) q s] (by simp)
 clear hZ27
 go_wp2
 go_loopw [12] (fun iv wr=>∃ (a:Nat) (po so:Sl) (Cp Cs:Array Value) (X:Nat→Prop),a≤r∧iv=.int .i64 ((k+a:Nat):Int)∧po.n=a∧Wr 1 po Cp∧so.n=a∧Wr 2 so Cs∧Zs w wr X0 X ([(bk5,#[po.v,so.v,.bool q6_11.b,.slice q6_11.a q6_11.n q6_11.c],45),(bk3,#[.bool false,.slice none 0 0],43),(bk2,#[.slice none 0 0,.slice none 0 0,.bool false,.slice none 0 0],45)]++(owl po Cp 40++owl so Cs 43)) [Fl 1 (ERr (fun _=>r) (gpA k P)) a Cp,Fl 2 (ENr (gqA k P q)) a Cs,q6_11.ir,Lr k (crx k P q) sm,Mr k (fun _=>k) P pg,q1.ir,Cf bk4 #[.bool q1.b,.slice q1.a q1.n q1.c] 43,Cf bk1 #[p.v,s.v,.bool c.b,.slice c.a c.n c.c] 45,Mr (k+r) (fun _=>k+r) P p,Lr (k+r) q s]) (fun iv _=>k+r - (intOf iv).toNat)
 case atStart=>exact ⟨0,slz,slz,#[],#[],_,by omega,rfl,rfl,wr_slz 1,rfl,wr_slz 2,by simpa [owl,slz,Sl.v] using ((hZ28.more (f:=Fl 2 (ENr (gqA k P q)) 0 #[]) (Fl.stb (ENr.stb _) _ _) (fl_zero 2 (ENr (gqA k P q)) #[] _ _)).more (f:=Fl 1 (ERr (fun _=>r) (gpA k P)) 0 #[]) (Fl.stb (ERr.stb _ _) _ _) (fl_zero 1 (ERr (fun _=>r) (gpA k P)) #[] _ _))⟩
 case round =>
  clear hZ28
  obtain ⟨a,po,so,Cp,Cs,X,ha,rfl,hn_po,hw_po,hn_so,hw_so,hZ⟩:=hrel
  by_cases hlt:a < r
  ·
   go_wp2_with (refine zso rfl (fun K hK=>wp_fda (v:=.pointer (some ⟨bk1,1,none⟩)) 45 (.tmp 2) 1 rfl rfl (fun _=>by kernel_rfl) (hK _ _ ?_)))
   simp only [Stop,Act.put,zzC,zzD,zzE]
   go_wp2_with (refine zso rfl (fun K hK=>wp_load1 (v:=s.v) 40 (.tmp 48) rfl bk1 1 #[p.v,s.v,.bool c.b,.slice c.a c.n c.c] 45 (hZ.get 7 (f:=Cf bk1 #[p.v,s.v,.bool c.b,.slice c.a c.n c.c] 45) rfl).1 rfl ag40 (by kernel_rfl) (hK _ _ ?_)))
   simp only [Stop,Act.put,zzC,zzD,zzE]
   go_wp2_with (refine zso rfl (fun K hK=>wp_lenq (.tmp 49) 40 43 s rfl (by kernel_rfl) rfl (hZ.get 9 (f:=Lr (k+r) q s) rfl).n (hK _ _ ?_)))
   simp only [Stop,Act.put,zzC,zzD,zzE]
   go_wp2_with (refine zso rfl (fun K hK=>wp_lssi (.tmp 47) (.tmp 50) rfl rfl rfl (r:=true) (decide_eq_true (by omega)) (hK _ _ ?_)))
   simp only [Stop,Act.put,zzC,zzD,zzE]
   go_wp2
   obtain ⟨wo,rfl⟩:∃ wo:World,wo=wr:=⟨_,rfl⟩
   go_wp2
   go_loopw [13,14] (fun rv jv wr=>∃ (b:Nat) (ro:Sl) (Cr:Array Value) (X:Nat→Prop),b≤r∧jv=.int .i64 ((k+b:Nat):Int)∧rv=ro.v∧ro.n=b∧Wr 2 ro Cr∧Zs w wr X0 X ([(bk5,#[po.v,so.v,.bool q6_11.b,.slice q6_11.a q6_11.n q6_11.c],45),(bk3,#[.bool false,.slice none 0 0],43),(bk2,#[.slice none 0 0,.slice none 0 0,.bool false,.slice none 0 0],45)]++(owl ro Cr 43++(owl po Cp 40++owl so Cs 43))) [Fl 2 (ENr (gpA k P a)) b Cr,Fl 1 (ERr (fun _=>r) (gpA k P)) a Cp,Fl 2 (ENr (gqA k P q)) a Cs,q6_11.ir,Lr k (crx k P q) sm,Mr k (fun _=>k) P pg,q1.ir,Cf bk4 #[.bool q1.b,.slice q1.a q1.n q1.c] 43,Cf bk1 #[p.v,s.v,.bool c.b,.slice c.a c.n c.c] 45,Mr (k+r) (fun _=>k+r) P p,Lr (k+r) q s]) (fun _ jv _=>k+r - (intOf jv).toNat)
   case atStart=>exact ⟨0,slz,#[],_,by omega,rfl,rfl,rfl,wr_slz 2,by simpa [owl,slz] using (hZ.more (f:=Fl 2 (ENr (gpA k P a)) 0 #[]) (Fl.stb (ENr.stb _) _ _) (fl_zero 2 (ENr (gpA k P a)) #[] _ _))⟩
   case round =>
    clear hZ
    obtain ⟨b,ro,Cr,X2,hb,rfl,rfl,hn_ro,hw_ro,hZ2⟩:=hrel
    by_cases hlt2:b < r
    ·
     go_wp2_with (refine zso rfl (fun K hK=>wp_fda (v:=.pointer (some ⟨bk1,1,none⟩)) 45 (.tmp 2) 1 rfl rfl (fun _=>by kernel_rfl) (hK _ _ ?_)))
     simp only [Stop,Act.put,zzC,zzD,zzE]
     go_wp2_with (refine zso rfl (fun K hK=>wp_load1 (v:=s.v) 40 (.tmp 56) rfl bk1 1 #[p.v,s.v,.bool c.b,.slice c.a c.n c.c] 45 (hZ2.get 8 (f:=Cf bk1 #[p.v,s.v,.bool c.b,.slice c.a c.n c.c] 45) rfl).1 rfl ag40 (by kernel_rfl) (hK _ _ ?_)))
     simp only [Stop,Act.put,zzC,zzD,zzE]
     go_wp2_with (refine zso rfl (fun K hK=>wp_lenq (.tmp 57) 40 43 s rfl (by kernel_rfl) rfl (hZ2.get 10 (f:=Lr (k+r) q s) rfl).n (hK _ _ ?_)))
     simp only [Stop,Act.put,zzC,zzD,zzE]
     go_wp2_with (refine zso rfl (fun K hK=>wp_lssi (.tmp 55) (.tmp 58) rfl rfl rfl (r:=true) (decide_eq_true (by omega)) (hK _ _ ?_)))
     simp only [Stop,Act.put,zzC,zzD,zzE]
     go_wp2_with (refine zso rfl (fun K hK=>wp_fda (v:=.pointer (some ⟨bk1,0,none⟩)) 45 (.tmp 2) 0 rfl rfl (fun _=>by kernel_rfl) (hK _ _ ?_)))
     simp only [Stop,Act.put,zzC,zzD,zzE]
     go_wp2_with (refine zso rfl (fun K hK=>wp_load1 (v:=p.v) 39 (.tmp 63) rfl bk1 0 #[p.v,s.v,.bool c.b,.slice c.a c.n c.c] 45 (hZ2.get 8 (f:=Cf bk1 #[p.v,s.v,.bool c.b,.slice c.a c.n c.c] 45) rfl).1 rfl ag39 (by kernel_rfl) (hK _ _ ?_)))
     simp only [Stop,Act.put,zzC,zzD,zzE]
     go_wp2_with (refine zso rfl (fun K hK=>wp_ixs 39 (.tmp 64) (.tmp 65) p (k+b) 1 40 rfl rfl rfl (by kernel_rfl) sz40 (fun h=>((hZ2.get 9 (f:=Mr (k+r) (fun _=>k+r) P p) rfl).sq.nil h).1) ((hZ2.get 9 (f:=Mr (k+r) (fun _=>k+r) P p) rfl).n ▸ (by omega)) (hK _ _ ?_)))
     simp only [Stop,Act.put,zzC,zzD,zzE]
     go_wp2_with (refine zso rfl (fun K hK=>wp_ldmr 40 (.tmp 66) p (k+b) (k+r) (fun _=>k+r) P rfl rfl (hZ2.get 9 (f:=Mr (k+r) (fun _=>k+r) P p) rfl) (by omega) ag40 (fun s7 hi_s7=>hK _ _ ?_)))
     simp only [Stop,Act.put,zzC,zzD,zzE]
     have hZ29:=hZ2.more (f:=Lr (k+r) (P (k+b)) s7) (Lr.stb _ _ _) hi_s7
     clear hZ2 hi_s7
     go_wp2_with (refine zso rfl (fun K hK=>wp_slh 40 43 (.tmp 67) (.tmp 68) s7 k rfl rfl rfl (by kernel_rfl) sz43 (hZ29.get 0 (f:=Lr (k+r) (P (k+b)) s7) rfl) (by omega) (fun s8 hi_s8=>hK _ _ ?_)))
     simp only [Stop,Act.put,zzC,zzD,zzE]
     have hZ30:=hZ29.more (f:=Lr k (P (k+b)) s8) (Lr.stb _ _ _) hi_s8
     clear hZ29 hi_s8
     go_wp2_with fail
     refine (dSolve hZ30.nx pg s8 (e:=e) he1 he hk (hZ30.get 7 (f:=Mr k (fun _=>k) P pg) rfl) (hZ30.get 0 (f:=Lr k (P (k+b)) s8) rfl) (fun (i j:Nat) hi hj=>bP i j (by omega) (by omega)) (fun (kv:Nat) (hkv:kv < k)=>(fun u hu=>bP (k+b) u (by omega) hu) kv (by omega))).mono ?_
     rintro zz W12 ⟨sn,rfl,hi_sn,hB⟩
     have hZ31:=hZ30.later hB
     clear hB hZ30
     have hZ32:=hZ31.more (f:=Lr k (crx k P (P (k+b))) sn) (Lr.stb _ _ _) hi_sn
     clear hZ31 hi_sn
     have hZ33:=hZ32.only [Lr k (crx k P (P (k+b))) sn,Fl 2 (ENr (gpA k P a)) b Cr,Fl 1 (ERr (fun _=>r) (gpA k P)) a Cp,Fl 2 (ENr (gqA k P q)) a Cs,q6_11.ir,Lr k (crx k P q) sm,Mr k (fun _=>k) P pg,q1.ir,Cf bk4 #[.bool q1.b,.slice q1.a q1.n q1.c] 43,Cf bk1 #[p.v,s.v,.bool c.b,.slice c.a c.n c.c] 45,Mr (k+r) (fun _=>k+r) P p,Lr (k+r) q s] (by simp)
     clear hZ32
     go_wp2
     obtain ⟨XR16,hZ34⟩:∃ Xr,Zs w W12 X0 Xr ([(bk5,#[po.v,so.v,.bool q6_11.b,.slice q6_11.a q6_11.n q6_11.c],45),(bk3,#[.bool false,.slice none 0 0],43),(bk2,#[.slice none 0 0,.slice none 0 0,.bool false,.slice none 0 0],45)]++(owl ro Cr 43++(owl po Cp 40++owl so Cs 43))) [Lr k (crx k P (P (k+b))) sn,Fl 2 (ENr (gpA k P a)) b Cr,Fl 1 (ERr (fun _=>r) (gpA k P)) a Cp,Fl 2 (ENr (gqA k P q)) a Cs,q6_11.ir,Lr k (crx k P q) sm,Mr k (fun _=>k) P pg,q1.ir,Cf bk4 #[.bool q1.b,.slice q1.a q1.n q1.c] 43,Cf bk1 #[p.v,s.v,.bool c.b,.slice c.a c.n c.c] 45,Mr (k+r) (fun _=>k+r) P p,Lr (k+r) q s]:=⟨_,hZ33⟩
     clear hZ33
     refine zrq 22 [some 71,some 72,some 73,some 74,some 75,some 76,some 77,some 78,some 79,some 80,some 81,some 82,some 83,some 84,some 85,some 86,some 87,some 88,some 89,some 90,some 91,some 92] [veq (ro.v),veq (q1.v),veq (.pointer (some ⟨bk1,0,none⟩)),veq (p.v),veq (.int .i64 (((k+a:Nat):Int))),veq ((p.at 1 (k+a))),vlsr (k+r) (P (k+a)),veq (.int .i64 (((k+b:Nat):Int))),vatr (k+r) (P (k+a)) (k+b),vnumr (P (k+a) (k+b)),vnumr ((M.dt k P)*(P (k+a) (k+b))),veq (.pointer (some ⟨bk1,0,none⟩)),veq (p.v),veq (.int .i64 (((k+a:Nat):Int))),veq ((p.at 1 (k+a))),vlsr (k+r) (P (k+a)),veq (.int .i64 (((k:Nat):Int))),vlsr k (P (k+a)),veq (sn.v),vnumr (M.sm k (fun t=>P (k+a) t*(crx k P (P (k+b))) t)),vnumr (((M.dt k P)*(P (k+a) (k+b))) - (M.sm k (fun t=>P (k+a) t*(crx k P (P (k+b))) t))),vlsr 1 (fun _=>((M.dt k P)*(P (k+a) (k+b))) - (M.sm k (fun t=>P (k+a) t*(crx k P (P (k+b))) t)))] (by kernel_rfl) (by kernel_rfl) (by rfl) (by decide) (by rfl) hZ34 ?_ ?_
     ·
      intro iq hlq hiq LL uu ww aa hLi hLc hJ hd hall hev hin hold
      clear hZ34
      obtain rfl | rfl | rfl | rfl | rfl | rfl | rfl | rfl | rfl | rfl | rfl | rfl | rfl | rfl | rfl | rfl | rfl | rfl | rfl | rfl | rfl | rfl:iq=0∨iq=1∨iq=2∨iq=3∨iq=4∨iq=5∨iq=6∨iq=7∨iq=8∨iq=9∨iq=10∨iq=11∨iq=12∨iq=13∨iq=14∨iq=15∨iq=16∨iq=17∨iq=18∨iq=19∨iq=20∨iq=21:=by omega
      ·
       exact oz rfl (fun _ hK=>wp_move (.tmp 13) rfl (zet ((hev 13 (by decide)).trans rfl)) (hK _ _ hJ rfl vsm))
      ·
       exact oz rfl (fun _ hK=>wp_load 43 (.tmp 9) rfl bk4 0 2 #[.bool q1.b,.slice q1.a q1.n q1.c] #[.bool q1.b,.slice q1.a q1.n q1.c] 43 (hJ.get 8 (f:=Cf bk4 #[.bool q1.b,.slice q1.a q1.n q1.c] 43) rfl).1 (zet ((hev 9 (by decide)).trans rfl)) ag43 sz43 (zzF (by kernel_rfl)) (by kernel_rfl) (hK _ _ hJ rfl vsm))
      ·
       exact oz rfl (fun _ hK=>wp_fda (v:=.pointer (some ⟨bk1,0,none⟩)) 45 (.tmp 2) 0 rfl (zet ((hev 2 (by decide)).trans rfl)) (fun _=>by kernel_rfl) (hK _ _ hJ rfl vsm))
      ·
       exact oz rfl (fun _ hK=>wp_load1 (v:=p.v) 39 (.tmp 73) rfl bk1 0 #[p.v,s.v,.bool c.b,.slice c.a c.n c.c] 45 (hJ.get 9 (f:=Cf bk1 #[p.v,s.v,.bool c.b,.slice c.a c.n c.c] 45) rfl).1 (zj (hin 2 73 rfl) (show uu 2=.pointer (some ⟨bk1,0,none⟩) from (hd 2 (by kernel_rfl)))) ag39 (by kernel_rfl) (hK _ _ hJ rfl vsm))
      ·
       exact oz rfl (fun _ hK=>wp_move (.tmp 12) rfl (zet ((hev 12 (by decide)).trans rfl)) (hK _ _ hJ rfl vsm))
      ·
       exact oz rfl (fun _ hK=>wp_ixs 39 (.tmp 74) (.tmp 75) p (k+a) 1 40 rfl (zj (hin 3 74 rfl) (show uu 3=p.v from (hd 3 (by kernel_rfl)))) (zj (hin 4 75 rfl) (show uu 4=.int .i64 (((k+a:Nat):Int)) from (hd 4 (by kernel_rfl)))) (by kernel_rfl) sz40 (fun h=>((hJ.get 10 (f:=Mr (k+r) (fun _=>k+r) P p) rfl).sq.nil h).1) ((hJ.get 10 (f:=Mr (k+r) (fun _=>k+r) P p) rfl).n ▸ (by omega)) (hK _ _ hJ rfl vsm))
      ·
       exact oz rfl (fun _ hK=>wp_ldmr 40 (.tmp 76) p (k+a) (k+r) (fun _=>k+r) P rfl (zj (hin 5 76 rfl) (show uu 5=(p.at 1 (k+a)) from (hd 5 (by kernel_rfl)))) (hJ.get 10 (f:=Mr (k+r) (fun _=>k+r) P p) rfl) (by omega) ag40 (fun s9 hi_s9=>hK _ _ hJ ⟨s9,rfl,hi_s9⟩ vsm))
      ·
       exact oz rfl (fun _ hK=>wp_move (.tmp 14) rfl (zet ((hev 14 (by decide)).trans rfl)) (hK _ _ hJ rfl vsm))
      ·
       obtain ⟨s9,e6,hi_s9⟩:=(show (vlsr (k+r) (P (k+a))) (uu 6) XR16 ww from (hd 6 (by kernel_rfl)))
       replace hJ:=hJ.more (f:=Lr (k+r) (P (k+a)) s9) (Lr.stb _ _ _) hi_s9
       exact oz rfl (fun _ hK=>wp_ixs 40 (.tmp 77) (.tmp 78) s9 (k+b) 2 43 rfl (zj (hin 6 77 rfl) e6) (zj (hin 7 78 rfl) (show uu 7=.int .i64 (((k+b:Nat):Int)) from (hd 7 (by kernel_rfl)))) (by kernel_rfl) sz43 (fun h=>((hJ.get 0 (f:=Lr (k+r) (P (k+a)) s9) rfl).sq.nil h).1) ((hJ.get 0 (f:=Lr (k+r) (P (k+a)) s9) rfl).n ▸ (by omega)) (hK _ _ (hJ.only [Lr k (crx k P (P (k+b))) sn,Fl 2 (ENr (gpA k P a)) b Cr,Fl 1 (ERr (fun _=>r) (gpA k P)) a Cp,Fl 2 (ENr (gqA k P q)) a Cs,q6_11.ir,Lr k (crx k P q) sm,Mr k (fun _=>k) P pg,q1.ir,Cf bk4 #[.bool q1.b,.slice q1.a q1.n q1.c] 43,Cf bk1 #[p.v,s.v,.bool c.b,.slice c.a c.n c.c] 45,Mr (k+r) (fun _=>k+r) P p,Lr (k+r) q s] (by simp)) ⟨s9,rfl,hi_s9⟩ vsm))
      ·
       obtain ⟨s9,e8,hi_s9⟩:=(show (vatr (k+r) (P (k+a)) (k+b)) (uu 8) XR16 ww from (hd 8 (by kernel_rfl)))
       replace hJ:=hJ.more (f:=Lr (k+r) (P (k+a)) s9) (Lr.stb _ _ _) hi_s9
       exact oz rfl (fun _ hK=>wp_ldnr 43 (.tmp 79) s9 (k+b) (k+r) (P (k+a)) rfl (zj (hin 8 79 rfl) e8) (hJ.get 0 (f:=Lr (k+r) (P (k+a)) s9) rfl) (by omega) ag43 sz43 (fun q10 ez_q10 hi_q10=>hK _ _ (hJ.only [Lr k (crx k P (P (k+b))) sn,Fl 2 (ENr (gpA k P a)) b Cr,Fl 1 (ERr (fun _=>r) (gpA k P)) a Cp,Fl 2 (ENr (gqA k P q)) a Cs,q6_11.ir,Lr k (crx k P q) sm,Mr k (fun _=>k) P pg,q1.ir,Cf bk4 #[.bool q1.b,.slice q1.a q1.n q1.c] 43,Cf bk1 #[p.v,s.v,.bool c.b,.slice c.a c.n c.c] 45,Mr (k+r) (fun _=>k+r) P p,Lr (k+r) q s] (by simp)) ⟨q10,rfl,ez_q10,hi_q10⟩ vsm))
      ·
       obtain ⟨q10,e9,ez_q10,hi_q10⟩:=(show (vnumr (P (k+a) (k+b))) (uu 9) XR16 ww from (hd 9 (by kernel_rfl)))
       replace hJ:=hJ.more (f:=q10.ir) q10.stbr hi_q10
       refine oz rfl (fun _ hK=>zcz (.func 71) #[.tmp 72,.tmp 80] #[43,43] 71 #[] #[q1.v,q10.v] _ rfl rfl (map2 (zj (hin 1 72 rfl) (show uu 1=q1.v from (hd 1 (by kernel_rfl)))) (zj (hin 9 80 rfl) e9)) rfl (fun _ _=>rfl) (zMulr hJ.nx (hJ.get 8 (f:=q1.ir) rfl) (hJ.get 0 (f:=q10.ir) rfl) ez_q1 ez_q10 (dt_sz (fun (i j:Nat) hi hj=>bP i j (by omega) (by omega))) ((fun u hu=>bP (k+a) u (by omega) hu) (k+b) (by omega)) (by omega) (by omega)) ?_)
       rintro zz ww2 ⟨q11,rfl,ez_q11,hi_q11,hB⟩
       exact ⟨_,rfl,hK _ _ ((hJ.only [Lr k (crx k P (P (k+b))) sn,Fl 2 (ENr (gpA k P a)) b Cr,Fl 1 (ERr (fun _=>r) (gpA k P)) a Cp,Fl 2 (ENr (gqA k P q)) a Cs,q6_11.ir,Lr k (crx k P q) sm,Mr k (fun _=>k) P pg,q1.ir,Cf bk4 #[.bool q1.b,.slice q1.a q1.n q1.c] 43,Cf bk1 #[p.v,s.v,.bool c.b,.slice c.a c.n c.c] 45,Mr (k+r) (fun _=>k+r) P p,Lr (k+r) q s] (by simp)).later hB) ⟨q11,rfl,ez_q11,hi_q11⟩ (vlat hB)⟩
      ·
       exact oz rfl (fun _ hK=>wp_fda (v:=.pointer (some ⟨bk1,0,none⟩)) 45 (.tmp 2) 0 rfl (zet ((hev 2 (by decide)).trans rfl)) (fun _=>by kernel_rfl) (hK _ _ hJ rfl vsm))
      ·
       exact oz rfl (fun _ hK=>wp_load1 (v:=p.v) 39 (.tmp 82) rfl bk1 0 #[p.v,s.v,.bool c.b,.slice c.a c.n c.c] 45 (hJ.get 9 (f:=Cf bk1 #[p.v,s.v,.bool c.b,.slice c.a c.n c.c] 45) rfl).1 (zj (hin 11 82 rfl) (show uu 11=.pointer (some ⟨bk1,0,none⟩) from (hd 11 (by kernel_rfl)))) ag39 (by kernel_rfl) (hK _ _ hJ rfl vsm))
      ·
       exact oz rfl (fun _ hK=>wp_move (.tmp 12) rfl (zet ((hev 12 (by decide)).trans rfl)) (hK _ _ hJ rfl vsm))
      ·
       exact oz rfl (fun _ hK=>wp_ixs 39 (.tmp 83) (.tmp 84) p (k+a) 1 40 rfl (zj (hin 12 83 rfl) (show uu 12=p.v from (hd 12 (by kernel_rfl)))) (zj (hin 13 84 rfl) (show uu 13=.int .i64 (((k+a:Nat):Int)) from (hd 13 (by kernel_rfl)))) (by kernel_rfl) sz40 (fun h=>((hJ.get 10 (f:=Mr (k+r) (fun _=>k+r) P p) rfl).sq.nil h).1) ((hJ.get 10 (f:=Mr (k+r) (fun _=>k+r) P p) rfl).n ▸ (by omega)) (hK _ _ hJ rfl vsm))
      ·
       exact oz rfl (fun _ hK=>wp_ldmr 40 (.tmp 85) p (k+a) (k+r) (fun _=>k+r) P rfl (zj (hin 14 85 rfl) (show uu 14=(p.at 1 (k+a)) from (hd 14 (by kernel_rfl)))) (hJ.get 10 (f:=Mr (k+r) (fun _=>k+r) P p) rfl) (by omega) ag40 (fun s12 hi_s12=>hK _ _ hJ ⟨s12,rfl,hi_s12⟩ vsm))
      ·
       exact oz rfl (fun _ hK=>wp_move (.tmp 1) rfl (zet ((hev 1 (by decide)).trans rfl)) (hK _ _ hJ rfl vsm))
      ·
       obtain ⟨s12,e15,hi_s12⟩:=(show (vlsr (k+r) (P (k+a))) (uu 15) XR16 ww from (hd 15 (by kernel_rfl)))
       replace hJ:=hJ.more (f:=Lr (k+r) (P (k+a)) s12) (Lr.stb _ _ _) hi_s12
       exact oz rfl (fun _ hK=>wp_slh 40 43 (.tmp 86) (.tmp 87) s12 k rfl (zj (hin 15 86 rfl) e15) (zj (hin 16 87 rfl) (show uu 16=.int .i64 (((k:Nat):Int)) from (hd 16 (by kernel_rfl)))) (by kernel_rfl) sz43 (hJ.get 0 (f:=Lr (k+r) (P (k+a)) s12) rfl) (by omega) (fun s13 hi_s13=>hK _ _ (hJ.only [Lr k (crx k P (P (k+b))) sn,Fl 2 (ENr (gpA k P a)) b Cr,Fl 1 (ERr (fun _=>r) (gpA k P)) a Cp,Fl 2 (ENr (gqA k P q)) a Cs,q6_11.ir,Lr k (crx k P q) sm,Mr k (fun _=>k) P pg,q1.ir,Cf bk4 #[.bool q1.b,.slice q1.a q1.n q1.c] 43,Cf bk1 #[p.v,s.v,.bool c.b,.slice c.a c.n c.c] 45,Mr (k+r) (fun _=>k+r) P p,Lr (k+r) q s] (by simp)) ⟨s13,rfl,hi_s13⟩ vsm))
      ·
       exact oz rfl (fun _ hK=>wp_move (.tmp 15) rfl (zet ((hev 15 (by decide)).trans rfl)) (hK _ _ hJ rfl vsm))
      ·
       obtain ⟨s13,e17,hi_s13⟩:=(show (vlsr k (P (k+a))) (uu 17) XR16 ww from (hd 17 (by kernel_rfl)))
       replace hJ:=hJ.more (f:=Lr k (P (k+a)) s13) (Lr.stb _ _ _) hi_s13
       refine oz rfl (fun _ hK=>zcz (.func 54) #[.tmp 88,.tmp 89] #[40,40] 54 #[] #[s13.v,sn.v] _ rfl rfl (map2 (zj (hin 17 88 rfl) e17) (zj (hin 18 89 rfl) (show uu 18=sn.v from (hd 18 (by kernel_rfl))))) rfl (fun _ _=>rfl) (dDot hJ.nx s13 sn (e:=(e+(dtb e k))) (hJ.get 0 (f:=Lr k (P (k+a)) s13) rfl) (hJ.get 1 (f:=Lr k (crx k P (P (k+b))) sn) rfl) (fun kz hkz=>((fun (kv:Nat) (hkv:kv < k)=>(fun u hu=>bP (k+a) u (by omega) hu) kv (by omega)) kz hkz).mono (Nat.le_add_right _ _)) (fun kz hkz=>((fun (jv:Nat) (_:jv < k)=>crx_sz (fun (i j:Nat) hi hj=>bP i j (by omega) (by omega)) (fun (kv:Nat) (hkv:kv < k)=>(fun u hu=>bP (k+b) u (by omega) hu) kv (by omega)) jv) kz hkz).mono (Nat.le_add_left _ _)) (by omega) (by omega)) ?_)
       rintro zz ww2 ⟨q14,rfl,ez_q14,hi_q14,hB⟩
       exact ⟨_,rfl,hK _ _ ((hJ.only [Lr k (crx k P (P (k+b))) sn,Fl 2 (ENr (gpA k P a)) b Cr,Fl 1 (ERr (fun _=>r) (gpA k P)) a Cp,Fl 2 (ENr (gqA k P q)) a Cs,q6_11.ir,Lr k (crx k P q) sm,Mr k (fun _=>k) P pg,q1.ir,Cf bk4 #[.bool q1.b,.slice q1.a q1.n q1.c] 43,Cf bk1 #[p.v,s.v,.bool c.b,.slice c.a c.n c.c] 45,Mr (k+r) (fun _=>k+r) P p,Lr (k+r) q s] (by simp)).later hB) ⟨q14,rfl,ez_q14,hi_q14⟩ (vlat hB)⟩
      ·
       obtain ⟨q11,e10,ez_q11,hi_q11⟩:=(show (vnumr ((M.dt k P)*(P (k+a) (k+b)))) (uu 10) XR16 ww from (hd 10 (by kernel_rfl)))
       obtain ⟨q14,e19,ez_q14,hi_q14⟩:=(show (vnumr (M.sm k (fun t=>P (k+a) t*(crx k P (P (k+b))) t))) (uu 19) XR16 ww from (hd 19 (by kernel_rfl)))
       replace hJ:=hJ.more (f:=q11.ir) q11.stbr hi_q11
       replace hJ:=hJ.more (f:=q14.ir) q14.stbr hi_q14
       refine oz rfl (fun _ hK=>zcz (.func 57) #[.tmp 81,.tmp 90] #[43,43] 57 #[] #[q11.v,q14.v] _ rfl rfl (map2 (zj (hin 10 81 rfl) e10) (zj (hin 19 90 rfl) e19)) rfl (fun _ _=>rfl) (dSub hJ.nx q11 q14 (hJ.get 1 (f:=q11.ir) rfl) (hJ.get 0 (f:=q14.ir) rfl) ez_q11 ez_q14 (Sz.mul (dt_sz (fun (i j:Nat) hi hj=>bP i j (by omega) (by omega))) ((fun u hu=>bP (k+a) u (by omega) hu) (k+b) (by omega))) (sm_sz (fun (t:Nat) (ht:t < k)=>Sz.mul ((fun (kv:Nat) (hkv:kv < k)=>(fun u hu=>bP (k+a) u (by omega) hu) kv (by omega)) t ht) ((fun (jv:Nat) (_:jv < k)=>crx_sz (fun (i j:Nat) hi hj=>bP i j (by omega) (by omega)) (fun (kv:Nat) (hkv:kv < k)=>(fun u hu=>bP (k+b) u (by omega) hu) kv (by omega)) jv) t ht))) (by omega) (by omega)) ?_)
       rintro zz ww2 ⟨q15,rfl,ez_q15,hi_q15,hB⟩
       exact ⟨_,rfl,hK _ _ ((hJ.only [Lr k (crx k P (P (k+b))) sn,Fl 2 (ENr (gpA k P a)) b Cr,Fl 1 (ERr (fun _=>r) (gpA k P)) a Cp,Fl 2 (ENr (gqA k P q)) a Cs,q6_11.ir,Lr k (crx k P q) sm,Mr k (fun _=>k) P pg,q1.ir,Cf bk4 #[.bool q1.b,.slice q1.a q1.n q1.c] 43,Cf bk1 #[p.v,s.v,.bool c.b,.slice c.a c.n c.c] 45,Mr (k+r) (fun _=>k+r) P p,Lr (k+r) q s] (by simp)).later hB) ⟨q15,rfl,ez_q15,hi_q15⟩ (vlat hB)⟩
      ·
       obtain ⟨q15,e20,ez_q15,hi_q15⟩:=(show (vnumr (((M.dt k P)*(P (k+a) (k+b))) - (M.sm k (fun t=>P (k+a) t*(crx k P (P (k+b))) t)))) (uu 20) XR16 ww from (hd 20 (by kernel_rfl)))
       replace hJ:=hJ.more (f:=q15.ir) q15.stbr hi_q15
       exact oz rfl (fun _ hK=>wp_bsnr ei40 (.tmp 91) q15 rfl (zj (hin 20 91 rfl) e20) hJ hi_q15 (fun s16 ww2 hB hzb=>hK _ _ (hzb.only [Lr k (crx k P (P (k+b))) sn,Fl 2 (ENr (gpA k P a)) b Cr,Fl 1 (ERr (fun _=>r) (gpA k P)) a Cp,Fl 2 (ENr (gqA k P q)) a Cs,q6_11.ir,Lr k (crx k P q) sm,Mr k (fun _=>k) P pg,q1.ir,Cf bk4 #[.bool q1.b,.slice q1.a q1.n q1.c] 43,Cf bk1 #[p.v,s.v,.bool c.b,.slice c.a c.n c.c] 45,Mr (k+r) (fun _=>k+r) P p,Lr (k+r) q s] (by simp)) ⟨s16,rfl,(hzb.get 0 (f:=Lr 1 (fun _=>q15.z) s16) rfl).congr (fun _ _=>ez_q15)⟩ (vlat hB)))
     clear hZ34
     intro uu W13 hZ35 hd
     have e_0:uu 0=ro.v:=hd 0 (by decide)
     have e_1:uu 1=q1.v:=hd 1 (by decide)
     have e_2:uu 2=.pointer (some ⟨bk1,0,none⟩):=hd 2 (by decide)
     have e_3:uu 3=p.v:=hd 3 (by decide)
     have e_4:uu 4=.int .i64 (((k+a:Nat):Int)):=hd 4 (by decide)
     have e_5:uu 5=(p.at 1 (k+a)):=hd 5 (by decide)
     obtain ⟨s9,e_6,hi_s9⟩:=(show (vlsr (k+r) (P (k+a))) (uu 6) XR16 W13 from hd 6 (by decide))
     have e_7:uu 7=.int .i64 (((k+b:Nat):Int)):=hd 7 (by decide)
     obtain ⟨s9_8,e_8,hi_s9_8⟩:=(show (vatr (k+r) (P (k+a)) (k+b)) (uu 8) XR16 W13 from hd 8 (by decide))
     obtain ⟨q10,e_9,ez_q10,hi_q10⟩:=(show (vnumr (P (k+a) (k+b))) (uu 9) XR16 W13 from hd 9 (by decide))
     obtain ⟨q11,e_10,ez_q11,hi_q11⟩:=(show (vnumr ((M.dt k P)*(P (k+a) (k+b)))) (uu 10) XR16 W13 from hd 10 (by decide))
     have e_11:uu 11=.pointer (some ⟨bk1,0,none⟩):=hd 11 (by decide)
     have e_12:uu 12=p.v:=hd 12 (by decide)
     have e_13:uu 13=.int .i64 (((k+a:Nat):Int)):=hd 13 (by decide)
     have e_14:uu 14=(p.at 1 (k+a)):=hd 14 (by decide)
     obtain ⟨s12,e_15,hi_s12⟩:=(show (vlsr (k+r) (P (k+a))) (uu 15) XR16 W13 from hd 15 (by decide))
     have e_16:uu 16=.int .i64 (((k:Nat):Int)):=hd 16 (by decide)
     obtain ⟨s13,e_17,hi_s13⟩:=(show (vlsr k (P (k+a))) (uu 17) XR16 W13 from hd 17 (by decide))
     have e_18:uu 18=sn.v:=hd 18 (by decide)
     obtain ⟨q14,e_19,ez_q14,hi_q14⟩:=(show (vnumr (M.sm k (fun t=>P (k+a) t*(crx k P (P (k+b))) t))) (uu 19) XR16 W13 from hd 19 (by decide))
     obtain ⟨q15,e_20,ez_q15,hi_q15⟩:=(show (vnumr (((M.dt k P)*(P (k+a) (k+b))) - (M.sm k (fun t=>P (k+a) t*(crx k P (P (k+b))) t)))) (uu 20) XR16 W13 from hd 20 (by decide))
     obtain ⟨s16,e_21,hi_s16⟩:=(show (vlsr 1 (fun _=>((M.dt k P)*(P (k+a) (k+b))) - (M.sm k (fun t=>P (k+a) t*(crx k P (P (k+b))) t)))) (uu 21) XR16 W13 from hd 21 (by decide))
     clear hd
     simp only [layS,Act.put,zzC,zzD,zzE,Nat.zero_add,Nat.reduceAdd,List.drop_succ_cons,List.drop_zero,List.drop_nil,e_0,e_1,e_2,e_3,e_4,e_5,e_6,e_7,e_8,e_9,e_10,e_11,e_12,e_13,e_14,e_15,e_16,e_17,e_18,e_19,e_20,e_21]
     clear e_0 e_1 e_2 e_3 e_4 e_5 e_6 e_7 e_8 e_9 e_10 e_11 e_12 e_13 e_14 e_15 e_16 e_17 e_18 e_19 e_20 e_21
     have hZ36:=hZ35.more (f:=Lr (k+r) (P (k+a)) s9) (Lr.stb _ _ _) hi_s9
     clear hZ35 hi_s9
     have hZ37:=hZ36.more (f:=Lr (k+r) (P (k+a)) s9_8) (Lr.stb _ _ _) hi_s9_8
     clear hZ36 hi_s9_8
     have hZ38:=hZ37.more (f:=q10.ir) q10.stbr hi_q10
     clear hZ37 hi_q10
     have hZ39:=hZ38.more (f:=q11.ir) q11.stbr hi_q11
     clear hZ38 hi_q11
     have hZ40:=hZ39.more (f:=Lr (k+r) (P (k+a)) s12) (Lr.stb _ _ _) hi_s12
     clear hZ39 hi_s12
     have hZ41:=hZ40.more (f:=Lr k (P (k+a)) s13) (Lr.stb _ _ _) hi_s13
     clear hZ40 hi_s13
     have hZ42:=hZ41.more (f:=q14.ir) q14.stbr hi_q14
     clear hZ41 hi_q14
     have hZ43:=hZ42.more (f:=q15.ir) q15.stbr hi_q15
     clear hZ42 hi_q15
     have hZ44:=hZ43.more (f:=Lr 1 (fun _=>((M.dt k P)*(P (k+a) (k+b))) - (M.sm k (fun t=>P (k+a) t*(crx k P (P (k+b))) t))) s16) (Lr.stb _ _ _) hi_s16
     clear hZ43 hi_s16
     obtain ⟨qa17,q17,ea17,ez_q17,hi_q17,hca17⟩:=Lr.one (hZ44.get 0 (f:=Lr 1 (fun _=>((M.dt k P)*(P (k+a) (k+b))) - (M.sm k (fun t=>P (k+a) t*(crx k P (P (k+b))) t))) s16) rfl)
     have EA17:=Lib.hid ea17
     clear ea17
     have hZ45w:=hZ44.more (f:=q17.ir) q17.stbr hi_q17
     have hZ45y:=hZ45w.perm (perm_mid _ _ _)
     clear hZ45w hi_q17
     go_wp2_with (refine zso rfl (fun K hK=>wp_app ei40 (.tmp 71) (.tmp 92) rfl (s:=ro) rfl qa17 s16.c EA17.out hw_ro (by rw [hn_ro]; omega) hZ45y [.bool q17.b,.slice q17.a q17.n q17.c] rfl hca17 (fun u hu=>by simp only [List.mem_cons,List.not_mem_nil,or_false] at hu; rcases hu with rfl | rfl <;> rfl) (fun o17 C17 X45 W14 hn_o17 hw_o17 ho_C17 hg_C17 hZ45x=>hK _ _ ?_)))
     simp only [Stop,Act.put,zzC,zzD,zzE]
     clear hZ45y hca17 EA17
     rw [hn_ro] at hn_o17 ho_C17 hg_C17
     have hZ45:=hZ45x.perm (List.Perm.symm (perm_mid _ _ _))
     clear hZ45x hZ44
     have hZ46s:Fl 2 (ENr (gpA k P a)) (b+1) C17 X45 W14:=Fl.snoc (C:=Cr) (hZ45.get 11 (f:=Fl 2 (ENr (gpA k P a)) b Cr) rfl) (cs:=[.bool q17.b,.slice q17.a q17.n q17.c]) rfl ho_C17 hg_C17 ⟨q17,ez_q17.trans (by rfl),(hZ45.get 0 (f:=q17.ir) rfl),rfl⟩
     have hZ46:=(hZ45.more (Fl.stb (ENr.stb _) _ _) hZ46s).only [Fl 2 (ENr (gpA k P a)) (b+1) C17,Fl 1 (ERr (fun _=>r) (gpA k P)) a Cp,Fl 2 (ENr (gqA k P q)) a Cs,q6_11.ir,Lr k (crx k P q) sm,Mr k (fun _=>k) P pg,q1.ir,Cf bk4 #[.bool q1.b,.slice q1.a q1.n q1.c] 43,Cf bk1 #[p.v,s.v,.bool c.b,.slice c.a c.n c.c] 45,Mr (k+r) (fun _=>k+r) P p,Lr (k+r) q s] (by simp)
     clear hZ45 hZ46s
     go_wp2_with (refine zso rfl (fun K hK=>wp_addi (.tmp 60) (.const (.int .i64 1)) rfl rfl rfl (C:=((k+b+1:Nat):Int)) (by omega) (by omega) (by omega) (hK _ _ ?_)))
     simp only [Stop,Act.put,zzC,zzD,zzE]
     go_wp2
     go_roundw
     case rel=>exact ⟨b+1,o17,C17,_,by omega,(by first | rfl | go_num | (congr 1; omega)),rfl,hn_o17,hw_o17,hZ46⟩
     case measure=>simp [intOf]; omega
    ·
     obtain rfl:r=b:=by omega
     go_wp2_with (refine zso rfl (fun K hK=>wp_fda (v:=.pointer (some ⟨bk1,1,none⟩)) 45 (.tmp 2) 1 rfl rfl (fun _=>by kernel_rfl) (hK _ _ ?_)))
     simp only [Stop,Act.put,zzC,zzD,zzE]
     go_wp2_with (refine zso rfl (fun K hK=>wp_load1 (v:=s.v) 40 (.tmp 56) rfl bk1 1 #[p.v,s.v,.bool c.b,.slice c.a c.n c.c] 45 (hZ2.get 8 (f:=Cf bk1 #[p.v,s.v,.bool c.b,.slice c.a c.n c.c] 45) rfl).1 rfl ag40 (by kernel_rfl) (hK _ _ ?_)))
     simp only [Stop,Act.put,zzC,zzD,zzE]
     go_wp2_with (refine zso rfl (fun K hK=>wp_lenq (.tmp 57) 40 43 s rfl (by kernel_rfl) rfl (hZ2.get 10 (f:=Lr (k+r) q s) rfl).n (hK _ _ ?_)))
     simp only [Stop,Act.put,zzC,zzD,zzE]
     go_wp2_with (refine zso rfl (fun K hK=>wp_lssi (.tmp 55) (.tmp 58) rfl rfl rfl (r:=false) (decide_eq_false (Int.lt_irrefl _)) (hK _ _ ?_)))
     simp only [Stop,Act.put,zzC,zzD,zzE]
     obtain ⟨XT,hZ47⟩:=Zs.tellr (hZ2.perm (perm_mid _ _ _)) hX hw_ro hn_ro (hZ2.get 0 (f:=Fl 2 (ENr (gpA k P a)) r Cr) rfl)
     clear hZ2
     have hZ48:=hZ47.only [Lr r (gpA k P a) ro,Fl 1 (ERr (fun _=>r) (gpA k P)) a Cp,Fl 2 (ENr (gqA k P q)) a Cs,q6_11.ir,Lr k (crx k P q) sm,Mr k (fun _=>k) P pg,q1.ir,Cf bk4 #[.bool q1.b,.slice q1.a q1.n q1.c] 43,Cf bk1 #[p.v,s.v,.bool c.b,.slice c.a c.n c.c] 45,Mr (k+r) (fun _=>k+r) P p,Lr (k+r) q s] (by simp)
     clear hZ47
     go_wp2_with (refine zso rfl (fun K hK=>wp_fda (v:=.pointer (some ⟨bk5,0,none⟩)) 45 (.tmp 11) 0 rfl rfl (fun _=>by kernel_rfl) (hK _ _ ?_)))
     simp only [Stop,Act.put,zzC,zzD,zzE]
     go_wp2_with (refine zso rfl (fun K hK=>wp_load1 (v:=po.v) 39 (.tmp 94) rfl bk5 0 #[po.v,so.v,.bool q6_11.b,.slice q6_11.a q6_11.n q6_11.c] 45 (hZ48.es.at' _ (zzG (i:=0) rfl)) rfl ag39 (by kernel_rfl) (hK _ _ ?_)))
     simp only [Stop,Act.put,zzC,zzD,zzE]
     go_wp2_with (refine zso rfl (fun K hK=>wp_bs1 ei39 (.tmp 96) rfl rfl rfl (hK _ _ ?_)))
     simp only [Stop,Act.put,zzC,zzD,zzE]
     have hZ49:=hZ48.later (below_new _ (.cells #[ro.v] 40))
     clear hZ48
     have hZ50y:=hZ49.perm (perm_mid _ _ _)
     go_wp2_with (refine zso rfl (fun K hK=>wp_app ei39 (.tmp 95) (.tmp 97) rfl (s:=po) rfl ⟨wr.heap.size,0,none⟩ 1 rfl hw_po (by rw [hn_po]; omega) hZ50y [ro.v] rfl (cell_one _ ro.v _) (fun u hu=>by simp only [List.mem_cons,List.not_mem_nil,or_false] at hu; subst hu; rfl) (fun o18 C18 X50 W15 hn_o18 hw_o18 ho_C18 hg_C18 hZ50x=>hK _ _ ?_)))
     simp only [Stop,Act.put,zzC,zzD,zzE]
     clear hZ50y
     rw [hn_po] at hn_o18 ho_C18 hg_C18
     have hZ50:=hZ50x.perm (List.Perm.symm (perm_mid _ _ _))
     clear hZ50x hZ49
     go_wp2_with (refine zso rfl (fun K hK=>wp_fda (v:=.pointer (some ⟨bk5,0,none⟩)) 45 (.tmp 11) 0 rfl rfl (fun _=>by kernel_rfl) (hK _ _ ?_)))
     simp only [Stop,Act.put,zzC,zzD,zzE]
     go_wp2_with (refine zss 39 (.tmp 99) (.tmp 98) 0 bk5 0 #[po.v,so.v,.bool q6_11.b,.slice q6_11.a q6_11.n q6_11.c] 45 1 [o18.v] #[o18.v,so.v,.bool q6_11.b,.slice q6_11.a q6_11.n q6_11.c] ([(bk5,#[o18.v,so.v,.bool q6_11.b,.slice q6_11.a q6_11.n q6_11.c],45),(bk3,#[.bool false,.slice none 0 0],43),(bk2,#[.slice none 0 0,.slice none 0 0,.bool false,.slice none 0 0],45)]++(owl o18 C18 40++owl so Cs 43)) rfl rfl rfl rfl sz39 hZ50 rfl rfl (zzF (by kernel_rfl)) (by kernel_rfl) (by kernel_rfl) (by kernel_rfl) (fun W16 hZ51=>?_))
     clear hZ50
     simp only [Stop,Act.put,zzC,zzD,zzE]
     have hZ52s:Fl 1 (ERr (fun _=>r) (gpA k P)) (a+1) C18 X50 W16:=Fl.snoc (C:=Cp) (hZ51.get 1 (f:=Fl 1 (ERr (fun _=>r) (gpA k P)) a Cp) rfl) (cs:=[ro.v]) rfl ho_C18 hg_C18 ⟨ro,(hZ51.get 0 (f:=Lr r (gpA k P a) ro) rfl),rfl⟩
     have hZ52:=(hZ51.more (Fl.stb (ERr.stb _ _) _ _) hZ52s).only [Fl 1 (ERr (fun _=>r) (gpA k P)) (a+1) C18,Fl 2 (ENr (gqA k P q)) a Cs,q6_11.ir,Lr k (crx k P q) sm,Mr k (fun _=>k) P pg,q1.ir,Cf bk4 #[.bool q1.b,.slice q1.a q1.n q1.c] 43,Cf bk1 #[p.v,s.v,.bool c.b,.slice c.a c.n c.c] 45,Mr (k+r) (fun _=>k+r) P p,Lr (k+r) q s] (by simp)
     clear hZ51 hZ52s
     go_wp2
     obtain ⟨XR18,hZ53⟩:∃ Xr,Zs w W16 X0 Xr ([(bk5,#[o18.v,so.v,.bool q6_11.b,.slice q6_11.a q6_11.n q6_11.c],45),(bk3,#[.bool false,.slice none 0 0],43),(bk2,#[.slice none 0 0,.slice none 0 0,.bool false,.slice none 0 0],45)]++(owl o18 C18 40++owl so Cs 43)) [Fl 1 (ERr (fun _=>r) (gpA k P)) (a+1) C18,Fl 2 (ENr (gqA k P q)) a Cs,q6_11.ir,Lr k (crx k P q) sm,Mr k (fun _=>k) P pg,q1.ir,Cf bk4 #[.bool q1.b,.slice q1.a q1.n q1.c] 43,Cf bk1 #[p.v,s.v,.bool c.b,.slice c.a c.n c.c] 45,Mr (k+r) (fun _=>k+r) P p,Lr (k+r) q s]:=⟨_,hZ52⟩
     clear hZ52
     refine zrq 20 [some 100,some 101,some 102,some 103,some 104,some 105,some 106,some 107,some 108,some 109,some 110,some 111,some 112,some 113,some 114,some 115,some 116,some 117,some 118,some 119] [veq (.pointer (some ⟨bk5,1,none⟩)),veq (so.v),veq (q1.v),veq (.pointer (some ⟨bk1,1,none⟩)),veq (s.v),veq (.int .i64 (((k+a:Nat):Int))),veq ((s.at 2 (k+a))),vnumr (q (k+a)),vnumr ((M.dt k P)*(q (k+a))),veq (.pointer (some ⟨bk1,0,none⟩)),veq (p.v),veq (.int .i64 (((k+a:Nat):Int))),veq ((p.at 1 (k+a))),vlsr (k+r) (P (k+a)),veq (.int .i64 (((k:Nat):Int))),vlsr k (P (k+a)),veq (sm.v),vnumr (M.sm k (fun t=>P (k+a) t*crx k P q t)),vnumr (((M.dt k P)*(q (k+a))) - (M.sm k (fun t=>P (k+a) t*crx k P q t))),vlsr 1 (fun _=>((M.dt k P)*(q (k+a))) - (M.sm k (fun t=>P (k+a) t*crx k P q t)))] (by kernel_rfl) (by kernel_rfl) (by rfl) (by decide) (by rfl) hZ53 ?_ ?_
     ·
      intro iq hlq hiq LL uu ww aa hLi hLc hJ hd hall hev hin hold
      clear hZ53
      obtain rfl | rfl | rfl | rfl | rfl | rfl | rfl | rfl | rfl | rfl | rfl | rfl | rfl | rfl | rfl | rfl | rfl | rfl | rfl | rfl:iq=0∨iq=1∨iq=2∨iq=3∨iq=4∨iq=5∨iq=6∨iq=7∨iq=8∨iq=9∨iq=10∨iq=11∨iq=12∨iq=13∨iq=14∨iq=15∨iq=16∨iq=17∨iq=18∨iq=19:=by omega
      ·
       exact oz rfl (fun _ hK=>wp_fda (v:=.pointer (some ⟨bk5,1,none⟩)) 45 (.tmp 11) 1 rfl (zet ((hev 11 (by decide)).trans rfl)) (fun _=>by kernel_rfl) (hK _ _ hJ rfl vsm))
      ·
       exact oz rfl (fun _ hK=>wp_load1 (v:=so.v) 40 (.tmp 100) rfl bk5 1 #[o18.v,so.v,.bool q6_11.b,.slice q6_11.a q6_11.n q6_11.c] 45 (hJ.es.at' _ (zzG (i:=0) rfl)) (zj (hin 0 100 rfl) (show uu 0=.pointer (some ⟨bk5,1,none⟩) from (hd 0 (by kernel_rfl)))) ag40 (by kernel_rfl) (hK _ _ hJ rfl vsm))
      ·
       exact oz rfl (fun _ hK=>wp_load 43 (.tmp 9) rfl bk4 0 2 #[.bool q1.b,.slice q1.a q1.n q1.c] #[.bool q1.b,.slice q1.a q1.n q1.c] 43 (hJ.get 6 (f:=Cf bk4 #[.bool q1.b,.slice q1.a q1.n q1.c] 43) rfl).1 (zet ((hev 9 (by decide)).trans rfl)) ag43 sz43 (zzF (by kernel_rfl)) (by kernel_rfl) (hK _ _ hJ rfl vsm))
      ·
       exact oz rfl (fun _ hK=>wp_fda (v:=.pointer (some ⟨bk1,1,none⟩)) 45 (.tmp 2) 1 rfl (zet ((hev 2 (by decide)).trans rfl)) (fun _=>by kernel_rfl) (hK _ _ hJ rfl vsm))
      ·
       exact oz rfl (fun _ hK=>wp_load1 (v:=s.v) 40 (.tmp 103) rfl bk1 1 #[p.v,s.v,.bool c.b,.slice c.a c.n c.c] 45 (hJ.get 7 (f:=Cf bk1 #[p.v,s.v,.bool c.b,.slice c.a c.n c.c] 45) rfl).1 (zj (hin 3 103 rfl) (show uu 3=.pointer (some ⟨bk1,1,none⟩) from (hd 3 (by kernel_rfl)))) ag40 (by kernel_rfl) (hK _ _ hJ rfl vsm))
      ·
       exact oz rfl (fun _ hK=>wp_move (.tmp 12) rfl (zet ((hev 12 (by decide)).trans rfl)) (hK _ _ hJ rfl vsm))
      ·
       exact oz rfl (fun _ hK=>wp_ixs 40 (.tmp 104) (.tmp 105) s (k+a) 2 43 rfl (zj (hin 4 104 rfl) (show uu 4=s.v from (hd 4 (by kernel_rfl)))) (zj (hin 5 105 rfl) (show uu 5=.int .i64 (((k+a:Nat):Int)) from (hd 5 (by kernel_rfl)))) (by kernel_rfl) sz43 (fun h=>((hJ.get 9 (f:=Lr (k+r) q s) rfl).sq.nil h).1) ((hJ.get 9 (f:=Lr (k+r) q s) rfl).n ▸ (by omega)) (hK _ _ hJ rfl vsm))
      ·
       exact oz rfl (fun _ hK=>wp_ldnr 43 (.tmp 106) s (k+a) (k+r) q rfl (zj (hin 6 106 rfl) (show uu 6=(s.at 2 (k+a)) from (hd 6 (by kernel_rfl)))) (hJ.get 9 (f:=Lr (k+r) q s) rfl) (by omega) ag43 sz43 (fun q19 ez_q19 hi_q19=>hK _ _ hJ ⟨q19,rfl,ez_q19,hi_q19⟩ vsm))
      ·
       obtain ⟨q19,e7,ez_q19,hi_q19⟩:=(show (vnumr (q (k+a))) (uu 7) XR18 ww from (hd 7 (by kernel_rfl)))
       replace hJ:=hJ.more (f:=q19.ir) q19.stbr hi_q19
       refine oz rfl (fun _ hK=>zcz (.func 71) #[.tmp 102,.tmp 107] #[43,43] 71 #[] #[q1.v,q19.v] _ rfl rfl (map2 (zj (hin 2 102 rfl) (show uu 2=q1.v from (hd 2 (by kernel_rfl)))) (zj (hin 7 107 rfl) e7)) rfl (fun _ _=>rfl) (zMulr hJ.nx (hJ.get 6 (f:=q1.ir) rfl) (hJ.get 0 (f:=q19.ir) rfl) ez_q1 ez_q19 (dt_sz (fun (i j:Nat) hi hj=>bP i j (by omega) (by omega))) (bq (k+a) (by omega)) (by omega) (by omega)) ?_)
       rintro zz ww2 ⟨q20,rfl,ez_q20,hi_q20,hB⟩
       exact ⟨_,rfl,hK _ _ ((hJ.only [Fl 1 (ERr (fun _=>r) (gpA k P)) (a+1) C18,Fl 2 (ENr (gqA k P q)) a Cs,q6_11.ir,Lr k (crx k P q) sm,Mr k (fun _=>k) P pg,q1.ir,Cf bk4 #[.bool q1.b,.slice q1.a q1.n q1.c] 43,Cf bk1 #[p.v,s.v,.bool c.b,.slice c.a c.n c.c] 45,Mr (k+r) (fun _=>k+r) P p,Lr (k+r) q s] (by simp)).later hB) ⟨q20,rfl,ez_q20,hi_q20⟩ (vlat hB)⟩
      ·
       exact oz rfl (fun _ hK=>wp_fda (v:=.pointer (some ⟨bk1,0,none⟩)) 45 (.tmp 2) 0 rfl (zet ((hev 2 (by decide)).trans rfl)) (fun _=>by kernel_rfl) (hK _ _ hJ rfl vsm))
      ·
       exact oz rfl (fun _ hK=>wp_load1 (v:=p.v) 39 (.tmp 109) rfl bk1 0 #[p.v,s.v,.bool c.b,.slice c.a c.n c.c] 45 (hJ.get 7 (f:=Cf bk1 #[p.v,s.v,.bool c.b,.slice c.a c.n c.c] 45) rfl).1 (zj (hin 9 109 rfl) (show uu 9=.pointer (some ⟨bk1,0,none⟩) from (hd 9 (by kernel_rfl)))) ag39 (by kernel_rfl) (hK _ _ hJ rfl vsm))
      ·
       exact oz rfl (fun _ hK=>wp_move (.tmp 12) rfl (zet ((hev 12 (by decide)).trans rfl)) (hK _ _ hJ rfl vsm))
      ·
       exact oz rfl (fun _ hK=>wp_ixs 39 (.tmp 110) (.tmp 111) p (k+a) 1 40 rfl (zj (hin 10 110 rfl) (show uu 10=p.v from (hd 10 (by kernel_rfl)))) (zj (hin 11 111 rfl) (show uu 11=.int .i64 (((k+a:Nat):Int)) from (hd 11 (by kernel_rfl)))) (by kernel_rfl) sz40 (fun h=>((hJ.get 8 (f:=Mr (k+r) (fun _=>k+r) P p) rfl).sq.nil h).1) ((hJ.get 8 (f:=Mr (k+r) (fun _=>k+r) P p) rfl).n ▸ (by omega)) (hK _ _ hJ rfl vsm))
      ·
       exact oz rfl (fun _ hK=>wp_ldmr 40 (.tmp 112) p (k+a) (k+r) (fun _=>k+r) P rfl (zj (hin 12 112 rfl) (show uu 12=(p.at 1 (k+a)) from (hd 12 (by kernel_rfl)))) (hJ.get 8 (f:=Mr (k+r) (fun _=>k+r) P p) rfl) (by omega) ag40 (fun s21 hi_s21=>hK _ _ hJ ⟨s21,rfl,hi_s21⟩ vsm))
      ·
       exact oz rfl (fun _ hK=>wp_move (.tmp 1) rfl (zet ((hev 1 (by decide)).trans rfl)) (hK _ _ hJ rfl vsm))
      ·
       obtain ⟨s21,e13,hi_s21⟩:=(show (vlsr (k+r) (P (k+a))) (uu 13) XR18 ww from (hd 13 (by kernel_rfl)))
       replace hJ:=hJ.more (f:=Lr (k+r) (P (k+a)) s21) (Lr.stb _ _ _) hi_s21
       exact oz rfl (fun _ hK=>wp_slh 40 43 (.tmp 113) (.tmp 114) s21 k rfl (zj (hin 13 113 rfl) e13) (zj (hin 14 114 rfl) (show uu 14=.int .i64 (((k:Nat):Int)) from (hd 14 (by kernel_rfl)))) (by kernel_rfl) sz43 (hJ.get 0 (f:=Lr (k+r) (P (k+a)) s21) rfl) (by omega) (fun s22 hi_s22=>hK _ _ (hJ.only [Fl 1 (ERr (fun _=>r) (gpA k P)) (a+1) C18,Fl 2 (ENr (gqA k P q)) a Cs,q6_11.ir,Lr k (crx k P q) sm,Mr k (fun _=>k) P pg,q1.ir,Cf bk4 #[.bool q1.b,.slice q1.a q1.n q1.c] 43,Cf bk1 #[p.v,s.v,.bool c.b,.slice c.a c.n c.c] 45,Mr (k+r) (fun _=>k+r) P p,Lr (k+r) q s] (by simp)) ⟨s22,rfl,hi_s22⟩ vsm))
      ·
       exact oz rfl (fun _ hK=>wp_move (.tmp 10) rfl (zet ((hev 10 (by decide)).trans rfl)) (hK _ _ hJ rfl vsm))
      ·
       obtain ⟨s22,e15,hi_s22⟩:=(show (vlsr k (P (k+a))) (uu 15) XR18 ww from (hd 15 (by kernel_rfl)))
       replace hJ:=hJ.more (f:=Lr k (P (k+a)) s22) (Lr.stb _ _ _) hi_s22
       refine oz rfl (fun _ hK=>zcz (.func 54) #[.tmp 115,.tmp 116] #[40,40] 54 #[] #[s22.v,sm.v] _ rfl rfl (map2 (zj (hin 15 115 rfl) e15) (zj (hin 16 116 rfl) (show uu 16=sm.v from (hd 16 (by kernel_rfl))))) rfl (fun _ _=>rfl) (dDot hJ.nx s22 sm (e:=(e+(dtb e k))) (hJ.get 0 (f:=Lr k (P (k+a)) s22) rfl) (hJ.get 4 (f:=Lr k (crx k P q) sm) rfl) (fun kz hkz=>((fun (kv:Nat) (hkv:kv < k)=>(fun u hu=>bP (k+a) u (by omega) hu) kv (by omega)) kz hkz).mono (Nat.le_add_right _ _)) (fun kz hkz=>((fun (jv:Nat) (_:jv < k)=>crx_sz (fun (i j:Nat) hi hj=>bP i j (by omega) (by omega)) (fun (kv:Nat) (hkv:kv < k)=>bq kv (by omega)) jv) kz hkz).mono (Nat.le_add_left _ _)) (by omega) (by omega)) ?_)
       rintro zz ww2 ⟨q23,rfl,ez_q23,hi_q23,hB⟩
       exact ⟨_,rfl,hK _ _ ((hJ.only [Fl 1 (ERr (fun _=>r) (gpA k P)) (a+1) C18,Fl 2 (ENr (gqA k P q)) a Cs,q6_11.ir,Lr k (crx k P q) sm,Mr k (fun _=>k) P pg,q1.ir,Cf bk4 #[.bool q1.b,.slice q1.a q1.n q1.c] 43,Cf bk1 #[p.v,s.v,.bool c.b,.slice c.a c.n c.c] 45,Mr (k+r) (fun _=>k+r) P p,Lr (k+r) q s] (by simp)).later hB) ⟨q23,rfl,ez_q23,hi_q23⟩ (vlat hB)⟩
      ·
       obtain ⟨q20,e8,ez_q20,hi_q20⟩:=(show (vnumr ((M.dt k P)*(q (k+a)))) (uu 8) XR18 ww from (hd 8 (by kernel_rfl)))
       obtain ⟨q23,e17,ez_q23,hi_q23⟩:=(show (vnumr (M.sm k (fun t=>P (k+a) t*crx k P q t))) (uu 17) XR18 ww from (hd 17 (by kernel_rfl)))
       replace hJ:=hJ.more (f:=q20.ir) q20.stbr hi_q20
       replace hJ:=hJ.more (f:=q23.ir) q23.stbr hi_q23
       refine oz rfl (fun _ hK=>zcz (.func 57) #[.tmp 108,.tmp 117] #[43,43] 57 #[] #[q20.v,q23.v] _ rfl rfl (map2 (zj (hin 8 108 rfl) e8) (zj (hin 17 117 rfl) e17)) rfl (fun _ _=>rfl) (dSub hJ.nx q20 q23 (hJ.get 1 (f:=q20.ir) rfl) (hJ.get 0 (f:=q23.ir) rfl) ez_q20 ez_q23 (Sz.mul (dt_sz (fun (i j:Nat) hi hj=>bP i j (by omega) (by omega))) (bq (k+a) (by omega))) (sm_sz (fun (t:Nat) (ht:t < k)=>Sz.mul ((fun (kv:Nat) (hkv:kv < k)=>(fun u hu=>bP (k+a) u (by omega) hu) kv (by omega)) t ht) ((fun (jv:Nat) (_:jv < k)=>crx_sz (fun (i j:Nat) hi hj=>bP i j (by omega) (by omega)) (fun (kv:Nat) (hkv:kv < k)=>bq kv (by omega)) jv) t ht))) (by omega) (by omega)) ?_)
       rintro zz ww2 ⟨q24,rfl,ez_q24,hi_q24,hB⟩
       exact ⟨_,rfl,hK _ _ ((hJ.only [Fl 1 (ERr (fun _=>r) (gpA k P)) (a+1) C18,Fl 2 (ENr (gqA k P q)) a Cs,q6_11.ir,Lr k (crx k P q) sm,Mr k (fun _=>k) P pg,q1.ir,Cf bk4 #[.bool q1.b,.slice q1.a q1.n q1.c] 43,Cf bk1 #[p.v,s.v,.bool c.b,.slice c.a c.n c.c] 45,Mr (k+r) (fun _=>k+r) P p,Lr (k+r) q s] (by simp)).later hB) ⟨q24,rfl,ez_q24,hi_q24⟩ (vlat hB)⟩
      ·
       obtain ⟨q24,e18,ez_q24,hi_q24⟩:=(show (vnumr (((M.dt k P)*(q (k+a))) - (M.sm k (fun t=>P (k+a) t*crx k P q t)))) (uu 18) XR18 ww from (hd 18 (by kernel_rfl)))
       replace hJ:=hJ.more (f:=q24.ir) q24.stbr hi_q24
       exact oz rfl (fun _ hK=>wp_bsnr ei40 (.tmp 118) q24 rfl (zj (hin 18 118 rfl) e18) hJ hi_q24 (fun s25 ww2 hB hzb=>hK _ _ (hzb.only [Fl 1 (ERr (fun _=>r) (gpA k P)) (a+1) C18,Fl 2 (ENr (gqA k P q)) a Cs,q6_11.ir,Lr k (crx k P q) sm,Mr k (fun _=>k) P pg,q1.ir,Cf bk4 #[.bool q1.b,.slice q1.a q1.n q1.c] 43,Cf bk1 #[p.v,s.v,.bool c.b,.slice c.a c.n c.c] 45,Mr (k+r) (fun _=>k+r) P p,Lr (k+r) q s] (by simp)) ⟨s25,rfl,(hzb.get 0 (f:=Lr 1 (fun _=>q24.z) s25) rfl).congr (fun _ _=>ez_q24)⟩ (vlat hB)))
     clear hZ53
     intro uu W17 hZ54 hd
     have e_0:uu 0=.pointer (some ⟨bk5,1,none⟩):=hd 0 (by decide)
     have e_1:uu 1=so.v:=hd 1 (by decide)
     have e_2:uu 2=q1.v:=hd 2 (by decide)
     have e_3:uu 3=.pointer (some ⟨bk1,1,none⟩):=hd 3 (by decide)
     have e_4:uu 4=s.v:=hd 4 (by decide)
     have e_5:uu 5=.int .i64 (((k+a:Nat):Int)):=hd 5 (by decide)
     have e_6:uu 6=(s.at 2 (k+a)):=hd 6 (by decide)
     obtain ⟨q19,e_7,ez_q19,hi_q19⟩:=(show (vnumr (q (k+a))) (uu 7) XR18 W17 from hd 7 (by decide))
     obtain ⟨q20,e_8,ez_q20,hi_q20⟩:=(show (vnumr ((M.dt k P)*(q (k+a)))) (uu 8) XR18 W17 from hd 8 (by decide))
     have e_9:uu 9=.pointer (some ⟨bk1,0,none⟩):=hd 9 (by decide)
     have e_10:uu 10=p.v:=hd 10 (by decide)
     have e_11:uu 11=.int .i64 (((k+a:Nat):Int)):=hd 11 (by decide)
     have e_12:uu 12=(p.at 1 (k+a)):=hd 12 (by decide)
     obtain ⟨s21,e_13,hi_s21⟩:=(show (vlsr (k+r) (P (k+a))) (uu 13) XR18 W17 from hd 13 (by decide))
     have e_14:uu 14=.int .i64 (((k:Nat):Int)):=hd 14 (by decide)
     obtain ⟨s22,e_15,hi_s22⟩:=(show (vlsr k (P (k+a))) (uu 15) XR18 W17 from hd 15 (by decide))
     have e_16:uu 16=sm.v:=hd 16 (by decide)
     obtain ⟨q23,e_17,ez_q23,hi_q23⟩:=(show (vnumr (M.sm k (fun t=>P (k+a) t*crx k P q t))) (uu 17) XR18 W17 from hd 17 (by decide))
     obtain ⟨q24,e_18,ez_q24,hi_q24⟩:=(show (vnumr (((M.dt k P)*(q (k+a))) - (M.sm k (fun t=>P (k+a) t*crx k P q t)))) (uu 18) XR18 W17 from hd 18 (by decide))
     obtain ⟨s25,e_19,hi_s25⟩:=(show (vlsr 1 (fun _=>((M.dt k P)*(q (k+a))) - (M.sm k (fun t=>P (k+a) t*crx k P q t)))) (uu 19) XR18 W17 from hd 19 (by decide))
     clear hd
     simp only [layS,Act.put,zzC,zzD,zzE,Nat.zero_add,Nat.reduceAdd,List.drop_succ_cons,List.drop_zero,List.drop_nil,e_0,e_1,e_2,e_3,e_4,e_5,e_6,e_7,e_8,e_9,e_10,e_11,e_12,e_13,e_14,e_15,e_16,e_17,e_18,e_19]
     clear e_0 e_1 e_2 e_3 e_4 e_5 e_6 e_7 e_8 e_9 e_10 e_11 e_12 e_13 e_14 e_15 e_16 e_17 e_18 e_19
     have hZ55:=hZ54.more (f:=q19.ir) q19.stbr hi_q19
     clear hZ54 hi_q19
     have hZ56:=hZ55.more (f:=q20.ir) q20.stbr hi_q20
     clear hZ55 hi_q20
     have hZ57:=hZ56.more (f:=Lr (k+r) (P (k+a)) s21) (Lr.stb _ _ _) hi_s21
     clear hZ56 hi_s21
     have hZ58:=hZ57.more (f:=Lr k (P (k+a)) s22) (Lr.stb _ _ _) hi_s22
     clear hZ57 hi_s22
     have hZ59:=hZ58.more (f:=q23.ir) q23.stbr hi_q23
     clear hZ58 hi_q23
     have hZ60:=hZ59.more (f:=q24.ir) q24.stbr hi_q24
     clear hZ59 hi_q24
     have hZ61:=hZ60.more (f:=Lr 1 (fun _=>((M.dt k P)*(q (k+a))) - (M.sm k (fun t=>P (k+a) t*crx k P q t))) s25) (Lr.stb _ _ _) hi_s25
     clear hZ60 hi_s25
     obtain ⟨qa26,q26,ea26,ez_q26,hi_q26,hca26⟩:=Lr.one (hZ61.get 0 (f:=Lr 1 (fun _=>((M.dt k P)*(q (k+a))) - (M.sm k (fun t=>P (k+a) t*crx k P q t))) s25) rfl)
     have EA26:=Lib.hid ea26
     clear ea26
     have hZ62w:=hZ61.more (f:=q26.ir) q26.stbr hi_q26
     have hZ62y:=hZ62w.perm ((List.Perm.append_left _ List.perm_append_comm).trans (perm_mid _ _ _))
     clear hZ62w hi_q26
     go_wp2_with (refine zso rfl (fun K hK=>wp_app ei40 (.tmp 101) (.tmp 119) rfl (s:=so) rfl qa26 s25.c EA26.out hw_so (by rw [hn_so]; omega) hZ62y [.bool q26.b,.slice q26.a q26.n q26.c] rfl hca26 (fun u hu=>by simp only [List.mem_cons,List.not_mem_nil,or_false] at hu; rcases hu with rfl | rfl <;> rfl) (fun o26 C26 X62 W18 hn_o26 hw_o26 ho_C26 hg_C26 hZ62x=>hK _ _ ?_)))
     simp only [Stop,Act.put,zzC,zzD,zzE]
     clear hZ62y hca26 EA26
     rw [hn_so] at hn_o26 ho_C26 hg_C26
     have hZ62:=hZ62x.perm (List.Perm.symm ((List.Perm.append_left _ List.perm_append_comm).trans (perm_mid _ _ _)))
     clear hZ62x hZ61
     go_wp2_with (refine zso rfl (fun K hK=>wp_fda (v:=.pointer (some ⟨bk5,1,none⟩)) 45 (.tmp 11) 1 rfl rfl (fun _=>by kernel_rfl) (hK _ _ ?_)))
     simp only [Stop,Act.put,zzC,zzD,zzE]
     go_wp2_with (refine zss 40 (.tmp 121) (.tmp 120) 0 bk5 1 #[o18.v,so.v,.bool q6_11.b,.slice q6_11.a q6_11.n q6_11.c] 45 1 [o26.v] #[o18.v,o26.v,.bool q6_11.b,.slice q6_11.a q6_11.n q6_11.c] ([(bk5,#[o18.v,o26.v,.bool q6_11.b,.slice q6_11.a q6_11.n q6_11.c],45),(bk3,#[.bool false,.slice none 0 0],43),(bk2,#[.slice none 0 0,.slice none 0 0,.bool false,.slice none 0 0],45)]++(owl o18 C18 40++owl o26 C26 43)) rfl rfl rfl rfl sz40 hZ62 rfl rfl (zzF (by kernel_rfl)) (by kernel_rfl) (by kernel_rfl) (by kernel_rfl) (fun W19 hZ63=>?_))
     clear hZ62
     simp only [Stop,Act.put,zzC,zzD,zzE]
     have hZ64s:Fl 2 (ENr (gqA k P q)) (a+1) C26 X62 W19:=Fl.snoc (C:=Cs) (hZ63.get 9 (f:=Fl 2 (ENr (gqA k P q)) a Cs) rfl) (cs:=[.bool q26.b,.slice q26.a q26.n q26.c]) rfl ho_C26 hg_C26 ⟨q26,ez_q26.trans (by rfl),(hZ63.get 0 (f:=q26.ir) rfl),rfl⟩
     have hZ64:=(hZ63.more (Fl.stb (ENr.stb _) _ _) hZ64s).only [Fl 2 (ENr (gqA k P q)) (a+1) C26,Fl 1 (ERr (fun _=>r) (gpA k P)) (a+1) C18,q6_11.ir,Lr k (crx k P q) sm,Mr k (fun _=>k) P pg,q1.ir,Cf bk4 #[.bool q1.b,.slice q1.a q1.n q1.c] 43,Cf bk1 #[p.v,s.v,.bool c.b,.slice c.a c.n c.c] 45,Mr (k+r) (fun _=>k+r) P p,Lr (k+r) q s] (by simp)
     clear hZ63 hZ64s
     have hZ65:=hZ64.only [Fl 1 (ERr (fun _=>r) (gpA k P)) (a+1) C18,Fl 2 (ENr (gqA k P q)) (a+1) C26,q6_11.ir,Lr k (crx k P q) sm,Mr k (fun _=>k) P pg,q1.ir,Cf bk4 #[.bool q1.b,.slice q1.a q1.n q1.c] 43,Cf bk1 #[p.v,s.v,.bool c.b,.slice c.a c.n c.c] 45,Mr (k+r) (fun _=>k+r) P p,Lr (k+r) q s] (by simp)
     clear hZ64
     go_wp2_with (refine zso rfl (fun K hK=>wp_addi (.tmp 52) (.const (.int .i64 1)) rfl rfl rfl (C:=((k+a+1:Nat):Int)) (by omega) (by omega) (by omega) (hK _ _ ?_)))
     simp only [Stop,Act.put,zzC,zzD,zzE]
     go_wp2
     go_roundw
     case rel=>exact ⟨a+1,o18,o26,C18,C26,_,by omega,(by first | rfl | go_num | (congr 1; omega)),hn_o18,hw_o18,hn_o26,hw_o26,hZ65⟩
     case measure=>simp [intOf]; omega
  ·
   obtain rfl:r=a:=by omega
   go_wp2_with (refine zso rfl (fun K hK=>wp_fda (v:=.pointer (some ⟨bk1,1,none⟩)) 45 (.tmp 2) 1 rfl rfl (fun _=>by kernel_rfl) (hK _ _ ?_)))
   simp only [Stop,Act.put,zzC,zzD,zzE]
   go_wp2_with (refine zso rfl (fun K hK=>wp_load1 (v:=s.v) 40 (.tmp 48) rfl bk1 1 #[p.v,s.v,.bool c.b,.slice c.a c.n c.c] 45 (hZ.get 7 (f:=Cf bk1 #[p.v,s.v,.bool c.b,.slice c.a c.n c.c] 45) rfl).1 rfl ag40 (by kernel_rfl) (hK _ _ ?_)))
   simp only [Stop,Act.put,zzC,zzD,zzE]
   go_wp2_with (refine zso rfl (fun K hK=>wp_lenq (.tmp 49) 40 43 s rfl (by kernel_rfl) rfl (hZ.get 9 (f:=Lr (k+r) q s) rfl).n (hK _ _ ?_)))
   simp only [Stop,Act.put,zzC,zzD,zzE]
   go_wp2_with (refine zso rfl (fun K hK=>wp_lssi (.tmp 47) (.tmp 50) rfl rfl rfl (r:=false) (decide_eq_false (Int.lt_irrefl _)) (hK _ _ ?_)))
   simp only [Stop,Act.put,zzC,zzD,zzE]
   obtain ⟨XT,hZ66⟩:=Zs.tellm (hZ.perm (perm_mid _ _ _)) hX hw_po hn_po (hZ.get 0 (f:=Fl 1 (ERr (fun _=>r) (gpA k P)) r Cp) rfl)
   clear hZ
   obtain ⟨XU,hZ67⟩:=Zs.tellr (hZ66.perm List.perm_append_comm) hX hw_so hn_so (hZ66.get 2 (f:=Fl 2 (ENr (gqA k P q)) r Cs) rfl)
   clear hZ66
   have hZ68:=hZ67.only [Lr r (gqA k P q) so,Mr r (fun _=>r) (gpA k P) po,q6_11.ir,Lr k (crx k P q) sm,Mr k (fun _=>k) P pg,q1.ir,Cf bk4 #[.bool q1.b,.slice q1.a q1.n q1.c] 43,Cf bk1 #[p.v,s.v,.bool c.b,.slice c.a c.n c.c] 45,Mr (k+r) (fun _=>k+r) P p,Lr (k+r) q s] (by simp)
   clear hZ67
   go_wp2
   obtain ⟨XR19,hZ69⟩:∃ Xr,Zs w wr X0 Xr [(bk5,#[po.v,so.v,.bool q6_11.b,.slice q6_11.a q6_11.n q6_11.c],45),(bk3,#[.bool false,.slice none 0 0],43),(bk2,#[.slice none 0 0,.slice none 0 0,.bool false,.slice none 0 0],45)] [Lr r (gqA k P q) so,Mr r (fun _=>r) (gpA k P) po,q6_11.ir,Lr k (crx k P q) sm,Mr k (fun _=>k) P pg,q1.ir,Cf bk4 #[.bool q1.b,.slice q1.a q1.n q1.c] 43,Cf bk1 #[p.v,s.v,.bool c.b,.slice c.a c.n c.c] 45,Mr (k+r) (fun _=>k+r) P p,Lr (k+r) q s]:=⟨_,hZ68⟩
   clear hZ68
   have hVS19:∀ kq,kq ∈ ([veq (.agg #[po.v,so.v,.bool q6_11.b,.slice q6_11.a q6_11.n q6_11.c]),veq (q1.v),vstK bk2 #[po.v,so.v,.bool q6_11.b,.slice q6_11.a q6_11.n q6_11.c] 45]:List VF)→VSt kq:=by
    intro kq hkq
    simp only [List.mem_cons,List.not_mem_nil,or_false] at hkq
    rcases hkq with rfl | rfl | rfl
    ·
     exact (zve _).st
    ·
     exact (zve _).st
    ·
     exact vstK_st _ _ _
   refine wp_region_s 3 [some 122,some 123,none] [veq (.agg #[po.v,so.v,.bool q6_11.b,.slice q6_11.a q6_11.n q6_11.c]),veq (q1.v),vstK bk2 #[po.v,so.v,.bool q6_11.b,.slice q6_11.a q6_11.n q6_11.c] 45] (fun _ _ X1 l1=>XR19=X1∧∃ Cz0:Array Value,Cz0.size=4∧[(bk5,#[po.v,so.v,.bool q6_11.b,.slice q6_11.a q6_11.n q6_11.c],45),(bk3,#[.bool false,.slice none 0 0],43),(bk2,Cz0,45)]=l1) [Lr r (gqA k P q) so,Mr r (fun _=>r) (gpA k P) po,q6_11.ir,Lr k (crx k P q) sm,Mr k (fun _=>k) P pg,q1.ir,Cf bk4 #[.bool q1.b,.slice q1.a q1.n q1.c] 43,Cf bk1 #[p.v,s.v,.bool c.b,.slice c.a c.n c.c] 45,Mr (k+r) (fun _=>k+r) P p,Lr (k+r) q s] (by kernel_rfl) (by kernel_rfl) (by rfl) (by decide) (by rfl) (fun _=>⟨XR19,_,⟨rfl,_,rfl,rfl⟩,hZ69.later (Below.refl _ _).drew⟩) ?_ ?_
   ·
    intro iq hlq hiq LL uu ww aa X1 l1 hLi hLc hR hJ hd hall hev hin hold
    clear hZ69
    obtain rfl | rfl | rfl:iq=0∨iq=1∨iq=2:=by omega
    ·
     refine zos hJ (fun _=>hR) ?_
     obtain ⟨eX,Cz0,hsCz0,el⟩:=hR
     subst eX
     subst el
     exact .inr ⟨rfl,fun K' hK=>wp_load 45 (.tmp 11) rfl bk5 0 4 #[po.v,so.v,.bool q6_11.b,.slice q6_11.a q6_11.n q6_11.c] #[po.v,so.v,.bool q6_11.b,.slice q6_11.a q6_11.n q6_11.c] 45 (hJ.es.at' _ (zzG (i:=0) rfl)) (zet ((hev 11 (by decide)).trans rfl)) ag45 sz45 (zzF (by kernel_rfl)) (by kernel_rfl) (hK _ _ hJ rfl zvs)⟩
    ·
     refine zos hJ (fun _=>hR) ?_
     obtain ⟨eX,Cz0,hsCz0,el⟩:=hR
     subst eX
     subst el
     exact .inr ⟨rfl,fun K' hK=>wp_load 43 (.tmp 9) rfl bk4 0 2 #[.bool q1.b,.slice q1.a q1.n q1.c] #[.bool q1.b,.slice q1.a q1.n q1.c] 43 (hJ.get 6 (f:=Cf bk4 #[.bool q1.b,.slice q1.a q1.n q1.c] 43) rfl).1 (zet ((hev 9 (by decide)).trans rfl)) ag43 sz43 (zzF (by kernel_rfl)) (by kernel_rfl) (hK _ _ hJ rfl zvs)⟩
    ·
     obtain ⟨eX,Cz0,hsCz0,el⟩:=hR
     subst eX
     subst el
     have hXb:XR19 bk2:=hJ.own _ (zzG (i:=2) rfl)
     refine .inr ⟨rfl,fun K' hK=>wp_store 45 (.tmp 4) (.tmp 122) rfl 2 bk2 0 Cz0 45 4 [po.v,so.v,.bool q6_11.b,.slice q6_11.a q6_11.n q6_11.c] hJ.es rfl (zet ((hev 4 (by decide)).trans rfl)) (by rw [(zj (hin 0 122 rfl) (show uu 0=.agg #[po.v,so.v,.bool q6_11.b,.slice q6_11.a q6_11.n q6_11.c] from (hd 0 (by decide) (by kernel_rfl)).2))]; rfl) sz45 rfl (by omega) (by kernel_rfl) (fun ww2 hE hk hz=>?_)⟩
     have hP:=(hJ.put (j:=2) rfl hE hk hz).only [Lr r (gqA k P q) so,Mr r (fun _=>r) (gpA k P) po,q6_11.ir,Lr k (crx k P q) sm,Mr k (fun _=>k) P pg,q1.ir,Cf bk4 #[.bool q1.b,.slice q1.a q1.n q1.c] 43,Cf bk1 #[p.v,s.v,.bool c.b,.slice c.a c.n c.c] 45,Mr (k+r) (fun _=>k+r) P p,Lr (k+r) q s] (by simp)
     exact hK undef ww2 _ _ ⟨rfl,putC Cz0 0 _,by rw [putC_size]; exact hsCz0,rfl⟩ hP (put_cl (j:=2) hE rfl (by rw [hsCz0]; rfl)) (vzL_p hXb hk hz (by
      intro kq hkq
      simp only [List.mem_cons,List.not_mem_nil,or_false] at hkq
      rcases hkq with rfl | rfl | rfl
      ·
       exact .inl ((zve _).sp _)
      ·
       exact .inl ((zve _).sp _)
      ·
       exact .inr (fun _=>(put_cl (j:=2) hE rfl (by rw [hsCz0]; rfl)))))
   clear hZ69
   intro LL uu W20 X1 l1 hLL hR hZ70 hd
   obtain ⟨eX,Cz0,hsCz0,el⟩:=hR
   subst eX
   subst el
   have e_0:uu 0=.agg #[po.v,so.v,.bool q6_11.b,.slice q6_11.a q6_11.n q6_11.c]:=hd 0 (by decide)
   have e_1:uu 1=q1.v:=hd 1 (by decide)
   have hcl2:=(show (vstK bk2 #[po.v,so.v,.bool q6_11.b,.slice q6_11.a q6_11.n q6_11.c] 45) (uu 2) XR19 W20 from hd 2 (by decide))
   obtain rfl:=cl_eq (hZ70.es.at' _ (zzG (i:=2) rfl)) hcl2
   clear hcl2 hsCz0 hd hVS19
   simp only [layS,Act.put,zzC,zzD,zzE,Nat.zero_add,Nat.reduceAdd,List.drop_succ_cons,List.drop_zero,List.drop_nil,e_0,e_1]
   clear e_0 e_1
   go_wp2_with (refine zss 43 (.tmp 5) (.tmp 123) 1 bk3 0 #[.bool false,.slice none 0 0] 43 2 [.bool q1.b,.slice q1.a q1.n q1.c] #[.bool q1.b,.slice q1.a q1.n q1.c] [(bk5,#[po.v,so.v,.bool q6_11.b,.slice q6_11.a q6_11.n q6_11.c],45),(bk3,#[.bool q1.b,.slice q1.a q1.n q1.c],43),(bk2,#[po.v,so.v,.bool q6_11.b,.slice q6_11.a q6_11.n q6_11.c],45)] rfl rfl rfl rfl sz43 hZ70 rfl rfl (zzF (by kernel_rfl)) (by kernel_rfl) (by kernel_rfl) (by kernel_rfl) (fun W21 hZ71=>?_))
   clear hZ70
   simp only [Stop,Act.put,zzC,zzD,zzE]
   go_wp2
   refine bodyPost_ret (v:=.tuple #[.agg #[po.v,so.v,.bool q6_11.b,.slice q6_11.a q6_11.n q6_11.c],.agg #[.bool q1.b,.slice q1.a q1.n q1.c],.bool true]) (results_cct Tryz.results28 (hZ71.es.loadBox 2 rfl ag45 sz45 (zzF (by kernel_rfl)) (by kernel_rfl)) (hZ71.es.loadBox 1 rfl ag43 sz43 (zzF (by kernel_rfl)) (by kernel_rfl)) rfl rfl rfl) rfl ?_
   exact ⟨po,so,q6_11,q1,rfl,(hZ71.out 1 (f:=Mr r (fun _=>r) (gpA k P) po) rfl).congr (fun _ _=>rfl) (fun i j hi hj=>gpA_lp HS.out hi hj),(hZ71.out 0 (f:=Lr r (gqA k P q) so) rfl).congr (fun i hi=>gqA_lq HS.out hi),ez_q6_11,(hZ71.out 2 (f:=q6_11.ir) rfl),ez_q1,(hZ71.out 5 (f:=q1.ir) rfl),hZ71.below⟩
end Go.Proofs.YtjclllindbfmhaaGreatDoor
