/- Parts of the proof. -/
import Derived.Test.YtjclllindbfmhabGreatDoorHs0
import Derived.Test.YtjclllindbfmhabGreatDoorHs30
import Derived.Test.YtjclllindbfmhabGreatDoorHs37
import Derived.Test.YtjclllindbfmhabGreatDoorHs33
set_option linter.unusedSimpArgs false
set_option linter.unusedVariables false
namespace Go.Proofs.YtjclllindbfmhabGreatDoor
/- Package quad: the walk of sum. No statement of the seat is proved here. -/
open Go Go.RowKit
/-- A table that another one is being added to: so many whole rows, and of the next so many numbers, are done. -/
def sumA (T U:Nat→Nat→Int) (i j x y:Nat):Int:=T x y+if x < i∨(x=i∧y < j) then U x y else 0
section
variable {T U:Nat→Nat→Int} {i j x y:Nat}
theorem sumA_0 (T U:Nat→Nat→Int) (x y:Nat):T x y=sumA T U 0 0 x y:=by
 unfold sumA
 rw [if_neg (by omega),Int.add_zero]
theorem sumA_row {m:Nat} (hy:y < m):sumA T U i m x y=sumA T U (i+1) 0 x y:=by
 unfold sumA
 by_cases h:x < i∨(x=i∧y < m)
 ·
  rw [if_pos h,if_pos (by omega)]
 ·
  rw [if_neg h,if_neg (by omega)]
theorem sumA_here:sumA T U i j i j=T i j:=by
 unfold sumA
 rw [if_neg (by omega),Int.add_zero]
theorem sumA_put:sumA T U i (j+1) i j=sumA T U i j i j+U i j:=by
 rw [sumA_here]
 unfold sumA
 rw [if_pos (by omega)]
theorem sumA_ne (h:¬ (x=i∧y=j)):sumA T U i (j+1) x y=sumA T U i j x y:=by
 unfold sumA
 by_cases k:x < i∨(x=i∧y < j)
 ·
  rw [if_pos k,if_pos (by omega)]
 ·
  rw [if_neg k,if_neg (by omega)]
theorem sumA_end {m:Nat} (hx:x < m):sumA T U m 0 x y=T x y+U x y:=by
 unfold sumA
 rw [if_pos (.inl hx)]
theorem sumA_sz {e:Nat} (hT:∀ x y,Sz e (T x y)) (hU:∀ x y,Sz e (U x y)) (x y:Nat):Sz (e+1) (sumA T U i j x y):=by
 unfold sumA
 split
 ·
  exact (hT x y).plus (hU x y)
 ·
  rw [Int.add_zero]; exact (hT x y).mono (by omega)
end
theorem tbl_add (n:Nat) (P G:Nat→Nat→Int) (q u:Nat→Int) (C D:Int) (x y:Nat):tbl n P q C x y+tbl n G u D x y=tbl n (fun i j=>P i j+G i j) (fun i=>q i+u i) (C+D) x y:=by
 unfold tbl
 split
 ·
  split <;> rfl
 ·
  split <;> rfl
theorem Rw.ncongr {m:Nat} {c:Nat→Nat} {r:Nat→Sl} {D:Nat→Array Value} {f g:Nat→Nat→Int} {X:Nat→Prop} {W:World} (h:Rw 2 (fun x=>EN (f x)) m c r D X W) (e:∀ x y,x < m→y < c x→f x y=g x y):Rw 2 (fun x=>EN (g x)) m c r D X W:=fun i hi=>⟨(h i hi).1,(h i hi).2.1,Fl.ncongr (h i hi).2.2 fun j hj=>e i j hi hj⟩
theorem Rw.row {m n:Nat} {r:Nat→Sl} {D:Nat→Array Value} {f:Nat→Nat→Int} {X:Nat→Prop} {W:World} {i:Nat} (h:Rw 2 (fun x=>EN (f x)) m (fun _=>n) r D X W) (hi:i < m):Fl 2 (EN (f i)) n (D i) X W:=(h i hi).2.2
/-- One number of one row is written. -/
theorem Rw.put2 {m:Nat} {n i j:Nat} {r:Nat→Sl} {D:Nat→Array Value} {f g:Nat→Nat→Int} {p:NL} {C:Array Value} {X:Nat→Prop} {W:World} (h:Rw 2 (fun x=>EN (f x)) m (fun _=>n) r D X W) (hi:i < m) (hw:Wr 2 (r i) C) (hg:∀ q,q < 2→C[j*2+q]?=[Value.bool p.b,.slice p.a p.n p.c][q]?) (ho:∀ q,(q < j*2∨j*2+2≤q)→C[q]?=(D i)[q]?) (hp:p.is X W) (hv:p.z=g i j) (he:∀ x y,¬ (x=i∧y=j)→g x y=f x y):Rw 2 (fun x=>EN (g x)) m (fun _=>n) r (upf D i C) X W:=fun x hx=>by
 by_cases e:x=i
 ·
  subst e
  rw [upf_self]
  refine ⟨(h x hx).1,hw,Fl.put (h x hx).2.2 (cs:=[.bool p.b,.slice p.a p.n p.c]) rfl hg ho ⟨p,hv,hp,rfl⟩ fun q cs _ hne hc=>?_⟩
  obtain ⟨t,h1,h2,h3⟩:=hc
  exact ⟨t,h1.trans (he x q (fun h=>hne h.2)).symm,h2,h3⟩
 ·
  rw [upf_ne _ _ e]
  exact ⟨(h x hx).1,(h x hx).2.1,Fl.ncongr (h x hx).2.2 fun q _=>(he x q (fun h=>e h.1)).symm⟩
set_option maxRecDepth 100000 in
set_option maxHeartbeats 12800000 in
theorem uSum {X0:Nat→Prop} {w:World} (hX:NX X0 w) (p s:Sl) (c:NL) {n e:Nat} {P:Nat→Nat→Int} {q:Nat→Int} {C:Int} (g s2:Sl) (d:NL) {G:Nat→Nat→Int} {u:Nat→Int} {D:Int} (bq:Nat) (cG:Cf bq #[g.v,s2.v,.bool d.b,.slice d.a d.n d.c] 32 X0 w) (hp:Mt n (fun _=>n) P p X0 w) (hq:Ls n q s X0 w) (hc:c.is X0 w) (ez_c:c.z=C) (hg:Mt n (fun _=>n) G g X0 w) (hu:Ls n u s2 X0 w) (hd:d.is X0 w) (ez_d:d.z=D) (bP:∀ i j,i < n→j < n→Sz e (P i j)) (bq_:∀ i,i < n→Sz e (q i)) (bC:Sz e C) (bG:∀ i j,i < n→j < n→Sz e (G i j)) (bu:∀ i,i < n→Sz e (u i)) (bD:Sz e D) (hn:n≤100) (he:e≤1000000):Calls Tryz.prog 29 #[.agg #[p.v,s.v,.bool c.b,.slice c.a c.n c.c],.slice (some ⟨bq,0,none⟩) 1 1] w (PUX X0 n (fun i j=>P i j+G i j) (fun i=>q i+u i) (C+D) w):=by
 have hZ0:=zs_start hX
 have hZ1:=hZ0.more (f:=Cf bq #[g.v,s2.v,.bool d.b,.slice d.a d.n d.c] 32) (Cf.stb _ _ _) cG
 clear hZ0
 have hZ2:=hZ1.more (f:=d.is) d.stb hd
 clear hZ1
 have hZ3:=hZ2.more (f:=Ls n u s2) (Ls.stb _ _ _) hu
 clear hZ2
 have hZ4:=hZ3.more (f:=Mt n (fun _=>n) G g) (Mt.stb _ _ _ _) hg
 clear hZ3
 have hZ5:=hZ4.more (f:=c.is) c.stb hc
 clear hZ4
 have hZ6:=hZ5.more (f:=Ls n q s) (Ls.stb _ _ _) hq
 clear hZ5
 have hZ7:=hZ6.more (f:=Mt n (fun _=>n) P p) (Mt.stb _ _ _ _) hp
 clear hZ6
 go_enter Tryz.func29,Tryz.ntmps29
 go_wp2_with (refine zsb 32 (.tmp 0) #[p.v,s.v,.bool c.b,.slice c.a c.n c.c] rfl rfl rfl hZ7 (fun bk1 X8 W1 hZ8=>?_))
 clear hZ7
 simp only [Stop,Act.put,zzC,zzD,zzE]
 go_wp2_with (refine zsa 32 #[.slice none 0 0,.slice none 0 0,.bool false,.slice none 0 0] (.agg #[.slice none 0 0,.slice none 0 0,.bool false,.slice none 0 0]) rfl rfl zv32 rfl hZ8 (fun bk2 X9 W2 hZ9=>?_))
 clear hZ8
 simp only [Stop,Act.put,zzC,zzD,zzE]
 go_wp2_with (refine zso rfl (fun K hK=>wp_load 32 (.tmp 2) rfl bk1 0 4 #[p.v,s.v,.bool c.b,.slice c.a c.n c.c] #[p.v,s.v,.bool c.b,.slice c.a c.n c.c] 32 (hZ9.es.at' _ (zzG (i:=1) rfl)) rfl ag32 sz32 (zzF (by kernel_rfl)) (by kernel_rfl) (hK _ _ ?_)))
 simp only [Stop,Act.put,zzC,zzD,zzE]
 go_wp2_with fail
 refine (uTable hZ9.nx p s c (hZ9.get 0 (f:=Mt n (fun _=>n) P p) rfl) (hZ9.get 1 (f:=Ls n q s) rfl) (hZ9.get 2 (f:=c.is) rfl) ez_c (by omega)).mono ?_
 rintro zz W3 ⟨so,Co,r,D0,XM,rfl,hn_so,hw_so,hC_so,hz_so⟩
 have hZ10:=hZ9.andThen hz_so
 clear hZ9 hz_so
 have hZ11:Zs w W3 X0 XM ([(bk2,#[.slice none 0 0,.slice none 0 0,.bool false,.slice none 0 0],32),(bk1,#[p.v,s.v,.bool c.b,.slice c.a c.n c.c],32)]++(owl so Co 27++rwl r D0 30 (n+1))) [Rw 2 (fun j=>EN (tbl n P q C j)) (n+1) (fun _=>n+1) r D0,Mt n (fun _=>n) P p,Ls n q s,c.is,Mt n (fun _=>n) G g,Ls n u s2,d.is,Cf bq #[g.v,s2.v,.bool d.b,.slice d.a d.n d.c] 32]:=hZ10.perm List.perm_append_comm
 clear hZ10
 have hXb0:=hX
 have hZ12:=(hZ11.more (f:=Rw 2 (fun x=>EN ((sumA (tbl n P q C) (tbl n G u D) 0 0) x)) (n+1) (fun _=>n+1) r D0) (Rw.stb (fun j=>EN.stb _) _ _ _ _) (Rw.ncongr (hZ11.get 0 (f:=Rw 2 (fun j=>EN (tbl n P q C j)) (n+1) (fun _=>n+1) r D0) rfl) (fun x y _ _=>sumA_0 _ _ x y))).only [Rw 2 (fun x=>EN ((sumA (tbl n P q C) (tbl n G u D) 0 0) x)) (n+1) (fun _=>n+1) r D0,Cf bq #[g.v,s2.v,.bool d.b,.slice d.a d.n d.c] 32,d.is,Ls n u s2,Mt n (fun _=>n) G g] (by simp)
 clear hZ11
 have bT0:∀ x y,Sz e (tbl n P q C x y):=tbl_sz bP bq_ bC
 have bT1:∀ x y,Sz e (tbl n G u D x y):=tbl_sz bG bu bD
 have HC:=Lib.hid hC_so
 clear hC_so
 go_wp2_with (refine zso rfl (fun K hK=>wp_lenq (.tmp 14) 96 32 ⟨some ⟨bq,0,none⟩,1,1⟩ (n:=1) rfl (by kernel_rfl) rfl rfl (hK _ _ ?_)))
 simp only [Stop,Act.put,zzC,zzD,zzE]
 have hZ13:=(hZ12.more (f:=Rw 2 (fun x=>EN ((sumA (tbl n P q C) (tbl n G u D) (0*(n+1)) 0) x)) (n+1) (fun _=>n+1) r D0) (Rw.stb (fun j=>EN.stb _) _ _ _ _) (by rw [Nat.zero_mul]; exact (hZ12.get 0 (f:=Rw 2 (fun x=>EN ((sumA (tbl n P q C) (tbl n G u D) 0 0) x)) (n+1) (fun _=>n+1) r D0) rfl))).only [Rw 2 (fun x=>EN ((sumA (tbl n P q C) (tbl n G u D) (0*(n+1)) 0) x)) (n+1) (fun _=>n+1) r D0,Cf bq #[g.v,s2.v,.bool d.b,.slice d.a d.n d.c] 32,d.is,Ls n u s2,Mt n (fun _=>n) G g] (by simp)
 clear hZ12
 go_wp2
 go_loopw [16] (fun iv wr=>∃ (t:Nat) (D1:Nat→Array Value) (X:Nat→Prop),t≤1∧iv=.int .i64 ((t:Nat):Int)∧Zs w wr X0 X ([(bk2,#[.slice none 0 0,.slice none 0 0,.bool false,.slice none 0 0],32),(bk1,#[p.v,s.v,.bool c.b,.slice c.a c.n c.c],32)]++(owl so Co 27++rwl r D1 30 (n+1))) [Rw 2 (fun x=>EN ((sumA (tbl n P q C) (tbl n G u D) (t*(n+1)) 0) x)) (n+1) (fun _=>n+1) r D1,Cf bq #[g.v,s2.v,.bool d.b,.slice d.a d.n d.c] 32,d.is,Ls n u s2,Mt n (fun _=>n) G g]) (fun iv _=>1 - (intOf iv).toNat)
 case atStart=>exact ⟨0,D0,_,by omega,rfl,hZ13⟩
 case round =>
  clear hZ13
  obtain ⟨t,D1,X,ht,rfl,hZ⟩:=hrel
  by_cases hlt:t < 1
  ·
   obtain rfl:t=0:=by omega
   have hZ14:=(hZ.more (f:=Rw 2 (fun x=>EN ((sumA (tbl n P q C) (tbl n G u D) 0 0) x)) (n+1) (fun _=>n+1) r D1) (Rw.stb (fun j=>EN.stb _) _ _ _ _) (by have h:=(hZ.get 0 (f:=Rw 2 (fun x=>EN ((sumA (tbl n P q C) (tbl n G u D) (0*(n+1)) 0) x)) (n+1) (fun _=>n+1) r D1) rfl); rw [Nat.zero_mul] at h; exact h)).only [Rw 2 (fun x=>EN ((sumA (tbl n P q C) (tbl n G u D) 0 0) x)) (n+1) (fun _=>n+1) r D1,Cf bq #[g.v,s2.v,.bool d.b,.slice d.a d.n d.c] 32,d.is,Ls n u s2,Mt n (fun _=>n) G g] (by simp)
   clear hZ
   go_wp2_with (refine zso rfl (fun K hK=>wp_lssi (.tmp 16) (.tmp 15) rfl rfl rfl (r:=true) (by decide) (hK _ _ ?_)))
   simp only [Stop,Act.put,zzC,zzD,zzE]
   go_wp2_with (refine zso rfl (fun K hK=>wp_ixs 96 (.tmp 14) (.tmp 16) ⟨some ⟨bq,0,none⟩,1,1⟩ 0 4 32 rfl rfl rfl (by kernel_rfl) sz32 (fun h=>nomatch h) Nat.zero_lt_one (hK _ _ ?_)))
   simp only [Stop,Act.put,zzC,zzD,zzE]
   go_wp2_with (refine zso rfl (fun K hK=>wp_load 32 (.tmp 18) rfl bq 0 4 #[g.v,s2.v,.bool d.b,.slice d.a d.n d.c] #[g.v,s2.v,.bool d.b,.slice d.a d.n d.c] 32 (hZ14.get 1 (f:=Cf bq #[g.v,s2.v,.bool d.b,.slice d.a d.n d.c] 32) rfl).1 rfl ag32 sz32 (zzF (by kernel_rfl)) (by kernel_rfl) (hK _ _ ?_)))
   simp only [Stop,Act.put,zzC,zzD,zzE]
   go_wp2_with (refine zsa 32 #[.slice none 0 0,.slice none 0 0,.bool false,.slice none 0 0] (.agg #[.slice none 0 0,.slice none 0 0,.bool false,.slice none 0 0]) rfl rfl zv32 rfl hZ14 (fun bk3 X15 W4 hZ15=>?_))
   clear hZ14
   simp only [Stop,Act.put,zzC,zzD,zzE]
   go_wp2_with (refine zss 32 (.tmp 7) (.tmp 19) 0 bk3 0 #[.slice none 0 0,.slice none 0 0,.bool false,.slice none 0 0] 32 4 [g.v,s2.v,.bool d.b,.slice d.a d.n d.c] #[g.v,s2.v,.bool d.b,.slice d.a d.n d.c] ([(bk3,#[g.v,s2.v,.bool d.b,.slice d.a d.n d.c],32),(bk2,#[.slice none 0 0,.slice none 0 0,.bool false,.slice none 0 0],32),(bk1,#[p.v,s.v,.bool c.b,.slice c.a c.n c.c],32)]++(owl so Co 27++rwl r D1 30 (n+1))) rfl rfl rfl rfl sz32 hZ15 rfl rfl (zzF (by kernel_rfl)) (by kernel_rfl) (by kernel_rfl) (by kernel_rfl) (fun W5 hZ16=>?_))
   clear hZ15
   simp only [Stop,Act.put,zzC,zzD,zzE]
   go_wp2_with (refine zso rfl (fun K hK=>wp_load 32 (.tmp 7) rfl bk3 0 4 #[g.v,s2.v,.bool d.b,.slice d.a d.n d.c] #[g.v,s2.v,.bool d.b,.slice d.a d.n d.c] 32 (hZ16.es.at' _ (zzG (i:=0) rfl)) rfl ag32 sz32 (zzF (by kernel_rfl)) (by kernel_rfl) (hK _ _ ?_)))
   simp only [Stop,Act.put,zzC,zzD,zzE]
   go_wp2_with fail
   refine ((uTable hZ16.nx g s2 d (hZ16.get 4 (f:=Mt n (fun _=>n) G g) rfl) (hZ16.get 3 (f:=Ls n u s2) rfl) (hZ16.get 2 (f:=d.is) rfl) ez_d (by omega)).mono (ptab_mt hZ16.nx)).mono ?_
   rintro zz W6 ⟨tg,rfl,hi_tg,hB⟩
   have hZ17:=hZ16.later hB
   clear hB hZ16
   have hZ18:=hZ17.more (f:=Mt (n+1) (fun _=>n+1) (tbl n G u D) tg) (Mt.stb _ _ _ _) hi_tg
   clear hZ17 hi_tg
   go_wp2_with (refine zso rfl (fun K hK=>wp_lenq (.tmp 21) 25 27 tg rfl (by kernel_rfl) rfl (hZ18.get 0 (f:=Mt (n+1) (fun _=>n+1) (tbl n G u D) tg) rfl).n (hK _ _ ?_)))
   simp only [Stop,Act.put,zzC,zzD,zzE]
   have hZ19:=hZ18.release hX
   clear hZ18
   have hZ20:=hZ19.only [Rw 2 (fun x=>EN ((sumA (tbl n P q C) (tbl n G u D) 0 0) x)) (n+1) (fun _=>n+1) r D1,Mt (n+1) (fun _=>n+1) (tbl n G u D) tg,Cf bq #[g.v,s2.v,.bool d.b,.slice d.a d.n d.c] 32,d.is,Ls n u s2,Mt n (fun _=>n) G g] (by simp)
   clear hZ19
   go_wp2
   obtain ⟨wo,rfl⟩:∃ wo:World,wo=wr:=⟨_,rfl⟩
   go_wp2
   go_loopw [23] (fun iv wr=>∃ (i:Nat) (D2:Nat→Array Value) (X:Nat→Prop),i≤n+1∧iv=.int .i64 ((i:Nat):Int)∧Zs w wr X0 X ([(bk2,#[.slice none 0 0,.slice none 0 0,.bool false,.slice none 0 0],32),(bk1,#[p.v,s.v,.bool c.b,.slice c.a c.n c.c],32)]++(owl so Co 27++rwl r D2 30 (n+1))) [Rw 2 (fun x=>EN ((sumA (tbl n P q C) (tbl n G u D) i 0) x)) (n+1) (fun _=>n+1) r D2,Mt (n+1) (fun _=>n+1) (tbl n G u D) tg,Cf bq #[g.v,s2.v,.bool d.b,.slice d.a d.n d.c] 32,d.is,Ls n u s2,Mt n (fun _=>n) G g]) (fun iv _=>n+1 - (intOf iv).toNat)
   case atStart=>exact ⟨0,D1,_,by omega,rfl,hZ20⟩
   case round =>
    clear hZ20
    obtain ⟨i,D2,X2,hi2,rfl,hZ2⟩:=hrel
    by_cases hlt2:i < n+1
    ·
     go_wp2_with (refine zso rfl (fun K hK=>wp_lssi (.tmp 23) (.tmp 22) rfl rfl rfl (r:=true) (decide_eq_true (by omega)) (hK _ _ ?_)))
     simp only [Stop,Act.put,zzC,zzD,zzE]
     go_wp2_with (refine zso rfl (fun K hK=>wp_ixs 25 (.tmp 21) (.tmp 23) tg i 1 27 rfl rfl rfl (by kernel_rfl) sz27 (fun h=>((hZ2.get 1 (f:=Mt (n+1) (fun _=>n+1) (tbl n G u D) tg) rfl).sq.nil h).1) ((hZ2.get 1 (f:=Mt (n+1) (fun _=>n+1) (tbl n G u D) tg) rfl).n ▸ (by omega)) (hK _ _ ?_)))
     simp only [Stop,Act.put,zzC,zzD,zzE]
     go_wp2_with (refine zso rfl (fun K hK=>wp_ldm 27 (.tmp 26) tg i (n+1) (fun _=>n+1) (tbl n G u D) rfl rfl (hZ2.get 1 (f:=Mt (n+1) (fun _=>n+1) (tbl n G u D) tg) rfl) (by omega) ag27 (fun s1 hi_s1=>hK _ _ ?_)))
     simp only [Stop,Act.put,zzC,zzD,zzE]
     have hZ21:=hZ2.more (f:=Ls (n+1) (tbl n G u D i) s1) (Ls.stb _ _ _) hi_s1
     clear hZ2 hi_s1
     have hZ22:=hZ21.only [Rw 2 (fun x=>EN ((sumA (tbl n P q C) (tbl n G u D) i 0) x)) (n+1) (fun _=>n+1) r D2,Ls (n+1) (tbl n G u D i) s1,Mt (n+1) (fun _=>n+1) (tbl n G u D) tg,Cf bq #[g.v,s2.v,.bool d.b,.slice d.a d.n d.c] 32,d.is,Ls n u s2,Mt n (fun _=>n) G g] (by simp)
     clear hZ21
     go_wp2_with (refine zso rfl (fun K hK=>wp_lenq (.tmp 28) 27 30 s1 rfl (by kernel_rfl) rfl (hZ22.get 1 (f:=Ls (n+1) (tbl n G u D i) s1) rfl).n (hK _ _ ?_)))
     simp only [Stop,Act.put,zzC,zzD,zzE]
     go_wp2
     obtain ⟨wo,rfl⟩:∃ wo:World,wo=wr:=⟨_,rfl⟩
     go_wp2
     go_loopw [30] (fun jv wr=>∃ (j:Nat) (D3_:Nat→Array Value) (X:Nat→Prop),j≤n+1∧jv=.int .i64 ((j:Nat):Int)∧Zs w wr X0 X ([(bk2,#[.slice none 0 0,.slice none 0 0,.bool false,.slice none 0 0],32),(bk1,#[p.v,s.v,.bool c.b,.slice c.a c.n c.c],32)]++(owl so Co 27++rwl r D3_ 30 (n+1))) [Rw 2 (fun x=>EN ((sumA (tbl n P q C) (tbl n G u D) i j) x)) (n+1) (fun _=>n+1) r D3_,Ls (n+1) (tbl n G u D i) s1,Mt (n+1) (fun _=>n+1) (tbl n G u D) tg,Cf bq #[g.v,s2.v,.bool d.b,.slice d.a d.n d.c] 32,d.is,Ls n u s2,Mt n (fun _=>n) G g]) (fun jv _=>n+1 - (intOf jv).toNat)
     case atStart=>exact ⟨0,D2,_,by omega,rfl,hZ22⟩
     case round =>
      clear hZ22
      obtain ⟨j,D3_,X3,hj,rfl,hZ3⟩:=hrel
      by_cases hlt3:j < n+1
      ·
       go_wp2_with (refine zso rfl (fun K hK=>wp_lssi (.tmp 30) (.tmp 29) rfl rfl rfl (r:=true) (decide_eq_true (by omega)) (hK _ _ ?_)))
       simp only [Stop,Act.put,zzC,zzD,zzE]
       go_wp2_with (refine zso rfl (fun K hK=>wp_ixs 27 (.tmp 28) (.tmp 30) s1 j 2 30 rfl rfl rfl (by kernel_rfl) sz30 (fun h=>((hZ3.get 1 (f:=Ls (n+1) (tbl n G u D i) s1) rfl).sq.nil h).1) ((hZ3.get 1 (f:=Ls (n+1) (tbl n G u D i) s1) rfl).n ▸ (by omega)) (hK _ _ ?_)))
       simp only [Stop,Act.put,zzC,zzD,zzE]
       go_wp2_with (refine zso rfl (fun K hK=>wp_ldn 30 (.tmp 33) s1 j (n+1) (tbl n G u D i) rfl rfl (hZ3.get 1 (f:=Ls (n+1) (tbl n G u D i) s1) rfl) (by omega) ag30 sz30 (fun q2 ez_q2 hi_q2=>hK _ _ ?_)))
       simp only [Stop,Act.put,zzC,zzD,zzE]
       have hZ23:=hZ3.more (f:=q2.is) q2.stb hi_q2
       clear hZ3 hi_q2
       go_wp2_with (refine zsa 30 #[.bool false,.slice none 0 0] (.agg #[.bool false,.slice none 0 0]) rfl rfl zv30 rfl hZ23 (fun bk4 X24 W7 hZ24=>?_))
       clear hZ23
       simp only [Stop,Act.put,zzC,zzD,zzE]
       go_wp2_with (refine zss 30 (.tmp 11) (.tmp 34) 0 bk4 0 #[.bool false,.slice none 0 0] 30 2 [.bool q2.b,.slice q2.a q2.n q2.c] #[.bool q2.b,.slice q2.a q2.n q2.c] ([(bk4,#[.bool q2.b,.slice q2.a q2.n q2.c],30),(bk2,#[.slice none 0 0,.slice none 0 0,.bool false,.slice none 0 0],32),(bk1,#[p.v,s.v,.bool c.b,.slice c.a c.n c.c],32)]++(owl so Co 27++rwl r D3_ 30 (n+1))) rfl rfl rfl rfl sz30 hZ24 rfl rfl (zzF (by kernel_rfl)) (by kernel_rfl) (by kernel_rfl) (by kernel_rfl) (fun W8 hZ25=>?_))
       clear hZ24
       simp only [Stop,Act.put,zzC,zzD,zzE]
       have hZ26:=hZ25.release hX
       clear hZ25
       obtain ⟨XQ,hZ27⟩:∃ Xr,Zs w W8 X0 Xr ([(bk2,#[.slice none 0 0,.slice none 0 0,.bool false,.slice none 0 0],32),(bk1,#[p.v,s.v,.bool c.b,.slice c.a c.n c.c],32)]++(owl so Co 27++rwl r D3_ 30 (n+1))) [Cf bk4 #[.bool q2.b,.slice q2.a q2.n q2.c] 30,q2.is,Rw 2 (fun x=>EN ((sumA (tbl n P q C) (tbl n G u D) i j) x)) (n+1) (fun _=>n+1) r D3_,Ls (n+1) (tbl n G u D i) s1,Mt (n+1) (fun _=>n+1) (tbl n G u D) tg,Cf bq #[g.v,s2.v,.bool d.b,.slice d.a d.n d.c] 32,d.is,Ls n u s2,Mt n (fun _=>n) G g]:=⟨_,hZ26⟩
       clear hZ26
       obtain ⟨ra,hra⟩:∃ s:Sl,s=r i:=⟨_,rfl⟩
       obtain ⟨Ca,hCa⟩:∃ s:Array Value,s=D3_ i:=⟨_,rfl⟩
       have hqa:=(hZ27.get 2 (f:=Rw 2 (fun x=>EN ((sumA (tbl n P q C) (tbl n G u D) i j) x)) (n+1) (fun _=>n+1) r D3_) rfl) i (by omega)
       have hn_ra:ra.n=n+1:=by rw [hra]; exact hqa.1
       have hw_ra:Wr 2 ra Ca:=by rw [hra,hCa]; exact hqa.2.1
       clear hqa
       have hpa:Co[i*1+0]?=some ra.v:=by rw [hra]; exact row_at HC.out (by omega)
       have HRa:=Lib.hid hra
       have HKa:=Lib.hid hCa
       clear hra hCa
       have hZ28:Zs w W8 X0 XQ ([(bk2,#[.slice none 0 0,.slice none 0 0,.bool false,.slice none 0 0],32),(bk1,#[p.v,s.v,.bool c.b,.slice c.a c.n c.c],32)]++(owl so Co 27++(owl ra Ca 30++rwx r D3_ 30 i (n+1)))) [Cf bk4 #[.bool q2.b,.slice q2.a q2.n q2.c] 30,q2.is,Rw 2 (fun x=>EN ((sumA (tbl n P q C) (tbl n G u D) i j) x)) (n+1) (fun _=>n+1) r D3_,Ls (n+1) (tbl n G u D i) s1,Mt (n+1) (fun _=>n+1) (tbl n G u D) tg,Cf bq #[g.v,s2.v,.bool d.b,.slice d.a d.n d.c] 32,d.is,Ls n u s2,Mt n (fun _=>n) G g]:=by
        rw [HRa.out,HKa.out]
        exact hZ27.perm (List.Perm.append_left _ (List.Perm.append_left _ (rwl_front (show i < n+1 by omega))))
       clear hZ27
       have hZ29:=hZ28.more (f:=Fl 2 (EN ((sumA (tbl n P q C) (tbl n G u D) i j) i)) (n+1) Ca) (Fl.stb (EN.stb _) _ _) (by rw [HKa.out]; exact Rw.row (hZ28.get 2 (f:=Rw 2 (fun x=>EN ((sumA (tbl n P q C) (tbl n G u D) i j) x)) (n+1) (fun _=>n+1) r D3_) rfl) (by omega))
       clear hZ28
       go_wp2
       obtain ⟨XR11,hZ30⟩:∃ Xr,Zs w W8 X0 Xr ([(bk2,#[.slice none 0 0,.slice none 0 0,.bool false,.slice none 0 0],32),(bk1,#[p.v,s.v,.bool c.b,.slice c.a c.n c.c],32)]++(owl so Co 27++(owl ra Ca 30++rwx r D3_ 30 i (n+1)))) [Fl 2 (EN ((sumA (tbl n P q C) (tbl n G u D) i j) i)) (n+1) Ca,Cf bk4 #[.bool q2.b,.slice q2.a q2.n q2.c] 30,q2.is,Rw 2 (fun x=>EN ((sumA (tbl n P q C) (tbl n G u D) i j) x)) (n+1) (fun _=>n+1) r D3_,Ls (n+1) (tbl n G u D i) s1,Mt (n+1) (fun _=>n+1) (tbl n G u D) tg,Cf bq #[g.v,s2.v,.bool d.b,.slice d.a d.n d.c] 32,d.is,Ls n u s2,Mt n (fun _=>n) G g]:=⟨_,hZ29⟩
       clear hZ29
       refine zrp 14 [some 35,some 36,some 37,some 38,some 39,some 40,some 41,some 42,some 43,some 44,some 45,some 46,some 47,some 48] [veq (so.v),veq (.int .i64 (((i:Nat):Int))),veq ((so.at 1 i)),veq (ra.v),veq (.int .i64 (((j:Nat):Int))),veq (so.v),veq (.int .i64 (((i:Nat):Int))),veq ((so.at 1 i)),veq (ra.v),veq (.int .i64 (((j:Nat):Int))),veq ((ra.at 2 j)),vnum (((sumA (tbl n P q C) (tbl n G u D) i j) i) j),veq (q2.v),vnum ((((sumA (tbl n P q C) (tbl n G u D) i j) i) j)+(tbl n G u D i j))] (by kernel_rfl) (by kernel_rfl) (by rfl) (by decide) (by rfl) hZ30 ?_ ?_
       ·
        intro iq hlq hiq LL uu ww aa hLi hLc hJ hd hall hev hin hold
        clear hZ30
        obtain rfl | rfl | rfl | rfl | rfl | rfl | rfl | rfl | rfl | rfl | rfl | rfl | rfl | rfl:iq=0∨iq=1∨iq=2∨iq=3∨iq=4∨iq=5∨iq=6∨iq=7∨iq=8∨iq=9∨iq=10∨iq=11∨iq=12∨iq=13:=by omega
        ·
         exact oz rfl (fun _ hK=>wp_move (.tmp 5) rfl (zet ((hev 5 (by decide)).trans rfl)) (hK _ _ hJ rfl vsm))
        ·
         exact oz rfl (fun _ hK=>wp_move (.tmp 8) rfl (zet ((hev 8 (by decide)).trans rfl)) (hK _ _ hJ rfl vsm))
        ·
         exact oz rfl (fun _ hK=>wp_ixs 25 (.tmp 35) (.tmp 36) so i 1 27 rfl (zj (hin 0 35 rfl) (show uu 0=so.v from (hd 0 (by kernel_rfl)))) (zj (hin 1 36 rfl) (show uu 1=.int .i64 (((i:Nat):Int)) from (hd 1 (by kernel_rfl)))) (by kernel_rfl) sz27 hw_so.nil (by rw [hn_so]; omega) (hK _ _ hJ rfl vsm))
        ·
         exact oz rfl (fun _ hK=>wp_ldown 27 27 (.tmp 37) so i Co rfl (zj (hin 2 37 rfl) (show uu 2=(so.at 1 i) from (hd 2 (by kernel_rfl)))) hw_so (hJ.perm (perm_mid _ _ _)) (by rw [hn_so]; omega) hpa ag27 (hK _ _ hJ rfl vsm))
        ·
         exact oz rfl (fun _ hK=>wp_move (.tmp 10) rfl (zet ((hev 10 (by decide)).trans rfl)) (hK _ _ hJ rfl vsm))
        ·
         exact oz rfl (fun _ hK=>wp_move (.tmp 5) rfl (zet ((hev 5 (by decide)).trans rfl)) (hK _ _ hJ rfl vsm))
        ·
         exact oz rfl (fun _ hK=>wp_move (.tmp 8) rfl (zet ((hev 8 (by decide)).trans rfl)) (hK _ _ hJ rfl vsm))
        ·
         exact oz rfl (fun _ hK=>wp_ixs 25 (.tmp 40) (.tmp 41) so i 1 27 rfl (zj (hin 5 40 rfl) (show uu 5=so.v from (hd 5 (by kernel_rfl)))) (zj (hin 6 41 rfl) (show uu 6=.int .i64 (((i:Nat):Int)) from (hd 6 (by kernel_rfl)))) (by kernel_rfl) sz27 hw_so.nil (by rw [hn_so]; omega) (hK _ _ hJ rfl vsm))
        ·
         exact oz rfl (fun _ hK=>wp_ldown 27 27 (.tmp 42) so i Co rfl (zj (hin 7 42 rfl) (show uu 7=(so.at 1 i) from (hd 7 (by kernel_rfl)))) hw_so (hJ.perm (perm_mid _ _ _)) (by rw [hn_so]; omega) hpa ag27 (hK _ _ hJ rfl vsm))
        ·
         exact oz rfl (fun _ hK=>wp_move (.tmp 10) rfl (zet ((hev 10 (by decide)).trans rfl)) (hK _ _ hJ rfl vsm))
        ·
         exact oz rfl (fun _ hK=>wp_ixs 27 (.tmp 43) (.tmp 44) ra j 2 30 rfl (zj (hin 8 43 rfl) (show uu 8=ra.v from (hd 8 (by kernel_rfl)))) (zj (hin 9 44 rfl) (show uu 9=.int .i64 (((j:Nat):Int)) from (hd 9 (by kernel_rfl)))) (by kernel_rfl) sz30 hw_ra.nil (by rw [hn_ra]; omega) (hK _ _ hJ rfl vsm))
        ·
         exact oz rfl (fun _ hK=>wp_ldno 30 30 (.tmp 45) ra j (n+1) ((sumA (tbl n P q C) (tbl n G u D) i j) i) Ca rfl (zj (hin 10 45 rfl) (show uu 10=(ra.at 2 j) from (hd 10 (by kernel_rfl)))) hw_ra (hJ.perm ((List.Perm.append_left _ (perm_mid _ _ _)).trans (perm_mid _ _ _))) (hJ.get 0 (f:=Fl 2 (EN ((sumA (tbl n P q C) (tbl n G u D) i j) i)) (n+1) Ca) rfl) (by omega) (by rw [hn_ra]; omega) ag30 sz30 (fun q3 ez_q3 hi_q3=>hK _ _ hJ ⟨q3,rfl,ez_q3,hi_q3⟩ vsm))
        ·
         exact oz rfl (fun _ hK=>wp_load 30 (.tmp 11) rfl bk4 0 2 #[.bool q2.b,.slice q2.a q2.n q2.c] #[.bool q2.b,.slice q2.a q2.n q2.c] 30 (hJ.get 1 (f:=Cf bk4 #[.bool q2.b,.slice q2.a q2.n q2.c] 30) rfl).1 (zet ((hev 11 (by decide)).trans rfl)) ag30 sz30 (zzF (by kernel_rfl)) (by kernel_rfl) (hK _ _ hJ rfl vsm))
        ·
         obtain ⟨q3,e11,ez_q3,hi_q3⟩:=(show (vnum (((sumA (tbl n P q C) (tbl n G u D) i j) i) j)) (uu 11) XR11 ww from (hd 11 (by kernel_rfl)))
         replace hJ:=hJ.more (f:=q3.is) q3.stb hi_q3
         refine oz rfl (fun _ hK=>zcz (.func 11) #[.tmp 46,.tmp 47] #[30,30] 11 #[] #[q3.v,q2.v] _ rfl rfl (map2 (zj (hin 11 46 rfl) e11) (zj (hin 12 47 rfl) (show uu 12=q2.v from (hd 12 (by kernel_rfl))))) rfl (fun _ _=>rfl) (zAdd hJ.nx (hJ.get 0 (f:=q3.is) rfl) (hJ.get 3 (f:=q2.is) rfl) ez_q3 ez_q2 (sumA_sz bT0 bT1 _ _) (bT1 _ _) (by omega) (by omega)) ?_)
         rintro zz ww2 ⟨q4,rfl,ez_q4,hi_q4,hB⟩
         exact ⟨_,rfl,hK _ _ ((hJ.only [Fl 2 (EN ((sumA (tbl n P q C) (tbl n G u D) i j) i)) (n+1) Ca,Cf bk4 #[.bool q2.b,.slice q2.a q2.n q2.c] 30,q2.is,Rw 2 (fun x=>EN ((sumA (tbl n P q C) (tbl n G u D) i j) x)) (n+1) (fun _=>n+1) r D3_,Ls (n+1) (tbl n G u D i) s1,Mt (n+1) (fun _=>n+1) (tbl n G u D) tg,Cf bq #[g.v,s2.v,.bool d.b,.slice d.a d.n d.c] 32,d.is,Ls n u s2,Mt n (fun _=>n) G g] (by simp)).later hB) ⟨q4,rfl,ez_q4,hi_q4⟩ (vlat hB)⟩
       clear hZ30
       intro uu W9 hZ31 hd
       have e_0:uu 0=so.v:=hd 0 (by decide)
       have e_1:uu 1=.int .i64 (((i:Nat):Int)):=hd 1 (by decide)
       have e_2:uu 2=(so.at 1 i):=hd 2 (by decide)
       have e_3:uu 3=ra.v:=hd 3 (by decide)
       have e_4:uu 4=.int .i64 (((j:Nat):Int)):=hd 4 (by decide)
       have e_5:uu 5=so.v:=hd 5 (by decide)
       have e_6:uu 6=.int .i64 (((i:Nat):Int)):=hd 6 (by decide)
       have e_7:uu 7=(so.at 1 i):=hd 7 (by decide)
       have e_8:uu 8=ra.v:=hd 8 (by decide)
       have e_9:uu 9=.int .i64 (((j:Nat):Int)):=hd 9 (by decide)
       have e_10:uu 10=(ra.at 2 j):=hd 10 (by decide)
       obtain ⟨q3,e_11,ez_q3,hi_q3⟩:=(show (vnum (((sumA (tbl n P q C) (tbl n G u D) i j) i) j)) (uu 11) XR11 W9 from hd 11 (by decide))
       have e_12:uu 12=q2.v:=hd 12 (by decide)
       obtain ⟨q4,e_13,ez_q4,hi_q4⟩:=(show (vnum ((((sumA (tbl n P q C) (tbl n G u D) i j) i) j)+(tbl n G u D i j))) (uu 13) XR11 W9 from hd 13 (by decide))
       clear hd
       simp only [layS,Act.put,zzC,zzD,zzE,Nat.zero_add,Nat.reduceAdd,List.drop_succ_cons,List.drop_zero,List.drop_nil,e_0,e_1,e_2,e_3,e_4,e_5,e_6,e_7,e_8,e_9,e_10,e_11,e_12,e_13]
       clear e_0 e_1 e_2 e_3 e_4 e_5 e_6 e_7 e_8 e_9 e_10 e_11 e_12 e_13
       have hZ32:=hZ31.more (f:=q3.is) q3.stb hi_q3
       clear hZ31 hi_q3
       have hZ33:=hZ32.more (f:=q4.is) q4.stb hi_q4
       clear hZ32 hi_q4
       go_wp2_with (refine zso rfl (fun K hK=>wp_ixs 27 (.tmp 38) (.tmp 39) ra j 2 30 rfl rfl rfl (by kernel_rfl) sz30 hw_ra.nil (by rw [hn_ra]; omega) (hK _ _ ?_)))
       simp only [Stop,Act.put,zzC,zzD,zzE]
       have hZ34y:=hZ33.perm ((List.Perm.append_left _ (perm_mid _ _ _)).trans (perm_mid _ _ _))
       go_wp2_with (refine stopz_put 30 (.tmp 49) (.tmp 48) ra Ca j [.bool q4.b,.slice q4.a q4.n q4.c] rfl rfl rfl rfl sz30 rfl (by kernel_rfl) hw_ra (by rw [hn_ra]; omega) hZ34y (fun C5 W10 hw_ran hg_C5 ho_C5 hZ34x=>?_))
       clear hZ34y hw_ra
       have hw_ra:=hw_ran
       clear hw_ran
       have hZ34:=hZ34x.perm (List.Perm.symm ((List.Perm.append_left _ (perm_mid _ _ _)).trans (perm_mid _ _ _)))
       clear hZ34x hZ33
       simp only [Stop,Act.put,zzC,zzD,zzE]
       have hZ35r:Rw 2 (fun x=>EN ((sumA (tbl n P q C) (tbl n G u D) i (j+1)) x)) (n+1) (fun _=>n+1) r (upf D3_ i C5) XR11 W10:=Rw.put2 (f:=(sumA (tbl n P q C) (tbl n G u D) i j)) (g:=(sumA (tbl n P q C) (tbl n G u D) i (j+1))) (hZ34.get 5 (f:=Rw 2 (fun x=>EN ((sumA (tbl n P q C) (tbl n G u D) i j) x)) (n+1) (fun _=>n+1) r D3_) rfl) (by omega) (by rw [← HRa.out]; exact hw_ra) hg_C5 (by rw [← HKa.out]; exact ho_C5) (hZ34.get 0 (f:=q4.is) rfl) (ez_q4.trans sumA_put.symm) (fun x y hn=>sumA_ne hn)
       have hZ35:Zs w W10 X0 XR11 ([(bk2,#[.slice none 0 0,.slice none 0 0,.bool false,.slice none 0 0],32),(bk1,#[p.v,s.v,.bool c.b,.slice c.a c.n c.c],32)]++(owl so Co 27++rwl r (upf D3_ i C5) 30 (n+1))) [Rw 2 (fun x=>EN ((sumA (tbl n P q C) (tbl n G u D) i (j+1)) x)) (n+1) (fun _=>n+1) r (upf D3_ i C5),Ls (n+1) (tbl n G u D i) s1,Mt (n+1) (fun _=>n+1) (tbl n G u D) tg,Cf bq #[g.v,s2.v,.bool d.b,.slice d.a d.n d.c] 32,d.is,Ls n u s2,Mt n (fun _=>n) G g]:=by
        have h:=(hZ34.more (f:=Rw 2 (fun x=>EN ((sumA (tbl n P q C) (tbl n G u D) i (j+1)) x)) (n+1) (fun _=>n+1) r (upf D3_ i C5)) (Rw.stb (fun j=>EN.stb _) _ _ _ _) hZ35r).only [Rw 2 (fun x=>EN ((sumA (tbl n P q C) (tbl n G u D) i (j+1)) x)) (n+1) (fun _=>n+1) r (upf D3_ i C5),Ls (n+1) (tbl n G u D i) s1,Mt (n+1) (fun _=>n+1) (tbl n G u D) tg,Cf bq #[g.v,s2.v,.bool d.b,.slice d.a d.n d.c] 32,d.is,Ls n u s2,Mt n (fun _=>n) G g] (by simp)
        rw [HRa.out] at h
        exact h.perm (List.Perm.append_left _ (List.Perm.append_left _ (rwl_back (show i < n+1 by omega) C5)))
       clear hZ34 hZ35r
       go_wp2_with (refine zso rfl (fun K hK=>wp_addi (.tmp 30) (.const (.int .i64 1)) rfl rfl rfl (C:=((j+1:Nat):Int)) (by omega) (by omega) (by omega) (hK _ _ ?_)))
       simp only [Stop,Act.put,zzC,zzD,zzE]
       go_wp2
       go_roundw
       case rel=>exact ⟨j+1,(upf D3_ i C5),_,by omega,by go_num,hZ35⟩
       case measure=>simp [intOf]; omega
      ·
       obtain rfl:j=n+1:=by omega
       go_wp2_with (refine zso rfl (fun K hK=>wp_lssi (.tmp 30) (.tmp 29) rfl rfl rfl (r:=false) (decide_eq_false (Int.lt_irrefl _)) (hK _ _ ?_)))
       simp only [Stop,Act.put,zzC,zzD,zzE]
       go_wp2_with (refine zso rfl (fun K hK=>wp_addi (.tmp 23) (.const (.int .i64 1)) rfl rfl rfl (C:=((i+1:Nat):Int)) (by omega) (by omega) (by omega) (hK _ _ ?_)))
       simp only [Stop,Act.put,zzC,zzD,zzE]
       have hZ36:=(hZ3.more (f:=Rw 2 (fun x=>EN ((sumA (tbl n P q C) (tbl n G u D) (i+1) 0) x)) (n+1) (fun _=>n+1) r D3_) (Rw.stb (fun j=>EN.stb _) _ _ _ _) (Rw.ncongr (hZ3.get 0 (f:=Rw 2 (fun x=>EN ((sumA (tbl n P q C) (tbl n G u D) i (n+1)) x)) (n+1) (fun _=>n+1) r D3_) rfl) (fun x y _ hy=>sumA_row hy))).only [Rw 2 (fun x=>EN ((sumA (tbl n P q C) (tbl n G u D) (i+1) 0) x)) (n+1) (fun _=>n+1) r D3_,Mt (n+1) (fun _=>n+1) (tbl n G u D) tg,Cf bq #[g.v,s2.v,.bool d.b,.slice d.a d.n d.c] 32,d.is,Ls n u s2,Mt n (fun _=>n) G g] (by simp)
       clear hZ3
       go_wp2
       go_roundw
       case rel=>exact ⟨i+1,D3_,_,by omega,by go_num,hZ36⟩
       case measure=>simp [intOf]; omega
    ·
     obtain rfl:i=n+1:=by omega
     go_wp2_with (refine zso rfl (fun K hK=>wp_lssi (.tmp 23) (.tmp 22) rfl rfl rfl (r:=false) (decide_eq_false (Int.lt_irrefl _)) (hK _ _ ?_)))
     simp only [Stop,Act.put,zzC,zzD,zzE]
     go_wp2_with (refine zso rfl (fun K hK=>wp_addi (.tmp 16) (.const (.int .i64 1)) rfl rfl rfl (C:=1) (by omega) (by omega) (by omega) (hK _ _ ?_)))
     simp only [Stop,Act.put,zzC,zzD,zzE]
     have hZ37:=(hZ2.more (f:=Rw 2 (fun x=>EN ((sumA (tbl n P q C) (tbl n G u D) (1*(n+1)) 0) x)) (n+1) (fun _=>n+1) r D2) (Rw.stb (fun j=>EN.stb _) _ _ _ _) (by rw [Nat.one_mul]; exact (hZ2.get 0 (f:=Rw 2 (fun x=>EN ((sumA (tbl n P q C) (tbl n G u D) (n+1) 0) x)) (n+1) (fun _=>n+1) r D2) rfl))).only [Rw 2 (fun x=>EN ((sumA (tbl n P q C) (tbl n G u D) (1*(n+1)) 0) x)) (n+1) (fun _=>n+1) r D2,Cf bq #[g.v,s2.v,.bool d.b,.slice d.a d.n d.c] 32,d.is,Ls n u s2,Mt n (fun _=>n) G g] (by simp)
     clear hZ2
     go_wp2
     go_roundw
     case rel=>exact ⟨1,D2,_,by omega,by go_num,hZ37⟩
     case measure=>simp [intOf]
  ·
   obtain rfl:t=1:=by omega
   go_wp2_with (refine zso rfl (fun K hK=>wp_lssi (.tmp 16) (.tmp 15) rfl rfl rfl (r:=false) (decide_eq_false (Int.lt_irrefl _)) (hK _ _ ?_)))
   simp only [Stop,Act.put,zzC,zzD,zzE]
   have hZ38r:=(hZ.more (f:=Rw 2 (fun x=>EN ((fun x y=>tbl n P q C x y+tbl n G u D x y) x)) (n+1) (fun _=>n+1) r D1) (Rw.stb (fun j=>EN.stb _) _ _ _ _) (by have h:=(hZ.get 0 (f:=Rw 2 (fun x=>EN ((sumA (tbl n P q C) (tbl n G u D) (1*(n+1)) 0) x)) (n+1) (fun _=>n+1) r D1) rfl); rw [Nat.one_mul] at h; exact Rw.ncongr h (fun x y hx _=>sumA_end hx))).only [Rw 2 (fun x=>EN ((fun x y=>tbl n P q C x y+tbl n G u D x y) x)) (n+1) (fun _=>n+1) r D1] (by simp)
   clear hZ
   obtain ⟨XT,hZ38⟩:=hZ38r.tellTab hX hw_so hn_so HC.out
   clear hZ38r
   go_wp2_with fail
   refine (uOfT hZ38.nx so (hZ38.get 0 (f:=Mt (n+1) (fun _=>n+1) (fun x y=>tbl n P q C x y+tbl n G u D x y) so) rfl) (by omega)).mono ?_
   rintro zz W11 ⟨pz,sz_,cz,rfl,hi_pz,hi_sz_,ez_cz,hi_cz,hB⟩
   have hZ39:=hZ38.later hB
   clear hB hZ38
   have hZ40:=hZ39.more (f:=Mt n (fun _=>n) (fun x y=>tbl n P q C x y+tbl n G u D x y) pz) (Mt.stb _ _ _ _) hi_pz
   clear hZ39 hi_pz
   have hZ41:=hZ40.more (f:=Ls n ((fun x y=>tbl n P q C x y+tbl n G u D x y) n) sz_) (Ls.stb _ _ _) hi_sz_
   clear hZ40 hi_sz_
   have hZ42:=hZ41.more (f:=cz.is) cz.stb hi_cz
   clear hZ41 hi_cz
   go_wp2_with (refine zss 32 (.tmp 4) (.tmp 54) 0 bk2 0 #[.slice none 0 0,.slice none 0 0,.bool false,.slice none 0 0] 32 4 [pz.v,sz_.v,.bool cz.b,.slice cz.a cz.n cz.c] #[pz.v,sz_.v,.bool cz.b,.slice cz.a cz.n cz.c] [(bk2,#[pz.v,sz_.v,.bool cz.b,.slice cz.a cz.n cz.c],32),(bk1,#[p.v,s.v,.bool c.b,.slice c.a c.n c.c],32)] rfl rfl rfl rfl sz32 hZ42 rfl rfl (zzF (by kernel_rfl)) (by kernel_rfl) (by kernel_rfl) (by kernel_rfl) (fun W12 hZ43=>?_))
   clear hZ42
   simp only [Stop,Act.put,zzC,zzD,zzE]
   go_wp2
   exact bodyPost_ret (v:=.agg #[pz.v,sz_.v,.bool cz.b,.slice cz.a cz.n cz.c]) (results_cell 0 Tryz.results29 hZ43.es rfl ag32 sz32 (zzF (by kernel_rfl)) rfl (by kernel_rfl)) rfl ⟨pz,sz_,cz,rfl,Mt.congr (hZ43.out 2 (f:=Mt n (fun _=>n) (fun x y=>tbl n P q C x y+tbl n G u D x y) pz) rfl) (fun _ _=>rfl) (fun i j hi hj=>by rw [tbl_add,tbl_pp hi hj]),Ls.congr (hZ43.out 1 (f:=Ls n ((fun x y=>tbl n P q C x y+tbl n G u D x y) n) sz_) rfl) (fun i hi=>by show tbl n P q C n i+tbl n G u D n i=_; rw [tbl_add,tbl_qb hi]),ez_cz.trans (by show tbl n P q C n n+tbl n G u D n n=_; rw [tbl_add,tbl_cc]),(hZ43.out 0 (f:=cz.is) rfl),hZ43.below⟩
set_option maxRecDepth 100000 in
set_option maxHeartbeats 12800000 in
theorem uAdd {X0:Nat→Prop} {w:World} (hX:NX X0 w) (p s:Sl) (c:NL) {n e:Nat} {P:Nat→Nat→Int} {q:Nat→Int} {C:Int} (g s2:Sl) (d:NL) {G:Nat→Nat→Int} {u:Nat→Int} {D:Int} (hp:Mt n (fun _=>n) P p X0 w) (hq:Ls n q s X0 w) (hc:c.is X0 w) (ez_c:c.z=C) (hg:Mt n (fun _=>n) G g X0 w) (hu:Ls n u s2 X0 w) (hd:d.is X0 w) (ez_d:d.z=D) (bP:∀ i j,i < n→j < n→Sz e (P i j)) (bq_:∀ i,i < n→Sz e (q i)) (bC:Sz e C) (bG:∀ i j,i < n→j < n→Sz e (G i j)) (bu:∀ i,i < n→Sz e (u i)) (bD:Sz e D) (hn:n≤100) (he:e≤1000000):Calls Tryz.prog 7 #[.agg #[p.v,s.v,.bool c.b,.slice c.a c.n c.c],.agg #[g.v,s2.v,.bool d.b,.slice d.a d.n d.c]] w (PUX X0 n (fun i j=>P i j+G i j) (fun i=>q i+u i) (C+D) w):=by
 have hZ0:=zs_start hX
 have hZ1:=hZ0.more (f:=d.is) d.stb hd
 clear hZ0
 have hZ2:=hZ1.more (f:=Ls n u s2) (Ls.stb _ _ _) hu
 clear hZ1
 have hZ3:=hZ2.more (f:=Mt n (fun _=>n) G g) (Mt.stb _ _ _ _) hg
 clear hZ2
 have hZ4:=hZ3.more (f:=c.is) c.stb hc
 clear hZ3
 have hZ5:=hZ4.more (f:=Ls n q s) (Ls.stb _ _ _) hq
 clear hZ4
 have hZ6:=hZ5.more (f:=Mt n (fun _=>n) P p) (Mt.stb _ _ _ _) hp
 clear hZ5
 go_enter Tryz.func7,Tryz.ntmps7
 go_wp2_with (refine zsb 32 (.tmp 0) #[p.v,s.v,.bool c.b,.slice c.a c.n c.c] rfl rfl rfl hZ6 (fun bk1 X7 W1 hZ7=>?_))
 clear hZ6
 simp only [Stop,Act.put,zzC,zzD,zzE]
 go_wp2_with (refine zsb 32 (.tmp 1) #[g.v,s2.v,.bool d.b,.slice d.a d.n d.c] rfl rfl rfl hZ7 (fun bk2 X8 W2 hZ8=>?_))
 clear hZ7
 simp only [Stop,Act.put,zzC,zzD,zzE]
 go_wp2_with (refine zsa 32 #[.slice none 0 0,.slice none 0 0,.bool false,.slice none 0 0] (.agg #[.slice none 0 0,.slice none 0 0,.bool false,.slice none 0 0]) rfl rfl zv32 rfl hZ8 (fun bk3 X9 W3 hZ9=>?_))
 clear hZ8
 simp only [Stop,Act.put,zzC,zzD,zzE]
 go_wp2_with (refine zso rfl (fun K hK=>wp_load 32 (.tmp 2) rfl bk1 0 4 #[p.v,s.v,.bool c.b,.slice c.a c.n c.c] #[p.v,s.v,.bool c.b,.slice c.a c.n c.c] 32 (hZ9.es.at' _ (zzG (i:=2) rfl)) rfl ag32 sz32 (zzF (by kernel_rfl)) (by kernel_rfl) (hK _ _ ?_)))
 simp only [Stop,Act.put,zzC,zzD,zzE]
 go_wp2_with (refine zso rfl (fun K hK=>wp_load 32 (.tmp 3) rfl bk2 0 4 #[g.v,s2.v,.bool d.b,.slice d.a d.n d.c] #[g.v,s2.v,.bool d.b,.slice d.a d.n d.c] 32 (hZ9.es.at' _ (zzG (i:=1) rfl)) rfl ag32 sz32 (zzF (by kernel_rfl)) (by kernel_rfl) (hK _ _ ?_)))
 simp only [Stop,Act.put,zzC,zzD,zzE]
 go_wp2_with fail
 have hZ10:=hZ9.new #[g.v,s2.v,.bool d.b,.slice d.a d.n d.c] 32
 obtain ⟨bq,hbq⟩:∃ b:Nat,b=W3.heap.size:=⟨_,rfl⟩
 rw [← hbq] at hZ10 ⊢
 clear hZ9
 obtain ⟨W4,hW2⟩:∃ W2:World,W2=W3.alloc (.cells #[g.v,s2.v,.bool d.b,.slice d.a d.n d.c] 32):=⟨_,rfl⟩
 rw [← hW2] at hZ10 ⊢
 obtain ⟨XA,hX2⟩:∃ X2:Nat→Prop,X2=(fun k=>X9 k∨k=bq):=⟨_,rfl⟩
 rw [← hX2] at hZ10
 clear hbq hW2 hX2
 have hZ11:=hZ10.release hX
 clear hZ10
 go_wp2_with fail
 refine (uSum hZ11.nx p s c g s2 d bq (hZ11.get 0 (f:=Cf bq #[g.v,s2.v,.bool d.b,.slice d.a d.n d.c] 32) rfl) (hZ11.get 1 (f:=Mt n (fun _=>n) P p) rfl) (hZ11.get 2 (f:=Ls n q s) rfl) (hZ11.get 3 (f:=c.is) rfl) ez_c (hZ11.get 4 (f:=Mt n (fun _=>n) G g) rfl) (hZ11.get 5 (f:=Ls n u s2) rfl) (hZ11.get 6 (f:=d.is) rfl) ez_d bP bq_ bC bG bu bD hn he).mono ?_
 rintro zz W5 ⟨pz,sz_,cz,rfl,hi_pz,hi_sz_,ez_cz,hi_cz,hB⟩
 have hZ12:=hZ11.later hB
 clear hB hZ11
 have hZ13:=hZ12.more (f:=Mt n (fun _=>n) (fun i j=>P i j+G i j) pz) (Mt.stb _ _ _ _) hi_pz
 clear hZ12 hi_pz
 have hZ14:=hZ13.more (f:=Ls n (fun i=>q i+u i) sz_) (Ls.stb _ _ _) hi_sz_
 clear hZ13 hi_sz_
 have hZ15:=hZ14.more (f:=cz.is) cz.stb hi_cz
 clear hZ14 hi_cz
 go_wp2_with (refine zss 32 (.tmp 4) (.tmp 8) 0 bk3 0 #[.slice none 0 0,.slice none 0 0,.bool false,.slice none 0 0] 32 4 [pz.v,sz_.v,.bool cz.b,.slice cz.a cz.n cz.c] #[pz.v,sz_.v,.bool cz.b,.slice cz.a cz.n cz.c] [(bk3,#[pz.v,sz_.v,.bool cz.b,.slice cz.a cz.n cz.c],32),(bk2,#[g.v,s2.v,.bool d.b,.slice d.a d.n d.c],32),(bk1,#[p.v,s.v,.bool c.b,.slice c.a c.n c.c],32)] rfl rfl rfl rfl sz32 hZ15 rfl rfl (zzF (by kernel_rfl)) (by kernel_rfl) (by kernel_rfl) (by kernel_rfl) (fun W6 hZ16=>?_))
 clear hZ15
 simp only [Stop,Act.put,zzC,zzD,zzE]
 go_wp2
 exact bodyPost_ret (v:=.agg #[pz.v,sz_.v,.bool cz.b,.slice cz.a cz.n cz.c]) (results_cell 0 Tryz.results7 hZ16.es rfl ag32 sz32 (zzF (by kernel_rfl)) rfl (by kernel_rfl)) rfl ⟨pz,sz_,cz,rfl,(hZ16.out 2 (f:=Mt n (fun _=>n) (fun i j=>P i j+G i j) pz) rfl),(hZ16.out 1 (f:=Ls n (fun i=>q i+u i) sz_) rfl),ez_cz,hZ16.out 0 (f:=cz.is) rfl,hZ16.below⟩
end Go.Proofs.YtjclllindbfmhabGreatDoor
