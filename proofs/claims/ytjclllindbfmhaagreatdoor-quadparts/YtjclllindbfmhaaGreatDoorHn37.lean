/- Parts of the proof. -/
import Derived.Test.YtjclllindbfmhaaGreatDoorHn0
import Derived.Test.YtjclllindbfmhaaGreatDoorHn32
import Derived.Test.YtjclllindbfmhaaGreatDoorHn36
import Derived.Test.YtjclllindbfmhaaGreatDoorHn28
import Derived.Test.YtjclllindbfmhaaGreatDoorHn25
set_option linter.unusedSimpArgs false
set_option linter.unusedVariables false
namespace Go.Proofs.YtjclllindbfmhaaGreatDoor
/- The document's Definite, walked. No statement of the seat is proved here. -/
open Go Go.RowKit
section
variable {P:Program} {Q:Exit→Act→World→Prop} {a:Act} {W:World} {X:Nat→Prop} {o:Oper} {next:Act→World→Prop}
theorem run_cuth {t e:TypeId} {k:Nat} (ht:P.underlying t=some (.slice e)) (hk:∀ W,(sizeOf e).run P W=.ok k W) (s:Sl) (u:Nat) (hu:u≤s.c):(Instr.sliceAt t s.v none (some (.int .i64 (u:Int))) none).run P W=.ok (s.cut k 0 u).v W:=by
 have h2:(0:Int)≤(u:Int)∧(u:Int)≤(s.c:Int):=⟨by omega,by omega⟩
 simp [Instr.sliceAt,Instr.slice,Instr.sliceBounds,Instr.sliceBound,Sl.v,asIntOf,run_underlying ht,hk,Sem.run_bind,Result.andThen,Sl.cut,hu]
theorem wp_slh (t e:TypeId) (x z:Operand) (s:Sl) (u:Nat) (ho:o.op=.slice t x none (some z) none) (hx:a.eval x=s.v) (hz:a.eval z=.int .i64 (u:Int)) (ht:P.underlying t=some (.slice e)) (hk:∀ W,(sizeOf e).run P W=.ok 2 W) {n:Nat} {f:Nat→Int} (h:Lr n f s X W) (hu:u≤n) (K:∀ s':Sl,Lr u f s' X W→next (a.put o.dst s'.v) W):o.wp P a W next Q:=by
 have hc:u≤s.c:=by have:=h.sq.cap; have:=h.n; omega
 refine wp_run ?_ (K (s.cut 2 0 u) ((h.cut (Nat.zero_le u) hu).congr fun i _=>by rw [Nat.zero_add]))
 unfold execOp
 rw [ho]
 simp only [hx,hz,Option.map_some,Option.map_none,Sem.run_bind,run_cuth ht hk s u hc,Result.andThen]
 rfl
end
theorem defd_no1 {n i q:Nat} {B:Nat→Nat→Int} (hi:i < n) (hq:q≤i) (h:B i q ≠ B q i):¬ (Sym n B∧∀ k,k < n→0 < M.dt (k+1) B):=fun k=>h (k.1 i q hi (by omega))
theorem defd_no2 {n i:Nat} {B:Nat→Nat→Int} (hi:i < n) (h:M.dt (i+1) B≤0):¬ (Sym n B∧∀ k,k < n→0 < M.dt (k+1) B):=fun k=>by have:=k.2 i hi; omega
theorem defd_yes {n:Nat} {B:Nat→Nat→Int} (h1:∀ x y,x < n→y≤x→B x y=B y x) (h2:∀ k,k < n→0 < M.dt (k+1) B):Sym n B∧∀ k,k < n→0 < M.dt (k+1) B:=⟨fun i j hi hj=>by
 rcases Nat.le_total j i with h | h
 ·
  exact h1 i j hi h
 ·
  exact (h1 j i hj h).symm,h2⟩
open Classical in
set_option maxRecDepth 100000 in
set_option maxHeartbeats 12800000 in
theorem dDefinite {X0:Nat→Prop} {w:World} (hX:NX X0 w) (a:Sl) {n e:Nat} {B:Nat→Nat→Int} (he1:1≤e) (he:e≤200) (hn:n≤12) (ha:Mr n (fun _=>n) B a X0 w) (bB:∀ i j,i < n→j < n→Sz e (B i j)):Calls Tryz.prog 68 #[a.v] w (PVal (.bool (decide (Sym n B∧∀ k,k < n→0 < M.dt (k+1) B))) w):=by
 have hZ0:=zs_start hX
 have hZ1:=hZ0.more (f:=Mr n (fun _=>n) B a) (Mr.stb _ _ _ _) ha
 clear hZ0
 go_enter Tryz.func68,Tryz.ntmps68
 go_wp2
 go_loopw [3] (fun iv wr=>∃ (i:Nat) (X:Nat→Prop),i≤n∧iv=.int .i64 ((i:Nat):Int)∧Hid (∀ x y,x < i→y≤x→B x y=B y x)∧Hid (∀ k,k < i→0 < M.dt (k+1) B)∧Zs w wr X0 X [] [Mr n (fun _=>n) B a]) (fun iv _=>n - (intOf iv).toNat)
 case atStart=>exact ⟨0,_,by omega,rfl,Lib.hid (fun x y hx _=>absurd hx (Nat.not_lt_zero x)),Lib.hid (fun k hk=>absurd hk (Nat.not_lt_zero k)),hZ1⟩
 case round =>
  clear hZ1
  obtain ⟨i,X,hi,rfl,H1,H2,hZ⟩:=hrel
  by_cases hlt:i < n
  ·
   go_wp2_with (refine zso rfl (fun K hK=>wp_lenq (.tmp 9) 39 40 a rfl (by kernel_rfl) rfl (hZ.get 0 (f:=Mr n (fun _=>n) B a) rfl).n (hK _ _ ?_)))
   simp only [Stop,Act.put,zzC,zzD,zzE]
   go_wp2_with (refine zso rfl (fun K hK=>wp_lssi (.tmp 8) (.tmp 10) rfl rfl rfl (r:=true) (decide_eq_true (by omega)) (hK _ _ ?_)))
   simp only [Stop,Act.put,zzC,zzD,zzE]
   go_wp2
   obtain ⟨wo,rfl⟩:∃ wo:World,wo=wr:=⟨_,rfl⟩
   go_wp2
   go_loopw [4,5] (fun mv kv wr=>∃ (kk:Nat) (so:Sl) (Co:Array Value) (X:Nat→Prop),kk≤i+1∧kv=.int .i64 ((kk:Nat):Int)∧mv=so.v∧so.n=kk∧Wr 1 so Co∧Hid (∀ q,q < kk→B i q=B q i)∧Zs w wr X0 X ([]++owl so Co 40) [Fl 1 (ERr (fun _=>i+1) B) kk Co,Mr n (fun _=>n) B a]) (fun _ iv _=>i+1 - (intOf iv).toNat)
   case atStart=>exact ⟨0,slz,#[],_,by omega,rfl,rfl,rfl,wr_slz 1,Lib.hid (fun q hq=>absurd hq (Nat.not_lt_zero q)),by simpa [owl,slz] using (hZ.more (f:=Fl 1 (ERr (fun _=>i+1) B) 0 #[]) (Fl.stb (ERr.stb _ _) _ _) (fl_zero 1 (ERr (fun _=>i+1) B) #[] _ _))⟩
   case round =>
    clear hZ
    obtain ⟨kk,so,Co,Xi,hk,rfl,rfl,hn_so,hw_so,H3,hZi⟩:=hrel
    by_cases hlk:kk≤i
    ·
     go_wp2_with (refine zso rfl (fun K hK=>wp_leqi (.tmp 14) (.tmp 15) rfl rfl rfl (r:=true) (decide_eq_true (by omega)) (hK _ _ ?_)))
     simp only [Stop,Act.put,zzC,zzD,zzE]
     go_wp2_with (refine zso rfl (fun K hK=>wp_ixs 39 (.tmp 20) (.tmp 21) a kk 1 40 rfl rfl rfl (by kernel_rfl) sz40 (fun h=>((hZi.get 1 (f:=Mr n (fun _=>n) B a) rfl).sq.nil h).1) ((hZi.get 1 (f:=Mr n (fun _=>n) B a) rfl).n ▸ (by omega)) (hK _ _ ?_)))
     simp only [Stop,Act.put,zzC,zzD,zzE]
     go_wp2_with (refine zso rfl (fun K hK=>wp_ldmr 40 (.tmp 22) a kk n (fun _=>n) B rfl rfl (hZi.get 1 (f:=Mr n (fun _=>n) B a) rfl) (by omega) ag40 (fun s1 hi_s1=>hK _ _ ?_)))
     simp only [Stop,Act.put,zzC,zzD,zzE]
     have hZ2:=hZi.more (f:=Lr n (B kk) s1) (Lr.stb _ _ _) hi_s1
     clear hZi hi_s1
     go_wp2_with (refine zso rfl (fun K hK=>wp_addi (.tmp 24) (.const (.int .i64 1)) rfl rfl rfl (C:=((i+1:Nat):Int)) (by omega) (by omega) (by omega) (hK _ _ ?_)))
     simp only [Stop,Act.put,zzC,zzD,zzE]
     go_wp2_with (refine zso rfl (fun K hK=>wp_slh 40 43 (.tmp 23) (.tmp 25) s1 (i+1) rfl rfl rfl (by kernel_rfl) sz43 (hZ2.get 0 (f:=Lr n (B kk) s1) rfl) (by omega) (fun s2 hi_s2=>hK _ _ ?_)))
     simp only [Stop,Act.put,zzC,zzD,zzE]
     have hZ3:=hZ2.more (f:=Lr (i+1) (B kk) s2) (Lr.stb _ _ _) hi_s2
     clear hZ2 hi_s2
     go_wp2_with (refine zso rfl (fun K hK=>wp_bs1 ei39 (.tmp 26) rfl rfl rfl (hK _ _ ?_)))
     simp only [Stop,Act.put,zzC,zzD,zzE]
     have hZ4:=hZ3.later (below_new _ (.cells #[s2.v] 40))
     clear hZ3
     have hZ5y:=hZ4.perm List.perm_append_comm
     go_wp2_with (refine zso rfl (fun K hK=>wp_app ei39 (.tmp 19) (.tmp 27) rfl (s:=so) rfl ⟨wr.heap.size,0,none⟩ 1 rfl hw_so (by rw [hn_so]; omega) hZ5y [s2.v] rfl (cell_one _ s2.v _) (fun u hu=>by simp only [List.mem_cons,List.not_mem_nil,or_false] at hu; subst hu; rfl) (fun o3 C3 X5 W1 hn_o3 hw_o3 ho_C3 hg_C3 hZ5x=>hK _ _ ?_)))
     simp only [Stop,Act.put,zzC,zzD,zzE]
     clear hZ5y
     rw [hn_so] at hn_o3 ho_C3 hg_C3
     have hZ5:=hZ5x.perm List.perm_append_comm
     clear hZ5x hZ4
     have hZ6s:Fl 1 (ERr (fun _=>i+1) B) (kk+1) C3 X5 W1:=Fl.snoc (C:=Co) (hZ5.get 2 (f:=Fl 1 (ERr (fun _=>i+1) B) kk Co) rfl) (cs:=[s2.v]) rfl ho_C3 hg_C3 ⟨s2,(hZ5.get 0 (f:=Lr (i+1) (B kk) s2) rfl),rfl⟩
     have hZ6:=(hZ5.more (Fl.stb (ERr.stb _ _) _ _) hZ6s).only [Fl 1 (ERr (fun _=>i+1) B) (kk+1) C3,Mr n (fun _=>n) B a] (by simp)
     clear hZ5 hZ6s
     go_wp2
     have hM:Zs w W1.drew X0 X5 ([]++owl o3 C3 40) [Fl 1 (ERr (fun _=>i+1) B) (kk+1) C3,Mr n (fun _=>n) B a]∧Below W1.heap.size W1 W1.drew:=⟨hZ6.later (Below.refl _ _).drew,(Below.refl _ _).drew⟩
     clear hZ6
     have hVS9:∀ k,k ∈ ([veq (a.v),veq (.int .i64 (((i:Nat):Int))),veq ((a.at 1 i)),vlsr n (B i),veq (.int .i64 (((kk:Nat):Int))),vatr n (B i) kk,vnumr (B i kk),veq (a.v),veq (.int .i64 (((kk:Nat):Int))),veq ((a.at 1 kk)),vlsr n (B kk),veq (.int .i64 (((i:Nat):Int))),vatr n (B kk) i,vnumr (B kk i),veq (.int .i64 ((cmpI (B i kk) (B kk i))))]:List VF)→VSt k:=by
      intro k hk
      simp only [List.mem_cons,List.not_mem_nil,or_false] at hk
      rcases hk with rfl | rfl | rfl | rfl | rfl | rfl | rfl | rfl | rfl | rfl | rfl | rfl | rfl | rfl | rfl
      ·
       exact veq_st _
      ·
       exact veq_st _
      ·
       exact veq_st _
      ·
       exact vls_str _ _
      ·
       exact veq_st _
      ·
       exact vat_str _ _ _
      ·
       exact vnum_str _
      ·
       exact veq_st _
      ·
       exact veq_st _
      ·
       exact veq_st _
      ·
       exact vls_str _ _
      ·
       exact veq_st _
      ·
       exact vat_str _ _ _
      ·
       exact vnum_str _
      ·
       exact veq_st _
     refine wp_region_q 15 [some 29,some 30,some 31,some 32,some 33,some 34,some 35,some 36,some 37,some 38,some 39,some 40,some 41,some 42,some 43] (vzL [veq (a.v),veq (.int .i64 (((i:Nat):Int))),veq ((a.at 1 i)),vlsr n (B i),veq (.int .i64 (((kk:Nat):Int))),vatr n (B i) kk,vnumr (B i kk),veq (a.v),veq (.int .i64 (((kk:Nat):Int))),veq ((a.at 1 kk)),vlsr n (B kk),veq (.int .i64 (((i:Nat):Int))),vatr n (B kk) i,vnumr (B kk i),veq (.int .i64 ((cmpI (B i kk) (B kk i))))] X5) (fun W=>Zs w W X0 X5 ([]++owl o3 C3 40) [Fl 1 (ERr (fun _=>i+1) B) (kk+1) C3,Mr n (fun _=>n) B a]∧Below W1.heap.size W1 W) (by kernel_rfl) (by kernel_rfl) (by rfl) (by decide) (by rfl) hM ?_ ?_
     ·
      intro i hl hi LL uu ww aa hLi hLc hJ hd hev hin hold
      clear hM
      obtain ⟨hJ,hJb⟩:=hJ
      obtain rfl | rfl | rfl | rfl | rfl | rfl | rfl | rfl | rfl | rfl | rfl | rfl | rfl | rfl | rfl:i=0∨i=1∨i=2∨i=3∨i=4∨i=5∨i=6∨i=7∨i=8∨i=9∨i=10∨i=11∨i=12∨i=13∨i=14:=by omega
      ·
       exact .inr ⟨rfl,fun K' hK=>wp_move (.tmp 0) rfl (zet ((hev 0 (by decide)).trans rfl)) (hK _ _ ⟨hJ,hJb⟩ rfl zvs)⟩
      ·
       exact .inr ⟨rfl,fun K' hK=>wp_move (.tmp 3) rfl (zet ((hev 3 (by decide)).trans rfl)) (hK _ _ ⟨hJ,hJb⟩ rfl zvs)⟩
      ·
       exact .inr ⟨rfl,fun K' hK=>wp_ixs 39 (.tmp 29) (.tmp 30) a i 1 40 rfl (zet ((hin 0 29 rfl).trans (congrArg some (show uu 0=a.v from hd 0 (by decide) (by kernel_rfl))))) (zet ((hin 1 30 rfl).trans (congrArg some (show uu 1=.int .i64 (((i:Nat):Int)) from hd 1 (by decide) (by kernel_rfl))))) (by kernel_rfl) sz40 (fun h=>((hJ.get 1 (f:=Mr n (fun _=>n) B a) rfl).sq.nil h).1) ((hJ.get 1 (f:=Mr n (fun _=>n) B a) rfl).n ▸ (by omega)) (hK _ _ ⟨hJ,hJb⟩ rfl zvs)⟩
      ·
       exact .inr ⟨rfl,fun K' hK=>wp_ldmr 40 (.tmp 31) a i n (fun _=>n) B rfl (zet ((hin 2 31 rfl).trans (congrArg some (show uu 2=(a.at 1 i) from hd 2 (by decide) (by kernel_rfl))))) (hJ.get 1 (f:=Mr n (fun _=>n) B a) rfl) (by omega) ag40 (fun s4 hi_s4=>hK _ _ ⟨hJ,hJb⟩ ⟨s4,rfl,hi_s4⟩ zvs)⟩
      ·
       exact .inr ⟨rfl,fun K' hK=>wp_move (.tmp 5) rfl (zet ((hev 5 (by decide)).trans rfl)) (hK _ _ ⟨hJ,hJb⟩ rfl zvs)⟩
      ·
       obtain ⟨s4,e3,hi_s4⟩:=(show (vlsr n (B i)) (uu 3) X5 ww from hd 3 (by decide) (by kernel_rfl))
       replace hJ:=hJ.more (f:=Lr n (B i) s4) (Lr.stb _ _ _) hi_s4
       exact .inr ⟨rfl,fun K' hK=>wp_ixs 40 (.tmp 32) (.tmp 33) s4 kk 2 43 rfl (zet ((hin 3 32 rfl).trans (congrArg some e3))) (zet ((hin 4 33 rfl).trans (congrArg some (show uu 4=.int .i64 (((kk:Nat):Int)) from hd 4 (by decide) (by kernel_rfl))))) (by kernel_rfl) sz43 (fun h=>((hJ.get 0 (f:=Lr n (B i) s4) rfl).sq.nil h).1) ((hJ.get 0 (f:=Lr n (B i) s4) rfl).n ▸ (by omega)) (hK _ _ ⟨(hJ.only [Fl 1 (ERr (fun _=>i+1) B) (kk+1) C3,Mr n (fun _=>n) B a] (by simp)),hJb⟩ ⟨s4,rfl,hi_s4⟩ zvs)⟩
      ·
       obtain ⟨s4,e5,hi_s4⟩:=(show (vatr n (B i) kk) (uu 5) X5 ww from hd 5 (by decide) (by kernel_rfl))
       replace hJ:=hJ.more (f:=Lr n (B i) s4) (Lr.stb _ _ _) hi_s4
       exact .inr ⟨rfl,fun K' hK=>wp_ldnr 43 (.tmp 34) s4 kk n (B i) rfl (zet ((hin 5 34 rfl).trans (congrArg some e5))) (hJ.get 0 (f:=Lr n (B i) s4) rfl) (by omega) ag43 sz43 (fun q5 ez_q5 hi_q5=>hK _ _ ⟨(hJ.only [Fl 1 (ERr (fun _=>i+1) B) (kk+1) C3,Mr n (fun _=>n) B a] (by simp)),hJb⟩ ⟨q5,rfl,ez_q5,hi_q5⟩ zvs)⟩
      ·
       exact .inr ⟨rfl,fun K' hK=>wp_move (.tmp 0) rfl (zet ((hev 0 (by decide)).trans rfl)) (hK _ _ ⟨hJ,hJb⟩ rfl zvs)⟩
      ·
       exact .inr ⟨rfl,fun K' hK=>wp_move (.tmp 5) rfl (zet ((hev 5 (by decide)).trans rfl)) (hK _ _ ⟨hJ,hJb⟩ rfl zvs)⟩
      ·
       exact .inr ⟨rfl,fun K' hK=>wp_ixs 39 (.tmp 36) (.tmp 37) a kk 1 40 rfl (zet ((hin 7 36 rfl).trans (congrArg some (show uu 7=a.v from hd 7 (by decide) (by kernel_rfl))))) (zet ((hin 8 37 rfl).trans (congrArg some (show uu 8=.int .i64 (((kk:Nat):Int)) from hd 8 (by decide) (by kernel_rfl))))) (by kernel_rfl) sz40 (fun h=>((hJ.get 1 (f:=Mr n (fun _=>n) B a) rfl).sq.nil h).1) ((hJ.get 1 (f:=Mr n (fun _=>n) B a) rfl).n ▸ (by omega)) (hK _ _ ⟨hJ,hJb⟩ rfl zvs)⟩
      ·
       exact .inr ⟨rfl,fun K' hK=>wp_ldmr 40 (.tmp 38) a kk n (fun _=>n) B rfl (zet ((hin 9 38 rfl).trans (congrArg some (show uu 9=(a.at 1 kk) from hd 9 (by decide) (by kernel_rfl))))) (hJ.get 1 (f:=Mr n (fun _=>n) B a) rfl) (by omega) ag40 (fun s6 hi_s6=>hK _ _ ⟨hJ,hJb⟩ ⟨s6,rfl,hi_s6⟩ zvs)⟩
      ·
       exact .inr ⟨rfl,fun K' hK=>wp_move (.tmp 3) rfl (zet ((hev 3 (by decide)).trans rfl)) (hK _ _ ⟨hJ,hJb⟩ rfl zvs)⟩
      ·
       obtain ⟨s6,e10,hi_s6⟩:=(show (vlsr n (B kk)) (uu 10) X5 ww from hd 10 (by decide) (by kernel_rfl))
       replace hJ:=hJ.more (f:=Lr n (B kk) s6) (Lr.stb _ _ _) hi_s6
       exact .inr ⟨rfl,fun K' hK=>wp_ixs 40 (.tmp 39) (.tmp 40) s6 i 2 43 rfl (zet ((hin 10 39 rfl).trans (congrArg some e10))) (zet ((hin 11 40 rfl).trans (congrArg some (show uu 11=.int .i64 (((i:Nat):Int)) from hd 11 (by decide) (by kernel_rfl))))) (by kernel_rfl) sz43 (fun h=>((hJ.get 0 (f:=Lr n (B kk) s6) rfl).sq.nil h).1) ((hJ.get 0 (f:=Lr n (B kk) s6) rfl).n ▸ (by omega)) (hK _ _ ⟨(hJ.only [Fl 1 (ERr (fun _=>i+1) B) (kk+1) C3,Mr n (fun _=>n) B a] (by simp)),hJb⟩ ⟨s6,rfl,hi_s6⟩ zvs)⟩
      ·
       obtain ⟨s6,e12,hi_s6⟩:=(show (vatr n (B kk) i) (uu 12) X5 ww from hd 12 (by decide) (by kernel_rfl))
       replace hJ:=hJ.more (f:=Lr n (B kk) s6) (Lr.stb _ _ _) hi_s6
       exact .inr ⟨rfl,fun K' hK=>wp_ldnr 43 (.tmp 41) s6 i n (B kk) rfl (zet ((hin 12 41 rfl).trans (congrArg some e12))) (hJ.get 0 (f:=Lr n (B kk) s6) rfl) (by omega) ag43 sz43 (fun q7 ez_q7 hi_q7=>hK _ _ ⟨(hJ.only [Fl 1 (ERr (fun _=>i+1) B) (kk+1) C3,Mr n (fun _=>n) B a] (by simp)),hJb⟩ ⟨q7,rfl,ez_q7,hi_q7⟩ zvs)⟩
      ·
       obtain ⟨q5,e6,ez_q5,hi_q5⟩:=(show (vnumr (B i kk)) (uu 6) X5 ww from hd 6 (by decide) (by kernel_rfl))
       obtain ⟨q7,e13,ez_q7,hi_q7⟩:=(show (vnumr (B kk i)) (uu 13) X5 ww from hd 13 (by decide) (by kernel_rfl))
       replace hJ:=hJ.more (f:=q5.ir) q5.stbr hi_q5
       replace hJ:=hJ.more (f:=q7.ir) q7.stbr hi_q7
       refine .inr ⟨rfl,fun K' hK=>?_⟩
       refine zcz (.func 108) #[.tmp 35,.tmp 42] #[43,43] 108 #[] #[q5.v,q7.v] _ rfl rfl (map2 (zet ((hin 6 35 rfl).trans (congrArg some e6))) (zet ((hin 13 42 rfl).trans (congrArg some e13)))) rfl (fun _ _=>rfl) (zCmpr (hJ.get 1 (f:=q5.ir) rfl) (hJ.get 0 (f:=q7.ir) rfl) ez_q5 ez_q7) ?_
       rintro zz ww2 ⟨rfl,hB⟩
       exact ⟨_,rfl,hK _ _ ⟨(hJ.only [Fl 1 (ERr (fun _=>i+1) B) (kk+1) C3,Mr n (fun _=>n) B a] (by simp)).later hB,hJb.trans (hB.mono hJb.size)⟩ rfl (zvl hVS9 hB)⟩
     clear hM
     intro uu W2 hZ7p hd
     obtain ⟨hZ7,hb9⟩:=hZ7p
     have e_0:uu 0=a.v:=hd 0 (by decide)
     have e_1:uu 1=.int .i64 (((i:Nat):Int)):=hd 1 (by decide)
     have e_2:uu 2=(a.at 1 i):=hd 2 (by decide)
     obtain ⟨s4,e_3,hi_s4⟩:=(show (vlsr n (B i)) (uu 3) X5 W2 from hd 3 (by decide))
     have e_4:uu 4=.int .i64 (((kk:Nat):Int)):=hd 4 (by decide)
     obtain ⟨s4_5,e_5,hi_s4_5⟩:=(show (vatr n (B i) kk) (uu 5) X5 W2 from hd 5 (by decide))
     obtain ⟨q5,e_6,ez_q5,hi_q5⟩:=(show (vnumr (B i kk)) (uu 6) X5 W2 from hd 6 (by decide))
     have e_7:uu 7=a.v:=hd 7 (by decide)
     have e_8:uu 8=.int .i64 (((kk:Nat):Int)):=hd 8 (by decide)
     have e_9:uu 9=(a.at 1 kk):=hd 9 (by decide)
     obtain ⟨s6,e_10,hi_s6⟩:=(show (vlsr n (B kk)) (uu 10) X5 W2 from hd 10 (by decide))
     have e_11:uu 11=.int .i64 (((i:Nat):Int)):=hd 11 (by decide)
     obtain ⟨s6_12,e_12,hi_s6_12⟩:=(show (vatr n (B kk) i) (uu 12) X5 W2 from hd 12 (by decide))
     obtain ⟨q7,e_13,ez_q7,hi_q7⟩:=(show (vnumr (B kk i)) (uu 13) X5 W2 from hd 13 (by decide))
     have e_14:uu 14=.int .i64 ((cmpI (B i kk) (B kk i))):=hd 14 (by decide)
     clear hd hVS9
     simp only [layS,Act.put,zzC,zzD,zzE,Nat.zero_add,Nat.reduceAdd,List.drop_succ_cons,List.drop_zero,List.drop_nil,e_0,e_1,e_2,e_3,e_4,e_5,e_6,e_7,e_8,e_9,e_10,e_11,e_12,e_13,e_14]
     clear e_0 e_1 e_2 e_3 e_4 e_5 e_6 e_7 e_8 e_9 e_10 e_11 e_12 e_13 e_14
     have hZ8:=hZ7.more (f:=Lr n (B i) s4) (Lr.stb _ _ _) hi_s4
     clear hZ7 hi_s4
     have hZ9:=hZ8.more (f:=Lr n (B i) s4_5) (Lr.stb _ _ _) hi_s4_5
     clear hZ8 hi_s4_5
     have hZ10:=hZ9.more (f:=q5.ir) q5.stbr hi_q5
     clear hZ9 hi_q5
     have hZ11:=hZ10.more (f:=Lr n (B kk) s6) (Lr.stb _ _ _) hi_s6
     clear hZ10 hi_s6
     have hZ12:=hZ11.more (f:=Lr n (B kk) s6_12) (Lr.stb _ _ _) hi_s6_12
     clear hZ11 hi_s6_12
     have hZ13:=hZ12.more (f:=q7.ir) q7.stbr hi_q7
     clear hZ12 hi_q7
     have hZ14:=hZ13.only [Fl 1 (ERr (fun _=>i+1) B) (kk+1) C3,Mr n (fun _=>n) B a] (by simp)
     clear hZ13
     by_cases hq:B i kk=B kk i
     ·
      have HQ:=Lib.hid hq
      clear hq
      go_wp2_with (refine zso rfl (fun K hK=>wp_neqi (.tmp 44) (.const (.int .i64 0)) 3 3 rfl rfl rfl rfl (r:=false) (decide_eq_false (by rw [cmpI_ne]; exact fun h=>h HQ.out)) (hK _ _ ?_)))
      simp only [Stop,Act.put,zzC,zzD,zzE]
      go_wp2_with (refine zso rfl (fun K hK=>wp_addi (.tmp 17) (.const (.int .i64 1)) rfl rfl rfl (C:=((kk+1:Nat):Int)) (by omega) (by omega) (by omega) (hK _ _ ?_)))
      simp only [Stop,Act.put,zzC,zzD,zzE]
      go_wp2
      go_roundw
      case rel=>exact ⟨kk+1,o3,C3,_,by omega,by go_num,rfl,hn_o3,hw_o3,Lib.hid (fun q hq=>by
        by_cases e:q=kk
        ·
         rw [e]; exact HQ.out
        ·
         exact H3.out q (by omega)),hZ14⟩
      case measure=>simp [intOf]; omega
     ·
      have HQ:=Lib.hid hq
      clear hq
      go_wp2_with (refine zso rfl (fun K hK=>wp_neqi (.tmp 44) (.const (.int .i64 0)) 3 3 rfl rfl rfl rfl (r:=true) (decide_eq_true (by rw [cmpI_ne]; exact HQ.out)) (hK _ _ ?_)))
      simp only [Stop,Act.put,zzC,zzD,zzE]
      go_wp2
      go_ret
      refine ⟨?_,hZ14.below⟩
      rw [show decide (Sym n B∧∀ k,k < n→0 < M.dt (k+1) B)=false from decide_eq_false (defd_no1 hlt hlk HQ.out)]
      rfl
    ·
     obtain rfl:kk=i+1:=by omega
     go_wp2_with (refine zso rfl (fun K hK=>wp_leqi (.tmp 14) (.tmp 15) rfl rfl rfl (r:=false) (decide_eq_false (by omega)) (hK _ _ ?_)))
     simp only [Stop,Act.put,zzC,zzD,zzE]
     have hZ15r:=(hZi.get 0 (f:=Fl 1 (ERr (fun _=>i+1) B) (i+1) Co) rfl)
     obtain ⟨X16,hZ16⟩:=Zs.tellm (hZi.perm List.perm_append_comm) hX hw_so hn_so hZ15r
     clear hZi hZ15r
     go_wp2_with fail
     refine (dDet (e:=e) he1 he (i+1) (by omega) _ _ hZ16.nx so _ (hZ16.get 0 (f:=Mr (i+1) (fun _=>i+1) B so) rfl) (fun x y hx hy=>bB x y (by omega) (by omega))).mono ?_
     rintro zz W3 ⟨q8,rfl,ez_q8,hi_q8,hB⟩
     have hZ17:=hZ16.later hB
     clear hB hZ16
     have hZ18:=hZ17.more (f:=q8.ir) q8.stbr hi_q8
     clear hZ17 hi_q8
     go_wp2_with fail
     refine (zSignr (hZ18.get 0 (f:=q8.ir) rfl) ez_q8).mono ?_
     rintro zz W4 ⟨rfl,hB⟩
     have hZ19:=hZ18.later hB
     clear hB hZ18
     have hZ20:=hZ19.only [Mr n (fun _=>n) B a] (by simp)
     clear hZ19
     by_cases hd:M.dt (i+1) B≤0
     ·
      have HD:=Lib.hid hd
      clear hd
      go_wp2_with (refine zso rfl (fun K hK=>wp_leqi (.tmp 49) (.const (.int .i64 0)) rfl rfl rfl (r:=true) (decide_eq_true (by rw [sgnI_pos]; have:=HD.out; omega)) (hK _ _ ?_)))
      simp only [Stop,Act.put,zzC,zzD,zzE]
      go_wp2
      go_ret
      refine ⟨?_,hZ20.below⟩
      rw [show decide (Sym n B∧∀ k,k < n→0 < M.dt (k+1) B)=false from decide_eq_false (defd_no2 hlt HD.out)]
      rfl
     ·
      have HD:=Lib.hid hd
      clear hd
      go_wp2_with (refine zso rfl (fun K hK=>wp_leqi (.tmp 49) (.const (.int .i64 0)) rfl rfl rfl (r:=false) (decide_eq_false (by rw [sgnI_pos]; have:=HD.out; omega)) (hK _ _ ?_)))
      simp only [Stop,Act.put,zzC,zzD,zzE]
      go_wp2_with (refine zso rfl (fun K hK=>wp_addi (.tmp 12) (.const (.int .i64 1)) rfl rfl rfl (C:=((i+1:Nat):Int)) (by omega) (by omega) (by omega) (hK _ _ ?_)))
      simp only [Stop,Act.put,zzC,zzD,zzE]
      go_wp2
      go_roundw
      case rel=>exact ⟨i+1,_,by omega,by go_num,Lib.hid (fun x y hx hy=>by
        by_cases e:x=i
        ·
         rw [e]; exact H3.out y (by omega)
        ·
         exact H1.out x y (by omega) hy),Lib.hid (fun k hk=>by
        by_cases e:k=i
        ·
         rw [e]; have:=HD.out; omega
        ·
         exact H2.out k (by omega)),hZ20⟩
      case measure=>simp [intOf]; omega
  ·
   obtain rfl:n=i:=by omega
   go_wp2_with (refine zso rfl (fun K hK=>wp_lenq (.tmp 9) 39 40 a rfl (by kernel_rfl) rfl (hZ.get 0 (f:=Mr n (fun _=>n) B a) rfl).n (hK _ _ ?_)))
   simp only [Stop,Act.put,zzC,zzD,zzE]
   go_wp2_with (refine zso rfl (fun K hK=>wp_lssi (.tmp 8) (.tmp 10) rfl rfl rfl (r:=false) (decide_eq_false (Int.lt_irrefl _)) (hK _ _ ?_)))
   simp only [Stop,Act.put,zzC,zzD,zzE]
   go_wp2
   go_ret
   refine ⟨?_,hZ.below⟩
   rw [show decide (Sym n B∧∀ k,k < n→0 < M.dt (k+1) B)=true from decide_eq_true (defd_yes H1.out H2.out)]
   rfl
end Go.Proofs.YtjclllindbfmhaaGreatDoor
