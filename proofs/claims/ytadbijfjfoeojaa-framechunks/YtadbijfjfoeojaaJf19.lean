/- Parts of the proof. -/
import Derived.Test.YtadbijfjfoeojaaJf0
import Derived.Test.YtadbijfjfoeojaaJf18
import Derived.Test.YtadbijfjfoeojaaJf17
import Derived.Test.YtadbijfjfoeojaaJf1
import Derived.Laws.IdiomStrings
set_option linter.unusedSimpArgs false
set_option linter.unusedVariables false
/- Frames: when two lists of them are one. No statement of the seat is proved here. -/
namespace Go.Proofs.Ytadbijfjfoeojaa
open Go Go.RowKit
/-- Are two frames the same? -/
def eqF (f g:UInt8 × List UInt8):Bool:=decide (f=g)
theorem run_eqFr (a a':Int) (p p':ByteArray) (w:World):(Op.equalIn 10000 39 (.agg #[.int .u8 a,.string p]) (.agg #[.int .u8 a',.string p'])).run Try.prog w=.ok (a == a' && p.toList == p'.toList) w:=by
 have ht:Try.prog.underlying 39=some (.struct (Try.prog.fieldsOf 39)):=by kernel_rfl
 have hp:Try.prog.stoodInHeld 39=false:=by kernel_rfl
 have u1:=Try.underlying5
 have u2:=Try.underlying9
 have a1:=Try.isAgg5
 have a2:=Try.isAgg9
 have z1:=Try.sizeOf5
 have z2:=Try.sizeOf9
 rw [show (10000:Nat)=9999+1 from rfl,run_equalIn_struct w 9999 39 _ _ ht hp]
 simp only [Program.fieldsOf,Try.underlying39]
 go_simp
 by_cases h1:a=a' <;> by_cases h2:p.toList=p'.toList <;> simp [h1,h2]
theorem eqF_of (f g:UInt8 × List UInt8):(((f.1.toNat:Nat):Int) == ((g.1.toNat:Nat):Int) && (⟨f.2.toArray⟩:ByteArray).toList == (⟨g.2.toArray⟩:ByteArray).toList)=eqF f g:=by
 rw [Lib.toList_data,Lib.toList_data]
 unfold eqF
 rw [Bool.eq_iff_iff,Bool.and_eq_true,beq_iff_eq,beq_iff_eq,decide_eq_true_iff]
 constructor
 ·
  rintro ⟨h1,h2⟩
  have h3:f.1=g.1:=UInt8.toNat_inj.1 (by exact_mod_cast h1)
  have h4:f.2=g.2:=h2
  exact Prod.ext h3 h4
 ·
  rintro rfl
  exact ⟨rfl,rfl⟩
theorem run_neqFr (f g:UInt8 × List UInt8) (w:World):(binOp .neq 39 (.agg #[.int .u8 (f.1.toNat:Nat),.string ⟨f.2.toArray⟩]) (.agg #[.int .u8 (g.1.toNat:Nat),.string ⟨g.2.toArray⟩])).run Try.prog w=.ok (.bool (!eqF f g)) w:=by
 rw [run_neq_struct,run_eqFr,eqF_of]
 rfl
theorem run_eqlFr (f g:UInt8 × List UInt8) (w:World):(binOp .eql 39 (.agg #[.int .u8 (f.1.toNat:Nat),.string ⟨f.2.toArray⟩]) (.agg #[.int .u8 (g.1.toNat:Nat),.string ⟨g.2.toArray⟩])).run Try.prog w=.ok (.bool (eqF f g)) w:=by
 rw [run_eql_struct,run_eqFr,eqF_of]
 rfl
attribute [local go_sem ↓] run_neqFr run_eqlFr
/-- Frames that lie in memory, as a slice. -/
def FrL (W:World) (v:Value) (fs:List (UInt8 × List UInt8)):Prop :=
 (fs=[]∧∃ a c,v=.slice a 0 c)∨∃ b o c,v=.slice (some ⟨b,o,none⟩) fs.length c∧b < W.heap.size∧∀ i (h:i < fs.length),W.cell? ⟨b,o+i*2,none⟩=some (.int .u8 ((fs[i]).1.toNat:Nat))∧W.cell? ⟨b,o+i*2+1,none⟩=some (.string ⟨(fs[i]).2.toArray⟩)
theorem cell_below {W W':World} {b k:Nat} {v:Value} (h:W.cell? ⟨b,k,none⟩=some v) (hb:Below W.heap.size W W') (hlt:b < W.heap.size):W'.cell? ⟨b,k,none⟩=some v:=by
 unfold World.cell? at *
 simp only at *
 rw [hb.block b hlt]
 exact h
theorem FrL.below {W W':World} {v:Value} {fs:List (UInt8 × List UInt8)} (h:FrL W v fs) (hb:Below W.heap.size W W'):FrL W' v fs:=by
 rcases h with h | ⟨b,o,c,e,hlt,h⟩
 ·
  exact .inl h
 ·
  exact .inr ⟨b,o,c,e,Nat.lt_of_lt_of_le hlt hb.size,fun i hi=>⟨cell_below (h i hi).1 hb hlt,cell_below (h i hi).2 hb hlt⟩⟩
theorem fcells_len (fs:List (UInt8 × List UInt8)):(fcells fs).length=fs.length*2:=by
 unfold fcells
 induction fs with
 | nil=>rfl
 | cons f r ih=>rw [List.flatMap_cons,List.length_append,ih,List.length_cons]; simp [fcell]; omega
theorem fcells_get:∀ (fs:List (UInt8 × List UInt8)) (i:Nat) (h:i < fs.length),(fcells fs)[i*2]?=some (.int .u8 ((fs[i]).1.toNat:Nat))∧(fcells fs)[i*2+1]?=some (.string ⟨(fs[i]).2.toArray⟩)
 | f :: r,0,_=>⟨rfl,rfl⟩
 | f :: r,i+1,h=>by
  have ih:=fcells_get r i (by simpa using h)
  have e:fcells (f :: r)=.int .u8 (f.1.toNat:Nat) :: .string ⟨f.2.toArray⟩ :: fcells r:=rfl
  rw [e,show (i+1)*2=i*2+1+1 by omega,List.getElem?_cons_succ,List.getElem?_cons_succ,List.getElem?_cons_succ,List.getElem?_cons_succ]
  exact ih
theorem frl_own {W:World} {base:Nat} {v:Value} {fs:List (UInt8 × List UInt8)} (h:W.ownsRow base 39 2 v fs.length (fcells fs)):FrL W v fs:=by
 have hcs:=h.2
 rcases hcs with ⟨rfl,h0⟩ | ⟨g,cap,cur,rfl,hb,hg,hc,hm,hs,ht⟩
 ·
  exact .inl ⟨List.eq_nil_of_length_eq_zero h0,none,0,by rfl⟩
 ·
  refine .inr ⟨g,0,cap,rfl,(Array.getElem?_eq_some_iff.1 hg).1,fun i hi=>?_⟩
  have h1:=h.cells (g:=g) rfl (i*2) _ (fcells_get fs i hi).1
  have h2:=h.cells (g:=g) rfl (i*2+1) _ (fcells_get fs i hi).2
  rw [show (⟨g,0,none⟩:Addr).add (i*2)=⟨g,0+i*2,none⟩ from by unfold Addr.add; split <;> simp_all] at h1
  rw [show (⟨g,0,none⟩:Addr).add (i*2+1)=⟨g,0+i*2+1,none⟩ from by unfold Addr.add; split <;> simp_all [Nat.add_assoc]] at h2
  exact ⟨h1,h2⟩
/-- Are the first i frames the same? -/
def sameB (fs gs:List (UInt8 × List UInt8)):Bool:=decide (fs=gs)
theorem same_no {fs gs:List (UInt8 × List UInt8)} {i:Nat} (hl:fs.length=gs.length) (hf:i < fs.length) (hg:i < gs.length) (h:eqF fs[i] gs[i]=false):sameB fs gs=false:=by
 unfold sameB
 rw [decide_eq_false]
 rintro rfl
 unfold eqF at h
 simp at h
theorem same_step {fs gs:List (UInt8 × List UInt8)} {i:Nat} (ht:fs.take i=gs.take i) (hf:i < fs.length) (hg:i < gs.length) (h:eqF fs[i] gs[i]=true):fs.take (i+1)=gs.take (i+1):=by
 rw [List.take_succ_eq_append_getElem hf,List.take_succ_eq_append_getElem hg,ht,of_decide_eq_true h]
theorem same_yes {fs gs:List (UInt8 × List UInt8)} {i:Nat} (ht:fs.take i=gs.take i) (hf:fs.length≤i) (hg:gs.length≤i):sameB fs gs=true:=by
 rw [List.take_of_length_le hf,List.take_of_length_le hg] at ht
 exact decide_eq_true ht
set_option maxRecDepth 100000 in
set_option maxHeartbeats 3200000 in
theorem same_len (v u:Value) (a1 a2:Option Addr) (n m c1 c2:Nat) (w:World) (hv:v=.slice a1 n c1) (hu:u=.slice a2 m c2) (h:n ≠ m):Calls Try.prog 17 #[v,u] w (PEq (.bool false) w):=by
 have e:((n:Int) != (m:Int))=true:=by rw [bne_iff_ne]; omega
 have H:=Lib.hid h
 subst hv hu
 clear h
 go_enter Try.func17,Try.ntmps17
 go_wp2
 go_ret
 exact ⟨rfl,rfl⟩
set_option maxRecDepth 100000 in
set_option maxHeartbeats 3200000 in
theorem same_nil (a1 a2:Option Addr) (c1 c2:Nat) (w:World):Calls Try.prog 17 #[.slice a1 0 c1,.slice a2 0 c2] w (PEq (.bool true) w):=by
 go_enter Try.func17,Try.ntmps17
 go_wp2
 go_loop [5] (fun iv=>iv=.int .i64 0) (fun _=>0)
 case atStart=>rfl
 case round =>
  subst hrel
  go_wp2
  go_ret
  exact ⟨rfl,rfl⟩
set_option maxRecDepth 100000 in
set_option maxHeartbeats 3200000 in
theorem same_in (b1 o1 c1 b2 o2 c2 n:Nat) (fs gs:List (UInt8 × List UInt8)) (w:World) (hf:fs.length=n) (hg:gs.length=n) (hn:n≤1000000000)
  (h1:∀ i (h:i < fs.length),w.cell? ⟨b1,o1+i*2,none⟩=some (.int .u8 ((fs[i]).1.toNat:Nat))∧w.cell? ⟨b1,o1+i*2+1,none⟩=some (.string ⟨(fs[i]).2.toArray⟩))
  (h2:∀ i (h:i < gs.length),w.cell? ⟨b2,o2+i*2,none⟩=some (.int .u8 ((gs[i]).1.toNat:Nat))∧w.cell? ⟨b2,o2+i*2+1,none⟩=some (.string ⟨(gs[i]).2.toArray⟩)) :
  Calls Try.prog 17 #[.slice (some ⟨b1,o1,none⟩) n c1,.slice (some ⟨b2,o2,none⟩) n c2] w (PVal (.bool (sameB fs gs)) w):=by
 have H1:=Lib.hid h1
 have H2:=Lib.hid h2
 have HF:=Lib.hid hf
 have HG:=Lib.hid hg
 clear h1 h2 hf hg
 go_enter Try.func17,Try.ntmps17
 go_wp2
 go_loopw [5] (fun iv wr=>∃ i:Nat,i≤n∧iv=.int .i64 i∧Hid (fs.take i=gs.take i)∧Below w.heap.size w wr∧wr.heap=w.heap) (fun iv _=>n - (intOf iv).toNat)
 case atStart=>exact ⟨0,by omega,rfl,rfl,Below.refl _ _,rfl⟩
 case round =>
  obtain ⟨i,hi,rfl,HT,hbl,hheap⟩:=hrel
  by_cases hlt:i < n
  ·
   have kf:i < fs.length:=by have:=HF.out; omega
   have kg:i < gs.length:=by have:=HG.out; omega
   obtain ⟨f,hf⟩:∃ f,f=fs[i]:=⟨_,rfl⟩
   obtain ⟨g,hg⟩:∃ g,g=gs[i]:=⟨_,rfl⟩
   have hce:∀ p:Addr,wr.drew.cell? p=w.cell? p:=fun p=>by unfold World.cell?; show (match wr.heap[p.block]? with | some (.cells c _ _)=>_ | _=>_)=_; rw [hheap]; rfl
   have q1:wr.drew.cell? ⟨b1,o1+i*2,none⟩=some (.int .u8 (f.1.toNat:Nat)):=by rw [hce,hf]; exact (H1.out i kf).1
   have q2:wr.drew.cell? ⟨b1,o1+i*2+1,none⟩=some (.string ⟨f.2.toArray⟩):=by rw [hce,hf]; exact (H1.out i kf).2
   have q3:wr.drew.cell? ⟨b2,o2+i*2,none⟩=some (.int .u8 (g.1.toNat:Nat)):=by rw [hce,hg]; exact (H2.out i kg).1
   have q4:wr.drew.cell? ⟨b2,o2+i*2+1,none⟩=some (.string ⟨g.2.toArray⟩):=by rw [hce,hg]; exact (H2.out i kg).2
   have HX:=Lib.hid hf
   have HY:=Lib.hid hg
   clear hf hg hce
   go_wp2
   refine wp_region_vals 9 [some 17,some 18,some 19,some 20,some 21,some 22,some 23,some 24,some 25] (lstV [.slice (some ⟨b1,o1,none⟩) n c1,.int .i64 (i:Nat),.pointer (some ⟨b1,o1+i*2,none⟩),.agg #[.int .u8 (f.1.toNat:Nat),.string ⟨f.2.toArray⟩],.slice (some ⟨b2,o2,none⟩) n c2,.int .i64 (i:Nat),.pointer (some ⟨b2,o2+i*2,none⟩),.agg #[.int .u8 (g.1.toNat:Nat),.string ⟨g.2.toArray⟩],.bool (!eqF f g)]) (fun W=>W.cell? ⟨b1,o1+i*2,none⟩=some (.int .u8 (f.1.toNat:Nat))∧W.cell? ⟨b1,o1+i*2+1,none⟩=some (.string ⟨f.2.toArray⟩)∧W.cell? ⟨b2,o2+i*2,none⟩=some (.int .u8 (g.1.toNat:Nat))∧W.cell? ⟨b2,o2+i*2+1,none⟩=some (.string ⟨g.2.toArray⟩)∧Below w.heap.size w W∧W.heap=w.heap) (by kernel_rfl) (by kernel_rfl) (by decide) (⟨q1,q2,q3,q4,hbl.drew,hheap⟩) ?_ ?_
   ·
    intro q hl hi u W hJ hd
    obtain rfl | rfl | rfl | rfl | rfl | rfl | rfl | rfl | rfl:q=0∨q=1∨q=2∨q=3∨q=4∨q=5∨q=6∨q=7∨q=8:=by omega
    ·
     clear hd
     simp only [zzA,zzB]
     clear hl
     refine .inr ⟨rfl,fun K' hK=>?_⟩
     have HK:=Lib.hid hK
     clear hK
     simp only [layS,Act.put,zzC,zzD,zzE,Nat.zero_add,Nat.reduceAdd]
     go_simp
     exact HK.out _ _ (by simp [layS,updV,lstV,Act.put]) hJ
    ·
     clear hd
     simp only [zzA,zzB]
     clear hl
     refine .inr ⟨rfl,fun K' hK=>?_⟩
     have HK:=Lib.hid hK
     clear hK
     simp only [layS,Act.put,zzC,zzD,zzE,Nat.zero_add,Nat.reduceAdd]
     go_simp
     exact HK.out _ _ (by simp [layS,updV,lstV,Act.put]) hJ
    ·
     have e0:u 0=.slice (some ⟨b1,o1,none⟩) n c1:=hd 0 (by kernel_rfl)
     have e1:u 1=.int .i64 (i:Nat):=hd 1 (by kernel_rfl)
     clear hd
     simp only [zzA,zzB]
     clear hl
     refine .inr ⟨rfl,fun K' hK=>?_⟩
     have HK:=Lib.hid hK
     clear hK
     simp only [layS,Act.put,zzC,zzD,zzE,Nat.zero_add,Nat.reduceAdd,e0,e1]
     have E0:=Lib.hid e0
     have E1:=Lib.hid e1
     clear e0 e1
     have hti:((i:Nat):Int).toNat=i:=rfl
     go_simp
     exact HK.out _ _ (by simp [layS,updV,lstV,Act.put,E0.out,E1.out]) hJ
    ·
     have e2:u 2=.pointer (some ⟨b1,o1+i*2,none⟩):=hd 2 (by kernel_rfl)
     clear hd
     simp only [zzA,zzB]
     clear hl
     refine .inr ⟨rfl,fun K' hK=>?_⟩
     have HK:=Lib.hid hK
     clear hK
     simp only [layS,Act.put,zzC,zzD,zzE,Nat.zero_add,Nat.reduceAdd,e2]
     have E2:=Lib.hid e2
     clear e2
     have c10:=hJ.1
     have c11:=hJ.2.1
     go_simp
     exact HK.out _ _ (by simp [layS,updV,lstV,Act.put,E2.out]) hJ
    ·
     clear hd
     simp only [zzA,zzB]
     clear hl
     refine .inr ⟨rfl,fun K' hK=>?_⟩
     have HK:=Lib.hid hK
     clear hK
     simp only [layS,Act.put,zzC,zzD,zzE,Nat.zero_add,Nat.reduceAdd]
     go_simp
     exact HK.out _ _ (by simp [layS,updV,lstV,Act.put]) hJ
    ·
     clear hd
     simp only [zzA,zzB]
     clear hl
     refine .inr ⟨rfl,fun K' hK=>?_⟩
     have HK:=Lib.hid hK
     clear hK
     simp only [layS,Act.put,zzC,zzD,zzE,Nat.zero_add,Nat.reduceAdd]
     go_simp
     exact HK.out _ _ (by simp [layS,updV,lstV,Act.put]) hJ
    ·
     have e4:u 4=.slice (some ⟨b2,o2,none⟩) n c2:=hd 4 (by kernel_rfl)
     have e5:u 5=.int .i64 (i:Nat):=hd 5 (by kernel_rfl)
     clear hd
     simp only [zzA,zzB]
     clear hl
     refine .inr ⟨rfl,fun K' hK=>?_⟩
     have HK:=Lib.hid hK
     clear hK
     simp only [layS,Act.put,zzC,zzD,zzE,Nat.zero_add,Nat.reduceAdd,e4,e5]
     have E4:=Lib.hid e4
     have E5:=Lib.hid e5
     clear e4 e5
     have hti:((i:Nat):Int).toNat=i:=rfl
     go_simp
     exact HK.out _ _ (by simp [layS,updV,lstV,Act.put,E4.out,E5.out]) hJ
    ·
     have e6:u 6=.pointer (some ⟨b2,o2+i*2,none⟩):=hd 6 (by kernel_rfl)
     clear hd
     simp only [zzA,zzB]
     clear hl
     refine .inr ⟨rfl,fun K' hK=>?_⟩
     have HK:=Lib.hid hK
     clear hK
     simp only [layS,Act.put,zzC,zzD,zzE,Nat.zero_add,Nat.reduceAdd,e6]
     have E6:=Lib.hid e6
     clear e6
     have c20:=hJ.2.2.1
     have c21:=hJ.2.2.2.1
     go_simp
     exact HK.out _ _ (by simp [layS,updV,lstV,Act.put,E6.out]) hJ
    ·
     have e3:u 3=.agg #[.int .u8 (f.1.toNat:Nat),.string ⟨f.2.toArray⟩]:=hd 3 (by kernel_rfl)
     have e7:u 7=.agg #[.int .u8 (g.1.toNat:Nat),.string ⟨g.2.toArray⟩]:=hd 7 (by kernel_rfl)
     clear hd
     simp only [zzA,zzB]
     clear hl
     refine .inr ⟨rfl,fun K' hK=>?_⟩
     have HK:=Lib.hid hK
     clear hK
     simp only [layS,Act.put,zzC,zzD,zzE,Nat.zero_add,Nat.reduceAdd,e3,e7]
     have E3:=Lib.hid e3
     have E7:=Lib.hid e7
     clear e3 e7
     go_simp
     exact HK.out _ _ (by simp [layS,updV,lstV,Act.put,E3.out,E7.out]) hJ
   intro W hJ
   simp only [layS,lstV,Act.put,zzC,zzD,zzE,Nat.zero_add,Nat.reduceAdd,List.getD_cons_zero,List.getD_cons_succ,List.drop_succ_cons,List.drop_zero,List.drop_nil]
   have hbl2:=hJ.2.2.2.2.1
   have hheap2:=hJ.2.2.2.2.2
   clear hJ q1 q2 q3 q4
   cases hq:eqF f g
   ·
    have HS:Hid (sameB fs gs=false):=same_no (by rw [HF.out,HG.out]) kf kg (by rw [← HX.out,← HY.out]; exact hq)
    go_wp2
    go_ret
    exact ⟨by rw [HS.out]; rfl,hbl2⟩
   ·
    have HT2:Hid (fs.take (i+1)=gs.take (i+1)):=same_step HT.out kf kg (by rw [← HX.out,← HY.out]; exact hq)
    go_wp2
    go_roundw
    case rel=>exact ⟨i+1,by omega,by go_num,HT2,hbl2,hheap2⟩
    case measure=>simp [intOf]; omega
  ·
   have hin:i=n:=by omega
   subst hin
   have HS:Hid (sameB fs gs=true):=same_yes HT.out (Nat.le_of_eq HF.out) (Nat.le_of_eq HG.out)
   go_wp2
   go_ret
   exact ⟨by rw [HS.out]; rfl,hbl⟩
theorem same_any {v u:Value} {fs gs:List (UInt8 × List UInt8)} {w:World} (hf:FrL w v fs) (hg:FrL w u gs) (hn:fs.length≤1000000000) (hm:gs.length≤1000000000):Calls Try.prog 17 #[v,u] w (PVal (.bool (sameB fs gs)) w):=by
 have key:∀ {v:Value} {fs:List (UInt8 × List UInt8)},FrL w v fs→∃ a c,v=.slice a fs.length c:=by
  intro v fs h
  rcases h with ⟨rfl,a,c,e⟩ | ⟨b,o,c,e,_⟩
  ·
   exact ⟨a,c,e⟩
  ·
   exact ⟨_,c,e⟩
 by_cases hl:fs.length=gs.length
 ·
  rcases hf with ⟨rfl,a1,c1,e1⟩ | ⟨b1,o1,c1,e1,_,h1⟩
  ·
   obtain ⟨a2,c2,e2⟩:=key hg
   have h0:gs=[]:=List.eq_nil_of_length_eq_zero (by rw [← hl]; rfl)
   subst h0 e1 e2
   exact (same_nil a1 a2 c1 c2 w).mono fun _ _ h=>h.val
  ·
   rcases hg with ⟨rfl,a2,c2,e2⟩ | ⟨b2,o2,c2,e2,_,h2⟩
   ·
    have h0:fs=[]:=List.eq_nil_of_length_eq_zero (by rw [hl]; rfl)
    subst h0 e1 e2
    exact (same_nil _ a2 c1 c2 w).mono fun _ _ h=>h.val
   ·
    subst e1 e2
    rw [← hl]
    exact same_in b1 o1 c1 b2 o2 c2 fs.length fs gs w rfl hl.symm hn h1 h2
 ·
  obtain ⟨a1,c1,e1⟩:=key hf
  obtain ⟨a2,c2,e2⟩:=key hg
  have hs:sameB fs gs=false:=by
   unfold sameB
   rw [decide_eq_false]
   intro e
   exact hl (by rw [e])
  rw [hs]
  exact (same_len v u a1 a2 _ _ c1 c2 w e1 e2 hl).mono fun _ _ h=>h.val
/-- A call that writes in blocks F, and in new ones. -/
structure Chg (F:Nat→Prop) (w w':World):Prop where
 os:w'.os=w.os
 tape:w'.tape=w.tape
 output:w'.output=w.output
 size:w.heap.size≤w'.heap.size
 block:∀ k,k < w.heap.size→¬ F k→w'.heap[k]?=w.heap[k]?
theorem Chg.of {F:Nat→Prop} {w w':World} (h:Below w.heap.size w w'):Chg F w w':=⟨h.os,h.tape,h.output,h.size,fun k hk _=>h.block k hk⟩
theorem Chg.below {F:Nat→Prop} {w0 w w':World} (h:Below w0.heap.size w0 w) (c:Chg F w w') (hF:∀ k,F k→w0.heap.size≤k):Below w0.heap.size w0 w' :=
 ⟨c.os.trans h.os,c.tape.trans h.tape,c.output.trans h.output,Nat.le_trans h.size c.size,fun k hk=>(c.block k (Nat.lt_of_lt_of_le hk h.size) (fun hf=>absurd (hF k hf) (Nat.not_le.2 hk))).trans (h.block k hk)⟩
/-- Frames in memory, as a slice: in block c, where there are any. -/
def FrAt (W:World) (v:Value) (fs:List (UInt8 × List UInt8)) (c:Nat):Prop :=
 (fs=[]∧∃ a d,v=.slice a 0 d∧(a=none→d=0))∨(fs ≠ []∧∃ o d,v=.slice (some ⟨c,o,none⟩) fs.length d∧c < W.heap.size∧∀ i (h:i < fs.length),W.cell? ⟨c,o+i*2,none⟩=some (.int .u8 ((fs[i]).1.toNat:Nat))∧W.cell? ⟨c,o+i*2+1,none⟩=some (.string ⟨(fs[i]).2.toArray⟩))
theorem FrAt.frl {W:World} {v:Value} {fs:List (UInt8 × List UInt8)} {c:Nat} (h:FrAt W v fs c):FrL W v fs:=by
 rcases h with ⟨h0,a,d,e,_⟩ | ⟨_,o,d,e,hc,h⟩
 ·
  exact .inl ⟨h0,a,d,e⟩
 ·
  exact .inr ⟨c,o,d,e,hc,h⟩
theorem cell_same {W W':World} {b k:Nat} {v:Value} (h:W.cell? ⟨b,k,none⟩=some v) (hb:W'.heap[b]?=W.heap[b]?):W'.cell? ⟨b,k,none⟩=some v:=by
 unfold World.cell? at *
 simp only at *
 rw [hb]
 exact h
theorem FrAt.keep {W W':World} {v:Value} {fs:List (UInt8 × List UInt8)} {c:Nat} (h:FrAt W v fs c) (hs:W.heap.size≤W'.heap.size) (hb:fs ≠ []→W'.heap[c]?=W.heap[c]?):FrAt W' v fs c:=by
 rcases h with h | ⟨h0,o,d,e,hc,h⟩
 ·
  exact .inl h
 ·
  exact .inr ⟨h0,o,d,e,Nat.lt_of_lt_of_le hc hs,fun i hi=>⟨cell_same (h i hi).1 (hb h0),cell_same (h i hi).2 (hb h0)⟩⟩
theorem FrAt.lt {W:World} {v:Value} {fs:List (UInt8 × List UInt8)} {c:Nat} (h:FrAt W v fs c) (h0:fs ≠ []):c < W.heap.size:=by
 rcases h with ⟨e,_⟩ | ⟨_,o,d,e,hc,h⟩
 ·
  exact absurd e h0
 ·
  exact hc
abbrev Fs:=List (UInt8 × List UInt8)
abbrev rn_ (l:List UInt8):Fs × Nat × List UInt8:=W.run X.rightB l
theorem rn_count (l:List UInt8):(rn_ l).1.length+(rn_ l).2.1+(rn_ l).2.2.length≤l.length:=by
 have:∀ (n:Nat) (l:List UInt8),l.length=n→(rn_ l).1.length+(rn_ l).2.1+(rn_ l).2.2.length≤l.length:=by
  intro n
  induction n using Nat.strongRecOn with
  | ind n ih =>
   rintro l rfl
   cases h:W.stp X.rightB l with
   | none=>rw [rn_,W.run_none h]; simp
   | some x =>
    obtain ⟨e,l'⟩:=x
    have h1:=W.stp_len h
    have h2:=ih l'.length h1 l' rfl
    rw [rn_,W.run_some h]
    rw [rn_] at h2
    cases e <;> simp [W.Ev.on] <;> omega
 exact this _ l rfl
theorem rn_bad {l l':List UInt8} {fs:Fs} {d:Nat} (h:rn_ l=(fs,d,l')):d≤l.length:=by
 have:=rn_count l
 rw [h] at this
 simp only at this
 omega
theorem rn_badB {s:ByteArray} {l':List UInt8} {fs:Fs} {d:Nat} (h:rn_ s.data.toList=(fs,d,l')):d≤s.size:=rn_bad h
/-- What the program's package frame is known to do. -/
structure FrameC (Scn:World→Value→List UInt8→Nat→(Nat→Prop)→Prop):Prop where
 lt:∀ {W p l b F},Scn W p l b F→∀ k,F k→k < W.heap.size
 ptr:∀ {W p l b F},Scn W p l b F→∃ a,p=.pointer (some a)
 keep:∀ {W W' p l b F},Scn W p l b F→W.heap.size≤W'.heap.size→(∀ k,F k→W'.heap[k]?=W.heap[k]?)→Scn W' p l b F
 new:∀ W,Calls Try.prog 12 #[] W fun e W'=>∃ p F,e=.returned p∧Scn W' p [] 0 F∧(∀ k,F k→W.heap.size≤k)∧Below W.heap.size W W'
 feed:∀ {W p l b F} (s:ByteArray),Scn W p l b F→l.length+s.size≤1000000→Calls Try.prog 13 #[p,.string s] W fun e W'=>∃ v F' c,e=.returned v∧Scn W' p (rn_ (l++s.data.toList)).2.2 (b+(rn_ (l++s.data.toList)).2.1) F'∧(∀ k,F' k→F k∨W.heap.size≤k)∧Chg F W W'∧FrAt W' v (rn_ (l++s.data.toList)).1 c∧((rn_ (l++s.data.toList)).1 ≠ []→W.heap.size≤c∧¬ F' c)
 bad:∀ {W p l b F},Scn W p l b F→b≤1000000000→Calls Try.prog 15 #[p] W (PVal (.int .i64 (b:Nat)) W)
 waiting:∀ {W p l b F},Scn W p l b F→Calls Try.prog 16 #[p] W (PVal (.int .i64 (l.length:Nat)) W)
 wrap:∀ (k:UInt8) (s:ByteArray) W,s.size≤64→Calls Try.prog 10 #[.int .u8 (k.toNat:Nat),.string s] W (PVal (.tuple #[.string (wrapS k s),.int .i64 0]) W)
 wrapLong:∀ (k:UInt8) (s:ByteArray) W,64 < s.size→s.size≤140737488355328→Calls Try.prog 10 #[.int .u8 (k.toNat:Nat),.string s] W (PVal (.tuple #[.string ⟨#[]⟩,.int .i64 2]) W)
structure Sx where
 p:Value
 l:List UInt8
 b:Nat
 F:Nat→Prop
structure Tx where
 v:Value
 fs:Fs
 c:Nat
/-- Scans that lie apart, and what was told, apart from them. -/
structure Sq (Scn:World→Value→List UInt8→Nat→(Nat→Prop)→Prop) (w W:World) (sc:List Sx) (ts:List Tx):Prop where
 below:Below w.heap.size w W
 scn:∀ (i:Nat) (x:Sx),sc[i]?=some x→Scn W x.p x.l x.b x.F
 base:∀ (i:Nat) (x:Sx),sc[i]?=some x→∀ k,x.F k→w.heap.size≤k
 sep:∀ (i j:Nat) (x y:Sx),sc[i]?=some x→sc[j]?=some y→i ≠ j→∀ k,x.F k→¬ y.F k
 told:∀ (j:Nat) (t:Tx),ts[j]?=some t→FrAt W t.v t.fs t.c
 off:∀ (j:Nat) (t:Tx),ts[j]?=some t→t.fs ≠ []→∀ (i:Nat) (x:Sx),sc[i]?=some x→¬ x.F t.c
section
variable {Scn:World→Value→List UInt8→Nat→(Nat→Prop)→Prop} {w W W':World} {sc:List Sx} {ts:List Tx}
theorem sq_nil (w:World):Sq Scn w w [] []:=⟨Below.refl _ _,nofun,nofun,nofun,nofun,nofun⟩
theorem Sq.later (C:FrameC Scn) (h:Sq Scn w W sc ts) (hb:Below W.heap.size W W'):Sq Scn w W' sc ts :=
 ⟨h.below.trans (hb.mono h.below.size),fun i x hx=>C.keep (h.scn i x hx) hb.size (fun k hk=>hb.block k (C.lt (h.scn i x hx) k hk)),h.base,h.sep,fun j t ht=>(h.told j t ht).keep hb.size (fun h0=>hb.block _ ((h.told j t ht).lt h0)),h.off⟩
theorem Sq.new (C:FrameC Scn) (h:Sq Scn w W sc ts) (hb:Below W.heap.size W W') {p:Value} {F:Nat→Prop} (hs:Scn W' p [] 0 F) (hF:∀ k,F k→W.heap.size≤k):Sq Scn w W' (⟨p,[],0,F⟩ :: sc) ts:=by
 have h1:=h.later C hb
 refine ⟨h1.below,?_,?_,?_,h1.told,?_⟩
 ·
  intro i x hx
  cases i with
  | zero=>cases hx; exact hs
  | succ i=>exact h1.scn i x hx
 ·
  intro i x hx k hk
  cases i with
  | zero=>cases hx; exact Nat.le_trans h.below.size (hF k hk)
  | succ i=>exact h1.base i x hx k hk
 ·
  intro i j x y hx hy hij k hk hk'
  cases i with
  | zero =>
   cases hx
   cases j with
   | zero=>exact hij rfl
   | succ j =>
    have:=C.lt (h.scn j y hy) k hk'
    have:=hF k hk
    omega
  | succ i =>
   cases j with
   | zero =>
    cases hy
    have:=C.lt (h.scn i x hx) k hk
    have:=hF k hk'
    omega
   | succ j=>exact h1.sep i j x y hx hy (by omega) k hk hk'
 ·
  intro j t ht h0 i x hx hk
  cases i with
  | zero =>
   cases hx
   have:=(h.told j t ht).lt h0
   have:=hF _ hk
   omega
  | succ i=>exact h1.off j t ht h0 i x hx hk
theorem Sq.feed (C:FrameC Scn) (h:Sq Scn w W sc ts) (i:Nat) {p:Value} {l l':List UInt8} {b b':Nat} {F F':Nat→Prop} (hi:sc[i]?=some ⟨p,l,b,F⟩) (hs:Scn W' p l' b' F') (hF:∀ k,F' k→F k∨W.heap.size≤k) (hc:Chg F W W') {v:Value} {fs:Fs} {c:Nat} (ht:FrAt W' v fs c) (hn:fs ≠ []→W.heap.size≤c∧¬ F' c):Sq Scn w W' (sc.set i ⟨p,l',b',F'⟩) (⟨v,fs,c⟩ :: ts):=by
 have hil:=(List.getElem?_eq_some_iff.1 hi).1
 have get:∀ j x,(sc.set i ⟨p,l',b',F'⟩)[j]?=some x→(j=i∧x=⟨p,l',b',F'⟩)∨(j ≠ i∧sc[j]?=some x):=by
  intro j x hx
  rw [List.getElem?_set] at hx
  by_cases e:i=j
  ·
   rw [if_pos e,if_pos hil] at hx
   cases hx
   exact .inl ⟨e.symm,rfl⟩
  ·
   rw [if_neg e] at hx
   exact .inr ⟨fun q=>e q.symm,hx⟩
 have keepF:∀ j x,j ≠ i→sc[j]?=some x→∀ k,x.F k→W'.heap[k]?=W.heap[k]?:=fun j x hj hx k hk =>
  hc.block k (C.lt (h.scn j x hx) k hk) (fun hk'=>h.sep i j _ x hi hx (fun q=>hj q.symm) k hk' hk)
 refine ⟨Chg.below h.below hc (h.base i _ hi),?_,?_,?_,?_,?_⟩
 ·
  intro j x hx
  rcases get j x hx with ⟨_,rfl⟩ | ⟨hj,hx2⟩
  ·
   exact hs
  ·
   exact C.keep (h.scn j x hx2) hc.size (keepF j x hj hx2)
 ·
  intro j x hx k hk
  rcases get j x hx with ⟨_,rfl⟩ | ⟨hj,hx2⟩
  ·
   rcases hF k hk with h1 | h1
   ·
    exact h.base i _ hi k h1
   ·
    exact Nat.le_trans h.below.size h1
  ·
   exact h.base j x hx2 k hk
 ·
  intro j m x y hx hy hjm k hk hk'
  rcases get j x hx with ⟨rfl,rfl⟩ | ⟨hj,hx2⟩
  ·
   rcases get m y hy with ⟨rfl,rfl⟩ | ⟨hm,hy2⟩
   ·
    exact hjm rfl
   ·
    rcases hF k hk with h1 | h1
    ·
     exact h.sep j m _ y hi hy2 hjm k h1 hk'
    ·
     have:=C.lt (h.scn m y hy2) k hk'; omega
  ·
   rcases get m y hy with ⟨rfl,rfl⟩ | ⟨hm,hy2⟩
   ·
    rcases hF k hk' with h1 | h1
    ·
     exact h.sep m j _ x hi hx2 (fun q=>hjm q.symm) k h1 hk
    ·
     have:=C.lt (h.scn j x hx2) k hk; omega
   ·
    exact h.sep j m x y hx2 hy2 hjm k hk hk'
 ·
  intro j t ht'
  cases j with
  | zero=>cases ht'; exact ht
  | succ j=>exact (h.told j t ht').keep hc.size (fun h0=>hc.block _ ((h.told j t ht').lt h0) (h.off j t ht' h0 i _ hi))
 ·
  intro j t ht' h0 m x hx hk
  cases j with
  | zero =>
   cases ht'
   rcases get m x hx with ⟨_,rfl⟩ | ⟨hm,hx2⟩
   ·
    exact (hn h0).2 hk
   ·
    exact absurd (C.lt (h.scn m x hx2) _ hk) (Nat.not_lt.2 (hn h0).1)
  | succ j =>
   rcases get m x hx with ⟨_,rfl⟩ | ⟨hm,hx2⟩
   ·
    rcases hF _ hk with h1 | h1
    ·
     exact h.off j t ht' h0 i _ hi h1
    ·
     have:=(h.told j t ht').lt h0; omega
   ·
    exact h.off j t ht' h0 m x hx2 hk
end
theorem run_bfk (x:Int) (W:World):(Instr.build 39 #[(0,.int .u8 x)]).run Try.prog W=.ok (.agg #[.int .u8 x,.string ⟨#[]⟩]) W:=by kernel_rfl
attribute [local go_sem ↓] run_bfk run_bf run_bsf
theorem frl_one (W:World) (k:UInt8) (p:ByteArray) (z:Int) (hz:z=(k.toNat:Nat)):FrL (W.alloc (.cells #[.int .u8 z,.string p] 39)) (.slice (some ⟨W.heap.size,0,none⟩) 1 1) [(k,p.data.toList)]:=by
 subst hz
 have hc:(W.alloc (.cells #[.int .u8 (k.toNat:Nat),.string p] 39)).heap[W.heap.size]?=some (.cells #[.int .u8 (k.toNat:Nat),.string p] 39 (0,0)):=heap_new W _
 refine .inr ⟨W.heap.size,0,1,rfl,(Array.getElem?_eq_some_iff.1 hc).1,fun i hi=>?_⟩
 obtain rfl:i=0:=by simp at hi; exact hi
 constructor
 ·
  unfold World.cell?
  simp only [hc]
  rfl
 ·
  unfold World.cell?
  simp only [hc]
  rfl
theorem feed_at {Scn} (C:FrameC Scn) {w W:World} {sc:List Sx} {ts:List Tx} (h:Sq Scn w W sc ts) (i:Nat) {p:Value} {l l':List UInt8} {b d:Nat} {F:Nat→Prop} {fs:Fs} (hi:sc[i]?=some ⟨p,l,b,F⟩) (s:ByteArray) (hs:l.length+s.size≤1000000) (hr:rn_ (l++s.data.toList)=(fs,d,l')) :
  Calls Try.prog 13 #[p,.string s] W fun e W'=>∃ v F' c,e=.returned v∧Sq Scn w W' (sc.set i ⟨p,l',b+d,F'⟩) (⟨v,fs,c⟩ :: ts):=by
 refine (C.feed s (h.scn i _ hi) hs).mono ?_
 rintro e W' ⟨v,F',c,rfl,hs',hF,hc,ht,hn⟩
 rw [hr] at hs' ht hn
 exact ⟨v,F',c,rfl,h.feed C i hi hs' hF hc ht hn⟩
theorem bad_at {Scn} (C:FrameC Scn) {w W:World} {sc:List Sx} {ts:List Tx} (h:Sq Scn w W sc ts) (i:Nat) {p:Value} {l:List UInt8} {b:Nat} {F:Nat→Prop} (hi:sc[i]?=some ⟨p,l,b,F⟩) (z:Int) (hz:z=(b:Nat)) (hb:b≤1000000000:=by omega):Calls Try.prog 15 #[p] W (PVal (.int .i64 z) W):=by
 rw [hz]; exact C.bad (h.scn i _ hi) hb
theorem wait_at {Scn} (C:FrameC Scn) {w W:World} {sc:List Sx} {ts:List Tx} (h:Sq Scn w W sc ts) (i:Nat) {p:Value} {l:List UInt8} {b:Nat} {F:Nat→Prop} (hi:sc[i]?=some ⟨p,l,b,F⟩) (z:Int) (hz:z=(l.length:Nat)):Calls Try.prog 16 #[p] W (PVal (.int .i64 z) W):=by
 rw [hz]; exact C.waiting (h.scn i _ hi)
theorem wrap_at {Scn} (C:FrameC Scn) (k:UInt8) (s t:ByteArray) (z:Int) (hz:z=(k.toNat:Nat)) (ht:wrapS k s=t) (W:World) (hs:s.size≤64):Calls Try.prog 10 #[.int .u8 z,.string s] W (PVal (.tuple #[.string t,.int .i64 0]) W):=by
 rw [hz,← ht]; exact C.wrap k s W hs
theorem same_at {v u:Value} {fs gs:Fs} {w:World} (b:Bool) (hb:sameB fs gs=b) (hf:FrL w v fs) (hg:FrL w u gs) (hn:fs.length≤1000000000) (hm:gs.length≤1000000000):Calls Try.prog 17 #[v,u] w (PVal (.bool b) w):=by
 rw [← hb]; exact same_any hf hg hn hm
theorem told_len {W:World} {v:Value} {c:Nat} (h:FrAt W v [] c):∃ a d,v=.slice a 0 d:=by
 rcases h with ⟨_,a,d,h,_⟩ | ⟨h,_⟩
 ·
  exact ⟨a,d,h⟩
 ·
  exact absurd rfl h
theorem heap_alloc_le (W:World) (o:Obj):W.heap.size≤(W.alloc o).heap.size:=(new_below W o).size
theorem wa:wrapS 7 ⟨#[97,98]⟩=⟨#[165,90,7,2,97,98,207,114]⟩:=by kernel_rfl
theorem wb:wrapS 1 ⟨#[]⟩=⟨#[165,90,1,0,46,62]⟩:=by kernel_rfl
theorem fra:rn_ ([]++(⟨#[165,90,7,2,97,98,207]⟩:ByteArray).data.toList)=([],0,[165,90,7,2,97,98,207]):=by kernel_rfl
theorem frb:rn_ ([165,90,7,2,97,98,207]++(⟨#[114]⟩:ByteArray).data.toList)=([(7,[97,98])],0,[]):=by kernel_rfl
theorem frc:rn_ ([]++(⟨#[120,165,165,90,1,0,46,62,121]⟩:ByteArray).data.toList)=([(1,[])],0,[]):=by kernel_rfl
theorem frd:rn_ ([]++(⟨#[165,90,1,65]⟩:ByteArray).data.toList)=([],1,[]):=by kernel_rfl
set_option maxRecDepth 100000 in
set_option maxHeartbeats 6400000 in
theorem fawake_any {Scn} (C:FrameC Scn) (w:World):Calls Try.prog 9 #[] w (PVal (.bool true) w):=by
 have hQ0:=sq_nil (Scn:=Scn) w
 go_enter Try.func9,Try.ntmps9
 go_wp2_with fail
 refine (wrap_at C 7 ⟨#[97,98]⟩ _ 7 rfl wa _ (by decide)).mono ?_
 rintro e1 W1 ⟨rfl,hB1⟩
 have hQ1:=hQ0.later C hB1
 clear hQ0 hB1
 go_wp2_with fail
 refine (C.new _).mono ?_
 rintro e2 W2 ⟨p2,F2,rfl,hs2,hF2,hB2⟩
 have hQ2:=hQ1.new C hB2 hs2 hF2
 clear hQ1
 obtain ⟨a2,rfl⟩:=C.ptr hs2
 clear hs2 hF2 hB2
 go_wp2_with fail
 refine (C.new _).mono ?_
 rintro e3 W3 ⟨p3,F3,rfl,hs3,hF3,hB3⟩
 have hQ3:=hQ2.new C hB3 hs3 hF3
 clear hQ2
 obtain ⟨a3,rfl⟩:=C.ptr hs3
 clear hs3 hF3 hB3
 go_wp2_with fail
 refine (C.new _).mono ?_
 rintro e4 W4 ⟨p4,F4,rfl,hs4,hF4,hB4⟩
 have hQ4:=hQ3.new C hB4 hs4 hF4
 clear hQ3
 obtain ⟨a4,rfl⟩:=C.ptr hs4
 clear hs4 hF4 hB4
 have hx7:(⟨#[165,90,7,2,97,98,207,114]⟩:ByteArray).extract 0 7=⟨#[165,90,7,2,97,98,207]⟩:=by kernel_rfl
 have hx8:(⟨#[165,90,7,2,97,98,207,114]⟩:ByteArray).extract 7 8=⟨#[114]⟩:=by kernel_rfl
 go_wp2_with fail
 refine (feed_at C hQ4 2 rfl _ (by decide) (fra)).mono ?_
 rintro e5 W5 ⟨v5,F5,c5,rfl,hQ5z⟩
 have hQ5:=hQ5z
 clear hQ4 hQ5z
 go_wp2_with fail
 refine (wait_at C hQ5 2 rfl 7 rfl).mono ?_
 rintro e6 W6 ⟨rfl,hB6⟩
 have hQ6:=hQ5.later C hB6
 clear hQ5 hB6
 go_wp2_with fail
 refine (feed_at C hQ6 2 rfl _ (by decide) (frb)).mono ?_
 rintro e7 W7 ⟨v7,F7,c7,rfl,hQ7z⟩
 have hQ7:=hQ7z
 clear hQ6 hQ7z
 go_wp2_with fail
 refine (wrap_at C 1 ⟨#[]⟩ _ 1 rfl wb _ (by decide)).mono ?_
 rintro e8 W8 ⟨rfl,hB8⟩
 have hQ8:=hQ7.later C hB8
 clear hQ7 hB8
 have hxc:((⟨#[120,165]⟩:ByteArray)++⟨#[165,90,1,0,46,62]⟩)++⟨#[121]⟩=⟨#[120,165,165,90,1,0,46,62,121]⟩:=by kernel_rfl
 go_wp2_with fail
 refine (feed_at C hQ8 1 rfl _ (by decide) (frc)).mono ?_
 rintro e9 W9 ⟨v9,F9,c9,rfl,hQ9z⟩
 have hQ9:=hQ9z
 clear hQ8 hQ9z
 go_wp2_with fail
 refine (feed_at C hQ9 0 rfl _ (by decide) (frd)).mono ?_
 rintro e10 W10 ⟨v10,F10,c10,rfl,hQ10z⟩
 have hQ10:=hQ10z
 clear hQ9 hQ10z
 go_wp2_with fail
 refine (bad_at C hQ10 0 rfl 1 rfl).mono ?_
 rintro e11 W11 ⟨rfl,hB11⟩
 have hQ11:=hQ10.later C hB11
 clear hQ10 hB11
 go_wp2_with fail
 refine (wait_at C hQ11 0 rfl 0 rfl).mono ?_
 rintro e12 W12 ⟨rfl,hB12⟩
 have hQ12:=hQ11.later C hB12
 clear hQ11 hB12
 have ht3:=told_len (hQ12.told 3 _ rfl)
 have ht0:=told_len (hQ12.told 0 _ rfl)
 have ht2:=(hQ12.told 2 _ rfl).frl
 have ht1:=(hQ12.told 1 _ rfl).frl
 have hbe:=hQ12.below
 replace ht2:=Lib.hid ht2
 replace ht1:=Lib.hid ht1
 clear hQ12
 obtain ⟨a3,d3,e3⟩:=ht3
 obtain ⟨a0,d0,e0⟩:=ht0
 simp only at e3 e0
 subst e3
 subst e0
 replace hbe:=Lib.hid hbe
 go_wp2_with fail
 refine (same_at true (by kernel_rfl) (ht2.out.below ((Below.refl _ _).alloc (Nat.le_refl _) _)) (frl_one _ 7 ⟨#[97,98]⟩ 7 rfl) (zzF rfl) (zzF rfl)).mono ?_
 rintro e W13 ⟨rfl,hB⟩
 have h13:=((Below.refl W12.heap.size W12).alloc (Nat.le_refl _) _).trans (hB.mono (heap_alloc_le _ _))
 clear hB
 replace ht1:=Lib.hid (ht1.out.below h13)
 replace hbe:=Lib.hid (hbe.out.trans (h13.mono hbe.out.size))
 clear h13 ht2
 go_wp2_with fail
 refine (same_at true (by kernel_rfl) (ht1.out.below ((Below.refl _ _).alloc (Nat.le_refl _) _)) (frl_one _ 1 ⟨#[]⟩ 1 rfl) (zzF rfl) (zzF rfl)).mono ?_
 rintro e W14 ⟨rfl,hB⟩
 have h14:=((Below.refl W13.heap.size W13).alloc (Nat.le_refl _) _).trans (hB.mono (heap_alloc_le _ _))
 clear hB
 replace hbe:=Lib.hid (hbe.out.trans (h14.mono hbe.out.size))
 clear h14 ht1
 go_wp2
 go_ret
 exact ⟨rfl,hbe.out⟩
theorem cell_pt {W:World} {b:Nat} {C:Array Value} {T:TypeId} (h:W.heap[b]?=some (.cells C T (0,0))) (i:Nat) {v:Value} (hv:C[i]?=some v):W.cell? ⟨b,i,none⟩=some v:=by
 unfold World.cell?
 simp only [h]
 exact hv
theorem wrap_list (k:UInt8) (s:ByteArray):(wrapS k s).data.toList=165 :: 90 :: k :: UInt8.ofNat s.size :: (s.data.toList++X.twoB (X.csB 65535 (headB k s).data.toList)):=by
 unfold wrapS sealS X.sealB
 rw [ByteArray.data_append,Array.toList_append]
 show [165,90]++((headB k s).data.toList++_)=_
 have e:(headB k s).data.toList=k :: UInt8.ofNat s.size :: s.data.toList:=by
  unfold headB
  rw [ByteArray.data_append,Array.toList_append]
  rfl
 rw [e]
 rfl
theorem wrap_inj {k k':UInt8} {s s':ByteArray} (h:wrapS k s=wrapS k' s'):k=k'∧s=s':=by
 have hs:s.size=s'.size:=by
  have:=wrap_size k s
  rw [h,wrap_size] at this
  omega
 have hl:(wrapS k s).data.toList=(wrapS k' s').data.toList:=by rw [h]
 rw [wrap_list,wrap_list] at hl
 injection hl with _ h1
 injection h1 with _ h2
 injection h2 with h3 h4
 injection h4 with _ h5
 have h6:=List.append_inj_left h5 (by simpa using hs)
 exact ⟨h3,by
  have:s.data=s'.data:=Array.toList_inj.1 h6
  cases s; cases s'; simp_all⟩
set_option maxRecDepth 100000 in
set_option maxHeartbeats 1600000 in
theorem FrameWraps_w (k e:Int) (s t:ByteArray) (w:World)
  (hA:∀ W:World,Calls Try.prog 9 #[] W (PVal (.bool true) W))
  (hB:∀ W:World,Calls Try.prog 10 #[.int .u8 k,.string s] W (PVal (.tuple #[.string t,.int .i64 e]) W))
  (hC:∀ W:World,Calls Try.prog 11 #[.int .u8 k,.string s] W (PVal (.tuple #[.string t,.int .i64 e]) W)) :
  Calls Try.prog 3 #[.int .u8 k,.string s] w (PVal (.bool true) w):=by
 have A:=Lib.hid hA
 have B:=Lib.hid hB
 have C:=Lib.hid hC
 clear hA hB hC
 have hB:=Below.refl w.heap.size w
 go_enter Try.func3,Try.ntmps3
 go_wp2_with fail
 refine (A.out _).mono ?_
 rintro e0 Z0 ⟨rfl,hC⟩
 replace hB:=hB.trans (hC.mono hB.size)
 clear hC
 go_wp2_with fail
 refine (B.out _).mono ?_
 rintro e1 Z1 ⟨rfl,hC⟩
 replace hB:=hB.trans (hC.mono hB.size)
 clear hC
 go_wp2_with fail
 refine (C.out _).mono ?_
 rintro e2 Z2 ⟨rfl,hC⟩
 replace hB:=hB.trans (hC.mono hB.size)
 clear hC
 go_wp2
 go_ret
 exact ⟨rfl,hB⟩
theorem FrameWraps_any {Scn} (P:FrameC Scn) (k:UInt8) (s:ByteArray) (w:World) (hs:s.size≤140737488355328):Calls Try.prog 3 #[.int .u8 (k.toNat:Nat),.string s] w (PVal (.bool true) w):=by
 by_cases h:s.size≤64
 ·
  exact FrameWraps_w _ _ s _ w (fawake_any P) (fun W=>P.wrap k s W h) (fun W=>rwrap_any k s W h)
 ·
  exact FrameWraps_w _ _ s _ w (fawake_any P) (fun W=>P.wrapLong k s W (by omega) hs) (fun W=>rwrap_long _ s W (by omega) (by omega))
set_option maxRecDepth 100000 in
set_option maxHeartbeats 3200000 in
theorem FrameUnlike_e (a b f:Int) (p q s t:ByteArray) (w:World) 
  (hA:∀ W:World,Calls Try.prog 9 #[] W (PVal (.bool true) W))
  (hB:∀ W:World,Calls Try.prog 10 #[.int .u8 a,.string p] W (PVal (.tuple #[.string s,.int .i64 2]) W))
  (hC:∀ W:World,Calls Try.prog 10 #[.int .u8 b,.string q] W (PVal (.tuple #[.string t,.int .i64 f]) W)) :
  Calls Try.prog 8 #[.agg #[.int .u8 a,.string p],.agg #[.int .u8 b,.string q]] w (PVal (.bool true) w):=by
 have A:=Lib.hid hA
 have B:=Lib.hid hB
 have C:=Lib.hid hC
 clear hA hB hC
 have hB:=Below.refl w.heap.size w
 go_enter Try.func8,Try.ntmps8
 have q1:((w.alloc (.cells #[.int .u8 a,.string p] 39)).alloc (.cells #[.int .u8 b,.string q] 39)).heap[w.heap.size]?=some (.cells #[.int .u8 a,.string p] 39 (0,0)):=by
  rw [((Below.refl _ _).alloc (Nat.le_refl _) _:Below (w.alloc (.cells #[.int .u8 a,.string p] 39)).heap.size (w.alloc (.cells #[.int .u8 a,.string p] 39)) _).block _ (by simp)]
  exact heap_new w _
 have q2:((w.alloc (.cells #[.int .u8 a,.string p] 39)).alloc (.cells #[.int .u8 b,.string q] 39)).heap[w.heap.size+1]?=some (.cells #[.int .u8 b,.string q] 39 (0,0)):=by
  have:=heap_new (w.alloc (.cells #[.int .u8 a,.string p] 39)) (.cells #[.int .u8 b,.string q] 39)
  simpa using this
 have hB0:Below w.heap.size w ((w.alloc (.cells #[.int .u8 a,.string p] 39)).alloc (.cells #[.int .u8 b,.string q] 39)):=(hB.alloc (Nat.le_refl _) _).alloc (by simp) _
 clear hB
 replace hB:=hB0
 clear hB0
 have l2:=(Array.getElem?_eq_some_iff.1 q2).1
 have l1:=(Array.getElem?_eq_some_iff.1 q1).1
 go_wp2_with fail
 refine (A.out _).mono ?_
 rintro e0 Z0 ⟨rfl,hC⟩
 replace hB:=hB.trans (hC.mono hB.size)
 replace q1:=(hC.block _ l1).trans q1
 replace q2:=(hC.block _ l2).trans q2
 replace l1:=Nat.lt_of_lt_of_le l1 hC.size
 replace l2:=Nat.lt_of_lt_of_le l2 hC.size
 clear hC
 obtain ⟨b1,e1⟩:∃ b1,w.heap.size+1=b1:=⟨_,rfl⟩
 rw [e1] at q2 l2 ⊢
 replace e1:=Lib.hid e1
 have c1:=cell_pt q1 0 (v:=.int .u8 a) rfl
 have c2:=cell_pt q1 1 (v:=.string p) rfl
 have c3:=cell_pt q2 0 (v:=.int .u8 b) rfl
 have c4:=cell_pt q2 1 (v:=.string q) rfl
 go_wp2_with fail
 refine (B.out _).mono ?_
 rintro e0 Z1 ⟨rfl,hC⟩
 replace hB:=hB.trans (hC.mono hB.size)
 replace q1:=(hC.block _ l1).trans q1
 replace q2:=(hC.block _ l2).trans q2
 replace l1:=Nat.lt_of_lt_of_le l1 hC.size
 replace l2:=Nat.lt_of_lt_of_le l2 hC.size
 clear hC c1 c2 c3 c4
 have c1:=cell_pt q1 0 (v:=.int .u8 a) rfl
 have c2:=cell_pt q1 1 (v:=.string p) rfl
 have c3:=cell_pt q2 0 (v:=.int .u8 b) rfl
 have c4:=cell_pt q2 1 (v:=.string q) rfl
 go_wp2_with fail
 refine (C.out _).mono ?_
 rintro e0 Z2 ⟨rfl,hC⟩
 replace hB:=hB.trans (hC.mono hB.size)
 replace q1:=(hC.block _ l1).trans q1
 replace q2:=(hC.block _ l2).trans q2
 replace l1:=Nat.lt_of_lt_of_le l1 hC.size
 replace l2:=Nat.lt_of_lt_of_le l2 hC.size
 clear hC c1 c2 c3 c4
 have c1:=cell_pt q1 0 (v:=.int .u8 a) rfl
 have c2:=cell_pt q1 1 (v:=.string p) rfl
 have c3:=cell_pt q2 0 (v:=.int .u8 b) rfl
 have c4:=cell_pt q2 1 (v:=.string q) rfl
 go_wp2
 go_ret
 exact ⟨rfl,hB⟩
set_option maxRecDepth 100000 in
set_option maxHeartbeats 3200000 in
theorem FrameUnlike_f (a b:Int) (p q s t:ByteArray) (w:World) 
  (hA:∀ W:World,Calls Try.prog 9 #[] W (PVal (.bool true) W))
  (hB:∀ W:World,Calls Try.prog 10 #[.int .u8 a,.string p] W (PVal (.tuple #[.string s,.int .i64 0]) W))
  (hC:∀ W:World,Calls Try.prog 10 #[.int .u8 b,.string q] W (PVal (.tuple #[.string t,.int .i64 2]) W)) :
  Calls Try.prog 8 #[.agg #[.int .u8 a,.string p],.agg #[.int .u8 b,.string q]] w (PVal (.bool true) w):=by
 have A:=Lib.hid hA
 have B:=Lib.hid hB
 have C:=Lib.hid hC
 clear hA hB hC
 have hB:=Below.refl w.heap.size w
 go_enter Try.func8,Try.ntmps8
 have q1:((w.alloc (.cells #[.int .u8 a,.string p] 39)).alloc (.cells #[.int .u8 b,.string q] 39)).heap[w.heap.size]?=some (.cells #[.int .u8 a,.string p] 39 (0,0)):=by
  rw [((Below.refl _ _).alloc (Nat.le_refl _) _:Below (w.alloc (.cells #[.int .u8 a,.string p] 39)).heap.size (w.alloc (.cells #[.int .u8 a,.string p] 39)) _).block _ (by simp)]
  exact heap_new w _
 have q2:((w.alloc (.cells #[.int .u8 a,.string p] 39)).alloc (.cells #[.int .u8 b,.string q] 39)).heap[w.heap.size+1]?=some (.cells #[.int .u8 b,.string q] 39 (0,0)):=by
  have:=heap_new (w.alloc (.cells #[.int .u8 a,.string p] 39)) (.cells #[.int .u8 b,.string q] 39)
  simpa using this
 have hB0:Below w.heap.size w ((w.alloc (.cells #[.int .u8 a,.string p] 39)).alloc (.cells #[.int .u8 b,.string q] 39)):=(hB.alloc (Nat.le_refl _) _).alloc (by simp) _
 clear hB
 replace hB:=hB0
 clear hB0
 have l2:=(Array.getElem?_eq_some_iff.1 q2).1
 have l1:=(Array.getElem?_eq_some_iff.1 q1).1
 go_wp2_with fail
 refine (A.out _).mono ?_
 rintro e0 Z0 ⟨rfl,hC⟩
 replace hB:=hB.trans (hC.mono hB.size)
 replace q1:=(hC.block _ l1).trans q1
 replace q2:=(hC.block _ l2).trans q2
 replace l1:=Nat.lt_of_lt_of_le l1 hC.size
 replace l2:=Nat.lt_of_lt_of_le l2 hC.size
 clear hC
 obtain ⟨b1,e1⟩:∃ b1,w.heap.size+1=b1:=⟨_,rfl⟩
 rw [e1] at q2 l2 ⊢
 replace e1:=Lib.hid e1
 have c1:=cell_pt q1 0 (v:=.int .u8 a) rfl
 have c2:=cell_pt q1 1 (v:=.string p) rfl
 have c3:=cell_pt q2 0 (v:=.int .u8 b) rfl
 have c4:=cell_pt q2 1 (v:=.string q) rfl
 go_wp2_with fail
 refine (B.out _).mono ?_
 rintro e0 Z1 ⟨rfl,hC⟩
 replace hB:=hB.trans (hC.mono hB.size)
 replace q1:=(hC.block _ l1).trans q1
 replace q2:=(hC.block _ l2).trans q2
 replace l1:=Nat.lt_of_lt_of_le l1 hC.size
 replace l2:=Nat.lt_of_lt_of_le l2 hC.size
 clear hC c1 c2 c3 c4
 have c1:=cell_pt q1 0 (v:=.int .u8 a) rfl
 have c2:=cell_pt q1 1 (v:=.string p) rfl
 have c3:=cell_pt q2 0 (v:=.int .u8 b) rfl
 have c4:=cell_pt q2 1 (v:=.string q) rfl
 go_wp2_with fail
 refine (C.out _).mono ?_
 rintro e0 Z2 ⟨rfl,hC⟩
 replace hB:=hB.trans (hC.mono hB.size)
 replace q1:=(hC.block _ l1).trans q1
 replace q2:=(hC.block _ l2).trans q2
 replace l1:=Nat.lt_of_lt_of_le l1 hC.size
 replace l2:=Nat.lt_of_lt_of_le l2 hC.size
 clear hC c1 c2 c3 c4
 have c1:=cell_pt q1 0 (v:=.int .u8 a) rfl
 have c2:=cell_pt q1 1 (v:=.string p) rfl
 have c3:=cell_pt q2 0 (v:=.int .u8 b) rfl
 have c4:=cell_pt q2 1 (v:=.string q) rfl
 go_wp2
 go_ret
 exact ⟨rfl,hB⟩
theorem run_eqlF2 (a a':Int) (p p':ByteArray) (w:World):(binOp .eql 39 (.agg #[.int .u8 a,.string p]) (.agg #[.int .u8 a',.string p'])).run Try.prog w=.ok (.bool (a == a' && p.toList == p'.toList)) w:=by
 rw [run_eql_struct,run_eqFr]
 rfl
attribute [local go_sem ↓] run_eqlF2
set_option maxRecDepth 100000 in
set_option maxHeartbeats 3200000 in
theorem FrameUnlike_n (a b:Int) (p q s t:ByteArray) (w:World) (hs:s.size=p.size+6) (hp:p.size≤64) (h:(s.toList == t.toList)=(a == b && p.toList == q.toList))
  (hA:∀ W:World,Calls Try.prog 9 #[] W (PVal (.bool true) W))
  (hB:∀ W:World,Calls Try.prog 10 #[.int .u8 a,.string p] W (PVal (.tuple #[.string s,.int .i64 0]) W))
  (hC:∀ W:World,Calls Try.prog 10 #[.int .u8 b,.string q] W (PVal (.tuple #[.string t,.int .i64 0]) W)) :
  Calls Try.prog 8 #[.agg #[.int .u8 a,.string p],.agg #[.int .u8 b,.string q]] w (PVal (.bool true) w):=by
 have A:=Lib.hid hA
 have B:=Lib.hid hB
 have C:=Lib.hid hC
 clear hA hB hC
 have hB:=Below.refl w.heap.size w
 go_enter Try.func8,Try.ntmps8
 have q1:((w.alloc (.cells #[.int .u8 a,.string p] 39)).alloc (.cells #[.int .u8 b,.string q] 39)).heap[w.heap.size]?=some (.cells #[.int .u8 a,.string p] 39 (0,0)):=by
  rw [((Below.refl _ _).alloc (Nat.le_refl _) _:Below (w.alloc (.cells #[.int .u8 a,.string p] 39)).heap.size (w.alloc (.cells #[.int .u8 a,.string p] 39)) _).block _ (by simp)]
  exact heap_new w _
 have q2:((w.alloc (.cells #[.int .u8 a,.string p] 39)).alloc (.cells #[.int .u8 b,.string q] 39)).heap[w.heap.size+1]?=some (.cells #[.int .u8 b,.string q] 39 (0,0)):=by
  have:=heap_new (w.alloc (.cells #[.int .u8 a,.string p] 39)) (.cells #[.int .u8 b,.string q] 39)
  simpa using this
 have hB0:Below w.heap.size w ((w.alloc (.cells #[.int .u8 a,.string p] 39)).alloc (.cells #[.int .u8 b,.string q] 39)):=(hB.alloc (Nat.le_refl _) _).alloc (by simp) _
 clear hB
 replace hB:=hB0
 clear hB0
 have l2:=(Array.getElem?_eq_some_iff.1 q2).1
 have l1:=(Array.getElem?_eq_some_iff.1 q1).1
 go_wp2_with fail
 refine (A.out _).mono ?_
 rintro e0 Z0 ⟨rfl,hC⟩
 replace hB:=hB.trans (hC.mono hB.size)
 replace q1:=(hC.block _ l1).trans q1
 replace q2:=(hC.block _ l2).trans q2
 replace l1:=Nat.lt_of_lt_of_le l1 hC.size
 replace l2:=Nat.lt_of_lt_of_le l2 hC.size
 clear hC
 obtain ⟨b1,e1⟩:∃ b1,w.heap.size+1=b1:=⟨_,rfl⟩
 rw [e1] at q2 l2 ⊢
 replace e1:=Lib.hid e1
 have c1:=cell_pt q1 0 (v:=.int .u8 a) rfl
 have c2:=cell_pt q1 1 (v:=.string p) rfl
 have c3:=cell_pt q2 0 (v:=.int .u8 b) rfl
 have c4:=cell_pt q2 1 (v:=.string q) rfl
 go_wp2_with fail
 refine (B.out _).mono ?_
 rintro e0 Z1 ⟨rfl,hC⟩
 replace hB:=hB.trans (hC.mono hB.size)
 replace q1:=(hC.block _ l1).trans q1
 replace q2:=(hC.block _ l2).trans q2
 replace l1:=Nat.lt_of_lt_of_le l1 hC.size
 replace l2:=Nat.lt_of_lt_of_le l2 hC.size
 clear hC c1 c2 c3 c4
 have c1:=cell_pt q1 0 (v:=.int .u8 a) rfl
 have c2:=cell_pt q1 1 (v:=.string p) rfl
 have c3:=cell_pt q2 0 (v:=.int .u8 b) rfl
 have c4:=cell_pt q2 1 (v:=.string q) rfl
 go_wp2_with fail
 refine (C.out _).mono ?_
 rintro e0 Z2 ⟨rfl,hC⟩
 replace hB:=hB.trans (hC.mono hB.size)
 replace q1:=(hC.block _ l1).trans q1
 replace q2:=(hC.block _ l2).trans q2
 replace l1:=Nat.lt_of_lt_of_le l1 hC.size
 replace l2:=Nat.lt_of_lt_of_le l2 hC.size
 clear hC c1 c2 c3 c4
 have c1:=cell_pt q1 0 (v:=.int .u8 a) rfl
 have c2:=cell_pt q1 1 (v:=.string p) rfl
 have c3:=cell_pt q2 0 (v:=.int .u8 b) rfl
 have c4:=cell_pt q2 1 (v:=.string q) rfl
 go_wp2
 go_ret
 exact ⟨rfl,hB⟩
theorem wrap_same (a b:UInt8) (p q:ByteArray):((wrapS a p).toList == (wrapS b q).toList)=(((a.toNat:Nat):Int) == ((b.toNat:Nat):Int) && p.toList == q.toList):=by
 rw [Lib.toList_data,Lib.toList_data,Lib.toList_data,Lib.toList_data]
 rw [Bool.eq_iff_iff,Bool.and_eq_true,beq_iff_eq,beq_iff_eq,beq_iff_eq]
 constructor
 ·
  intro h
  have e:wrapS a p=wrapS b q:=by
   have:(wrapS a p).data=(wrapS b q).data:=Array.toList_inj.1 h
   exact ByteArray.ext this
  obtain ⟨rfl,rfl⟩:=wrap_inj e
  exact ⟨rfl,rfl⟩
 ·
  rintro ⟨h1,h2⟩
  have h3:a=b:=UInt8.toNat_inj.1 (by exact_mod_cast h1)
  have h4:p=q:=ByteArray.ext (Array.toList_inj.1 h2)
  rw [h3,h4]
theorem FrameUnlike_any {Scn} (P:FrameC Scn) (a b:UInt8) (p q:ByteArray) (w:World) (hp:p.size≤140737488355328) (hq:q.size≤140737488355328):Calls Try.prog 8 #[.agg #[.int .u8 (a.toNat:Nat),.string p],.agg #[.int .u8 (b.toNat:Nat),.string q]] w (PVal (.bool true) w):=by
 by_cases h:p.size≤64
 ·
  by_cases k:q.size≤64
  ·
   exact FrameUnlike_n _ _ p q _ _ w (wrap_size a p) h (wrap_same a b p q) (fawake_any P) (fun W=>P.wrap a p W h) (fun W=>P.wrap b q W k)
  ·
   exact FrameUnlike_f _ _ p q _ _ w (fawake_any P) (fun W=>P.wrap a p W h) (fun W=>P.wrapLong b q W (by omega) hq)
 ·
  by_cases k:q.size≤64
  ·
   exact FrameUnlike_e _ _ _ p q _ _ w (fawake_any P) (fun W=>P.wrapLong a p W (by omega) hp) (fun W=>P.wrap b q W k)
  ·
   exact FrameUnlike_e _ _ _ p q _ _ w (fawake_any P) (fun W=>P.wrapLong a p W (by omega) hp) (fun W=>P.wrapLong b q W (by omega) hq)
theorem ub42:Try.prog.underlying 42=some (.slice 5):=by kernel_rfl
theorem ub5:Try.prog.underlying 5=some (.int .u8):=by kernel_rfl
theorem ub9:Try.prog.underlying 9=some .string:=by kernel_rfl
/-- Block g holds bytes that may be written: the j-th one is f j. -/
def Byt (w:World) (g n:Nat) (f:Nat→Nat):Prop:=∃ (C:Array Value) (m:Nat),w.heap[g]?=some (.cells C 5 (m,m+1))∧n≤C.size∧C.size≤m∧∀ j,j < n→C[j]?=some (.int .u8 (f j:Nat))
section
variable {w w':World} {g n:Nat} {f:Nat→Nat}
theorem Byt.cell (h:Byt w g n f) {i:Nat} (hi:i < n):w.cell? ⟨g,i,none⟩=some (.int .u8 (f i:Nat)):=by
 obtain ⟨C,m,h1,_,_,h4⟩:=h
 unfold World.cell?
 simp only [h1]
 exact h4 i hi
theorem Byt.free (h:Byt w g n f) {i:Nat} (hi:i < n):w.frozen? ⟨g,i,none⟩=false:=by
 obtain ⟨C,m,h1,h2,h3,_⟩:=h
 simp [World.frozen?,h1]
 omega
theorem Byt.below (h:Byt w g n f) (hb:Below w.heap.size w w'):Byt w' g n f:=by
 obtain ⟨C,m,h1,h2⟩:=h
 exact ⟨C,m,by rw [hb.block g (Array.getElem?_eq_some_iff.1 h1).1]; exact h1,h2⟩
theorem Byt.put (h:Byt w g n f) {i:Nat} {x:Int} {F:Nat→Nat} (hi:i < n) (hx:x=(F i:Nat)) (hf:∀ j,j < n→j ≠ i→f j=F j):Byt (w.setCell ⟨g,i,none⟩ (.int .u8 x)) g n F:=by
 subst hx
 obtain ⟨C,m,h1,h2,h3,h4⟩:=h
 refine ⟨C.setIfInBounds i (.int .u8 (F i:Nat)),m,?_,by simpa using h2,by simpa using h3,fun j hj=>?_⟩
 ·
  simp [World.setCell,Array.getElem?_modify,h1]
 ·
  by_cases e:i=j
  ·
   subst e
   rw [Array.getElem?_setIfInBounds_self_of_lt (by omega)]
  ·
   rw [Array.getElem?_setIfInBounds_ne e,h4 j hj,hf j hj (fun q=>e q.symm)]
theorem Byt.lt (h:Byt w g n f):g < w.heap.size:=by
 obtain ⟨C,m,h1,_⟩:=h
 exact (Array.getElem?_eq_some_iff.1 h1).1
end
/-- The i-th byte of a text, 0 behind the end. -/
def byA (s:ByteArray) (i:Nat):Nat:=if h:i < s.size then s[i].toNat else 0
theorem byA_eq {s:ByteArray} {i:Nat} (h:i < s.size):byA s i=s[i].toNat:=by unfold byA; rw [dif_pos h]
theorem byA_lt (s:ByteArray) (i:Nat):byA s i < 256:=by
 unfold byA
 split
 ·
  exact s[i].toNat_lt
 ·
  omega
theorem byF_get {f:Nat→Nat} {n j:Nat} (hj:j < (X.byF f n).length) (h:f j < 256):(X.byF f n)[j].toNat=f j:=by
 unfold X.byF at hj ⊢
 rw [List.getElem_map,List.getElem_range]
 simp
 omega
theorem byF_byA (s:ByteArray):X.byF (byA s) s.size=s.data.toList:=by
 unfold X.byF
 refine List.ext_getElem (by simp) fun i h1 h2=>?_
 have hi:i < s.size:=by simpa using h1
 rw [List.getElem_map,List.getElem_range,byA_eq hi]
 simp
 rfl
section
variable {P:Program} {Q:Exit→Act→World→Prop} {a:Act} {W:World} {o:Oper} {next:Act→World→Prop} {s:ByteArray}
theorem wp_cvb (x:Operand) (ho:o.op=.convert 9 42 x) (hx:a.eval x=.string s)
  (k:∀ (g c:Nat) (W':World),W.heap.size≤g→s.size≤c→Byt W' g s.size (byA s)→Below W.heap.size W W'→next (a.put o.dst (.slice (some ⟨g,0,none⟩) s.size c)) W'):o.wp Try.prog a W next Q:=by
 have e:(execOp a.eval o).run Try.prog W=.ok (.value (.slice (some ⟨W.heap.size,0,none⟩) s.size (grownCap W s.size 0 5))) (W.drew.alloc (.cells (bytesRow s (grownCap W s.size 0 5)) 5 ((bytesRow s (grownCap W s.size 0 5)).size,(bytesRow s (grownCap W s.size 0 5)).size+1))):=by
  unfold execOp
  rw [ho]
  simp only [hx,Sem.run_bind,run_bytes_of_string W 9 42 5 s ub9 ub42 ub5,Result.andThen]
  rfl
 unfold Oper.wp
 rw [e]
 have hsz:s.size≤(bytesRow s (grownCap W s.size 0 5)).size:=by
  unfold bytesRow
  rw [Array.size_append,Array.size_map]
  exact Nat.le_add_right _ _
 refine k _ _ _ (Nat.le_refl _) (grownCap_ge ..) ⟨_,_,heap_new _ _,hsz,Nat.le_refl _,fun j hj=>?_⟩ ((Below.refl _ _).drew.alloc (Nat.le_refl _) _)
 unfold bytesRow
 rw [Array.getElem?_append_left (by simpa using hj),Array.getElem?_map,Array.getElem?_eq_getElem (by simpa using hj),byA_eq hj]
 rfl
theorem wp_cvs {g n c:Nat} {f:Nat→Nat} (x:Operand) (ho:o.op=.convert 42 9 x) (hx:a.eval x=.slice (some ⟨g,0,none⟩) n c) (hb:Byt W g n f) (hf:∀ j,j < n→f j < 256)
  (k:next (a.put o.dst (.string ⟨(X.byF f n).toArray⟩)) W):o.wp Try.prog a W next Q:=by
 refine wp_run ?_ k
 have hr:=run_convert_bytes_back (P:=Try.prog) W 42 9 5 ⟨g,0,none⟩ c (X.byF f n) ub42 ub5 ub9 (fun j hj=>by
  have hj':j < n:=by rw [X.byF_len] at hj; exact hj
  rw [show (⟨g,0,none⟩:Addr).add j=⟨g,j,none⟩ by unfold Addr.add; split <;> simp_all,hb.cell hj']
  rw [byF_get hj (hf j hj')])
 rw [X.byF_len] at hr
 unfold execOp
 rw [ho]
 simp only [hx,Sem.run_bind,hr,Result.andThen]
 rfl
end
end Go.Proofs.Ytadbijfjfoeojaa
