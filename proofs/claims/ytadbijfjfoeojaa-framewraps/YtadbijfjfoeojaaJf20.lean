/- Parts of the proof. -/
import Derived.Test.YtadbijfjfoeojaaJf19
import Derived.Test.YtadbijfjfoeojaaJf18
set_option linter.unusedSimpArgs false
set_option linter.unusedVariables false
/- Scans in memory, and beside them a slice of one's own to which what they tell is appended. No statement of the seat is proved here. -/
namespace Go.Proofs.Ytadbijfjfoeojaa
open Go Go.RowKit
theorem owns_same {w w':World} {base:Nat} {e:TypeId} {size:Nat} {v:Value} {n:Nat} {xs:List Value} (h:w.ownsRow base e size v n xs) (hb:∀ g,v.ownBlock=some g→w'.heap[g]?=w.heap[g]?):w'.ownsRow base e size v n xs:=by
 obtain ⟨h1,h2⟩:=h
 refine ⟨h1,?_⟩
 rcases h2 with h2 | ⟨g,cap,cur,rfl,hbase,hg,h3⟩
 ·
  exact .inl h2
 ·
  exact .inr ⟨g,cap,cur,rfl,hbase,by rw [hb g rfl]; exact hg,h3⟩
theorem fcells_app (f g:List (UInt8 × List UInt8)):fcells (f++g)=fcells f++fcells g:=by
 unfold fcells
 rw [List.flatMap_append]
theorem fcells_one (f:List (UInt8 × List UInt8)):∀ u ∈ fcells f,u.oneCell'=true:=by
 intro u hu
 unfold fcells at hu
 obtain ⟨x,_,hx⟩:=List.mem_flatMap.1 hu
 simp only [fcell,List.mem_cons,List.mem_nil_iff,or_false] at hx
 rcases hx with rfl | rfl <;> rfl
theorem fcells_at {W:World} {c o:Nat} {fs:List (UInt8 × List UInt8)} (h:∀ i (h:i < fs.length),W.cell? ⟨c,o+i*2,none⟩=some (.int .u8 ((fs[i]).1.toNat:Nat))∧W.cell? ⟨c,o+i*2+1,none⟩=some (.string ⟨(fs[i]).2.toArray⟩)) (j:Nat) (u:Value) (hj:(fcells fs)[j]?=some u):W.cell? ((⟨c,o,none⟩:Addr).add j)=some u:=by
 have hlt:=(List.getElem?_eq_some_iff.1 hj).1
 rw [fcells_len] at hlt
 have hi:j / 2 < fs.length:=by omega
 obtain ⟨h1,h2⟩:=fcells_get fs (j / 2) hi
 have ea:∀ k,(⟨c,o,none⟩:Addr).add k=⟨c,o+k,none⟩:=fun k=>by unfold Addr.add; split <;> simp_all
 rw [ea]
 by_cases hp:j % 2=0
 ·
  have e:j=j / 2*2:=by omega
  rw [← e] at h1
  rw [h1] at hj
  cases hj
  rw [show o+j=o+j / 2*2 by omega]
  exact (h _ hi).1
 ·
  have e:j=j / 2*2+1:=by omega
  rw [← e] at h2
  rw [h2] at hj
  cases hj
  rw [show o+j=o+j / 2*2+1 by omega]
  exact (h _ hi).2
/-- Scans that lie apart, what was told, and an own slice of frames apart from them all. -/
structure Fd (Scn:World→Value→List UInt8→Nat→(Nat→Prop)→Prop) (w W:World) (sc:List Sx) (ts:List Tx) (v:Value) (fs:Fs):Prop where
 sq:Sq Scn w W sc ts
 row:W.ownsRow w.heap.size 39 2 v fs.length (fcells fs)
 off:∀ g,v.ownBlock=some g→∀ (i:Nat) (x:Sx),sc[i]?=some x→¬ x.F g
 ton:∀ g,v.ownBlock=some g→∀ (j:Nat) (t:Tx),ts[j]?=some t→t.fs ≠ []→t.c ≠ g
section
variable {Scn:World→Value→List UInt8→Nat→(Nat→Prop)→Prop} {w W W':World} {sc:List Sx} {ts:List Tx} {v:Value} {fs:Fs}
theorem fd_nil (h:Sq Scn w W sc ts):Fd Scn w W sc ts (.slice none 0 0) []:=⟨h,World.ownsRow_nil _ _ _ _,fun _=>nofun,fun _=>nofun⟩
theorem Fd.later (C:FrameC Scn) (h:Fd Scn w W sc ts v fs) (hb:Below W.heap.size W W'):Fd Scn w W' sc ts v fs:=⟨h.sq.later C hb,owns_below h.row hb,h.off,h.ton⟩
theorem Fd.drop {t:Tx} (h:Fd Scn w W sc (t :: ts) v fs):Fd Scn w W sc ts v fs :=
 ⟨⟨h.sq.below,h.sq.scn,h.sq.base,h.sq.sep,fun j t' ht=>h.sq.told (j+1) t' ht,fun j t' ht=>h.sq.off (j+1) t' ht⟩,h.row,h.off,fun g hg j t' ht=>h.ton g hg (j+1) t' ht⟩
theorem Fd.frl (h:Fd Scn w W sc ts v fs):FrL W v fs:=frl_own h.row
theorem Fd.feed (C:FrameC Scn) (h:Fd Scn w W sc ts v fs) (i:Nat) {p:Value} {l l':List UInt8} {b b':Nat} {F F':Nat→Prop} (hi:sc[i]?=some ⟨p,l,b,F⟩) (hs:Scn W' p l' b' F') (hF:∀ k,F' k→F k∨W.heap.size≤k) (hc:Chg F W W') {u:Value} {gs:Fs} {c:Nat} (ht:FrAt W' u gs c) (hn:gs ≠ []→W.heap.size≤c∧¬ F' c):Fd Scn w W' (sc.set i ⟨p,l',b',F'⟩) (⟨u,gs,c⟩ :: ts) v fs:=by
 have hil:=(List.getElem?_eq_some_iff.1 hi).1
 refine ⟨h.sq.feed C i hi hs hF hc ht hn,owns_same h.row fun g hg=>hc.block g (h.row.lt g hg).2 (h.off g hg i _ hi),?_,?_⟩
 ·
  intro g hg j x hx hk
  rw [List.getElem?_set] at hx
  by_cases e:i=j
  ·
   rw [if_pos e,if_pos hil] at hx
   cases hx
   rcases hF g hk with h1 | h1
   ·
    exact h.off g hg i _ hi h1
   ·
    exact absurd (h.row.lt g hg).2 (Nat.not_lt.2 h1)
  ·
   rw [if_neg e] at hx
   exact h.off g hg j x hx hk
 ·
  intro g hg j t ht' h0 e
  cases j with
  | zero =>
   cases ht'
   have:=(hn h0).1
   have:=(h.row.lt g hg).2
   simp only at e
   omega
  | succ j=>exact h.ton g hg j t ht' h0 e
theorem Fd.grown (C:FrameC Scn) (h:Fd Scn w W sc ts v fs) (hg:W.grownBy W' v.ownBlock) {v':Value} {fs':Fs} (hr:W'.ownsRow w.heap.size 39 2 v' fs'.length (fcells fs')) (hv:∀ g,v'.ownBlock=some g→v.ownBlock=some g∨W.heap.size≤g):Fd Scn w W' sc ts v' fs':=by
 have hk:∀ k,k < W.heap.size→(∀ g,v.ownBlock=some g→k ≠ g)→W'.heap[k]?=W.heap[k]?:=fun k hlt hne=>hg.block k hlt fun e=>hne k e.symm rfl
 refine ⟨⟨h.sq.below.grown hg h.sq.below.size fun k e=>(h.row.lt k e).1,?_,h.sq.base,h.sq.sep,?_,h.sq.off⟩,hr,?_,?_⟩
 ·
  intro i x hx
  exact C.keep (h.sq.scn i x hx) hg.size fun k hF=>hk k (C.lt (h.sq.scn i x hx) k hF) fun g e q=>h.off g e i x hx (q ▸ hF)
 ·
  intro j t ht
  exact (h.sq.told j t ht).keep hg.size fun h0=>hk _ ((h.sq.told j t ht).lt h0) fun g e=>h.ton g e j t ht h0
 ·
  intro g e i x hx hF
  rcases hv g e with h1 | h1
  ·
   exact h.off g h1 i x hx hF
  ·
   exact absurd (C.lt (h.sq.scn i x hx) g hF) (Nat.not_lt.2 h1)
 ·
  intro g e j t ht h0 q
  rcases hv g e with h1 | h1
  ·
   exact h.ton g h1 j t ht h0 q
  ·
   have:=(h.sq.told j t ht).lt h0
   omega
end
/-- Is any of the first i bits set? -/
def anyN (p:Nat→Bool):Nat→Bool
 | 0=>false
 | i+1=>anyN p i || p i
/-- The bits of a pattern, the highest first. -/
def patB (n:Nat) (i:Nat):Bool:=n.testBit (15 - i)
theorem shr_bit {n:Nat} (hn:n < 65536) {i:Nat} (hi:i≤15):bits .and .u16 ((n:Int) / 2 ^ (15 - i)) 1=if patB n i then 1 else 0:=by
 have e:(n:Int) / 2 ^ (15 - i)=((n / 2 ^ (15 - i):Nat):Int):=by
  rw [Int.natCast_ediv,Int.natCast_pow]
  rfl
 have hl:n / 2 ^ (15 - i) < 65536:=Nat.lt_of_le_of_lt (Nat.div_le_self _ _) hn
 rw [e]
 refine (u16_and_nat _ 1 hl (by decide)).trans ?_
 rw [Nat.and_one_is_mod]
 unfold patB
 rw [Nat.testBit_eq_decide_div_mod_eq]
 by_cases h:n / 2 ^ (15 - i) % 2=1
 ·
  rw [h,decide_eq_true rfl]; rfl
 ·
  rw [decide_eq_false h,show n / 2 ^ (15 - i) % 2=0 by omega]; rfl
theorem turnN_no {f:Nat→Nat} {a i:Nat} {p:Nat→Bool} (h:p i=false):X.turnN f a p (i+1)=X.turnN f a p i:=by
 show (if p i then _ else _)=_
 rw [h]
 rfl
theorem turnN_yes {f:Nat→Nat} {a i:Nat} {p:Nat→Bool} (h:p i=true):X.turnN f a p (i+1)=X.turn1 (X.turnN f a p i) (a+i):=by
 show (if p i then _ else _)=_
 rw [h]
 rfl
theorem turn_at {F:Nat→Nat} {k q r:Nat} {x:Int} (hq:q=k / 8) (hr:r=k % 8) (hx:x=(F q ^^^ 128 >>> r:Nat)):x=(X.turn1 F k q:Nat):=by
 unfold X.turn1
 rw [if_pos hq,hx,hr]
theorem anyN_no {p:Nat→Bool}:∀ {i:Nat},anyN p i=false↔∀ j,j < i→p j=false
 | 0=>⟨fun _ j hj=>absurd hj (Nat.not_lt_zero j),fun _=>rfl⟩
 | i+1=>by
  show (anyN p i || p i)=false↔_
  rw [Bool.or_eq_false_iff,anyN_no]
  constructor
  ·
   rintro ⟨h1,h2⟩ j hj
   by_cases e:j=i
   ·
    rw [e]; exact h2
   ·
    exact h1 j (by omega)
  ·
   exact fun h=>⟨fun j hj=>h j (by omega),h i (by omega)⟩
/-- The sum of the turned bytes is that of the others just if none was turned. -/
theorem turn_sum {f:Nat→Nat} {n a i:Nat} {p:Nat→Bool} (hf:∀ j,f j < 256) (h:a+i≤8*n∧(i=16∨(i < 16∧8*n≤a+i))) (s0:Nat):X.csB s0 (X.byF (X.turnN f a p i) n)=X.csB s0 (X.byF f n)↔anyN p i=false:=by
 rw [X.win_sum (p:=p) (fun j _=>hf j) (fun j _=>X.turnN_lt hf a p i j) (by omega) (X.turnN_win h.2) s0,anyN_no]
 constructor
 ·
  intro g j hj
  exact g j (by omega) (by omega)
 ·
  intro g j hj hn
  exact g j (by omega)
theorem turn_off {F:Nat→Nat} {k q N:Nat} (hq:q=k / 8):∀ j,j < N→j ≠ q→F j=X.turn1 F k j:=by
 intro j _ hj
 unfold X.turn1
 rw [if_neg (by rw [← hq]; exact hj)]
end Go.Proofs.Ytadbijfjfoeojaa
