/- Parts of the proof. -/
import Derived.Test.YtncbajehmdnibaaDoorHp5
import Derived.Deep.LoopGhost
set_option linter.unusedSimpArgs false
set_option linter.unusedVariables false
/- The walk of groupsOf. -/
namespace Go.Proofs.YtncbajehmdnibaaDoor
open Go.RowKit
/-- The i-th group of nine digits. -/
def grp (N i:Nat):Nat:=N / 1000000000 ^ i % 1000000000
theorem grp_bound {N n i:Nat} (hN:N < BB ^ n) (h:0 < N / 1000000000 ^ i):i < 2*n:=by
 have h1:1000000000 ^ i≤N:=by
  rcases Nat.lt_or_ge N (1000000000 ^ i) with h2 | h2
  ·
   rw [Nat.div_eq_of_lt h2] at h; omega
  ·
   exact h2
 refine Nat.lt_of_not_le fun hc=>?_
 have h3:BB ^ n≤1000000000 ^ i:=by
  refine Nat.le_trans ?_ (Nat.pow_le_pow_right (by decide) hc)
  rw [Nat.pow_mul]
  exact Nat.pow_le_pow_left (by decide) n
 omega
theorem grp_next (N i:Nat):N / 1000000000 ^ i / 1000000000=N / 1000000000 ^ (i+1):=by rw [Nat.div_div_eq_div_mul,Nat.pow_succ]
/-- Groups of a number are handed back. -/
def PGrp (N n:Nat) (w:World) (e:Ending) (w':World):Prop :=
 ∃ (a:Option Addr) (i c:Nat),e=.returned (.slice a i c)∧Lie .u32 w' a i c (grp N)∧N < 1000000000 ^ i∧i≤2*n∧Below w.heap.size w w'
/-- The values of a list's numbers. -/
def vals (k:IntKind) (f:Nat→Nat) (n:Nat):List Value:=(List.range n).map fun i=>Value.int k (f i:Nat)
theorem vals_succ (k:IntKind) (f:Nat→Nat) (n:Nat):vals k f n++[Value.int k (f n:Nat)]=vals k f (n+1):=by simp [vals,List.range_succ]
theorem vals_get (k:IntKind) (f:Nat→Nat) (n i:Nat) (h:i < n):(vals k f n)[i]?=some (Value.int k (f i:Nat)):=by simp [vals,h]
/-- What is owned by append's laws lies there. -/
theorem lie_owned {k:IntKind} {w:World} {base:Nat} {e:TypeId} {v:Value} {n:Nat} {f:Nat→Nat} (h:w.ownsRow base e 1 v n (vals k f n)) :
  ∃ (a:Option Addr) (c:Nat),v=.slice a n c∧Lie k w a n c f:=by
 have hcs:=h.2
 rcases hcs with ⟨rfl,rfl⟩ | ⟨g,cap,cur,rfl,hb,hg,hc,hm,hs,ht⟩
 ·
  exact ⟨none,0,rfl,lie_nil _ _ _⟩
 ·
  refine ⟨_,cap,rfl,hc,hm,(fun e=>by cases e),(fun p hp=>by cases hp; exact ⟨rfl,(Array.getElem?_eq_some_iff.1 hg).1⟩),(fun p hp i hi=>?_)⟩
  cases hp
  have:=h.cells (g:=g) rfl i _ (vals_get k f n i hi)
  rw [show (⟨g,0,none⟩:Addr).add i=⟨g,0+i,none⟩ from by unfold Addr.add; split <;> simp_all] at this
  exact this
theorem Lie.congr {k:IntKind} {w:World} {a:Option Addr} {n c:Nat} {f f':Nat→Nat} (h:Lie k w a n c f) (hf:∀ i,i < n→f i=f' i):Lie k w a n c f' :=
 ⟨h.cap,h.capm,h.nil,h.spot,fun p hp i hi=>by rw [← hf i hi]; exact h.cell p hp i hi⟩
theorem Own.grown' {k:IntKind} {e:TypeId} {w w':World} {g n:Nat} {f:Nat→Nat} {r:Option Nat} (h:Own k e w g n f) (hg:w.grownBy w' r) (hr:r ≠ some g):Own k e w' g n f:=by
 unfold Own at h ⊢
 rw [hg.block g (Array.getElem?_eq_some_iff.1 h).1 (fun e=>hr e.symm)]; exact h
set_option maxHeartbeats 1600000 in
theorem groupsOf_any (a:Option Addr) (n c N:Nat) (w:World) (ha:Lie .u32 w a n c (lmb N)) (fa:Fit n N) (hn:n≤10000000) :
  Calls Tryd.prog 20 #[.slice a n c] w (PGrp N n w):=by
 have HF:=Lib.hid fa
 clear fa
 obtain ⟨i0,hi0,hz0,hz1,hz2⟩:=info_parts Tryd.info38
 have HI:=Lib.hid (And.intro hi0 (And.intro hz0 (And.intro hz1 hz2)))
 clear hi0 hz0 hz1 hz2
 go_enter Tryd.func20,Tryd.ntmps20
 go_wp2_with fail
 refine (copied_any a n c (lmb N) _ ha (by omega)).mono ?_
 rintro e w1 ⟨g,rfl,hg,hown,hb1⟩
 have hg1:=hown.lt
 clear ha
 go_wp2
 go_loopg [3,4] N (fun gn gv rv wr=>∃ (i m:Nat) (f:Nat→Nat),gn=N / 1000000000 ^ i∧rv=.slice (some ⟨g,0,none⟩) m n∧m≤n∧i≤2*n∧wr.ownsRow w1.heap.size 38 1 gv i (vals .u32 (grp N) i)∧Own .u32 38 wr g n f∧(∀ j,j < m→f j=lmb (N / 1000000000 ^ i) j)∧Fit m (N / 1000000000 ^ i)∧Below w.heap.size w wr∧w1.heap.size≤wr.heap.size)
 case atStart =>
  have e:N / 1000000000 ^ 0=N:=by rw [Nat.pow_zero,Nat.div_one]
  refine ⟨0,n,lmb N,e.symm,rfl,Nat.le_refl _,Nat.zero_le _,World.ownsRow_nil _ _ _ _,hown,?_,?_,hb1,Nat.le_refl _⟩
  ·
   rw [e]; exact fun j _=>rfl
  ·
   rw [e]; exact HF.out
 case round =>
  obtain ⟨i,m,f,hgk,rfl,hm,hi,how,hown1,hf,hfit,hbl,hsz⟩:=hrel
  have HGK:=Lib.hid hgk
  have HFF:=Lib.hid hf
  have HM:=Lib.hid hfit
  clear hgk hf hfit
  by_cases hp:0 < m
  ·
   have hNp:0 < N / 1000000000 ^ i:=Nat.pos_of_ne_zero fun h=>by have:=(fit_pos HM.out).2 h; omega
   have hib:=grp_bound HF.out.1 hNp
   have HNP:=Lib.hid hNp
   clear hNp
   go_wp2_with fail
   refine (divideBy_any g n m (N / 1000000000 ^ i) 1000000000 f _ hown1 hm HFF.out HM.out.1 (by omega) (by omega) (by omega)).mono ?_
   rintro e w2 ⟨rfl,hown2,ho2⟩
   have how2:=how.kept (grown_only ho2) (by
    rcases Option.eq_none_or_eq_some u3.ownBlock with h | ⟨k,h⟩
    ·
     exact .inl h
    ·
     right; rw [h]; intro h2; cases h2; have:=(how.lt g h).1; omega)
   have hgrp:N / 1000000000 ^ i % 1000000000=grp N i:=rfl
   rw [hgrp]
   clear hgrp
   have hsz2:w1.heap.size≤w2.heap.size:=by rw [ho2.size]; exact hsz
   have hb2:=hbl.trans (ho2.below (B:=w.heap.size) hg)
   obtain ⟨hi0,hz0,hz1,hz2⟩:=HI.out
   have hnl:u3.ownBlock ≠ some g:=fun h=>by have:=(how.lt g h).1; omega
   clear how hown1 ho2
   go_wp2_with (first
    | (at_builtin; refine wpList_append_own _ rfl _ _ 23 rfl w1.heap.size 38 i0 (.int .u32 0) 1 4 Tryd.u23 hi0 hz0 hz1 hz2 rfl (by decide) _ _ _ rfl (how2.alloc _) ⟨w2.heap.size,0,none⟩ 1 1 [.int .u32 (grp N i:Nat)] rfl rfl ?c1 ?c2 ?c3 ?c4 ?c5 ?_)
    | fail)
   case c1=>exact cell_one_new _ _ _
   case c2=>intro u hu; simp at hu; subst hu; rfl
   case c3=>unfold maxLen; omega
   case c4=>omega
   case c5=>simp; omega
   intro v' w3 hown' hgrow _
   rw [vals_succ] at hown'
   have hba:Below w2.heap.size w2 (w2.alloc (.cells #[.int .u32 (grp N i:Nat)] 38)):=(Below.refl _ _).alloc (Nat.le_refl _) _
   have hown3:=(hown2.below hba).grown' hgrow hnl
   have hb3:Below w.heap.size w w3:=(hb2.trans (hba.mono hb2.size)).grown hgrow (by simp; have:=hb2.size; omega) (fun k hk=>by have:=(how2.lt k hk).1; have:=hb1.size; omega)
   have hsz3:w1.heap.size≤w3.heap.size:=by have:=hgrow.size; simp at this; omega
   have hft:∀ j,j < m→hiF (N / 1000000000 ^ i / 1000000000) 0 m f j=lmb (N / 1000000000 ^ (i+1)) j:=fun j hj=>by rw [hiF,if_pos (by omega),grp_next]
   have hlt:N / 1000000000 ^ (i+1) < BB ^ m:=by rw [← grp_next]; exact Nat.lt_of_le_of_lt (Nat.div_le_self _ _) HM.out.1
   have HFT:=Lib.hid hft
   have HLT:=Lib.hid hlt
   clear hft hlt hgrow how2 hown2 hi0 hz0 hz1 hz2
   go_wp2_with fail
   refine (trimmed_any _ m n (N / 1000000000 ^ (i+1)) _ ((hown3.lie hm (by unfold maxLen; omega)).congr HFT.out) HLT.out).mono ?_
   rintro e w4 ⟨m2,rfl,hm2,hfit2,rfl⟩
   go_wp2
   go_roundg (N / 1000000000 ^ (i+1))
   case measure =>
    rw [HGK.out,← grp_next]
    exact Nat.div_lt_self HNP.out (by decide)
   case rel=>exact ⟨i+1,m2,_,rfl,rfl,by omega,by omega,hown',hown3,(fun j hj=>HFT.out j (by omega)),hfit2,hb3,hsz3⟩
  ·
   obtain rfl:m=0:=by omega
   have HZ:Hid (N < 1000000000 ^ i):=by
    have h0:=(fit_pos HM.out).1 rfl
    rcases Nat.div_eq_zero_iff.1 h0 with h | h
    ·
     exact absurd h (Nat.pos_iff_ne_zero.1 (Nat.pow_pos (by decide)))
    ·
     exact h
   obtain ⟨ga,gc,hv,hlie⟩:=lie_owned how
   rw [hv]
   clear how hv hown1
   go_wp2
   go_ret
   exact ⟨ga,i,gc,rfl,hlie,HZ.out,hi,hbl⟩
end Go.Proofs.YtncbajehmdnibaaDoor
