/- Parts of the proof. -/
import Derived.Test.YtncbajehmdnibaaDoorProg
import Derived.Test.YtncbajehmdnibaaDoorHp2
import Derived.KernelRfl
set_option linter.unusedSimpArgs false
set_option linter.unusedVariables false
/- The walks of trimmed, copied, made and their kin. -/
namespace Go.Proofs.YtncbajehmdnibaaDoor
open Go.RowKit
def PTrim (a:Option Addr) (c n N:Nat) (w:World) (e:Ending) (w':World):Prop:=∃ m:Nat,e=.returned (.slice a m c)∧m≤n∧Fit m N∧w=w'
set_option maxHeartbeats 400000 in
theorem trimmed_any (a:Option Addr) (n c N:Nat) (w:World) (hl:Lie .u32 w a n c (lmb N)) (hN:N < BB ^ n) :
  Calls Tryd.prog 28 #[.slice a n c] w (PTrim a c n N w):=by
 have hcm:=hl.capm
 have hnc:=hl.cap
 unfold maxLen at hcm
 go_enter Tryd.func28,Tryd.ntmps28
 go_wp2
 go_loop [3] (fun i=>∃ k:Nat,k≤n∧i=.int .i64 k∧N < BB ^ k) (fun i=>(intOf i).toNat)
 case atStart=>exact ⟨n,Nat.le_refl _,rfl,hN⟩
 case round =>
  obtain ⟨k,hk,rfl,hNk⟩:=hrel
  by_cases hp:0 < k
  ·
   obtain ⟨b,o,rfl,hb⟩:=hl.some_of_pos (by omega)
   have hcell:=hl.at (k - 1) (by omega)
   by_cases hz:lmb N (k - 1)=0
   ·
    have hz':((lmb N (k - 1):Int) == 0)=true:=by rw [hz]; rfl
    have HZ:=Lib.hid hz
    have HN:=Lib.hid hNk
    clear hz hNk hl hN
    go_wp2
    go_round
    case rel=>exact ⟨k - 1,by omega,by go_num,fit_step (by omega) HN.out HZ.out⟩
    case measure=>simp [intOf]; omega
   ·
    have hz':((lmb N (k - 1):Int) == 0)=false:=by simpa using hz
    have HZ:=Lib.hid hz
    have HN:=Lib.hid hNk
    clear hz hNk hl hN
    go_wp2
    go_ret
    exact ⟨k,rfl,hk,⟨HN.out,.inr (fit_end HZ.out)⟩,rfl⟩
  ·
   obtain rfl:k=0:=by omega
   have HN:=Lib.hid hNk
   clear hNk hN
   rcases a with _ | ⟨b,o,s⟩
   ·
    obtain ⟨rfl,rfl⟩:=hl.nil rfl
    go_wp2
    go_ret
    exact ⟨0,rfl,hk,⟨HN.out,.inl rfl⟩,rfl⟩
   ·
    obtain ⟨h1,h2⟩:=hl.spot _ rfl
    simp only at h1 h2
    subst h1
    go_wp2
    go_ret
    exact ⟨0,rfl,hk,⟨HN.out,.inl rfl⟩,rfl⟩
theorem Tryd.u23:Tryd.prog.underlying 23=some (.slice 38):=by kernel_rfl
theorem Tryd.info38:(Tryd.prog.info? 38).map (fun i=>(i.zero,i.size,i.bytes))=some (some (.int .u32 0),1,4):=by kernel_rfl
theorem Tryd.size38:(Tryd.prog.info? 38).map (·.size)=some 1:=by kernel_rfl
/-- A new block of n numbers is handed back whole. -/
def PNew (k:IntKind) (t:TypeId) (n:Nat) (f:Nat→Nat) (w:World) (e:Ending) (w':World):Prop :=
 ∃ g:Nat,e=.returned (.slice (some ⟨g,0,none⟩) n n)∧w.heap.size≤g∧Own k t w' g n f∧Below w.heap.size w w'
set_option maxHeartbeats 400000 in
theorem copied_any (a:Option Addr) (n c:Nat) (f:Nat→Nat) (w:World) (hl:Lie .u32 w a n c f) (hn:n≤1000000000) :
  Calls Tryd.prog 35 #[.slice a n c] w (PNew .u32 38 n f w):=by
 have hn4:4*n≤281474976710656:=by omega
 have hn6:n≤9223372036854775807:=by omega
 go_enter Tryd.func35,Tryd.ntmps35
 go_wp2_with (first | (at_make; refine wpList_mk _ rfl (.tmp 5) (.tmp 5) 23 rfl 38 .u32 4 Tryd.u23 Tryd.info38 (n:Int) (n:Int) n rfl rfl rfl rfl hn4 hn6 ?_; intro g w1 hg hown hb; have hl1:=hl.below hb) | (with_reducible refine wpList_cp rfl (.tmp 7) (.tmp 8) 23 rfl 38 Tryd.u23 Tryd.size38 g n n .u32 _ f a n c rfl rfl hown hl1 (Nat.le_refl _) ?_; intro w2 hown2 ho2))
 go_ret
 exact ⟨g,rfl,hg,hown2.congr (fun i hi=>by simp [hi]),hb.trans (ho2.below hg)⟩
set_option maxHeartbeats 400000 in
theorem made_any (bl:Bool) (a:Option Addr) (n c N:Nat) (w:World) (hl:Lie .u32 w a n c (lmb N)) (hN:N < BB ^ n) :
  Calls Tryd.prog 14 #[.bool bl,.slice a n c] w (PMade a (sg bl N) w):=by
 have hcm:=hl.capm
 have hnc:=hl.cap
 unfold maxLen at hcm
 go_enter Tryd.func14,Tryd.ntmps14
 go_wp2_with fail
 refine (trimmed_any a n c N _ ?_ hN).mono ?_
 ·
  exact hl.below ((Below.refl _ _).alloc (Nat.le_refl _) _)
 rintro e w1 ⟨m,rfl,hm,hfit,rfl⟩
 by_cases h0:m=0
 ·
  subst h0
  go_wp2
  obtain rfl:=(fit_pos hfit).1 rfl
  refine bodyPost_ret (v:=.agg #[.bool false,.slice none 0 0]) (by simp [results,Tryd.results14,go_sem]) rfl ⟨false,none,0,0,rfl,?_,.inl rfl,?_⟩
  ·
   unfold sg; cases bl <;> exact num_zero _
  ·
   exact (Below.refl _ _).alloc (Nat.le_refl _) _
 ·
  have h0':((m:Int) == 0)=false:=by simpa using h0
  have H0:=Lib.hid h0
  clear h0
  go_wp2
  refine bodyPost_ret (v:=.agg #[.bool bl,.slice a m c]) (by simp [results,Tryd.results14,go_sem]) rfl ⟨bl,a,m,c,rfl,⟨?_,?_,?_⟩,.inr rfl,?_⟩
  ·
   rw [sg_abs]; exact (hl.cut hm).below ((Below.refl _ _).alloc (Nat.le_refl _) _)
  ·
   rw [sg_abs]; exact hfit
  ·
   rw [sg_neg]; refine Nat.pos_of_ne_zero fun h=>H0.out ((fit_pos hfit).2 h)
  ·
   exact (Below.refl _ _).alloc (Nat.le_refl _) _
end Go.Proofs.YtncbajehmdnibaaDoor
