/- Parts of the proof. -/
import Derived.Test.YtjclllindbfmhabGreatDoorHs11
import Derived.IntWalk
set_option linter.unusedSimpArgs false
set_option linter.unusedVariables false
namespace Go.Proofs.YtjclllindbfmhabGreatDoor
/- The document's numbers: the walk of Of. -/
open Go.RowKit
theorem div10 (N k:Nat):N / 10 ^ k / 10=N / 10 ^ (k+1):=by rw [Nat.div_div_eq_div_mul,Nat.pow_succ]
theorem of_k {N k:Nat} (hN:N≤9223372036854775808) (h:N / 10 ^ k ≠ 0):k < 20:=by
 refine Nat.lt_of_not_le fun hc=>h ?_
 exact Nat.div_eq_of_lt (Nat.lt_of_lt_of_le (show N < 10 ^ 20 by omega) (Nat.pow_le_pow_right (by decide) hc))
theorem neg_tm (R:Int) (h:0≤R):(-R).tmod 10=-(R % 10):=by rw [Int.neg_tmod,Int.tmod_eq_emod_of_nonneg h]
theorem neg_td (R:Int) (h:0≤R):(-R).tdiv 10=-(R / 10):=by rw [Int.neg_tdiv,Int.tdiv_eq_ediv_of_nonneg h]
set_option maxHeartbeats 3200000 in
theorem rOf_pos (N:Nat) (w:World) (hN:N≤9223372036854775807) :
  Calls Tryz.prog 31 #[.int .i64 (((N:Nat):Int))] w (PRNumF (((N:Nat):Int)) w):=by
 obtain ⟨i0,hi0,hz0,hzz1,hzz2⟩:=info_parts Tryz.rinfo3
 have HI:=Lib.hid (And.intro hi0 (And.intro hz0 (And.intro hzz1 hzz2)))
 have HN:Hid (N≤9223372036854775808):=show N≤9223372036854775808 by omega
 obtain ⟨R0,hR0⟩:∃ R0:Int,R0=((N:Nat):Int):=⟨_,rfl⟩
 have hR1:0≤R0:=by omega
 have hR2:R0≤9223372036854775807:=by omega
 rw [← hR0]
 have HR0:=Lib.hid hR0
 have dneg:decide (R0 < 0)=false:=decide_eq_false (by omega)
 have hR:=res_one w 38
 clear hi0 hz0 hzz1 hzz2 hN hR0
 go_enter Tryz.func31,Tryz.ntmps31
 go_wp2
 generalize w.alloc (.cells #[.bool false,.slice none 0 0] 38)=w1 at *
 go_loopw [0,3] (fun nv dv wr=>∃ k:Nat,k≤20∧nv=.int .i64 (((N / 10 ^ k:Nat):Int))∧wr.ownsRow w1.heap.size 3 1 dv k (vals .i64 (dig N) k)∧Below w1.heap.size w1 wr) (fun nv _ _=>(intOf nv).natAbs)
 case atStart=>exact ⟨0,by omega,by rw [Nat.pow_zero,Nat.div_one,← HR0.out],World.ownsRow_nil _ _ _ _,Below.refl _ _⟩
 case round =>
  obtain ⟨k,hk,rfl,how,hbl⟩:=hrel
  have hdv:N / 10 ^ k≤N:=Nat.div_le_self _ _
  have hM:=HN.out
  obtain ⟨M,hMe⟩:∃ M:Nat,M=N / 10 ^ k:=⟨_,rfl⟩
  rw [← hMe] at hdv ⊢
  obtain ⟨R,hRe⟩:∃ R:Int,R=((M:Nat):Int):=⟨_,rfl⟩
  have hRa:0≤R:=by omega
  have hRb:R≤9223372036854775807:=by have:=HR0.out; omega
  rw [← hRe]
  by_cases hz:M=0
  ·
   have HFIN:Hid (N < 10 ^ k):=by
    rcases Nat.div_eq_zero_iff.1 (hMe.symm.trans hz) with h | h
    ·
     have:=p10 k; omega
    ·
     exact h
   obtain ⟨a4,c4,rfl,hlie,hfr⟩:=owned_fresh how
   obtain rfl:R=0:=by omega
   have hRr:=hR.later hbl
   clear how hdv hM hRe hz hMe
   go_wp2_with fail
   refine (rmade_any false a4 k c4 N _ hlie HFIN.out).mono ?_
   rintro e w3 ⟨bl3,n3,c3,rfl,hnum,hb3⟩
   have hR3:=hRr.later hb3
   have rB0:=hR3.r0
   have rB1:=hR3.r1
   have fB0:=hR3.f0
   have fB1:=hR3.f1
   go_wp2
   refine bodyPost_ret (v:=.agg #[.bool bl3,.slice a4 n3 c3]) (by simp [results,Tryz.results31,go_sem,rB0,rB1]) rfl ?_
   have e1:sg false N=R0:=by rw [HR0.out]; rfl
   rw [e1] at hnum
   exact rnumf_store hnum hR3.below (Nat.le_refl _) (fun p hp=>by have h1:=hfr p hp; have h2:=hR.sz; omega)
  ·
   have hk2:=of_k HN.out (fun e=>hz (hMe.trans e))
   have hdl:=dig_lt N k
   have HD0:Hid (R % 10=((dig N k:Nat):Int)):=by show _=_; unfold dig; rw [← hMe]; omega
   have HQ:Hid (R / 10=((N / 10 ^ (k+1):Nat):Int)):=by show _=_; rw [← div10,← hMe]; omega
   have hRp:0 < R:=by omega
   have dz:(R == 0)=false:=by simp; omega
   have dz2:(R != 0)=true:=by simp; omega
   clear hdv hM hz hdl hMe hRe
   have HD:=HD0
   have hm1:¬ R % 10 < 0:=by omega
   have hm2:0≤R % 10:=by omega
   have HMS:Hid ((R / 10).natAbs < R.natAbs):=show (R / 10).natAbs < R.natAbs by omega
   go_wp2_with (first
    | (at_builtin; refine wpList_append_own _ rfl _ _ 36 rfl w1.heap.size 3 i0 (.int .i64 0) 1 8 Tryz.ru36 HI.out.1 HI.out.2.1 HI.out.2.2.1 HI.out.2.2.2 rfl (by decide) _ _ _ rfl (how.alloc _) ⟨wr.heap.size,0,none⟩ 1 1 [.int .i64 (R % 10)] rfl rfl ?ac1 ?ac2 ?ac3 ?ac4 ?ac5 ?_)
    | fail)
   (try case ac1=>exact cell_one_new _ _ _)
   case ac2=>first | rfl | (intro u hu; simp at hu; subst hu; rfl)
   case ac3=>unfold maxLen; omega
   case ac4=>omega
   case ac5=>(have:=hbl.size; first | omega | (simp; done) | (simp; omega))
   intro v' w3 hown' hgrow _
   have hb3:Below w1.heap.size w1 w3:=(hbl.alloc hbl.size _).grown hgrow (by have:=hbl.size; simp; omega) (fun q hq=>(how.lt q hq).1)
   rw [HD.out] at hown'
   have hown2:w3.ownsRow w1.heap.size 3 1 v' (k+1) (vals .i64 (dig N) (k+1)):=by rw [← vals_succ]; exact hown'
   clear hgrow how
   go_wp2
   go_roundw
   case rel=>exact ⟨k+1,by omega,by rw [HQ.out],hown2,hb3⟩
   case measure=>simp only [intOf]; exact HMS.out
set_option maxHeartbeats 3200000 in
theorem rOf_neg (N:Nat) (w:World) (hN:N≤9223372036854775808) (h0:0 < N) :
  Calls Tryz.prog 31 #[.int .i64 (-((N:Nat):Int))] w (PRNumF (-((N:Nat):Int)) w):=by
 obtain ⟨i0,hi0,hz0,hzz1,hzz2⟩:=info_parts Tryz.rinfo3
 have HI:=Lib.hid (And.intro hi0 (And.intro hz0 (And.intro hzz1 hzz2)))
 have HN:Hid (N≤9223372036854775808):=show N≤9223372036854775808 by omega
 obtain ⟨R0,hR0⟩:∃ R0:Int,R0=((N:Nat):Int):=⟨_,rfl⟩
 have hR1:0 < R0:=by omega
 have hR2:R0≤9223372036854775808:=by omega
 rw [← hR0]
 have HR0:=Lib.hid hR0
 have dneg:decide (-R0 < 0)=true:=decide_eq_true (by omega)
 have hR:=res_one w 38
 clear hi0 hz0 hzz1 hzz2 hN hR0 h0
 go_enter Tryz.func31,Tryz.ntmps31
 go_wp2
 generalize w.alloc (.cells #[.bool false,.slice none 0 0] 38)=w1 at *
 go_loopw [0,3] (fun nv dv wr=>∃ k:Nat,k≤20∧nv=.int .i64 (-((N / 10 ^ k:Nat):Int))∧wr.ownsRow w1.heap.size 3 1 dv k (vals .i64 (dig N) k)∧Below w1.heap.size w1 wr) (fun nv _ _=>(intOf nv).natAbs)
 case atStart=>exact ⟨0,by omega,by rw [Nat.pow_zero,Nat.div_one,← HR0.out],World.ownsRow_nil _ _ _ _,Below.refl _ _⟩
 case round =>
  obtain ⟨k,hk,rfl,how,hbl⟩:=hrel
  have hdv:N / 10 ^ k≤N:=Nat.div_le_self _ _
  have hM:=HN.out
  obtain ⟨M,hMe⟩:∃ M:Nat,M=N / 10 ^ k:=⟨_,rfl⟩
  rw [← hMe] at hdv ⊢
  obtain ⟨R,hRe⟩:∃ R:Int,R=((M:Nat):Int):=⟨_,rfl⟩
  have hRa:0≤R:=by omega
  have hRb:R≤9223372036854775808:=by have:=HR0.out; omega
  rw [← hRe]
  by_cases hz:M=0
  ·
   have HFIN:Hid (N < 10 ^ k):=by
    rcases Nat.div_eq_zero_iff.1 (hMe.symm.trans hz) with h | h
    ·
     have:=p10 k; omega
    ·
     exact h
   obtain ⟨a4,c4,rfl,hlie,hfr⟩:=owned_fresh how
   obtain rfl:R=0:=by omega
   have hRr:=hR.later hbl
   clear how hdv hM hRe hz hMe
   go_wp2_with fail
   refine (rmade_any true a4 k c4 N _ hlie HFIN.out).mono ?_
   rintro e w3 ⟨bl3,n3,c3,rfl,hnum,hb3⟩
   have hR3:=hRr.later hb3
   have rB0:=hR3.r0
   have rB1:=hR3.r1
   have fB0:=hR3.f0
   have fB1:=hR3.f1
   go_wp2
   refine bodyPost_ret (v:=.agg #[.bool bl3,.slice a4 n3 c3]) (by simp [results,Tryz.results31,go_sem,rB0,rB1]) rfl ?_
   have e1:sg true N=-R0:=by rw [HR0.out]; rfl
   rw [e1] at hnum
   exact rnumf_store hnum hR3.below (Nat.le_refl _) (fun p hp=>by have h1:=hfr p hp; have h2:=hR.sz; omega)
  ·
   have hk2:=of_k HN.out (fun e=>hz (hMe.trans e))
   have hdl:=dig_lt N k
   have HD0:Hid (R % 10=((dig N k:Nat):Int)):=by show _=_; unfold dig; rw [← hMe]; omega
   have HQ:Hid (R / 10=((N / 10 ^ (k+1):Nat):Int)):=by show _=_; rw [← div10,← hMe]; omega
   have hRp:0 < R:=by omega
   have dz:(-R == 0)=false:=by simp; omega
   have dz2:(-R != 0)=true:=by simp; omega
   clear hdv hM hz hdl hMe hRe
   have e1:=neg_tm R hRa
   have e2:=neg_td R hRa
   have HMS:Hid ((-(R / 10)).natAbs < (-R).natAbs):=show (-(R / 10)).natAbs < (-R).natAbs by omega
   by_cases hc:R % 10=0
   ·
    have HD:Hid ((0:Int)=((dig N k:Nat):Int)):=by show _=_; rw [← HD0.out]; exact hc.symm
    rw [hc] at e1
    clear hc HD0
    go_wp2_with (first
     | (at_builtin; refine wpList_append_own _ rfl _ _ 36 rfl w1.heap.size 3 i0 (.int .i64 0) 1 8 Tryz.ru36 HI.out.1 HI.out.2.1 HI.out.2.2.1 HI.out.2.2.2 rfl (by decide) _ _ _ rfl (how.alloc _) ⟨wr.heap.size,0,none⟩ 1 1 [.int .i64 (0)] rfl rfl ?bc1 ?bc2 ?bc3 ?bc4 ?bc5 ?_)
     | fail)
    (try case bc1=>exact cell_one_new _ _ _)
    case bc2=>first | rfl | (intro u hu; simp at hu; subst hu; rfl)
    case bc3=>unfold maxLen; omega
    case bc4=>omega
    case bc5=>(have:=hbl.size; first | omega | (simp; done) | (simp; omega))
    intro v' w3 hown' hgrow _
    have hb3:Below w1.heap.size w1 w3:=(hbl.alloc hbl.size _).grown hgrow (by have:=hbl.size; simp; omega) (fun q hq=>(how.lt q hq).1)
    rw [HD.out] at hown'
    have hown2:w3.ownsRow w1.heap.size 3 1 v' (k+1) (vals .i64 (dig N) (k+1)):=by rw [← vals_succ]; exact hown'
    clear hgrow how
    go_wp2
    go_roundw
    case rel=>exact ⟨k+1,by omega,by rw [← HQ.out],hown2,hb3⟩
    case measure=>simp only [intOf]; exact HMS.out
   ·
    have HD:=HD0
    have hm1:0 < R % 10:=by omega
    have hm2:R % 10≤9:=by omega
    clear hc HD0
    go_wp2_with (first
     | (at_builtin; refine wpList_append_own _ rfl _ _ 36 rfl w1.heap.size 3 i0 (.int .i64 0) 1 8 Tryz.ru36 HI.out.1 HI.out.2.1 HI.out.2.2.1 HI.out.2.2.2 rfl (by decide) _ _ _ rfl (how.alloc _) ⟨wr.heap.size,0,none⟩ 1 1 [.int .i64 (R % 10)] rfl rfl ?cc1 ?cc2 ?cc3 ?cc4 ?cc5 ?_)
     | fail)
    (try case cc1=>exact cell_one_new _ _ _)
    case cc2=>first | rfl | (intro u hu; simp at hu; subst hu; rfl)
    case cc3=>unfold maxLen; omega
    case cc4=>omega
    case cc5=>(have:=hbl.size; first | omega | (simp; done) | (simp; omega))
    intro v' w3 hown' hgrow _
    have hb3:Below w1.heap.size w1 w3:=(hbl.alloc hbl.size _).grown hgrow (by have:=hbl.size; simp; omega) (fun q hq=>(how.lt q hq).1)
    rw [HD.out] at hown'
    have hown2:w3.ownsRow w1.heap.size 3 1 v' (k+1) (vals .i64 (dig N) (k+1)):=by rw [← vals_succ]; exact hown'
    clear hgrow how
    go_wp2
    go_roundw
    case rel=>exact ⟨k+1,by omega,by rw [← HQ.out],hown2,hb3⟩
    case measure=>simp only [intOf]; exact HMS.out
theorem rOf_any (z:Int) (w:World) (h1:-9223372036854775808≤z) (h2:z≤9223372036854775807):Calls Tryz.prog 31 #[.int .i64 z] w (PRNumF z w):=by
 by_cases hz:z < 0
 ·
  have:=rOf_neg z.natAbs w (by omega) (by omega)
  rwa [show -((z.natAbs:Nat):Int)=z from by omega] at this
 ·
  have:=rOf_pos z.natAbs w (by omega)
  rwa [show ((z.natAbs:Nat):Int)=z from by omega] at this
end Go.Proofs.YtjclllindbfmhabGreatDoor
