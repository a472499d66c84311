/- Parts of the proof. -/
import Derived.Test.YtncbajehmdnibaaDoorHp6
import Derived.Test.YtncbajehmdnibaaDoorHp7
set_option linter.unusedSimpArgs false
set_option linter.unusedVariables false
/- The walk of written. -/
namespace Go.Proofs.YtncbajehmdnibaaDoor
open Go.RowKit
theorem Tryd.u63:Tryd.prog.underlying 63=some (.slice 5):=by kernel_rfl
theorem Tryd.info5:(Tryd.prog.info? 5).map (fun i=>(i.zero,i.size,i.bytes))=some (some (.int .u8 0),1,1):=by kernel_rfl
/-- The k-th digit, from the lowest one on. -/
def dig (N k:Nat):Nat:=N / 10 ^ k % 10
theorem dig_lt (N k:Nat):dig N k < 10:=Nat.mod_lt _ (by decide)
/-- What is left of a group. -/
def gcur (N k:Nat):Nat:=if k % 9=0 then 0 else grp N (k / 9) / 10 ^ (k % 9)
theorem grp_dig (N k:Nat):grp N (k / 9) / 10 ^ (k % 9) % 10=dig N k∧grp N (k / 9) / 10 ^ (k % 9) / 10=gcur N (k+1)∧grp N (k / 9) / 10 ^ (k % 9) < 1000000000:=by
 have hk:=Nat.div_add_mod k 9
 have hr:=Nat.mod_lt k (show 0 < 9 by decide)
 generalize k / 9=q at *
 generalize k % 9=r at *
 have hg:grp N q < 1000000000:=Nat.mod_lt _ (by decide)
 refine ⟨?_,?_,Nat.lt_of_le_of_lt (Nat.div_le_self _ _) hg⟩
 ·
  have e1:grp N q=N / 10 ^ (9*q) % (10 ^ r*10 ^ (9 - r)):=by
   unfold grp; rw [← Nat.pow_add,show r+(9 - r)=9 from by omega,Nat.pow_mul]
  have e2:dig N k=N / 10 ^ (9*q) / 10 ^ r % 10:=by
   unfold dig; rw [Nat.div_div_eq_div_mul,← Nat.pow_add,hk]
  rw [e1,e2,Nat.mod_mul_right_div_self]
  exact Nat.mod_mod_of_dvd _ ⟨10 ^ (8 - r),by rw [show 9 - r=(8 - r)+1 from by omega,Nat.pow_succ,Nat.mul_comm]⟩
 ·
  unfold gcur
  rw [Nat.div_div_eq_div_mul,← Nat.pow_succ]
  by_cases h8:r=8
  ·
   rw [if_pos (by omega),h8]
   exact Nat.div_eq_of_lt hg
  ·
   rw [if_neg (by omega),show (k+1) / 9=q from by omega,show (k+1) % 9=r+1 from by omega]
/-- The text's bytes: the upper k ones are not set yet. -/
def txtF (N K k:Nat) (p:Nat):Nat:=if K≤p+k then 48+dig N (K - 1 - p) else 0
theorem txtF_next (N K k:Nat):∀ p,p < K→p ≠ K - 1 - k→txtF N K k p=txtF N K (k+1) p:=by
 intro p hp hne
 unfold txtF
 by_cases h:K≤p+k
 ·
  rw [if_pos h,if_pos (by omega)]
 ·
  rw [if_neg h,if_neg (by omega)]
set_option maxHeartbeats 1600000 in
theorem written_any (a:Option Addr) (m c N:Nat) (w:World) (ha:Lie .u32 w a m c (grp N)) (hm:m≤100000000) :
  Calls Tryd.prog 19 #[.slice a m c] w fun e w'=>e=.returned (.string ⟨((List.range (9*m)).map fun p=>(48+dig N (9*m - 1 - p)).toUInt8).toArray⟩)∧Below w.heap.size w w':=by
 have hcm:=ha.capm
 have hnc:=ha.cap
 unfold maxLen at hcm
 have hn4:1*(9*m)≤281474976710656:=by omega
 have hn6:9*m≤9223372036854775807:=by omega
 go_enter Tryd.func19,Tryd.ntmps19
 go_wp2_with (first | (at_make; refine wpList_mk _ rfl (.tmp 8) (.tmp 8) 63 rfl 5 .u8 1 Tryd.u63 Tryd.info5 _ _ (9*m) rfl rfl (by omega) (by omega) hn4 hn6 ?_; intro g w1 hg hown hb1))
 go_loopw [4,12] (fun gv iv wr=>∃ k:Nat,k≤9*m∧iv=.int .i64 k∧gv=.int .u32 (gcur N k)∧Own .u8 5 wr g (9*m) (txtF N (9*m) k)∧Below w.heap.size w wr) (fun _ iv _=>9*m - (intOf iv).toNat)
 case atStart=>exact ⟨0,Nat.zero_le _,rfl,by simp [gcur],hown.congr (fun j hj=>by rw [txtF,if_neg (by omega)]),hb1⟩
 case round =>
  obtain ⟨k,hk,rfl,rfl,hown1,hbl⟩:=hrel
  by_cases hlt:k < 9*m
  ·
   obtain ⟨b1,o1,rfl,hb1'⟩:=ha.some_of_pos (by omega)
   obtain ⟨e1,e2,e3⟩:=grp_dig N k
   have hdl:=dig_lt N k
   have c2:=hown1.cell (9*m - 1 - k) (by omega)
   have c3:=hown1.free (9*m - 1 - k)
   have hbs:=hbl.setCell (p:=⟨g,9*m - 1 - k,none⟩) hg
   by_cases h9:k % 9=0
   ·
    have c1:=(ha.below hbl).at (k / 9) (by omega)
    have h9':((k:Int) % 9 == 0)=true:=by simp; omega
    rw [h9,Nat.pow_zero,Nat.div_one] at e1 e2 e3
    have HX:Hid ((48:Int)+(grp N (k / 9):Int) % 10=((48+dig N k:Nat):Int)∧(grp N (k / 9):Int) / 10=((gcur N (k+1):Nat):Int)):=by show _∧_; omega
    clear ha e1 e2 h9
    generalize gcur N k=gc at *
    go_wp2
    go_roundw
    case rel=>exact ⟨k+1,by omega,by go_num,by rw [HX.out.2],hown1.put (by omega) (by rw [HX.out.1,txtF,if_pos (by omega),show 9*m - 1 - (9*m - 1 - k)=k from by omega]) (txtF_next N (9*m) k),hbs _⟩
    case measure=>simp [intOf]; omega
   ·
    have h9':((k:Int) % 9 == 0)=false:=by simp; omega
    have hgc:grp N (k / 9) / 10 ^ (k % 9)=gcur N k:=by rw [gcur,if_neg h9]
    rw [hgc] at e1 e2 e3
    have HX:Hid ((48:Int)+(gcur N k:Int) % 10=((48+dig N k:Nat):Int)∧(gcur N k:Int) / 10=((gcur N (k+1):Nat):Int)):=by show _∧_; omega
    clear ha e1 e2 h9 hgc
    generalize hgg:gcur N k=gc at *
    clear hgg
    go_wp2
    go_roundw
    case rel=>exact ⟨k+1,by omega,by go_num,by rw [HX.out.2],hown1.put (by omega) (by rw [HX.out.1,txtF,if_pos (by omega),show 9*m - 1 - (9*m - 1 - k)=k from by omega]) (txtF_next N (9*m) k),hbs _⟩
    case measure=>simp [intOf]; omega
  ·
   obtain rfl:k=9*m:=by omega
   have hcv:∃ str:ByteArray,str=⟨((List.range (9*m)).map fun p=>(48+dig N (9*m - 1 - p)).toUInt8).toArray⟩∧(convert 63 9 (.slice (some ⟨g,0,none⟩) (9*m) (9*m))).run Tryd.prog wr=.ok (.string str) wr:=by
    refine ⟨_,rfl,?_⟩
    have:=run_convert_bytes_back (P:=Tryd.prog) wr 63 9 5 ⟨g,0,none⟩ (9*m) ((List.range (9*m)).map fun p=>(48+dig N (9*m - 1 - p)).toUInt8) Tryd.u63 (by kernel_rfl) (by kernel_rfl) (fun j hj=>by
     have hj':j < 9*m:=by simpa using hj
     rw [show (⟨g,0,none⟩:Addr).add j=⟨g,j,none⟩ from by unfold Addr.add; split <;> simp_all,hown1.cell j hj',txtF,if_pos (by omega)]
     have:=dig_lt N (9*m - 1 - j)
     simp only [List.getElem_map,List.getElem_range]
     congr 3
     show _=(48+dig N (9*m - 1 - j)) % 256
     omega)
    rw [show ((List.range (9*m)).map fun p=>(48+dig N (9*m - 1 - p)).toUInt8).length=9*m from by simp] at this
    exact this
   obtain ⟨str,hstr,hrun⟩:=hcv
   have HS:=Lib.hid hstr
   clear ha hstr
   go_wp2
   go_ret
   exact ⟨by rw [← HS.out]; rfl,hbl⟩
end Go.Proofs.YtncbajehmdnibaaDoor
