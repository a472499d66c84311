/- Parts of the proof. -/
import Derived.Test.YtjclllindbfmhabGreatDoorHs7
import Derived.Test.YtjclllindbfmhabGreatDoorHs10
import Derived.Test.YtjclllindbfmhabGreatDoorHs8
set_option linter.unusedSimpArgs false
set_option linter.unusedVariables false
namespace Go.Proofs.YtjclllindbfmhabGreatDoor
/- The walk of Parse. -/
open Go.RowKit
/-- Has a text a sign ahead? -/
def pB (l:List UInt8):Bool:=Lib.hasPrefix l [45]
/-- A text's digits. -/
def pD (l:List UInt8):List UInt8:=Lib.trimPrefix l [45]
/-- Is a text a number? -/
def parsesB (l:List UInt8):Bool:=wwB (pD l) (pB l)
/-- The number that a text tells. -/
def zval (l:List UInt8):Int:=sg (pB l) (dval (pD l))
theorem res_one (w:World) (t:TypeId):ResAt w (w.alloc (.cells #[.bool false,.slice none 0 0] t)) w.heap.size :=
 ⟨(Below.refl w.heap.size w).alloc (Nat.le_refl _) _,by simp [go_sem],by simp [go_sem],by simp [go_sem],by simp [go_sem],Nat.le_refl _,by simp⟩
end Go.Proofs.YtjclllindbfmhabGreatDoor

namespace Go.Proofs.YtjclllindbfmhabGreatDoor
/- The document's own numbers: decimal digits, the lowest first. The walks of its made and Parse. -/
open Go.RowKit
/-- n is how many digits N has. -/
def Fit10 (n N:Nat):Prop:=N < 10 ^ n∧(n=0∨10 ^ (n - 1)≤N)
theorem p10 (k:Nat):0 < 10 ^ k:=Nat.pow_pos (by decide)
theorem dig_top {N k:Nat} (h:N < 10 ^ (k+1)):dig N k=N / 10 ^ k:=by
 unfold dig
 exact Nat.mod_eq_of_lt (Nat.div_lt_of_lt_mul (by rw [← Nat.pow_succ]; exact h))
theorem fit10_step {N k:Nat} (hk:1≤k) (h:N < 10 ^ k) (hz:dig N (k - 1)=0):N < 10 ^ (k - 1):=by
 obtain ⟨j,rfl⟩:∃ j,k=j+1:=⟨k - 1,by omega⟩
 simp only [Nat.add_sub_cancel] at hz ⊢
 rw [dig_top h] at hz
 rcases Nat.div_eq_zero_iff.1 hz with h0 | h0
 ·
  have:=p10 j; omega
 ·
  exact h0
theorem fit10_end {N k:Nat} (hz:dig N (k - 1) ≠ 0):10 ^ (k - 1)≤N:=by
 refine Nat.le_of_not_lt fun h=>hz ?_
 unfold dig
 rw [Nat.div_eq_of_lt h]
theorem fit10_zero:Fit10 0 0:=⟨by simp,.inl rfl⟩
/-- A number of the document's: its sign, its digits in memory. -/
structure RNum (w:World) (bl:Bool) (a:Option Addr) (n c:Nat) (z:Int):Prop where
 lie:Lie .i64 w a n c (dig z.natAbs)
 fit:Fit10 n z.natAbs
 sgn:bl=decide (z < 0)
theorem RNum.only {w w':World} {bl:Bool} {a:Option Addr} {n c g:Nat} {z:Int} (h:RNum w bl a n c z) (ho:Only g w w') (hg:∀ p,a=some p→p.block ≠ g):RNum w' bl a n c z:=⟨h.lie.only ho hg,h.fit,h.sgn⟩
theorem rnum_zero (w:World):RNum w false none 0 0 0:=⟨lie_nil _ _ _,fit10_zero,rfl⟩
/-- A number is handed back whose digits lie in the memory of a. -/
def PRMade (a:Option Addr) (z:Int) (w:World) (e:Ending) (w':World):Prop :=
 ∃ (bl:Bool) (n c:Nat),e=.returned (.agg #[.bool bl,.slice a n c])∧RNum w' bl a n c z∧Below w.heap.size w w'
theorem below_one (w:World) (t:TypeId):Below w.heap.size w (w.alloc (.cells #[.bool false,.slice none 0 0] t)):=(Below.refl _ _).alloc (Nat.le_refl _) _
set_option maxHeartbeats 800000 in
theorem rmade_any (bl:Bool) (a:Option Addr) (n c N:Nat) (w:World) (hl:Lie .i64 w a n c (dig N)) (hN:N < 10 ^ n) :
  Calls Tryz.prog 67 #[.bool bl,.slice a n c] w (PRMade a (sg bl N) w):=by
 have hcm:=hl.capm
 have hnc:=hl.cap
 unfold maxLen at hcm
 have hB:=below_one w 38
 have hl1:=hl.below hB
 have hspot:=hl.spot
 go_enter Tryz.func67,Tryz.ntmps67
 go_wp2
 go_loop [5] (fun i=>∃ k:Nat,k≤n∧i=.int .i64 k∧N < 10 ^ k) (fun i=>(intOf i).toNat)
 case atStart=>exact ⟨n,Nat.le_refl _,rfl,hN⟩
 case round =>
  obtain ⟨k,hk,rfl,hNk⟩:=hrel
  have HN:=Lib.hid hNk
  clear hNk hN
  by_cases hp:0 < k
  ·
   obtain ⟨b,o,rfl,hb⟩:=hl.some_of_pos (by omega)
   have hcell:=hl1.at (k - 1) (by omega)
   by_cases hz:dig N (k - 1)=0
   ·
    have hz':((dig N (k - 1):Int) == 0)=true:=by rw [hz]; rfl
    have HZ:=Lib.hid hz
    clear hz hl hl1 hspot
    go_wp2
    go_round
    case rel=>exact ⟨k - 1,by omega,by go_num,fit10_step (by omega) HN.out HZ.out⟩
    case measure=>simp [intOf]; omega
   ·
    have hz':((dig N (k - 1):Int) == 0)=false:=by simpa using hz
    have HZ:=Lib.hid hz
    have HL:=Lib.hid (hl.cut hk)
    have HP:Hid (0 < N):=Nat.lt_of_lt_of_le (p10 _) (fit10_end HZ.out)
    clear hz hl hl1 hspot
    have hd:decide (0 < k)=true:=decide_eq_true hp
    cases bl
    ·
     go_wp2
     refine bodyPost_ret (v:=.agg #[.bool false,.slice (some ⟨b,o,none⟩) k c]) (by simp [results,Tryz.results67,go_sem]) rfl ?_
     exact ⟨false,k,c,rfl,⟨by rw [sg_abs]; exact HL.out.below ((Below.refl _ _).alloc (Nat.le_refl _) _),by rw [sg_abs]; exact ⟨HN.out,.inr (fit10_end HZ.out)⟩,(sg_neg false N HP.out).symm⟩,(Below.refl _ _).alloc (Nat.le_refl _) _⟩
    ·
     go_wp2
     refine bodyPost_ret (v:=.agg #[.bool true,.slice (some ⟨b,o,none⟩) k c]) (by simp [results,Tryz.results67,go_sem]) rfl ?_
     exact ⟨true,k,c,rfl,⟨by rw [sg_abs]; exact HL.out.below ((Below.refl _ _).alloc (Nat.le_refl _) _),by rw [sg_abs]; exact ⟨HN.out,.inr (fit10_end HZ.out)⟩,(sg_neg true N HP.out).symm⟩,(Below.refl _ _).alloc (Nat.le_refl _) _⟩
  ·
   obtain rfl:k=0:=by omega
   have hN0:N=0:=by have:=HN.out; rw [Nat.pow_zero] at this; omega
   have HL:=Lib.hid (hl.cut hk)
   have HV:Hid (sg bl N=0):=by show _=_; rw [hN0]; cases bl <;> rfl
   have hsp:∃ a':Option Addr,a'=a∧∀ p,a'=some p→p.spot=none:=⟨a,rfl,fun p hp=>(hspot p hp).1⟩
   clear hl1 hl hspot hN0
   rcases a with _ | ⟨b,o,s⟩
   ·
    obtain ⟨e1,e2⟩:=HL.out.nil rfl
    subst e2
    have hn0:n=0:=by omega
    subst hn0
    cases bl
    all_goals
     go_wp2
     refine bodyPost_ret (v:=.agg #[.bool false,.slice none 0 0]) (by simp [results,Tryz.results67,go_sem]) rfl ?_
     exact ⟨false,0,0,rfl,by rw [HV.out]; exact rnum_zero _,(Below.refl _ _).alloc (Nat.le_refl _) _⟩
   ·
    obtain ⟨a',ha',hs'⟩:=hsp
    have hss:s=none:=hs' ⟨b,o,s⟩ ha'
    subst hss
    clear ha' hs'
    cases bl
    all_goals
     go_wp2
     refine bodyPost_ret (v:=.agg #[.bool false,.slice (some ⟨b,o,none⟩) 0 c]) (by simp [results,Tryz.results67,go_sem]) rfl ?_
     refine ⟨false,0,c,rfl,?_,(Below.refl _ _).alloc (Nat.le_refl _) _⟩
     rw [HV.out]
     exact ⟨(HL.out.below ((Below.refl _ _).alloc (Nat.le_refl _) _)).congr (fun i hi=>by omega),fit10_zero,rfl⟩
end Go.Proofs.YtjclllindbfmhabGreatDoor

namespace Go.Proofs.YtjclllindbfmhabGreatDoor
/- The document's numbers: the walks of plus, less. -/
open Go.RowKit
theorem Tryz.ru36:Tryz.prog.underlying 36=some (.slice 3):=by kernel_rfl
theorem Tryz.rinfo3:(Tryz.prog.info? 3).map (fun i=>(i.zero,i.size,i.bytes))=some (some (.int .i64 0),1,8):=by kernel_rfl
theorem owned_fresh {k:IntKind} {w:World} {base:Nat} {e:TypeId} {v:Value} {n:Nat} {f:Nat→Nat} (h:w.ownsRow base e 1 v n (vals k f n)) :
  ∃ (a:Option Addr) (c:Nat),v=.slice a n c∧Lie k w a n c f∧∀ p,a=some p→base≤p.block:=by
 obtain ⟨a,c,h1,h2⟩:=lie_owned h
 refine ⟨a,c,h1,h2,fun p hp=>?_⟩
 subst h1
 exact (h.lt p.block (by rw [hp]; rfl)).1
end Go.Proofs.YtjclllindbfmhabGreatDoor

namespace Go.Proofs.YtjclllindbfmhabGreatDoor
/- The document's numbers: the walks of Sign, Cmp, Minus, Add, Sub. -/
open Go.RowKit
/-- A number of the document's is handed back whose digits lie in new memory. -/
def PRNumF (z:Int) (w:World) (e:Ending) (w':World):Prop :=
 ∃ (bl:Bool) (a:Option Addr) (n c:Nat),e=.returned (.agg #[.bool bl,.slice a n c])∧RNum w' bl a n c z∧(∀ p,a=some p→w.heap.size≤p.block)∧Below w.heap.size w w'
theorem rnumf_store {w w3:World} {bl:Bool} {a:Option Addr} {n c r:Nat} {z:Int} (hn:RNum w3 bl a n c z) (hB:Below w.heap.size w w3) (hr:w.heap.size≤r) (hfr:∀ p,a=some p→r < p.block) :
  PRNumF z w (.returned (.agg #[.bool bl,.slice a n c])) ((w3.setCell ⟨r,0,none⟩ (.bool bl)).setCell ⟨r,1,none⟩ (.slice a n c)) :=
 ⟨bl,a,n,c,rfl,hn.only (only2 _ _ _ _) (fun p hp=>by have:=hfr p hp; omega),(fun p hp=>by have:=hfr p hp; omega),hB.trans ((only2 _ _ _ _).below hr)⟩
end Go.Proofs.YtjclllindbfmhabGreatDoor

namespace Go.Proofs.YtjclllindbfmhabGreatDoor
/- The walk of String. -/
open Go.RowKit
/-- The text l is the number z. -/
def Txt (z:Int) (l:List UInt8):Prop:=parsesB l=true∧zval l=z
theorem dval_cons (c:UInt8) (l:List UInt8):dval (c :: l)=(c.toNat - 48)*10 ^ l.length+dval l:=by
 rw [show c :: l=[c]++l from rfl,dval_append]; unfold dval; rw [dvalF_cons,dvalF_nil,Nat.zero_mul,Nat.zero_add]
def padL (N K:Nat):List UInt8:=(List.range K).map fun p=>(48+dig N (K - 1 - p)).toUInt8
theorem padL_succ (N K:Nat):padL N (K+1)=(48+dig N K).toUInt8 :: padL N K:=by
 unfold padL
 rw [List.range_succ_eq_map,List.map_cons,List.map_map]
 congr 1
 refine List.map_congr_left fun p hp=>?_
 show (48+dig N (K+1 - 1 - (p+1))).toUInt8=_
 rw [show K+1 - 1 - (p+1)=K - 1 - p from by omega]
theorem byte_dig (N K:Nat):((48+dig N K).toUInt8).toNat=48+dig N K:=by
 have:=dig_lt N K
 show (48+dig N K) % 256=_
 omega
theorem padL_len (N K:Nat):(padL N K).length=K:=by simp [padL]
theorem padL_all (N K:Nat):(padL N K).all isDig=true:=by
 rw [List.all_eq_true]
 intro c hc
 obtain ⟨p,_,rfl⟩:=List.mem_map.1 hc
 have:=dig_lt N (K - 1 - p)
 unfold isDig
 rw [byte_dig]
 exact decide_eq_true (by omega)
theorem padL_val (N K:Nat):dval (padL N K)=N % 10 ^ K:=by
 induction K with
 | zero=>rw [Nat.pow_zero,Nat.mod_one]; unfold dval; exact dvalF_nil 0
 | succ K ih =>
  rw [padL_succ,dval_cons,padL_len,byte_dig,ih,Nat.mod_pow_succ,Nat.add_sub_cancel_left,Nat.mul_comm,Nat.add_comm]; rfl
theorem drop_val (l:List UInt8):dval (l.dropWhile (· == 48))=dval l:=by
 induction l with
 | nil=>rfl
 | cons c l ih =>
  rw [List.dropWhile_cons]
  split
  ·
   rename_i h
   have:c=48:=by simpa using h
   subst this
   rw [ih,dval_cons]
   simp
  ·
   rfl
theorem drop_all {l:List UInt8} (h:l.all isDig=true):(l.dropWhile (· == 48)).all isDig=true:=by
 rw [List.all_eq_true] at h ⊢
 exact fun c hc=>h c ((List.dropWhile_sublist _).subset hc)
theorem drop_head (l:List UInt8):(l.dropWhile (· == 48)).head? ≠ some 48:=by
 induction l with
 | nil=>simp
 | cons c l ih =>
  rw [List.dropWhile_cons]
  split
  ·
   exact ih
  ·
   rename_i h
   intro e
   simp at e
   simp [e] at h
/-- What is told of digits without noughts ahead. -/
structure Plain (N:Nat) (l:List UInt8):Prop where
 dig:l.all isDig=true
 val:dval l=N
 ne:l.isEmpty=false
 head:l.head? ≠ some 48
theorem plain_drop {N K:Nat} (hN:0 < N) (hK:N < 10 ^ K):Plain N ((padL N K).dropWhile (· == 48)):=by
 have hv:dval ((padL N K).dropWhile (· == 48))=N:=by rw [drop_val,padL_val,Nat.mod_eq_of_lt hK]
 refine ⟨drop_all (padL_all N K),hv,?_,drop_head _⟩
 cases h:(padL N K).dropWhile (· == 48) with
 | nil=>rw [h] at hv; unfold dval at hv; rw [dvalF_nil] at hv; omega
 | cons c l=>rfl
theorem Plain.ww {N:Nat} {l:List UInt8} (h:Plain N l) (b:Bool):wwB l b=true:=by
 have h4:(l.head? != some 48)=true:=by simpa using h.head
 simp only [wwB,h.ne,h.dig,h4]; rfl
theorem Plain.no45 {N:Nat} {l:List UInt8} (h:Plain N l):Lib.hasPrefix l [45]=false:=by
 cases l with
 | nil=>rfl
 | cons c l =>
  have:=isDig_le ((List.all_eq_true.1 h.dig) c (by simp))
  unfold Lib.hasPrefix
  simp only [List.isPrefixOf,Bool.and_true]
  rw [beq_eq_false_iff_ne]
  intro e
  subst e
  have h45:(45:UInt8).toNat=45:=rfl
  omega
theorem txt_pos {N:Nat} {l:List UInt8} (h:Plain N l):Txt (N:Int) l:=by
 have e1:pB l=false:=h.no45
 have e2:pD l=l:=by unfold pD Lib.trimPrefix; rw [h.no45]; rfl
 refine ⟨?_,?_⟩
 ·
  unfold parsesB; rw [e1,e2]; exact h.ww _
 ·
  unfold zval; rw [e1,e2,h.val]; rfl
theorem txt_neg {N:Nat} {l:List UInt8} (h:Plain N l):Txt (-(N:Int)) (45 :: l):=by
 have e1:pB (45 :: l)=true:=by unfold pB Lib.hasPrefix; simp [List.isPrefixOf]
 have e2:pD (45 :: l)=l:=by
  have:Lib.hasPrefix (45 :: l) [45]=true:=e1
  unfold pD Lib.trimPrefix; rw [this]; rfl
 refine ⟨?_,?_⟩
 ·
  unfold parsesB; rw [e1,e2]; exact h.ww _
 ·
  unfold zval; rw [e1,e2,h.val]; rfl
/-- A number's text is handed back. -/
def PTxt (z:Int) (w:World) (e:Ending) (w':World):Prop:=∃ l:List UInt8,e=.returned (.string ⟨l.toArray⟩)∧Txt z l∧Below w.heap.size w w'
set_option maxHeartbeats 800000 in
theorem String_zero (bl:Bool) (a:Option Addr) (n c:Nat) (w:World) (h:Num w bl a n c 0) :
  Calls Tryz.prog 14 #[.agg #[.bool bl,.slice a n c]] w (PTxt 0 w):=by
 have hB:=(Below.refl w.heap.size w).alloc (Nat.le_refl _) (.cells #[.bool bl,.slice a n c] 30)
 go_enter Tryz.func14,Tryz.ntmps14
 go_wp2_with fail
 refine (Sign_any bl a n c 0 _ (h.below hB)).mono ?_
 rintro e w1 ⟨rfl,hb1⟩
 rw [show sgnI 0=0 from rfl]
 go_wp2
 go_ret
 exact ⟨[48],rfl,⟨by decide,by decide⟩,hB.trans (hb1.mono (by simp))⟩
set_option maxHeartbeats 800000 in
theorem String_any (bl:Bool) (a:Option Addr) (n c:Nat) (z:Int) (w:World) (h:Num w bl a n c z) (hn:n≤10000000) (hz:z ≠ 0) :
  Calls Tryz.prog 14 #[.agg #[.bool bl,.slice a n c]] w (PTxt z w):=by
 have H:=Lib.hid h
 have HZ:=Lib.hid hz
 have hsy:(sgnI z == 0)=false:=by unfold sgnI; (repeat' split) <;> simp_all
 clear h hz
 go_enter Tryz.func14,Tryz.ntmps14
 go_wp2_with fail
 have hB:=(Below.refl w.heap.size w).alloc (Nat.le_refl _) (.cells #[.bool bl,.slice a n c] 30)
 have k0:(w.alloc (.cells #[.bool bl,.slice a n c] 30)).cell? ⟨w.heap.size,0,none⟩=some (.bool bl):=by simp [go_sem]
 have k1:(w.alloc (.cells #[.bool bl,.slice a n c] 30)).cell? ⟨w.heap.size,1,none⟩=some (.slice a n c):=by simp [go_sem]
 have hsz:w.heap.size < (w.alloc (.cells #[.bool bl,.slice a n c] 30)).heap.size:=by simp
 generalize w.alloc (.cells #[.bool bl,.slice a n c] 30)=w1 at *
 refine (Sign_any bl a n c z _ (H.out.below hB)).mono ?_
 rintro e w2 ⟨rfl,hb2⟩
 have k1':=(hb2.cell (p:=⟨w.heap.size,1,none⟩) hsz).trans k1
 have hB2:=hB.trans (hb2.mono hB.size)
 clear k1
 go_wp2_with fail
 refine (groupsOf_any a n c z.natAbs _ (H.out.lie.below hB2) H.out.fit hn).mono ?_
 rintro e w3 ⟨ga,gi,gc,rfl,hlg,hlt,hgi,hb3⟩
 have HLT:=Lib.hid hlt
 clear k1' hlt
 go_wp2_with fail
 refine (written_any ga gi gc z.natAbs _ hlg (by omega)).mono ?_
 rintro e w4 ⟨rfl,hb4⟩
 obtain ⟨str,hstr⟩:∃ str:ByteArray,str=⟨((List.range (9*gi)).map fun p=>(48+dig z.natAbs (9*gi - 1 - p)).toUInt8).toArray⟩:=⟨_,rfl⟩
 rw [← hstr]
 have HSTR:=Lib.hid hstr
 clear hlg hstr
 go_wp2_with fail
 refine (Tryz.strings_TrimLeft_one _ 48 (by decide) _).mono ?_
 rintro e w5 ⟨rfl,hw⟩
 subst hw
 have hpl:Plain z.natAbs ((padL z.natAbs (9*gi)).dropWhile (· == 48)):=plain_drop (by have:=HZ.out; omega) (by rw [Nat.pow_mul]; exact HLT.out)
 have e1:Lib.trimLeftB str.data.toList 48=(padL z.natAbs (9*gi)).dropWhile (· == 48):=by rw [HSTR.out]; rfl
 rw [e1]
 have hll:((padL z.natAbs (9*gi)).dropWhile (· == 48)).length≤9*gi:=Nat.le_trans (List.dropWhile_sublist _).length_le (by rw [padL_len]; exact Nat.le_refl _)
 clear e1
 generalize (padL z.natAbs (9*gi)).dropWhile (· == 48)=l at *
 have HPL:=Lib.hid hpl
 have hb24:Below w2.heap.size w2 w5:=hb3.trans (hb4.mono hb3.size)
 have hB4:=hB2.trans (hb24.mono hB2.size)
 have k04:=((hb2.trans (hb24.mono hb2.size)).cell (p:=⟨w.heap.size,0,none⟩) hsz).trans k0
 clear k0 hpl
 have hsg:=H.out.sgn
 cases bl
 ·
  have HV:Hid ((z.natAbs:Int)=z):=by show _=_; simp at hsg; omega
  clear hsg
  go_wp2
  go_ret
  exact ⟨l,rfl,by rw [← HV.out]; exact txt_pos HPL.out,hB4⟩
 ·
  have HV:Hid (-(z.natAbs:Int)=z):=by show _=_; simp at hsg; omega
  clear hsg
  go_wp2
  go_ret
  exact ⟨45 :: l,by congr 2,by rw [← HV.out]; exact txt_neg HPL.out,hB4⟩
end Go.Proofs.YtjclllindbfmhabGreatDoor

namespace Go.Proofs.YtjclllindbfmhabGreatDoor
/- Texts of numbers: each number has one. -/
open Go.RowKit
theorem dval_inj:∀ (l m:List UInt8),l.length=m.length→l.all isDig=true→m.all isDig=true→dval l=dval m→l=m:=by
 intro l
 induction l with
 | nil=>intro m hm _ _ _; exact (List.eq_nil_of_length_eq_zero hm.symm).symm
 | cons c l ih =>
  intro m hm hl hma hv
  cases m with
  | nil=>simp at hm
  | cons d m =>
   rw [List.all_cons,Bool.and_eq_true] at hl hma
   simp only [List.length_cons,Nat.add_right_cancel_iff] at hm
   have h1:=dval_lt l hl.2
   have h2:=dval_lt m hma.2
   have h3:=isDig_le hl.1
   have h4:=isDig_le hma.1
   rw [dval_cons,dval_cons,hm] at hv
   rw [hm] at h1
   generalize 10 ^ m.length=X at *
   have hcd:c.toNat - 48=d.toNat - 48:=by
    rcases Nat.lt_trichotomy (c.toNat - 48) (d.toNat - 48) with h | h | h
    ·
     have:=Nat.mul_le_mul_right X (show c.toNat - 48+1≤d.toNat - 48 from h)
     rw [Nat.add_mul] at this; omega
    ·
     exact h
    ·
     have:=Nat.mul_le_mul_right X (show d.toNat - 48+1≤c.toNat - 48 from h)
     rw [Nat.add_mul] at this; omega
   rw [hcd] at hv
   rw [ih m hm hl.2 hma.2 (by omega),UInt8.toNat.inj (show c.toNat=d.toNat by omega)]
theorem dval_ge {l:List UInt8} (hd:l.all isDig=true) (hne:l.isEmpty=false) (hh:l.head? ≠ some 48):10 ^ (l.length - 1)≤dval l:=by
 cases l with
 | nil=>cases hne
 | cons c l =>
  rw [List.all_cons,Bool.and_eq_true] at hd
  have h3:=isDig_le hd.1
  have hc:c.toNat ≠ 48:=fun e=>hh (by rw [List.head?_cons]; congr 1; exact UInt8.toNat.inj (by rw [e]; rfl))
  rw [dval_cons,List.length_cons,Nat.add_sub_cancel]
  have:=Nat.mul_le_mul_right (10 ^ l.length) (show 1≤c.toNat - 48 by omega)
  omega
theorem plain_uniq {N:Nat} {l m:List UInt8} (h:Plain N l) (k:Plain N m):l=m:=by
 have a1:=dval_ge h.dig h.ne h.head
 have a2:=dval_ge k.dig k.ne k.head
 have b1:=dval_lt l h.dig
 have b2:=dval_lt m k.dig
 rw [h.val] at a1 b1
 rw [k.val] at a2 b2
 have hl:0 < l.length:=by cases l with
  | nil=>have:=h.ne; cases this
  | cons c l=>simp
 have hm:0 < m.length:=by cases m with
  | nil=>have:=k.ne; cases this
  | cons c l=>simp
 have key:∀ i j:Nat,10 ^ (i - 1)≤N→N < 10 ^ j→0 < i→i≤j:=fun i j h1 h2 h0=>by
  have:10 ^ (i - 1) < 10 ^ j:=Nat.lt_of_le_of_lt h1 h2
  have:=(Nat.pow_lt_pow_iff_right (by decide:1 < 10)).1 this
  omega
 refine dval_inj l m ?_ h.dig k.dig (by rw [h.val,k.val])
 have:=key _ _ a1 b2 hl
 have:=key _ _ a2 b1 hm
 omega
/-- What a text that is a number is made of. -/
theorem parts_of {l:List UInt8} (h:parsesB l=true):(l=[48]∧zval l=0)∨(∃ d,l=d∧0 < dval d∧Plain (dval d) d∧zval l=(dval d:Int))∨(∃ d,l=45 :: d∧0 < dval d∧Plain (dval d) d∧zval l=-(dval d:Int)):=by
 unfold parsesB at h
 have hz:zval l=sg (pB l) (dval (pD l)):=rfl
 have hl:l=if pB l=true then 45 :: pD l else pD l:=by
  unfold pD pB Lib.trimPrefix
  by_cases hp:Lib.hasPrefix l [45]=true
  ·
   rw [if_pos hp,if_pos hp]
   unfold Lib.hasPrefix at hp
   cases l with
   | nil=>simp [List.isPrefixOf] at hp
   | cons c l=>simp [List.isPrefixOf] at hp; subst hp; rfl
  ·
   rw [if_neg hp,if_neg hp]
 generalize pB l=b at *
 generalize pD l=d at *
 have hw:=h
 unfold wwB at hw
 simp only [Bool.and_eq_true,Bool.or_eq_true,Bool.not_eq_true'] at hw
 obtain ⟨⟨hne,hdg⟩,hh⟩:=hw
 by_cases h48:d.head?=some 48
 ·
  rcases hh with hh | hh
  ·
   simp [h48] at hh
  ·
   obtain ⟨h1,h2⟩:=hh
   subst h2
   have hd:d=[48]:=by
    cases d with
    | nil=>cases hne
    | cons c d=>simp at h1 h48; subst h1; subst h48; rfl
   subst hd
   left
   refine ⟨by simpa using hl,?_⟩
   rw [hz]; rfl
 ·
  have hp:Plain (dval d) d:=⟨hdg,rfl,hne,h48⟩
  have hpos:0 < dval d:=Nat.lt_of_lt_of_le (Nat.pow_pos (by decide)) (dval_ge hdg hne h48)
  right
  cases b
  ·
   left; exact ⟨d,by simpa using hl,hpos,hp,hz⟩
  ·
   right; exact ⟨d,by simpa using hl,hpos,hp,hz⟩
theorem txt_uniq {z:Int} {l m:List UInt8} (h:Txt z l) (k:Txt z m):l=m:=by
 have e:=h.2.trans k.2.symm
 rcases parts_of h.1 with ⟨rfl,h1⟩ | ⟨d,rfl,h0,hp,h1⟩ | ⟨d,rfl,h0,hp,h1⟩ <;> rcases parts_of k.1 with ⟨rfl,k1⟩ | ⟨d',rfl,k0,kp,k1⟩ | ⟨d',rfl,k0,kp,k1⟩
 ·
  rfl
 ·
  rw [h1,k1] at e; omega
 ·
  rw [h1,k1] at e; omega
 ·
  rw [h1,k1] at e; omega
 ·
  rw [h1,k1] at e
  have ed:dval l=dval m:=by omega
  rw [ed] at hp
  exact plain_uniq hp kp
 ·
  rw [h1,k1] at e; omega
 ·
  rw [h1,k1] at e; omega
 ·
  rw [h1,k1] at e; omega
 ·
  rw [h1,k1] at e
  have ed:dval d=dval d':=by omega
  rw [ed] at hp
  rw [plain_uniq hp kp]
end Go.Proofs.YtjclllindbfmhabGreatDoor

namespace Go.Proofs.YtjclllindbfmhabGreatDoor
/- What package long's calls do, said of variables that hold numbers. -/
open Go.RowKit
theorem num_len {w:World} {bl:Bool} {a:Option Addr} {n c k:Nat} {z:Int} (h:Num w bl a n c z) (hz:z.natAbs < BB ^ k) (hk:k≤9000000):n≤9000000:=Nat.le_trans (fit_le h.fit hz) hk
theorem below_new (w:World) (o:Obj):Below w.heap.size w (w.alloc o):=(Below.refl _ _).alloc (Nat.le_refl _) _
theorem String_all (bl:Bool) (a:Option Addr) (n c:Nat) (z:Int) (w:World) (h:Num w bl a n c z) (hn:n≤10000000) :
  Calls Tryz.prog 14 #[.agg #[.bool bl,.slice a n c]] w (PTxt z w):=by
 by_cases hz:z=0
 ·
  subst hz; exact String_zero bl a n c w h
 ·
  exact String_any bl a n c z w h hn hz
end Go.Proofs.YtjclllindbfmhabGreatDoor
