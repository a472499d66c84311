/- Parts of the proof. -/
import Derived.Test.YtncbajehmdnibaaDoorHp7
import Derived.Test.YtncbajehmdnibaaDoorHp10
import Derived.Test.YtncbajehmdnibaaDoorHp8
set_option linter.unusedSimpArgs false
set_option linter.unusedVariables false
/- The walk of Parse. -/
namespace Go.Proofs.YtncbajehmdnibaaDoor
open Go.RowKit
/-- Has a text a sign ahead? -/
def pB (l:List UInt8):Bool:=Lib.hasPrefix l [45]
/-- A text's digits. -/
def pD (l:List UInt8):List UInt8:=Lib.trimPrefix l [45]
/-- Is a text a number? -/
def parsesB (l:List UInt8):Bool:=wwB (pD l) (pB l)
/-- The number that a text tells. -/
def zval (l:List UInt8):Int:=sg (pB l) (dval (pD l))
theorem res_one (w:World) (t:TypeId):ResAt w (w.alloc (.cells #[.bool false,.slice none 0 0] t)) w.heap.size :=
 ⟨(Below.refl w.heap.size w).alloc (Nat.le_refl _) _,by simp [go_sem],by simp [go_sem],by simp [go_sem],by simp [go_sem],Nat.le_refl _,by simp⟩
end Go.Proofs.YtncbajehmdnibaaDoor

/- The document's own numbers: decimal digits, the lowest first. The walks of its made and Parse. -/
namespace Go.Proofs.YtncbajehmdnibaaDoor
open Go.RowKit
/-- n is how many digits N has. -/
def Fit10 (n N:Nat):Prop:=N < 10 ^ n∧(n=0∨10 ^ (n - 1)≤N)
theorem p10 (k:Nat):0 < 10 ^ k:=Nat.pow_pos (by decide)
theorem dig_top {N k:Nat} (h:N < 10 ^ (k+1)):dig N k=N / 10 ^ k:=by
 unfold dig
 exact Nat.mod_eq_of_lt (Nat.div_lt_of_lt_mul (by rw [← Nat.pow_succ]; exact h))
theorem dig_zero {B m i:Nat} (h:B < 10 ^ m) (hi:m≤i):dig B i=0:=by
 unfold dig
 rw [Nat.div_eq_of_lt (Nat.lt_of_lt_of_le h (Nat.pow_le_pow_right (by decide) hi))]
theorem fit10_step {N k:Nat} (hk:1≤k) (h:N < 10 ^ k) (hz:dig N (k - 1)=0):N < 10 ^ (k - 1):=by
 obtain ⟨j,rfl⟩:∃ j,k=j+1:=⟨k - 1,by omega⟩
 simp only [Nat.add_sub_cancel] at hz ⊢
 rw [dig_top h] at hz
 rcases Nat.div_eq_zero_iff.1 hz with h0 | h0
 ·
  have:=p10 j; omega
 ·
  exact h0
theorem fit10_end {N k:Nat} (hz:dig N (k - 1) ≠ 0):10 ^ (k - 1)≤N:=by
 refine Nat.le_of_not_lt fun h=>hz ?_
 unfold dig
 rw [Nat.div_eq_of_lt h]
theorem fit10_zero:Fit10 0 0:=⟨by simp,.inl rfl⟩
theorem fit10_pos {n N:Nat} (h:Fit10 n N):n=0↔N=0:=by
 constructor
 ·
  intro e; subst e; have:=h.1; simp at this; exact this
 ·
  intro e; subst e
  rcases h.2 with h0 | h0
  ·
   exact h0
  ·
   have:=p10 (n - 1); omega
/-- A number of the document's: its sign, its digits in memory. -/
structure RNum (w:World) (bl:Bool) (a:Option Addr) (n c:Nat) (z:Int):Prop where
 lie:Lie .i64 w a n c (dig z.natAbs)
 fit:Fit10 n z.natAbs
 sgn:bl=decide (z < 0)
theorem RNum.below {w w':World} {bl:Bool} {a:Option Addr} {n c:Nat} {z:Int} (h:RNum w bl a n c z) (hb:Below w.heap.size w w'):RNum w' bl a n c z:=⟨h.lie.below hb,h.fit,h.sgn⟩
theorem RNum.only {w w':World} {bl:Bool} {a:Option Addr} {n c g:Nat} {z:Int} (h:RNum w bl a n c z) (ho:Only g w w') (hg:∀ p,a=some p→p.block ≠ g):RNum w' bl a n c z:=⟨h.lie.only ho hg,h.fit,h.sgn⟩
theorem rnum_zero (w:World):RNum w false none 0 0 0:=⟨lie_nil _ _ _,fit10_zero,rfl⟩
/-- A number is handed back whose digits lie in the memory of a. -/
def PRMade (a:Option Addr) (z:Int) (w:World) (e:Ending) (w':World):Prop :=
 ∃ (bl:Bool) (n c:Nat),e=.returned (.agg #[.bool bl,.slice a n c])∧RNum w' bl a n c z∧Below w.heap.size w w'
theorem below_one (w:World) (t:TypeId):Below w.heap.size w (w.alloc (.cells #[.bool false,.slice none 0 0] t)):=(Below.refl _ _).alloc (Nat.le_refl _) _
set_option maxHeartbeats 800000 in
theorem rmade_any (bl:Bool) (a:Option Addr) (n c N:Nat) (w:World) (hl:Lie .i64 w a n c (dig N)) (hN:N < 10 ^ n) :
  Calls Tryd.prog 37 #[.bool bl,.slice a n c] w (PRMade a (sg bl N) w):=by
 have hcm:=hl.capm
 have hnc:=hl.cap
 unfold maxLen at hcm
 have hB:=below_one w 51
 have hl1:=hl.below hB
 have hspot:=hl.spot
 go_enter Tryd.func37,Tryd.ntmps37
 go_wp2
 go_loop [5] (fun i=>∃ k:Nat,k≤n∧i=.int .i64 k∧N < 10 ^ k) (fun i=>(intOf i).toNat)
 case atStart=>exact ⟨n,Nat.le_refl _,rfl,hN⟩
 case round =>
  obtain ⟨k,hk,rfl,hNk⟩:=hrel
  have HN:=Lib.hid hNk
  clear hNk hN
  by_cases hp:0 < k
  ·
   obtain ⟨b,o,rfl,hb⟩:=hl.some_of_pos (by omega)
   have hcell:=hl1.at (k - 1) (by omega)
   by_cases hz:dig N (k - 1)=0
   ·
    have hz':((dig N (k - 1):Int) == 0)=true:=by rw [hz]; rfl
    have HZ:=Lib.hid hz
    clear hz hl hl1 hspot
    go_wp2
    go_round
    case rel=>exact ⟨k - 1,by omega,by go_num,fit10_step (by omega) HN.out HZ.out⟩
    case measure=>simp [intOf]; omega
   ·
    have hz':((dig N (k - 1):Int) == 0)=false:=by simpa using hz
    have HZ:=Lib.hid hz
    have HL:=Lib.hid (hl.cut hk)
    have HP:Hid (0 < N):=Nat.lt_of_lt_of_le (p10 _) (fit10_end HZ.out)
    clear hz hl hl1 hspot
    have hd:decide (0 < k)=true:=decide_eq_true hp
    cases bl
    ·
     go_wp2
     refine bodyPost_ret (v:=.agg #[.bool false,.slice (some ⟨b,o,none⟩) k c]) (by simp [results,Tryd.results37,go_sem]) rfl ?_
     exact ⟨false,k,c,rfl,⟨by rw [sg_abs]; exact HL.out.below ((Below.refl _ _).alloc (Nat.le_refl _) _),by rw [sg_abs]; exact ⟨HN.out,.inr (fit10_end HZ.out)⟩,(sg_neg false N HP.out).symm⟩,(Below.refl _ _).alloc (Nat.le_refl _) _⟩
    ·
     go_wp2
     refine bodyPost_ret (v:=.agg #[.bool true,.slice (some ⟨b,o,none⟩) k c]) (by simp [results,Tryd.results37,go_sem]) rfl ?_
     exact ⟨true,k,c,rfl,⟨by rw [sg_abs]; exact HL.out.below ((Below.refl _ _).alloc (Nat.le_refl _) _),by rw [sg_abs]; exact ⟨HN.out,.inr (fit10_end HZ.out)⟩,(sg_neg true N HP.out).symm⟩,(Below.refl _ _).alloc (Nat.le_refl _) _⟩
  ·
   obtain rfl:k=0:=by omega
   have hN0:N=0:=by have:=HN.out; rw [Nat.pow_zero] at this; omega
   have HL:=Lib.hid (hl.cut hk)
   have HV:Hid (sg bl N=0):=by show _=_; rw [hN0]; cases bl <;> rfl
   have hsp:∃ a':Option Addr,a'=a∧∀ p,a'=some p→p.spot=none:=⟨a,rfl,fun p hp=>(hspot p hp).1⟩
   clear hl1 hl hspot hN0
   rcases a with _ | ⟨b,o,s⟩
   ·
    obtain ⟨e1,e2⟩:=HL.out.nil rfl
    subst e2
    have hn0:n=0:=by omega
    subst hn0
    cases bl
    all_goals
     go_wp2
     refine bodyPost_ret (v:=.agg #[.bool false,.slice none 0 0]) (by simp [results,Tryd.results37,go_sem]) rfl ?_
     exact ⟨false,0,0,rfl,by rw [HV.out]; exact rnum_zero _,(Below.refl _ _).alloc (Nat.le_refl _) _⟩
   ·
    obtain ⟨a',ha',hs'⟩:=hsp
    have hss:s=none:=hs' ⟨b,o,s⟩ ha'
    subst hss
    clear ha' hs'
    cases bl
    all_goals
     go_wp2
     refine bodyPost_ret (v:=.agg #[.bool false,.slice (some ⟨b,o,none⟩) 0 c]) (by simp [results,Tryd.results37,go_sem]) rfl ?_
     refine ⟨false,0,c,rfl,?_,(Below.refl _ _).alloc (Nat.le_refl _) _⟩
     rw [HV.out]
     exact ⟨(HL.out.below ((Below.refl _ _).alloc (Nat.le_refl _) _)).congr (fun i hi=>by omega),fit10_zero,rfl⟩
end Go.Proofs.YtncbajehmdnibaaDoor

/- The document's numbers: what digits make. -/
namespace Go.Proofs.YtncbajehmdnibaaDoor
open Go.RowKit
theorem tmod_succ (N i:Nat):N % 10 ^ (i+1)=N % 10 ^ i+10 ^ i*dig N i:=Nat.mod_pow_succ
theorem tcmp_len_lt {n m A B:Nat} (ha:Fit10 n A) (hb:Fit10 m B) (h:n < m):cmpN A B=-1:=by
 have:A < B:=by
  rcases hb.2 with h0 | h0
  ·
   omega
  ·
   have h1:10 ^ n≤10 ^ (m - 1):=Nat.pow_le_pow_right (by decide:0 < 10) (by omega)
   have:=ha.1
   omega
 simp [cmpN,this]
theorem tcmp_len_gt {n m A B:Nat} (ha:Fit10 n A) (hb:Fit10 m B) (h:m < n):cmpN A B=1:=by
 have:B < A:=by
  rcases ha.2 with h0 | h0
  ·
   omega
  ·
   have h1:10 ^ m≤10 ^ (n - 1):=Nat.pow_le_pow_right (by decide:0 < 10) (by omega)
   have:=hb.1
   omega
 have h2:¬ A < B:=by omega
 simp [cmpN,this,h2]
theorem tup_split (N k:Nat):N / 10 ^ k=dig N k+10*(N / 10 ^ (k+1)):=by
 unfold dig
 rw [Nat.pow_succ,← Nat.div_div_eq_div_mul]
 exact (Nat.mod_add_div _ _).symm
theorem tcmp_up {A B k:Nat} (h:A / 10 ^ (k+1)=B / 10 ^ (k+1)) :
  (dig A k < dig B k→cmpN A B=-1)∧(dig B k < dig A k→cmpN A B=1)∧(dig A k=dig B k→A / 10 ^ k=B / 10 ^ k):=by
 have ha:=tup_split A k
 have hb:=tup_split B k
 rw [h] at ha
 refine ⟨fun hl=>?_,fun hl=>?_,fun he=>by rw [ha,hb,he]⟩
 ·
  have h1:A / 10 ^ k < B / 10 ^ k:=by omega
  have h2:A < B:=Nat.lt_of_not_le fun hc=>by have:=Nat.div_le_div_right (c:=10 ^ k) hc; omega
  simp [cmpN,h2]
 ·
  have h1:B / 10 ^ k < A / 10 ^ k:=by omega
  have h2:B < A:=Nat.lt_of_not_le fun hc=>by have:=Nat.div_le_div_right (c:=10 ^ k) hc; omega
  have h3:¬ A < B:=by omega
  simp [cmpN,h2,h3]
theorem tcmp_all {A B:Nat} (h:A / 10 ^ 0=B / 10 ^ 0):cmpN A B=0:=by
 simp at h; subst h; simp [cmpN]
/-- What a sum carries into its i-th part. -/
def tcy (A B i:Nat):Nat:=(A % 10 ^ i+B % 10 ^ i) / 10 ^ i
theorem tcy_zero (A B:Nat):tcy A B 0=0:=by simp [tcy,Nat.mod_one]
theorem tcy_le (A B i:Nat):tcy A B i≤1:=by
 unfold tcy
 have h1:=Nat.mod_lt A (p10 i)
 have h2:=Nat.mod_lt B (p10 i)
 exact Nat.le_of_lt_succ (Nat.div_lt_of_lt_mul (by omega))
theorem tcy_step (A B i:Nat):(tcy A B i+dig A i+dig B i) % 10=dig (A+B) i∧(tcy A B i+dig A i+dig B i) / 10=tcy A B (i+1):=by
 have hP:=p10 i
 have e1:(A+B) / 10 ^ i=A / 10 ^ i+B / 10 ^ i+tcy A B i:=by
  unfold tcy
  have ha:=Nat.div_add_mod A (10 ^ i)
  have hb:=Nat.div_add_mod B (10 ^ i)
  have hs:A+B=(A % 10 ^ i+B % 10 ^ i)+10 ^ i*(A / 10 ^ i+B / 10 ^ i):=by rw [Nat.mul_add]; omega
  rw [hs,Nat.add_mul_div_left _ _ hP]; omega
 have e2:(A % 10 ^ (i+1)+B % 10 ^ (i+1)) / 10 ^ i=tcy A B i+dig A i+dig B i:=by
  rw [tmod_succ,tmod_succ]
  have hs:A % 10 ^ i+10 ^ i*dig A i+(B % 10 ^ i+10 ^ i*dig B i)=(A % 10 ^ i+B % 10 ^ i)+10 ^ i*(dig A i+dig B i):=by rw [Nat.mul_add]; omega
  rw [hs,Nat.add_mul_div_left _ _ hP]; unfold tcy; omega
 constructor
 ·
  show _ % 10=_
  conv=>rhs; unfold dig
  rw [e1]
  have ha:A / 10 ^ i % 10=dig A i:=rfl
  have hb:B / 10 ^ i % 10=dig B i:=rfl
  rw [← ha,← hb]
  omega
 ·
  show _ / 10=_
  rw [← e2,Nat.div_div_eq_div_mul]; rfl
theorem tlmb_zero {B m i:Nat} (h:B < 10 ^ m) (hi:m≤i):dig B i=0:=by
 unfold dig
 rw [Nat.div_eq_of_lt (Nat.lt_of_lt_of_le h (Nat.pow_le_pow_right (by decide:0 < 10) hi))]
theorem tfit_mono {m n B:Nat} (h:B < 10 ^ m) (hm:m≤n):B < 10 ^ n:=Nat.lt_of_lt_of_le h (Nat.pow_le_pow_right (by decide:0 < 10) hm)
/-- What a difference borrows from its i-th part. -/
def tbw (A B i:Nat):Nat:=if A % 10 ^ i < B % 10 ^ i then 1 else 0
theorem tbw_zero (A B:Nat):tbw A B 0=0:=by simp [tbw,Nat.mod_one]
theorem tbw_le (A B i:Nat):tbw A B i≤1:=by unfold tbw; split <;> omega
theorem tbw_next (A B i:Nat):tbw A B (i+1)=if dig A i < tbw A B i+dig B i then 1 else 0:=by
 have h1:=Nat.mod_lt A (p10 i)
 have h2:=Nat.mod_lt B (p10 i)
 have key:A % 10 ^ (i+1) < B % 10 ^ (i+1)↔dig A i < tbw A B i+dig B i:=by
  rw [tmod_succ,tmod_succ]
  unfold tbw
  generalize dig A i=a
  generalize dig B i=b
  generalize hP:10 ^ i=P at *
  generalize A % P=x at *
  generalize B % P=y at *
  rcases Nat.lt_trichotomy a b with h | h | h
  ·
   have:=Nat.mul_le_mul_left P (show a+1≤b from h)
   rw [Nat.mul_add] at this
   split <;> omega
  ·
   subst h; split <;> omega
  ·
   have:=Nat.mul_le_mul_left P (show b+1≤a from h)
   rw [Nat.mul_add] at this
   split <;> omega
 unfold tbw at key ⊢
 simp only [key]
theorem tbw_part {A B:Nat} (h:B≤A) (i:Nat):dig (A - B) i=(dig A i+20 - (tbw A B i+dig B i)) % 10:=by
 have h1:=Nat.mod_lt A (p10 i)
 have h2:=Nat.mod_lt B (p10 i)
 have ha:=Nat.div_add_mod A (10 ^ i)
 have hb:=Nat.div_add_mod B (10 ^ i)
 have hd:(A - B) / 10 ^ i=A / 10 ^ i - B / 10 ^ i - tbw A B i∧B / 10 ^ i+tbw A B i≤A / 10 ^ i:=by
  have hle:B / 10 ^ i≤A / 10 ^ i:=Nat.div_le_div_right h
  unfold tbw
  generalize hP:10 ^ i=P at *
  generalize A % P=x at *
  generalize B % P=y at *
  generalize A / P=qa at *
  generalize B / P=qb at *
  obtain ⟨d,rfl⟩:=Nat.exists_eq_add_of_le hle
  rw [Nat.mul_add] at ha
  by_cases hxy:x < y
  ·
   simp only [hxy,if_true]
   have hd:1≤d:=by
    refine Nat.one_le_iff_ne_zero.2 fun h0=>?_
    subst h0; simp at ha; omega
   obtain ⟨d',rfl⟩:=Nat.exists_eq_add_of_le hd
   rw [Nat.mul_add] at ha
   refine ⟨?_,by omega⟩
   rw [show A - B=(P+x - y)+P*d' from by omega,Nat.add_mul_div_left _ _ (by omega),Nat.div_eq_of_lt (by omega)]
   omega
  ·
   simp only [hxy,if_false]
   refine ⟨?_,by omega⟩
   rw [show A - B=(x - y)+P*d from by omega,Nat.add_mul_div_left _ _ (by omega),Nat.div_eq_of_lt (by omega)]
   omega
 have hbw:=tbw_le A B i
 unfold dig
 rw [hd.1]
 have:=hd.2
 omega
end Go.Proofs.YtncbajehmdnibaaDoor

/- The document's numbers: the walks of size, plus, less. -/
namespace Go.Proofs.YtncbajehmdnibaaDoor
open Go.RowKit
set_option maxHeartbeats 800000 in
theorem rsize_any (a b:Option Addr) (n c m d A B:Nat) (w:World) (ha:Lie .i64 w a n c (dig A)) (hb:Lie .i64 w b m d (dig B)) (fa:Fit10 n A) (fb:Fit10 m B) :
  Calls Tryd.prog 39 #[.slice a n c,.slice b m d] w (PVal (.int .i64 (cmpN A B)) w):=by
 have hcm:=ha.capm
 have hnc:=ha.cap
 have hdm:=hb.capm
 have hmd:=hb.cap
 unfold maxLen at hcm hdm
 rcases Nat.lt_trichotomy n m with hlt | heq | hgt
 ·
  have hR:=Lib.hid (tcmp_len_lt fa fb hlt)
  clear fa fb ha hb
  go_enter Tryd.func39,Tryd.ntmps39
  go_wp2
  go_ret
  exact ⟨ret_int hR.out.symm,Below.refl _ _⟩
 ·
  subst heq
  go_enter Tryd.func39,Tryd.ntmps39
  have HA:=Lib.hid fa
  have HB:=Lib.hid fb
  clear fa fb
  go_wp2
  go_loopw [5] (fun i wr=>∃ k:Nat,k≤n∧i=.int .i64 ((k:Int) - 1)∧A / 10 ^ k=B / 10 ^ k∧Below w.heap.size w wr) (fun i _=>(intOf i+1).toNat)
  case atStart=>exact ⟨n,Nat.le_refl _,rfl,by rw [Nat.div_eq_of_lt HA.out.1,Nat.div_eq_of_lt HB.out.1],Below.refl _ _⟩
  case round =>
   obtain ⟨k,hk,rfl,hup,hbl⟩:=hrel
   have HU:=Lib.hid hup
   clear hup
   by_cases hp:0 < k
   ·
    obtain ⟨j,rfl⟩:∃ j,k=j+1:=⟨k - 1,by omega⟩
    obtain ⟨b1,o1,rfl,hb1⟩:=ha.some_of_pos (by omega)
    obtain ⟨b2,o2,rfl,hb2⟩:=hb.some_of_pos (by omega)
    have c1:=(ha.below hbl).at j (by omega)
    have c2:=(hb.below hbl).at j (by omega)
    rcases Nat.lt_trichotomy (dig A j) (dig B j) with hlt | heq | hgt
    ·
     have hR:=Lib.hid ((tcmp_up HU.out).1 hlt)
     clear ha hb
     go_wp2
     go_quiet (fail)
     go_wp2
     go_ret
     exact ⟨ret_int hR.out.symm,below_drewN hbl _⟩
    ·
     have hR:=Lib.hid ((tcmp_up HU.out).2.2 heq)
     have h1:¬ dig A j < dig B j:=by omega
     have h2:¬ dig B j < dig A j:=by omega
     have HE:=Lib.hid heq
     clear ha hb heq
     go_wp2
     go_quiet (fail)
     go_wp2
     go_quiet (fail)
     go_wp2
     go_roundw
     case rel=>exact ⟨j,by omega,by go_num,hR.out,below_drewN hbl _⟩
     case measure=>simp [intOf]
    ·
     have hR:=Lib.hid ((tcmp_up HU.out).2.1 hgt)
     have h1:¬ dig A j < dig B j:=by omega
     clear ha hb
     go_wp2
     go_quiet (fail)
     go_wp2
     go_quiet (fail)
     go_wp2
     go_ret
     exact ⟨ret_int hR.out.symm,below_drewN (below_drewN hbl _) _⟩
   ·
    obtain rfl:k=0:=by omega
    have hR:=Lib.hid (tcmp_all HU.out)
    clear ha hb
    go_wp2
    go_ret
    exact ⟨ret_int hR.out.symm,hbl⟩
 ·
  have hR:=Lib.hid (tcmp_len_gt fa fb hgt)
  clear fa fb ha hb
  go_enter Tryd.func39,Tryd.ntmps39
  go_wp2
  go_ret
  exact ⟨ret_int hR.out.symm,Below.refl _ _⟩
end Go.Proofs.YtncbajehmdnibaaDoor

/- The document's numbers: the walks of plus, less. -/
namespace Go.Proofs.YtncbajehmdnibaaDoor
open Go.RowKit
theorem Tryd.ru49:Tryd.prog.underlying 49=some (.slice 3):=by kernel_rfl
theorem Tryd.rinfo3:(Tryd.prog.info? 3).map (fun i=>(i.zero,i.size,i.bytes))=some (some (.int .i64 0),1,8):=by kernel_rfl
/-- Digits of a number are handed back, in new memory. -/
def PDig (R:Nat) (w:World) (e:Ending) (w':World):Prop :=
 ∃ (a:Option Addr) (m c:Nat),e=.returned (.slice a m c)∧Lie .i64 w' a m c (dig R)∧R < 10 ^ m∧(∀ p,a=some p→w.heap.size≤p.block)∧Below w.heap.size w w'
theorem owned_fresh {k:IntKind} {w:World} {base:Nat} {e:TypeId} {v:Value} {n:Nat} {f:Nat→Nat} (h:w.ownsRow base e 1 v n (vals k f n)) :
  ∃ (a:Option Addr) (c:Nat),v=.slice a n c∧Lie k w a n c f∧∀ p,a=some p→base≤p.block:=by
 obtain ⟨a,c,h1,h2⟩:=lie_owned h
 refine ⟨a,c,h1,h2,fun p hp=>?_⟩
 subst h1
 exact (h.lt p.block (by rw [hp]; rfl)).1
theorem tcy_past {A B M k:Nat} (hA:A < 10 ^ M) (hB:B < 10 ^ M) (hk:M < k):tcy A B k=0:=by
 unfold tcy
 have h1:10 ^ (M+1)≤10 ^ k:=Nat.pow_le_pow_right (by decide) hk
 rw [Nat.pow_succ] at h1
 have h2:=Nat.mod_le A (10 ^ k)
 have h3:=Nat.mod_le B (10 ^ k)
 exact Nat.div_eq_of_lt (by omega)
theorem tcy_done {A B n m k:Nat} (hA:A < 10 ^ n) (hB:B < 10 ^ m) (hn:n≤k) (hm:m≤k) (h:tcy A B k=0):A+B < 10 ^ k:=by
 have h1:=tfit_mono hA hn
 have h2:=tfit_mono hB hm
 unfold tcy at h
 rw [Nat.mod_eq_of_lt h1,Nat.mod_eq_of_lt h2] at h
 rcases Nat.div_eq_zero_iff.1 h with h | h
 ·
  have:=p10 k; omega
 ·
  exact h
set_option maxHeartbeats 3200000 in
theorem rplus_any (a b:Option Addr) (n c m d A B:Nat) (w:World) (ha:Lie .i64 w a n c (dig A)) (hb:Lie .i64 w b m d (dig B)) (hA:A < 10 ^ n) (hB:B < 10 ^ m) (hn:n≤1000000000) (hm:m≤1000000000) :
  Calls Tryd.prog 38 #[.slice a n c,.slice b m d] w (PDig (A+B) w):=by
 obtain ⟨i0,hi0,hz0,hzz1,hzz2⟩:=info_parts Tryd.rinfo3
 have HI:=Lib.hid (And.intro hi0 (And.intro hz0 (And.intro hzz1 hzz2)))
 have HA:=Lib.hid hA
 have HB:=Lib.hid hB
 clear hi0 hz0 hzz1 hzz2 hA hB
 go_enter Tryd.func38,Tryd.ntmps38
 go_wp2
 go_loopw [5,6,7] (fun dv ov iv wr=>∃ k:Nat,k≤n+m+1∧iv=.int .i64 k∧ov=.int .i64 (tcy A B k:Nat)∧wr.ownsRow w.heap.size 3 1 dv k (vals .i64 (dig (A+B)) k)∧Below w.heap.size w wr) (fun _ _ iv _=>n+m+2 - (intOf iv).toNat)
 case atStart=>exact ⟨0,Nat.zero_le _,rfl,by rw [tcy_zero]; rfl,World.ownsRow_nil _ _ _ _,Below.refl _ _⟩
 case round =>
  obtain ⟨k,hk,rfl,rfl,how,hbl⟩:=hrel
  obtain ⟨s1,s2⟩:=tcy_step A B k
  have hcy:=tcy_le A B k
  obtain ⟨C,hC⟩:∃ C:Int,C=((tcy A B k:Nat):Int):=⟨_,rfl⟩
  have hC0:0≤C:=by omega
  have hC1:C≤1:=by omega
  have dA:=dig_lt A k
  have dB:=dig_lt B k
  obtain ⟨X,hX⟩:∃ X:Int,X=((dig A k:Nat):Int):=⟨_,rfl⟩
  obtain ⟨Y,hY⟩:∃ Y:Int,Y=((dig B k:Nat):Int):=⟨_,rfl⟩
  have hX0:0≤X:=by omega
  have hX1:X≤9:=by omega
  have hY0:0≤Y:=by omega
  have hY1:Y≤9:=by omega
  have HE:Hid ((C+X+Y) % 10=((dig (A+B) k:Nat):Int)∧(C+X+Y) / 10=((tcy A B (k+1):Nat):Int)):=by show _∧_; omega
  have HK:Hid (0 < tcy A B k→k≤n+m):=fun h=>by
   rcases Nat.lt_or_ge (n+m) k with h1 | h1
   ·
    have:=tcy_past (tfit_mono HA.out (show n≤n+m by omega)) (tfit_mono HB.out (show m≤n+m by omega)) h1; omega
   ·
    exact h1
  have HCT:Hid (C=((tcy A B k:Nat):Int)):=hC
  have HXA:Hid (n≤k→X=0):=fun h=>by rw [hX,dig_zero HA.out h]; rfl
  have HYB:Hid (m≤k→Y=0):=fun h=>by rw [hY,dig_zero HB.out h]; rfl
  rw [← hC]
  clear s1 s2 hcy dA dB hC
  by_cases hlA:k < n
  ·
   by_cases hlB:k < m
   ·
    have hA2:decide ((k:Int) < (n:Int))=true:=decide_eq_true (by omega)
    have hB2:decide ((k:Int) < (m:Int))=true:=decide_eq_true (by omega)
    obtain ⟨b1,o1,rfl,hb1⟩:=ha.some_of_pos (by omega)
    have c1:=(ha.below hbl).at k hlA
    rw [← hX] at c1
    obtain ⟨b2,o2,rfl,hb2⟩:=hb.some_of_pos (by omega)
    have c2:=(hb.below hbl).at k hlB
    rw [← hY] at c2
    have HF:Hid ((C+X+Y) % 10=((dig (A+B) k:Nat):Int)∧(C+X+Y) / 10=((tcy A B (k+1):Nat):Int)):=by
     have h:=HE.out
     exact h
    clear HE hX hY
    have hk2:k≤n+m:=by omega
    go_wp2_with (first
     | (at_builtin; refine wpList_append_own _ rfl _ _ 49 rfl w.heap.size 3 i0 (.int .i64 0) 1 8 Tryd.ru49 HI.out.1 HI.out.2.1 HI.out.2.2.1 HI.out.2.2.2 rfl (by decide) _ _ _ rfl (how.alloc _) ⟨wr.heap.size,0,none⟩ 1 1 [.int .i64 ((C+X+Y) % 10)] rfl rfl ?ac1 ?ac2 ?ac3 ?ac4 ?ac5 ?_)
     | fail)
    (try case ac1=>exact cell_one_new _ _ _)
    case ac2=>first | rfl | (intro u hu; simp at hu; subst hu; rfl)
    case ac3=>unfold maxLen; omega
    case ac4=>omega
    case ac5=>have:=hbl.size; simp; omega
    intro v' w3 hown' hgrow _
    have hb3:Below w.heap.size w w3:=(hbl.alloc hbl.size _).grown hgrow (by have:=hbl.size; simp; omega) (fun q hq=>(how.lt q hq).1)
    clear hgrow how
    rw [HF.out.1] at hown'
    have hown2:w3.ownsRow w.heap.size 3 1 v' (k+1) (vals .i64 (dig (A+B)) (k+1)):=by rw [← vals_succ]; exact hown'
    go_wp2
    go_roundw
    case rel=>exact ⟨k+1,by omega,by go_num,by rw [HF.out.2],hown2,hb3⟩
    case measure=>simp [intOf]; omega
   ·
    have hA2:decide ((k:Int) < (n:Int))=true:=decide_eq_true (by omega)
    have hB2:decide ((k:Int) < (m:Int))=false:=decide_eq_false (by omega)
    obtain ⟨b1,o1,rfl,hb1⟩:=ha.some_of_pos (by omega)
    have c1:=(ha.below hbl).at k hlA
    rw [← hX] at c1
    have HF:Hid ((C+X) % 10=((dig (A+B) k:Nat):Int)∧(C+X) / 10=((tcy A B (k+1):Nat):Int)):=by
     have h:=HE.out
     rw [HYB.out (by omega)] at h
     simp only [Int.add_zero] at h
     exact h
    clear HE hX hY
    have hk2:k≤n+m:=by omega
    go_wp2_with (first
     | (at_builtin; refine wpList_append_own _ rfl _ _ 49 rfl w.heap.size 3 i0 (.int .i64 0) 1 8 Tryd.ru49 HI.out.1 HI.out.2.1 HI.out.2.2.1 HI.out.2.2.2 rfl (by decide) _ _ _ rfl (how.alloc _) ⟨wr.heap.size,0,none⟩ 1 1 [.int .i64 ((C+X) % 10)] rfl rfl ?bc1 ?bc2 ?bc3 ?bc4 ?bc5 ?_)
     | fail)
    (try case bc1=>exact cell_one_new _ _ _)
    case bc2=>first | rfl | (intro u hu; simp at hu; subst hu; rfl)
    case bc3=>unfold maxLen; omega
    case bc4=>omega
    case bc5=>have:=hbl.size; simp; omega
    intro v' w3 hown' hgrow _
    have hb3:Below w.heap.size w w3:=(hbl.alloc hbl.size _).grown hgrow (by have:=hbl.size; simp; omega) (fun q hq=>(how.lt q hq).1)
    clear hgrow how
    rw [HF.out.1] at hown'
    have hown2:w3.ownsRow w.heap.size 3 1 v' (k+1) (vals .i64 (dig (A+B)) (k+1)):=by rw [← vals_succ]; exact hown'
    go_wp2
    go_roundw
    case rel=>exact ⟨k+1,by omega,by go_num,by rw [HF.out.2],hown2,hb3⟩
    case measure=>simp [intOf]; omega
  ·
   by_cases hlB:k < m
   ·
    have hA2:decide ((k:Int) < (n:Int))=false:=decide_eq_false (by omega)
    have hB2:decide ((k:Int) < (m:Int))=true:=decide_eq_true (by omega)
    obtain ⟨b2,o2,rfl,hb2⟩:=hb.some_of_pos (by omega)
    have c2:=(hb.below hbl).at k hlB
    rw [← hY] at c2
    have HF:Hid ((C+Y) % 10=((dig (A+B) k:Nat):Int)∧(C+Y) / 10=((tcy A B (k+1):Nat):Int)):=by
     have h:=HE.out
     rw [HXA.out (by omega)] at h
     simp only [Int.add_zero] at h
     exact h
    clear HE hX hY
    have hk2:k≤n+m:=by omega
    go_wp2_with (first
     | (at_builtin; refine wpList_append_own _ rfl _ _ 49 rfl w.heap.size 3 i0 (.int .i64 0) 1 8 Tryd.ru49 HI.out.1 HI.out.2.1 HI.out.2.2.1 HI.out.2.2.2 rfl (by decide) _ _ _ rfl (how.alloc _) ⟨wr.heap.size,0,none⟩ 1 1 [.int .i64 ((C+Y) % 10)] rfl rfl ?cc1 ?cc2 ?cc3 ?cc4 ?cc5 ?_)
     | fail)
    (try case cc1=>exact cell_one_new _ _ _)
    case cc2=>first | rfl | (intro u hu; simp at hu; subst hu; rfl)
    case cc3=>unfold maxLen; omega
    case cc4=>omega
    case cc5=>have:=hbl.size; simp; omega
    intro v' w3 hown' hgrow _
    have hb3:Below w.heap.size w w3:=(hbl.alloc hbl.size _).grown hgrow (by have:=hbl.size; simp; omega) (fun q hq=>(how.lt q hq).1)
    clear hgrow how
    rw [HF.out.1] at hown'
    have hown2:w3.ownsRow w.heap.size 3 1 v' (k+1) (vals .i64 (dig (A+B)) (k+1)):=by rw [← vals_succ]; exact hown'
    go_wp2
    go_roundw
    case rel=>exact ⟨k+1,by omega,by go_num,by rw [HF.out.2],hown2,hb3⟩
    case measure=>simp [intOf]; omega
   ·
    have hA2:decide ((k:Int) < (n:Int))=false:=decide_eq_false (by omega)
    have hB2:decide ((k:Int) < (m:Int))=false:=decide_eq_false (by omega)
    by_cases hc:0 < C
    ·
     have hc2:decide (0 < C)=true:=decide_eq_true hc
     have HF:Hid ((C) % 10=((dig (A+B) k:Nat):Int)∧(C) / 10=((tcy A B (k+1):Nat):Int)):=by
      have h:=HE.out
      rw [HXA.out (by omega)] at h
      rw [HYB.out (by omega)] at h
      simp only [Int.add_zero] at h
      exact h
     clear HE hX hY
     have hk2:k≤n+m:=HK.out (by have:=HCT.out; omega)
     go_wp2_with (first
      | (at_builtin; refine wpList_append_own _ rfl _ _ 49 rfl w.heap.size 3 i0 (.int .i64 0) 1 8 Tryd.ru49 HI.out.1 HI.out.2.1 HI.out.2.2.1 HI.out.2.2.2 rfl (by decide) _ _ _ rfl (how.alloc _) ⟨wr.heap.size,0,none⟩ 1 1 [.int .i64 ((C) % 10)] rfl rfl ?dc1 ?dc2 ?dc3 ?dc4 ?dc5 ?_)
      | fail)
     (try case dc1=>exact cell_one_new _ _ _)
     case dc2=>first | rfl | (intro u hu; simp at hu; subst hu; rfl)
     case dc3=>unfold maxLen; omega
     case dc4=>omega
     case dc5=>have:=hbl.size; simp; omega
     intro v' w3 hown' hgrow _
     have hb3:Below w.heap.size w w3:=(hbl.alloc hbl.size _).grown hgrow (by have:=hbl.size; simp; omega) (fun q hq=>(how.lt q hq).1)
     clear hgrow how
     rw [HF.out.1] at hown'
     have hown2:w3.ownsRow w.heap.size 3 1 v' (k+1) (vals .i64 (dig (A+B)) (k+1)):=by rw [← vals_succ]; exact hown'
     go_wp2
     go_roundw
     case rel=>exact ⟨k+1,by omega,by go_num,by rw [HF.out.2],hown2,hb3⟩
     case measure=>simp [intOf]; omega
    ·
     obtain rfl:C=0:=by omega
     have HD:Hid (A+B < 10 ^ k):=tcy_done HA.out HB.out (by omega) (by omega) (by have:=HCT.out; omega)
     obtain ⟨a4,c4,rfl,hlie,hfr⟩:=owned_fresh how
     clear how HE hX hY hc
     go_wp2
     go_ret
     exact ⟨a4,k,c4,rfl,hlie,HD.out,hfr,hbl⟩
set_option maxHeartbeats 3200000 in
theorem rless_any (a b:Option Addr) (n c m d A B:Nat) (w:World) (ha:Lie .i64 w a n c (dig A)) (hb:Lie .i64 w b m d (dig B)) (hA:A < 10 ^ n) (hB:B < 10 ^ m) (hBA:B≤A) (hn:n≤1000000000) (hm:m≤1000000000) :
  Calls Tryd.prog 40 #[.slice a n c,.slice b m d] w (PDig (A - B) w):=by
 obtain ⟨i0,hi0,hz0,hzz1,hzz2⟩:=info_parts Tryd.rinfo3
 have HI:=Lib.hid (And.intro hi0 (And.intro hz0 (And.intro hzz1 hzz2)))
 have HA:=Lib.hid hA
 have HB:=Lib.hid hB
 have HBA:=Lib.hid hBA
 clear hi0 hz0 hzz1 hzz2 hA hB hBA
 go_enter Tryd.func40,Tryd.ntmps40
 go_wp2
 go_loopw [5,6,7] (fun dv ov iv wr=>∃ k:Nat,k≤n∧iv=.int .i64 k∧ov=.int .i64 (tbw A B k:Nat)∧wr.ownsRow w.heap.size 3 1 dv k (vals .i64 (dig (A - B)) k)∧Below w.heap.size w wr) (fun _ _ iv _=>n - (intOf iv).toNat)
 case atStart=>exact ⟨0,Nat.zero_le _,rfl,by rw [tbw_zero]; rfl,World.ownsRow_nil _ _ _ _,Below.refl _ _⟩
 case round =>
  obtain ⟨k,hk,rfl,rfl,how,hbl⟩:=hrel
  have s1:=tbw_part HBA.out k
  have s2:=tbw_next A B k
  have hcy:=tbw_le A B k
  obtain ⟨C,hC⟩:∃ C:Int,C=((tbw A B k:Nat):Int):=⟨_,rfl⟩
  have hC0:0≤C:=by omega
  have hC1:C≤1:=by omega
  have dA:=dig_lt A k
  have dB:=dig_lt B k
  obtain ⟨X,hX⟩:∃ X:Int,X=((dig A k:Nat):Int):=⟨_,rfl⟩
  obtain ⟨Y,hY⟩:∃ Y:Int,Y=((dig B k:Nat):Int):=⟨_,rfl⟩
  have hX0:0≤X:=by omega
  have hX1:X≤9:=by omega
  have hY0:0≤Y:=by omega
  have hY1:Y≤9:=by omega
  have HE:Hid ((X - C - Y < 0→X - C - Y+10=((dig (A - B) k:Nat):Int)∧(1:Int)=((tbw A B (k+1):Nat):Int))∧(¬ X - C - Y < 0→X - C - Y=((dig (A - B) k:Nat):Int)∧(0:Int)=((tbw A B (k+1):Nat):Int))):=by
   show _∧_
   rw [s2]
   constructor
   ·
    intro h
    rw [if_pos (by omega)]; omega
   ·
    intro h
    rw [if_neg (by omega)]; omega
  have HYB:Hid (m≤k→Y=0):=fun h=>by rw [hY,dig_zero HB.out h]; rfl
  rw [← hC]
  clear s1 s2 hcy dA dB hC
  by_cases hlA:k < n
  ·
   obtain ⟨b1,o1,rfl,hb1⟩:=ha.some_of_pos (by omega)
   have c1:=(ha.below hbl).at k hlA
   rw [← hX] at c1
   by_cases hlB:k < m
   ·
    by_cases hs:X - C - Y < 0
    ·
     have hs2:decide (X - C - Y < 0)=true:=decide_eq_true hs
     obtain ⟨b2,o2,rfl,hb2⟩:=hb.some_of_pos (by omega)
     have c2:=(hb.below hbl).at k hlB
     rw [← hY] at c2
     have HF:Hid (X - C - Y+10=((dig (A - B) k:Nat):Int)∧(1:Int)=((tbw A B (k+1):Nat):Int)):=by
      have h:=HE.out.1
      exact h hs
     clear HE hX hY
     go_wp2_with (first
      | (at_builtin; refine wpList_append_own _ rfl _ _ 49 rfl w.heap.size 3 i0 (.int .i64 0) 1 8 Tryd.ru49 HI.out.1 HI.out.2.1 HI.out.2.2.1 HI.out.2.2.2 rfl (by decide) _ _ _ rfl (how.alloc _) ⟨wr.heap.size,0,none⟩ 1 1 [.int .i64 (X - C - Y+10)] rfl rfl ?pc1 ?pc2 ?pc3 ?pc4 ?pc5 ?_)
      | fail)
     (try case pc1=>exact cell_one_new _ _ _)
     case pc2=>first | rfl | (intro u hu; simp at hu; subst hu; rfl)
     case pc3=>unfold maxLen; omega
     case pc4=>omega
     case pc5=>have:=hbl.size; simp; omega
     intro v' w3 hown' hgrow _
     have hb3:Below w.heap.size w w3:=(hbl.alloc hbl.size _).grown hgrow (by have:=hbl.size; simp; omega) (fun q hq=>(how.lt q hq).1)
     clear hgrow how
     rw [HF.out.1] at hown'
     have hown2:w3.ownsRow w.heap.size 3 1 v' (k+1) (vals .i64 (dig (A - B)) (k+1)):=by rw [← vals_succ]; exact hown'
     go_wp2
     go_roundw
     case rel=>exact ⟨k+1,by omega,by go_num,by rw [← HF.out.2],hown2,hb3⟩
     case measure=>simp [intOf]; omega
    ·
     have hs2:decide (X - C - Y < 0)=false:=decide_eq_false hs
     obtain ⟨b2,o2,rfl,hb2⟩:=hb.some_of_pos (by omega)
     have c2:=(hb.below hbl).at k hlB
     rw [← hY] at c2
     have HF:Hid (X - C - Y=((dig (A - B) k:Nat):Int)∧(0:Int)=((tbw A B (k+1):Nat):Int)):=by
      have h:=HE.out.2
      exact h hs
     clear HE hX hY
     go_wp2_with (first
      | (at_builtin; refine wpList_append_own _ rfl _ _ 49 rfl w.heap.size 3 i0 (.int .i64 0) 1 8 Tryd.ru49 HI.out.1 HI.out.2.1 HI.out.2.2.1 HI.out.2.2.2 rfl (by decide) _ _ _ rfl (how.alloc _) ⟨wr.heap.size,0,none⟩ 1 1 [.int .i64 (X - C - Y)] rfl rfl ?qc1 ?qc2 ?qc3 ?qc4 ?qc5 ?_)
      | fail)
     (try case qc1=>exact cell_one_new _ _ _)
     case qc2=>first | rfl | (intro u hu; simp at hu; subst hu; rfl)
     case qc3=>unfold maxLen; omega
     case qc4=>omega
     case qc5=>have:=hbl.size; simp; omega
     intro v' w3 hown' hgrow _
     have hb3:Below w.heap.size w w3:=(hbl.alloc hbl.size _).grown hgrow (by have:=hbl.size; simp; omega) (fun q hq=>(how.lt q hq).1)
     clear hgrow how
     rw [HF.out.1] at hown'
     have hown2:w3.ownsRow w.heap.size 3 1 v' (k+1) (vals .i64 (dig (A - B)) (k+1)):=by rw [← vals_succ]; exact hown'
     go_wp2
     go_roundw
     case rel=>exact ⟨k+1,by omega,by go_num,by rw [← HF.out.2],hown2,hb3⟩
     case measure=>simp [intOf]; omega
   ·
    have hY9:=HYB.out (by omega)
    by_cases hs':X - C < 0
    ·
     have hs2:decide (X - C < 0)=true:=decide_eq_true hs'
     have hs:X - C - 0 < 0:=by omega
     clear hY9
     have HF:Hid (X - C+10=((dig (A - B) k:Nat):Int)∧(1:Int)=((tbw A B (k+1):Nat):Int)):=by
      have h:=HE.out.1
      rw [HYB.out (by omega)] at h
      simp only [Int.sub_zero] at h
      exact h hs'
     clear HE hX hY
     go_wp2_with (first
      | (at_builtin; refine wpList_append_own _ rfl _ _ 49 rfl w.heap.size 3 i0 (.int .i64 0) 1 8 Tryd.ru49 HI.out.1 HI.out.2.1 HI.out.2.2.1 HI.out.2.2.2 rfl (by decide) _ _ _ rfl (how.alloc _) ⟨wr.heap.size,0,none⟩ 1 1 [.int .i64 (X - C+10)] rfl rfl ?rc1 ?rc2 ?rc3 ?rc4 ?rc5 ?_)
      | fail)
     (try case rc1=>exact cell_one_new _ _ _)
     case rc2=>first | rfl | (intro u hu; simp at hu; subst hu; rfl)
     case rc3=>unfold maxLen; omega
     case rc4=>omega
     case rc5=>have:=hbl.size; simp; omega
     intro v' w3 hown' hgrow _
     have hb3:Below w.heap.size w w3:=(hbl.alloc hbl.size _).grown hgrow (by have:=hbl.size; simp; omega) (fun q hq=>(how.lt q hq).1)
     clear hgrow how
     rw [HF.out.1] at hown'
     have hown2:w3.ownsRow w.heap.size 3 1 v' (k+1) (vals .i64 (dig (A - B)) (k+1)):=by rw [← vals_succ]; exact hown'
     go_wp2
     go_roundw
     case rel=>exact ⟨k+1,by omega,by go_num,by rw [← HF.out.2],hown2,hb3⟩
     case measure=>simp [intOf]; omega
    ·
     have hs2:decide (X - C < 0)=false:=decide_eq_false hs'
     clear hY9
     have HF:Hid (X - C=((dig (A - B) k:Nat):Int)∧(0:Int)=((tbw A B (k+1):Nat):Int)):=by
      have h:=HE.out.2
      rw [HYB.out (by omega)] at h
      simp only [Int.sub_zero] at h
      exact h hs'
     clear HE hX hY
     go_wp2_with (first
      | (at_builtin; refine wpList_append_own _ rfl _ _ 49 rfl w.heap.size 3 i0 (.int .i64 0) 1 8 Tryd.ru49 HI.out.1 HI.out.2.1 HI.out.2.2.1 HI.out.2.2.2 rfl (by decide) _ _ _ rfl (how.alloc _) ⟨wr.heap.size,0,none⟩ 1 1 [.int .i64 (X - C)] rfl rfl ?sc1 ?sc2 ?sc3 ?sc4 ?sc5 ?_)
      | fail)
     (try case sc1=>exact cell_one_new _ _ _)
     case sc2=>first | rfl | (intro u hu; simp at hu; subst hu; rfl)
     case sc3=>unfold maxLen; omega
     case sc4=>omega
     case sc5=>have:=hbl.size; simp; omega
     intro v' w3 hown' hgrow _
     have hb3:Below w.heap.size w w3:=(hbl.alloc hbl.size _).grown hgrow (by have:=hbl.size; simp; omega) (fun q hq=>(how.lt q hq).1)
     clear hgrow how
     rw [HF.out.1] at hown'
     have hown2:w3.ownsRow w.heap.size 3 1 v' (k+1) (vals .i64 (dig (A - B)) (k+1)):=by rw [← vals_succ]; exact hown'
     go_wp2
     go_roundw
     case rel=>exact ⟨k+1,by omega,by go_num,by rw [← HF.out.2],hown2,hb3⟩
     case measure=>simp [intOf]; omega
  ·
   obtain rfl:k=n:=by omega
   have HD:Hid (A - B < 10 ^ k):=Nat.lt_of_le_of_lt (Nat.sub_le _ _) HA.out
   obtain ⟨a4,c4,rfl,hlie,hfr⟩:=owned_fresh how
   clear how HE hX hY
   go_wp2
   go_ret
   exact ⟨a4,k,c4,rfl,hlie,HD.out,hfr,hbl⟩
end Go.Proofs.YtncbajehmdnibaaDoor

/- The document's numbers: the walks of Sign, Cmp, Minus, Add, Sub. -/
namespace Go.Proofs.YtncbajehmdnibaaDoor
open Go.RowKit
theorem RNum.zero_iff {w:World} {bl:Bool} {a:Option Addr} {n c:Nat} {z:Int} (h:RNum w bl a n c z):n=0↔z=0:=by
 rw [fit10_pos h.fit]; omega
/-- A number of the document's is handed back. -/
def PRNum (z:Int) (w:World) (e:Ending) (w':World):Prop :=
 ∃ (bl:Bool) (a:Option Addr) (n c:Nat),e=.returned (.agg #[.bool bl,.slice a n c])∧RNum w' bl a n c z∧Below w.heap.size w w'
/-- A number of the document's is handed back whose digits lie in new memory. -/
def PRNumF (z:Int) (w:World) (e:Ending) (w':World):Prop :=
 ∃ (bl:Bool) (a:Option Addr) (n c:Nat),e=.returned (.agg #[.bool bl,.slice a n c])∧RNum w' bl a n c z∧(∀ p,a=some p→w.heap.size≤p.block)∧Below w.heap.size w w'
theorem rnumf_store {w w3:World} {bl:Bool} {a:Option Addr} {n c r:Nat} {z:Int} (hn:RNum w3 bl a n c z) (hB:Below w.heap.size w w3) (hr:w.heap.size≤r) (hfr:∀ p,a=some p→r < p.block) :
  PRNumF z w (.returned (.agg #[.bool bl,.slice a n c])) ((w3.setCell ⟨r,0,none⟩ (.bool bl)).setCell ⟨r,1,none⟩ (.slice a n c)) :=
 ⟨bl,a,n,c,rfl,hn.only (only2 _ _ _ _) (fun p hp=>by have:=hfr p hp; omega),(fun p hp=>by have:=hfr p hp; omega),hB.trans ((only2 _ _ _ _).below hr)⟩
theorem rnum_store {w w3:World} {bl:Bool} {a:Option Addr} {n c r:Nat} {z:Int} (hn:RNum w3 bl a n c z) (hB:Below w.heap.size w w3) (hr:w.heap.size≤r) (hfr:∀ p,a=some p→p.block ≠ r) :
  PRNum z w (.returned (.agg #[.bool bl,.slice a n c])) ((w3.setCell ⟨r,0,none⟩ (.bool bl)).setCell ⟨r,1,none⟩ (.slice a n c)) :=
 ⟨bl,a,n,c,rfl,hn.only (only2 _ _ _ _) hfr,hB.trans ((only2 _ _ _ _).below hr)⟩
set_option maxHeartbeats 800000 in
theorem rMinus_any (bl:Bool) (a:Option Addr) (n c:Nat) (z:Int) (w:World) (h:RNum w bl a n c z) :
  Calls Tryd.prog 41 #[.agg #[.bool bl,.slice a n c]] w (PRNum (-z) w):=by
 have hl:=h.lie
 have hf:=Lib.hid h.fit
 have hsg:=Lib.hid h.sgn
 clear h
 go_enter Tryd.func41,Tryd.ntmps41
 go_wp2_with fail
 have hR:=box_res w 51 (.cells #[.bool bl,.slice a n c] 51)
 generalize (w.alloc (.cells #[.bool bl,.slice a n c] 51)).alloc (.cells #[.bool false,.slice none 0 0] 51)=w1 at *
 refine (rmade_any (!bl) a n c z.natAbs _ (hl.below hR.below) hf.out.1).mono ?_
 rintro e w3 ⟨bl3,n3,c3,rfl,hnum,hb3⟩
 have hR3:=hR.later hb3
 have rB0:=hR3.r0
 have rB1:=hR3.r1
 have fB0:=hR3.f0
 have fB1:=hR3.f1
 go_wp2
 rw [sg_not hsg.out] at hnum
 refine bodyPost_ret (v:=.agg #[.bool bl3,.slice a n3 c3]) (by simp [results,Tryd.results41,go_sem,rB0,rB1]) rfl ?_
 exact rnum_store hnum hR3.below (by omega) (fun p hp=>by have:=(hl.spot p hp).2; omega)
set_option maxHeartbeats 1600000 in
theorem rAdd_any (bl:Bool) (a:Option Addr) (n c:Nat) (x:Int) (bl':Bool) (a':Option Addr) (n' c':Nat) (y:Int) (w:World) (h:RNum w bl a n c x) (h':RNum w bl' a' n' c' y) (hn:n≤10000000) (hn':n'≤10000000) :
  Calls Tryd.prog 25 #[.agg #[.bool bl,.slice a n c],.agg #[.bool bl',.slice a' n' c']] w (PRNumF (x+y) w):=by
 have hfx:=Lib.hid h.fit
 have hfy:=Lib.hid h'.fit
 have hsx:=Lib.hid h.sgn
 have hsy:=Lib.hid h'.sgn
 have hl:=h.lie
 have hl':=h'.lie
 clear h h'
 by_cases hbb:(bl == bl')=true
 ·
  have hsg:=Lib.hid (sg_add1 hsx.out hsy.out hbb)
  go_enter Tryd.func25,Tryd.ntmps25
  go_wp2
  have hX1:=boxed_mk w 51 bl a n c bl' a' n' c'
  generalize ((w.alloc (.cells #[.bool bl,.slice a n c] 51)).alloc (.cells #[.bool bl',.slice a' n' c'] 51)).alloc (.cells #[.bool false,.slice none 0 0] 51)=w1 at *
  go_region_held3 (fun w'=>w'.cell? ⟨w.heap.size,0,none⟩=some (.bool bl)∧w'.cell? ⟨w.heap.size,1,none⟩=some (.slice a n c)∧w'.cell? ⟨w.heap.size+1,0,none⟩=some (.bool bl')∧w'.cell? ⟨w.heap.size+1,1,none⟩=some (.slice a' n' c'))
   (first | exact hX1.drew.hs | exact hX1.hs | exact hX2.hs | exact hX3.hs | exact hX3.hs2 _ _)
   (first
    | (go_at_call 38; refine (rplus_any a a' n c n' c' x.natAbs y.natAbs _ (hl.below hX1.drew.below) (hl'.below hX1.drew.below) hfx.out.1 hfy.out.1 (by omega) (by omega)).mono ?_; rintro e w2 ⟨a2,n2,c2,rfl,hl2,hf2,hfr2,hb2⟩; have hX2:=hX1.later (below_undrew hb2))
    | (go_at_call 37; refine (rmade_any _ _ n2 c2 _ _ hl2 hf2).mono ?_; rintro e w3 ⟨bl3,n3,c3,rfl,hnum,hb3⟩; have hX3:=hX2.later hb3; have rB0:=hX3.r0; have rB1:=hX3.r1; have fB0:=hX3.f0; have fB1:=hX3.f1))
  go_wp2
  rw [hsg.out] at hnum
  refine bodyPost_ret (v:=.agg #[.bool bl3,.slice a2 n3 c3]) (by simp [results,Tryd.results25,go_sem,rB0,rB1]) rfl ?_
  exact rnumf_store hnum hX3.below (by omega) (fun p hp=>by have h1:=hfr2 p hp; have h2:=hX1.sz; have h3:w1.heap.size≤p.block:=h1; omega)
 ·
  have hbb':(bl == bl')=false:=by simpa using hbb
  clear hbb
  go_enter Tryd.func25,Tryd.ntmps25
  go_wp2_with fail
  have hX1:=boxed_mk w 51 bl a n c bl' a' n' c'
  generalize ((w.alloc (.cells #[.bool bl,.slice a n c] 51)).alloc (.cells #[.bool bl',.slice a' n' c'] 51)).alloc (.cells #[.bool false,.slice none 0 0] 51)=w1 at *
  refine (rsize_any a a' n c n' c' x.natAbs y.natAbs _ (hl.below hX1.below) (hl'.below hX1.below) hfx.out hfy.out).mono ?_
  rintro e w1' ⟨rfl,hbc⟩
  have hX1':=hX1.later hbc
  clear hX1 hbc
  by_cases hc:x.natAbs < y.natAbs
  ·
   have hcd:decide (0≤cmpN x.natAbs y.natAbs)=false:=by rw [decide_eq_false_iff_not]; unfold cmpN; rw [if_pos hc]; omega
   have hsg:=Lib.hid (sg_add2 hsx.out hsy.out hbb' hc)
   have HC:=Lib.hid hc
   clear hc
   generalize hcc:cmpN x.natAbs y.natAbs=cc at *
   clear hcc
   go_wp2
   go_region_held3 (fun w'=>w'.cell? ⟨w.heap.size,0,none⟩=some (.bool bl)∧w'.cell? ⟨w.heap.size,1,none⟩=some (.slice a n c)∧w'.cell? ⟨w.heap.size+1,0,none⟩=some (.bool bl')∧w'.cell? ⟨w.heap.size+1,1,none⟩=some (.slice a' n' c'))
    (first | exact hX1'.drew.hs | exact hX1'.hs | exact hX2.hs | exact hX3.hs | exact hX3.hs2 _ _)
    (first
     | (go_at_call 40; refine (rless_any a' a n' c' n c y.natAbs x.natAbs _ (hl'.below hX1'.drew.below) (hl.below hX1'.drew.below) hfy.out.1 hfx.out.1 (Nat.le_of_lt HC.out) (by omega) (by omega)).mono ?_; rintro e w2 ⟨a2,n2,c2,rfl,hl2,hf2,hfr2,hb2⟩; have hX2:=hX1'.later (below_undrew hb2))
     | (go_at_call 37; refine (rmade_any _ _ n2 c2 _ _ hl2 hf2).mono ?_; rintro e w3 ⟨bl3,n3,c3,rfl,hnum,hb3⟩; have hX3:=hX2.later hb3; have rB0:=hX3.r0; have rB1:=hX3.r1; have fB0:=hX3.f0; have fB1:=hX3.f1))
   go_wp2
   rw [hsg.out] at hnum
   refine bodyPost_ret (v:=.agg #[.bool bl3,.slice a2 n3 c3]) (by simp [results,Tryd.results25,go_sem,rB0,rB1]) rfl ?_
   exact rnumf_store hnum hX3.below (by omega) (fun p hp=>by have h1:=hfr2 p hp; have h2:=hX1'.sz; have h3:w1'.heap.size≤p.block:=h1; omega)
  ·
   have hcd:decide (0≤cmpN x.natAbs y.natAbs)=true:=by rw [decide_eq_true_eq]; unfold cmpN; rw [if_neg hc]; split <;> omega
   have hsg:=Lib.hid (sg_add3 hsx.out hsy.out hbb' hc)
   have HC:=Lib.hid hc
   clear hc
   generalize hcc:cmpN x.natAbs y.natAbs=cc at *
   clear hcc
   go_wp2
   go_region_held3 (fun w'=>w'.cell? ⟨w.heap.size,0,none⟩=some (.bool bl)∧w'.cell? ⟨w.heap.size,1,none⟩=some (.slice a n c)∧w'.cell? ⟨w.heap.size+1,0,none⟩=some (.bool bl')∧w'.cell? ⟨w.heap.size+1,1,none⟩=some (.slice a' n' c'))
    (first | exact hX1'.drew.hs | exact hX1'.hs | exact hX2.hs | exact hX3.hs | exact hX3.hs2 _ _)
    (first
     | (go_at_call 40; refine (rless_any a a' n c n' c' x.natAbs y.natAbs _ (hl.below hX1'.drew.below) (hl'.below hX1'.drew.below) hfx.out.1 hfy.out.1 (Nat.le_of_not_lt HC.out) (by omega) (by omega)).mono ?_; rintro e w2 ⟨a2,n2,c2,rfl,hl2,hf2,hfr2,hb2⟩; have hX2:=hX1'.later (below_undrew hb2))
     | (go_at_call 37; refine (rmade_any _ _ n2 c2 _ _ hl2 hf2).mono ?_; rintro e w3 ⟨bl3,n3,c3,rfl,hnum,hb3⟩; have hX3:=hX2.later hb3; have rB0:=hX3.r0; have rB1:=hX3.r1; have fB0:=hX3.f0; have fB1:=hX3.f1))
   go_wp2
   rw [hsg.out] at hnum
   refine bodyPost_ret (v:=.agg #[.bool bl3,.slice a2 n3 c3]) (by simp [results,Tryd.results25,go_sem,rB0,rB1]) rfl ?_
   exact rnumf_store hnum hX3.below (by omega) (fun p hp=>by have h1:=hfr2 p hp; have h2:=hX1'.sz; have h3:w1'.heap.size≤p.block:=h1; omega)
end Go.Proofs.YtncbajehmdnibaaDoor

/- The walk of String. -/
namespace Go.Proofs.YtncbajehmdnibaaDoor
open Go.RowKit
/-- The text l is the number z. -/
def Txt (z:Int) (l:List UInt8):Prop:=parsesB l=true∧zval l=z
theorem dval_cons (c:UInt8) (l:List UInt8):dval (c :: l)=(c.toNat - 48)*10 ^ l.length+dval l:=by
 rw [show c :: l=[c]++l from rfl,dval_append]; unfold dval; rw [dvalF_cons,dvalF_nil,Nat.zero_mul,Nat.zero_add]
def padL (N K:Nat):List UInt8:=(List.range K).map fun p=>(48+dig N (K - 1 - p)).toUInt8
theorem padL_succ (N K:Nat):padL N (K+1)=(48+dig N K).toUInt8 :: padL N K:=by
 unfold padL
 rw [List.range_succ_eq_map,List.map_cons,List.map_map]
 congr 1
 refine List.map_congr_left fun p hp=>?_
 show (48+dig N (K+1 - 1 - (p+1))).toUInt8=_
 rw [show K+1 - 1 - (p+1)=K - 1 - p from by omega]
theorem byte_dig (N K:Nat):((48+dig N K).toUInt8).toNat=48+dig N K:=by
 have:=dig_lt N K
 show (48+dig N K) % 256=_
 omega
theorem padL_len (N K:Nat):(padL N K).length=K:=by simp [padL]
theorem padL_all (N K:Nat):(padL N K).all isDig=true:=by
 rw [List.all_eq_true]
 intro c hc
 obtain ⟨p,_,rfl⟩:=List.mem_map.1 hc
 have:=dig_lt N (K - 1 - p)
 unfold isDig
 rw [byte_dig]
 exact decide_eq_true (by omega)
theorem padL_val (N K:Nat):dval (padL N K)=N % 10 ^ K:=by
 induction K with
 | zero=>rw [Nat.pow_zero,Nat.mod_one]; unfold dval; exact dvalF_nil 0
 | succ K ih =>
  rw [padL_succ,dval_cons,padL_len,byte_dig,ih,Nat.mod_pow_succ,Nat.add_sub_cancel_left,Nat.mul_comm,Nat.add_comm]; rfl
theorem drop_val (l:List UInt8):dval (l.dropWhile (· == 48))=dval l:=by
 induction l with
 | nil=>rfl
 | cons c l ih =>
  rw [List.dropWhile_cons]
  split
  ·
   rename_i h
   have:c=48:=by simpa using h
   subst this
   rw [ih,dval_cons]
   simp
  ·
   rfl
theorem drop_all {l:List UInt8} (h:l.all isDig=true):(l.dropWhile (· == 48)).all isDig=true:=by
 rw [List.all_eq_true] at h ⊢
 exact fun c hc=>h c ((List.dropWhile_sublist _).subset hc)
theorem drop_head (l:List UInt8):(l.dropWhile (· == 48)).head? ≠ some 48:=by
 induction l with
 | nil=>simp
 | cons c l ih =>
  rw [List.dropWhile_cons]
  split
  ·
   exact ih
  ·
   rename_i h
   intro e
   simp at e
   simp [e] at h
/-- What is told of digits without noughts ahead. -/
structure Plain (N:Nat) (l:List UInt8):Prop where
 dig:l.all isDig=true
 val:dval l=N
 ne:l.isEmpty=false
 head:l.head? ≠ some 48
theorem plain_drop {N K:Nat} (hN:0 < N) (hK:N < 10 ^ K):Plain N ((padL N K).dropWhile (· == 48)):=by
 have hv:dval ((padL N K).dropWhile (· == 48))=N:=by rw [drop_val,padL_val,Nat.mod_eq_of_lt hK]
 refine ⟨drop_all (padL_all N K),hv,?_,drop_head _⟩
 cases h:(padL N K).dropWhile (· == 48) with
 | nil=>rw [h] at hv; unfold dval at hv; rw [dvalF_nil] at hv; omega
 | cons c l=>rfl
theorem Plain.ww {N:Nat} {l:List UInt8} (h:Plain N l) (b:Bool):wwB l b=true:=by
 have h4:(l.head? != some 48)=true:=by simpa using h.head
 simp only [wwB,h.ne,h.dig,h4]; rfl
theorem Plain.no45 {N:Nat} {l:List UInt8} (h:Plain N l):Lib.hasPrefix l [45]=false:=by
 cases l with
 | nil=>rfl
 | cons c l =>
  have:=isDig_le ((List.all_eq_true.1 h.dig) c (by simp))
  unfold Lib.hasPrefix
  simp only [List.isPrefixOf,Bool.and_true]
  rw [beq_eq_false_iff_ne]
  intro e
  subst e
  have h45:(45:UInt8).toNat=45:=rfl
  omega
theorem txt_pos {N:Nat} {l:List UInt8} (h:Plain N l):Txt (N:Int) l:=by
 have e1:pB l=false:=h.no45
 have e2:pD l=l:=by unfold pD Lib.trimPrefix; rw [h.no45]; rfl
 refine ⟨?_,?_⟩
 ·
  unfold parsesB; rw [e1,e2]; exact h.ww _
 ·
  unfold zval; rw [e1,e2,h.val]; rfl
theorem txt_neg {N:Nat} {l:List UInt8} (h:Plain N l):Txt (-(N:Int)) (45 :: l):=by
 have e1:pB (45 :: l)=true:=by unfold pB Lib.hasPrefix; simp [List.isPrefixOf]
 have e2:pD (45 :: l)=l:=by
  have:Lib.hasPrefix (45 :: l) [45]=true:=e1
  unfold pD Lib.trimPrefix; rw [this]; rfl
 refine ⟨?_,?_⟩
 ·
  unfold parsesB; rw [e1,e2]; exact h.ww _
 ·
  unfold zval; rw [e1,e2,h.val]; rfl
/-- A number's text is handed back. -/
def PTxt (z:Int) (w:World) (e:Ending) (w':World):Prop:=∃ l:List UInt8,e=.returned (.string ⟨l.toArray⟩)∧Txt z l∧Below w.heap.size w w'
set_option maxHeartbeats 800000 in
theorem String_zero (bl:Bool) (a:Option Addr) (n c:Nat) (w:World) (h:Num w bl a n c 0) :
  Calls Tryd.prog 7 #[.agg #[.bool bl,.slice a n c]] w (PTxt 0 w):=by
 have hB:=(Below.refl w.heap.size w).alloc (Nat.le_refl _) (.cells #[.bool bl,.slice a n c] 25)
 go_enter Tryd.func7,Tryd.ntmps7
 go_wp2_with fail
 refine (Sign_any bl a n c 0 _ (h.below hB)).mono ?_
 rintro e w1 ⟨rfl,hb1⟩
 rw [show sgnI 0=0 from rfl]
 go_wp2
 go_ret
 exact ⟨[48],rfl,⟨by decide,by decide⟩,hB.trans (hb1.mono (by simp))⟩
set_option maxHeartbeats 800000 in
theorem String_any (bl:Bool) (a:Option Addr) (n c:Nat) (z:Int) (w:World) (h:Num w bl a n c z) (hn:n≤10000000) (hz:z ≠ 0) :
  Calls Tryd.prog 7 #[.agg #[.bool bl,.slice a n c]] w (PTxt z w):=by
 have H:=Lib.hid h
 have HZ:=Lib.hid hz
 have hsy:(sgnI z == 0)=false:=by unfold sgnI; (repeat' split) <;> simp_all
 clear h hz
 go_enter Tryd.func7,Tryd.ntmps7
 go_wp2_with fail
 have hB:=(Below.refl w.heap.size w).alloc (Nat.le_refl _) (.cells #[.bool bl,.slice a n c] 25)
 have k0:(w.alloc (.cells #[.bool bl,.slice a n c] 25)).cell? ⟨w.heap.size,0,none⟩=some (.bool bl):=by simp [go_sem]
 have k1:(w.alloc (.cells #[.bool bl,.slice a n c] 25)).cell? ⟨w.heap.size,1,none⟩=some (.slice a n c):=by simp [go_sem]
 have hsz:w.heap.size < (w.alloc (.cells #[.bool bl,.slice a n c] 25)).heap.size:=by simp
 generalize w.alloc (.cells #[.bool bl,.slice a n c] 25)=w1 at *
 refine (Sign_any bl a n c z _ (H.out.below hB)).mono ?_
 rintro e w2 ⟨rfl,hb2⟩
 have k1':=(hb2.cell (p:=⟨w.heap.size,1,none⟩) hsz).trans k1
 have hB2:=hB.trans (hb2.mono hB.size)
 clear k1
 go_wp2_with fail
 refine (groupsOf_any a n c z.natAbs _ (H.out.lie.below hB2) H.out.fit hn).mono ?_
 rintro e w3 ⟨ga,gi,gc,rfl,hlg,hlt,hgi,hb3⟩
 have HLT:=Lib.hid hlt
 clear k1' hlt
 go_wp2_with fail
 refine (written_any ga gi gc z.natAbs _ hlg (by omega)).mono ?_
 rintro e w4 ⟨rfl,hb4⟩
 obtain ⟨str,hstr⟩:∃ str:ByteArray,str=⟨((List.range (9*gi)).map fun p=>(48+dig z.natAbs (9*gi - 1 - p)).toUInt8).toArray⟩:=⟨_,rfl⟩
 rw [← hstr]
 have HSTR:=Lib.hid hstr
 clear hlg hstr
 go_wp2_with fail
 refine (Tryd.strings_TrimLeft_one _ 48 (by decide) _).mono ?_
 rintro e w5 ⟨rfl,hw⟩
 subst hw
 have hpl:Plain z.natAbs ((padL z.natAbs (9*gi)).dropWhile (· == 48)):=plain_drop (by have:=HZ.out; omega) (by rw [Nat.pow_mul]; exact HLT.out)
 have e1:Lib.trimLeftB str.data.toList 48=(padL z.natAbs (9*gi)).dropWhile (· == 48):=by rw [HSTR.out]; rfl
 rw [e1]
 have hll:((padL z.natAbs (9*gi)).dropWhile (· == 48)).length≤9*gi:=Nat.le_trans (List.dropWhile_sublist _).length_le (by rw [padL_len]; exact Nat.le_refl _)
 clear e1
 generalize (padL z.natAbs (9*gi)).dropWhile (· == 48)=l at *
 have HPL:=Lib.hid hpl
 have hb24:Below w2.heap.size w2 w5:=hb3.trans (hb4.mono hb3.size)
 have hB4:=hB2.trans (hb24.mono hB2.size)
 have k04:=((hb2.trans (hb24.mono hb2.size)).cell (p:=⟨w.heap.size,0,none⟩) hsz).trans k0
 clear k0 hpl
 have hsg:=H.out.sgn
 cases bl
 ·
  have HV:Hid ((z.natAbs:Int)=z):=by show _=_; simp at hsg; omega
  clear hsg
  go_wp2
  go_ret
  exact ⟨l,rfl,by rw [← HV.out]; exact txt_pos HPL.out,hB4⟩
 ·
  have HV:Hid (-(z.natAbs:Int)=z):=by show _=_; simp at hsg; omega
  clear hsg
  go_wp2
  go_ret
  exact ⟨45 :: l,by congr 2,by rw [← HV.out]; exact txt_neg HPL.out,hB4⟩
end Go.Proofs.YtncbajehmdnibaaDoor

/- Texts of numbers: each number has one. -/
namespace Go.Proofs.YtncbajehmdnibaaDoor
open Go.RowKit
theorem dval_inj:∀ (l m:List UInt8),l.length=m.length→l.all isDig=true→m.all isDig=true→dval l=dval m→l=m:=by
 intro l
 induction l with
 | nil=>intro m hm _ _ _; exact (List.eq_nil_of_length_eq_zero hm.symm).symm
 | cons c l ih =>
  intro m hm hl hma hv
  cases m with
  | nil=>simp at hm
  | cons d m =>
   rw [List.all_cons,Bool.and_eq_true] at hl hma
   simp only [List.length_cons,Nat.add_right_cancel_iff] at hm
   have h1:=dval_lt l hl.2
   have h2:=dval_lt m hma.2
   have h3:=isDig_le hl.1
   have h4:=isDig_le hma.1
   rw [dval_cons,dval_cons,hm] at hv
   rw [hm] at h1
   generalize 10 ^ m.length=X at *
   have hcd:c.toNat - 48=d.toNat - 48:=by
    rcases Nat.lt_trichotomy (c.toNat - 48) (d.toNat - 48) with h | h | h
    ·
     have:=Nat.mul_le_mul_right X (show c.toNat - 48+1≤d.toNat - 48 from h)
     rw [Nat.add_mul] at this; omega
    ·
     exact h
    ·
     have:=Nat.mul_le_mul_right X (show d.toNat - 48+1≤c.toNat - 48 from h)
     rw [Nat.add_mul] at this; omega
   rw [hcd] at hv
   rw [ih m hm hl.2 hma.2 (by omega),UInt8.toNat.inj (show c.toNat=d.toNat by omega)]
theorem dval_ge {l:List UInt8} (hd:l.all isDig=true) (hne:l.isEmpty=false) (hh:l.head? ≠ some 48):10 ^ (l.length - 1)≤dval l:=by
 cases l with
 | nil=>cases hne
 | cons c l =>
  rw [List.all_cons,Bool.and_eq_true] at hd
  have h3:=isDig_le hd.1
  have hc:c.toNat ≠ 48:=fun e=>hh (by rw [List.head?_cons]; congr 1; exact UInt8.toNat.inj (by rw [e]; rfl))
  rw [dval_cons,List.length_cons,Nat.add_sub_cancel]
  have:=Nat.mul_le_mul_right (10 ^ l.length) (show 1≤c.toNat - 48 by omega)
  omega
theorem plain_uniq {N:Nat} {l m:List UInt8} (h:Plain N l) (k:Plain N m):l=m:=by
 have a1:=dval_ge h.dig h.ne h.head
 have a2:=dval_ge k.dig k.ne k.head
 have b1:=dval_lt l h.dig
 have b2:=dval_lt m k.dig
 rw [h.val] at a1 b1
 rw [k.val] at a2 b2
 have hl:0 < l.length:=by cases l with
  | nil=>have:=h.ne; cases this
  | cons c l=>simp
 have hm:0 < m.length:=by cases m with
  | nil=>have:=k.ne; cases this
  | cons c l=>simp
 have key:∀ i j:Nat,10 ^ (i - 1)≤N→N < 10 ^ j→0 < i→i≤j:=fun i j h1 h2 h0=>by
  have:10 ^ (i - 1) < 10 ^ j:=Nat.lt_of_le_of_lt h1 h2
  have:=(Nat.pow_lt_pow_iff_right (by decide:1 < 10)).1 this
  omega
 refine dval_inj l m ?_ h.dig k.dig (by rw [h.val,k.val])
 have:=key _ _ a1 b2 hl
 have:=key _ _ a2 b1 hm
 omega
/-- What a text that is a number is made of. -/
theorem parts_of {l:List UInt8} (h:parsesB l=true):(l=[48]∧zval l=0)∨(∃ d,l=d∧0 < dval d∧Plain (dval d) d∧zval l=(dval d:Int))∨(∃ d,l=45 :: d∧0 < dval d∧Plain (dval d) d∧zval l=-(dval d:Int)):=by
 unfold parsesB at h
 have hz:zval l=sg (pB l) (dval (pD l)):=rfl
 have hl:l=if pB l=true then 45 :: pD l else pD l:=by
  unfold pD pB Lib.trimPrefix
  by_cases hp:Lib.hasPrefix l [45]=true
  ·
   rw [if_pos hp,if_pos hp]
   unfold Lib.hasPrefix at hp
   cases l with
   | nil=>simp [List.isPrefixOf] at hp
   | cons c l=>simp [List.isPrefixOf] at hp; subst hp; rfl
  ·
   rw [if_neg hp,if_neg hp]
 generalize pB l=b at *
 generalize pD l=d at *
 have hw:=h
 unfold wwB at hw
 simp only [Bool.and_eq_true,Bool.or_eq_true,Bool.not_eq_true'] at hw
 obtain ⟨⟨hne,hdg⟩,hh⟩:=hw
 by_cases h48:d.head?=some 48
 ·
  rcases hh with hh | hh
  ·
   simp [h48] at hh
  ·
   obtain ⟨h1,h2⟩:=hh
   subst h2
   have hd:d=[48]:=by
    cases d with
    | nil=>cases hne
    | cons c d=>simp at h1 h48; subst h1; subst h48; rfl
   subst hd
   left
   refine ⟨by simpa using hl,?_⟩
   rw [hz]; rfl
 ·
  have hp:Plain (dval d) d:=⟨hdg,rfl,hne,h48⟩
  have hpos:0 < dval d:=Nat.lt_of_lt_of_le (Nat.pow_pos (by decide)) (dval_ge hdg hne h48)
  right
  cases b
  ·
   left; exact ⟨d,by simpa using hl,hpos,hp,hz⟩
  ·
   right; exact ⟨d,by simpa using hl,hpos,hp,hz⟩
theorem txt_uniq {z:Int} {l m:List UInt8} (h:Txt z l) (k:Txt z m):l=m:=by
 have e:=h.2.trans k.2.symm
 rcases parts_of h.1 with ⟨rfl,h1⟩ | ⟨d,rfl,h0,hp,h1⟩ | ⟨d,rfl,h0,hp,h1⟩ <;> rcases parts_of k.1 with ⟨rfl,k1⟩ | ⟨d',rfl,k0,kp,k1⟩ | ⟨d',rfl,k0,kp,k1⟩
 ·
  rfl
 ·
  rw [h1,k1] at e; omega
 ·
  rw [h1,k1] at e; omega
 ·
  rw [h1,k1] at e; omega
 ·
  rw [h1,k1] at e
  have ed:dval l=dval m:=by omega
  rw [ed] at hp
  exact plain_uniq hp kp
 ·
  rw [h1,k1] at e; omega
 ·
  rw [h1,k1] at e; omega
 ·
  rw [h1,k1] at e; omega
 ·
  rw [h1,k1] at e
  have ed:dval d=dval d':=by omega
  rw [ed] at hp
  rw [plain_uniq hp kp]
end Go.Proofs.YtncbajehmdnibaaDoor
