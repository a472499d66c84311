/- Parts of the proof. -/
import Derived.Test.YtjclllindbfmhaaGreatDoorHn11
import Derived.Test.YtjclllindbfmhaaGreatDoorHn10
set_option linter.unusedSimpArgs false
set_option linter.unusedVariables false
namespace Go.Proofs.YtjclllindbfmhaaGreatDoor
/- Texts of numbers: each number has one. -/
open Go.RowKit
theorem dval_inj:∀ (l m:List UInt8),l.length=m.length→l.all isDig=true→m.all isDig=true→dval l=dval m→l=m:=by
 intro l
 induction l with
 | nil=>intro m hm _ _ _; exact (List.eq_nil_of_length_eq_zero hm.symm).symm
 | cons c l ih =>
  intro m hm hl hma hv
  cases m with
  | nil=>simp at hm
  | cons d m =>
   rw [List.all_cons,Bool.and_eq_true] at hl hma
   simp only [List.length_cons,Nat.add_right_cancel_iff] at hm
   have h1:=dval_lt l hl.2
   have h2:=dval_lt m hma.2
   have h3:=isDig_le hl.1
   have h4:=isDig_le hma.1
   rw [dval_cons,dval_cons,hm] at hv
   rw [hm] at h1
   generalize 10 ^ m.length=X at *
   have hcd:c.toNat - 48=d.toNat - 48:=by
    rcases Nat.lt_trichotomy (c.toNat - 48) (d.toNat - 48) with h | h | h
    ·
     have:=Nat.mul_le_mul_right X (show c.toNat - 48+1≤d.toNat - 48 from h)
     rw [Nat.add_mul] at this; omega
    ·
     exact h
    ·
     have:=Nat.mul_le_mul_right X (show d.toNat - 48+1≤c.toNat - 48 from h)
     rw [Nat.add_mul] at this; omega
   rw [hcd] at hv
   rw [ih m hm hl.2 hma.2 (by omega),UInt8.toNat.inj (show c.toNat=d.toNat by omega)]
theorem dval_ge {l:List UInt8} (hd:l.all isDig=true) (hne:l.isEmpty=false) (hh:l.head? ≠ some 48):10 ^ (l.length - 1)≤dval l:=by
 cases l with
 | nil=>cases hne
 | cons c l =>
  rw [List.all_cons,Bool.and_eq_true] at hd
  have h3:=isDig_le hd.1
  have hc:c.toNat ≠ 48:=fun e=>hh (by rw [List.head?_cons]; congr 1; exact UInt8.toNat.inj (by rw [e]; rfl))
  rw [dval_cons,List.length_cons,Nat.add_sub_cancel]
  have:=Nat.mul_le_mul_right (10 ^ l.length) (show 1≤c.toNat - 48 by omega)
  omega
theorem plain_uniq {N:Nat} {l m:List UInt8} (h:Plain N l) (k:Plain N m):l=m:=by
 have a1:=dval_ge h.dig h.ne h.head
 have a2:=dval_ge k.dig k.ne k.head
 have b1:=dval_lt l h.dig
 have b2:=dval_lt m k.dig
 rw [h.val] at a1 b1
 rw [k.val] at a2 b2
 have hl:0 < l.length:=by cases l with
  | nil=>have:=h.ne; cases this
  | cons c l=>simp
 have hm:0 < m.length:=by cases m with
  | nil=>have:=k.ne; cases this
  | cons c l=>simp
 have key:∀ i j:Nat,10 ^ (i - 1)≤N→N < 10 ^ j→0 < i→i≤j:=fun i j h1 h2 h0=>by
  have:10 ^ (i - 1) < 10 ^ j:=Nat.lt_of_le_of_lt h1 h2
  have:=(Nat.pow_lt_pow_iff_right (by decide:1 < 10)).1 this
  omega
 refine dval_inj l m ?_ h.dig k.dig (by rw [h.val,k.val])
 have:=key _ _ a1 b2 hl
 have:=key _ _ a2 b1 hm
 omega
/-- What a text that is a number is made of. -/
theorem parts_of {l:List UInt8} (h:parsesB l=true):(l=[48]∧zval l=0)∨(∃ d,l=d∧0 < dval d∧Plain (dval d) d∧zval l=(dval d:Int))∨(∃ d,l=45 :: d∧0 < dval d∧Plain (dval d) d∧zval l=-(dval d:Int)):=by
 unfold parsesB at h
 have hz:zval l=sg (pB l) (dval (pD l)):=rfl
 have hl:l=if pB l=true then 45 :: pD l else pD l:=by
  unfold pD pB Lib.trimPrefix
  by_cases hp:Lib.hasPrefix l [45]=true
  ·
   rw [if_pos hp,if_pos hp]
   unfold Lib.hasPrefix at hp
   cases l with
   | nil=>simp [List.isPrefixOf] at hp
   | cons c l=>simp [List.isPrefixOf] at hp; subst hp; rfl
  ·
   rw [if_neg hp,if_neg hp]
 generalize pB l=b at *
 generalize pD l=d at *
 have hw:=h
 unfold wwB at hw
 simp only [Bool.and_eq_true,Bool.or_eq_true,Bool.not_eq_true'] at hw
 obtain ⟨⟨hne,hdg⟩,hh⟩:=hw
 by_cases h48:d.head?=some 48
 ·
  rcases hh with hh | hh
  ·
   simp [h48] at hh
  ·
   obtain ⟨h1,h2⟩:=hh
   subst h2
   have hd:d=[48]:=by
    cases d with
    | nil=>cases hne
    | cons c d=>simp at h1 h48; subst h1; subst h48; rfl
   subst hd
   left
   refine ⟨by simpa using hl,?_⟩
   rw [hz]; rfl
 ·
  have hp:Plain (dval d) d:=⟨hdg,rfl,hne,h48⟩
  have hpos:0 < dval d:=Nat.lt_of_lt_of_le (Nat.pow_pos (by decide)) (dval_ge hdg hne h48)
  right
  cases b
  ·
   left; exact ⟨d,by simpa using hl,hpos,hp,hz⟩
  ·
   right; exact ⟨d,by simpa using hl,hpos,hp,hz⟩
theorem txt_uniq {z:Int} {l m:List UInt8} (h:Txt z l) (k:Txt z m):l=m:=by
 have e:=h.2.trans k.2.symm
 rcases parts_of h.1 with ⟨rfl,h1⟩ | ⟨d,rfl,h0,hp,h1⟩ | ⟨d,rfl,h0,hp,h1⟩ <;> rcases parts_of k.1 with ⟨rfl,k1⟩ | ⟨d',rfl,k0,kp,k1⟩ | ⟨d',rfl,k0,kp,k1⟩
 ·
  rfl
 ·
  rw [h1,k1] at e; omega
 ·
  rw [h1,k1] at e; omega
 ·
  rw [h1,k1] at e; omega
 ·
  rw [h1,k1] at e
  have ed:dval l=dval m:=by omega
  rw [ed] at hp
  exact plain_uniq hp kp
 ·
  rw [h1,k1] at e; omega
 ·
  rw [h1,k1] at e; omega
 ·
  rw [h1,k1] at e; omega
 ·
  rw [h1,k1] at e
  have ed:dval d=dval d':=by omega
  rw [ed] at hp
  rw [plain_uniq hp kp]
end Go.Proofs.YtjclllindbfmhaaGreatDoor

namespace Go.Proofs.YtjclllindbfmhaaGreatDoor
/- What package long's calls do, said of variables that hold numbers. -/
open Go.RowKit
theorem num_len {w:World} {bl:Bool} {a:Option Addr} {n c k:Nat} {z:Int} (h:Num w bl a n c z) (hz:z.natAbs < BB ^ k) (hk:k≤9000000):n≤9000000:=Nat.le_trans (fit_le h.fit hz) hk
theorem below_new (w:World) (o:Obj):Below w.heap.size w (w.alloc o):=(Below.refl _ _).alloc (Nat.le_refl _) _
theorem String_all (bl:Bool) (a:Option Addr) (n c:Nat) (z:Int) (w:World) (h:Num w bl a n c z) (hn:n≤10000000) :
  Calls Tryz.prog 17 #[.agg #[.bool bl,.slice a n c]] w (PTxt z w):=by
 by_cases hz:z=0
 ·
  subst hz; exact String_zero bl a n c w h
 ·
  exact String_any bl a n c z w h hn hz
end Go.Proofs.YtjclllindbfmhaaGreatDoor
