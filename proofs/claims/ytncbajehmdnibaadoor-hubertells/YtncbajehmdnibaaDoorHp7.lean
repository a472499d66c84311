/- Parts of the proof. -/
import Derived.Test.YtncbajehmdnibaaDoorHp4
import Derived.Test.YtncbajehmdnibaaDoorShelf
import Derived.Lib.Strings
set_option linter.unusedSimpArgs false
set_option linter.unusedVariables false
/- The walks of groupOf, wellWritten, groupBehind, readDigits. -/
namespace Go.Proofs.YtncbajehmdnibaaDoor
open Go.RowKit
/-- Is a byte a digit? -/
def isDig (c:UInt8):Bool:=decide (48≤c.toNat∧c.toNat≤57)
/-- The number that digits tell, behind n. -/
def dstep (n:Nat) (c:UInt8):Nat:=n*10+(c.toNat - 48)
def dvalF (n:Nat) (l:List UInt8):Nat:=l.foldl dstep n
def dval (l:List UInt8):Nat:=dvalF 0 l
theorem dvalF_append (n:Nat) (l m:List UInt8):dvalF n (l++m)=dvalF (dvalF n l) m:=List.foldl_append
theorem dvalF_cons (n:Nat) (c:UInt8) (l:List UInt8):dvalF n (c :: l)=dvalF (n*10+(c.toNat - 48)) l:=by unfold dvalF; rw [List.foldl_cons,dstep]
theorem dvalF_nil (n:Nat):dvalF n []=n:=List.foldl_nil
theorem dvalF_eq (n:Nat) (l:List UInt8):dvalF n l=n*10 ^ l.length+dvalF 0 l:=by
 induction l generalizing n with
 | nil=>rw [dvalF_nil,dvalF_nil]; simp
 | cons c l ih =>
  have e1:=ih (n*10+(c.toNat - 48))
  have e2:=ih (0*10+(c.toNat - 48))
  rw [List.length_cons,dvalF_cons,dvalF_cons,e1,e2,Nat.pow_succ]
  generalize 10 ^ l.length=X
  generalize c.toNat - 48=d
  rw [Nat.add_mul,Nat.add_mul,Nat.mul_assoc,Nat.mul_comm 10 X]
  omega
theorem dval_append (l m:List UInt8):dval (l++m)=dval l*10 ^ m.length+dval m:=by
 unfold dval
 rw [dvalF_append,dvalF_eq]
theorem isDig_le {c:UInt8} (h:isDig c=true):48≤c.toNat∧c.toNat≤57:=of_decide_eq_true h
theorem dval_lt (l:List UInt8) (h:l.all isDig=true):dval l < 10 ^ l.length:=by
 induction l with
 | nil=>rw [dval,dvalF_nil]; simp
 | cons c l ih =>
  rw [List.all_cons,Bool.and_eq_true] at h
  have h1:=isDig_le h.1
  have h2:=ih h.2
  have e:dval (c :: l)=(c.toNat - 48)*10 ^ l.length+dval l:=by rw [show c :: l=[c]++l from rfl,dval_append]; unfold dval; rw [dvalF_cons,dvalF_nil,Nat.zero_mul,Nat.zero_add]
  rw [e,List.length_cons,Nat.pow_succ]
  have:(c.toNat - 48)*10 ^ l.length≤9*10 ^ l.length:=Nat.mul_le_mul_right _ (by omega)
  omega
/-- May digits be written so? -/
def wwB (l:List UInt8) (below:Bool):Bool:=!l.isEmpty && l.all isDig && (l.head? != some 48 || (l.length == 1 && !below))
end Go.Proofs.YtncbajehmdnibaaDoor
