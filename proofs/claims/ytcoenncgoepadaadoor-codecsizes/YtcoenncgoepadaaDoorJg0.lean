/- Short names for lemmas of the language's own library that are used often; nothing of this seat is stated here. -/
set_option linter.unusedSimpArgs false
set_option linter.unusedVariables false
namespace Go.Proofs.YtcoenncgoepadaaDoor
theorem zzA {α:Type} (a:α) (as:List α) (i:Nat) (h:i+1 < (a :: as).length):(a :: as)[i+1]=as[i]'(Nat.lt_of_succ_lt_succ h):=rfl
theorem zzB {α:Type} (a:α) (as:List α) (h:0 < (a :: as).length):(a :: as)[0]=a:=rfl
theorem zzC {α:Type} (l:List α) (i:Nat) (a:α):l.toArray.setIfInBounds i a=(l.set i a).toArray:=List.setIfInBounds_toArray ..
theorem zzD {α:Type} {a b:α} {l:List α} {n:Nat}:(a :: l).set (n+1) b=a :: l.set n b:=rfl
theorem zzE {α:Type} {a b:α} {l:List α}:(a :: l).set 0 b=b :: l:=rfl
theorem zzF {n m:Nat} (h:Nat.ble n m=true):n≤m:=Nat.le_of_ble_eq_true h
theorem zzG {α:Type} {l:List α} {i:Nat} {a:α} (h:l[i]?=some a):a ∈ l:=List.mem_of_getElem? h
theorem zzH {α:Type} {o:Option α} {x v:α} (h:o=some x) (e:x=v):o=some v:=h.trans (congrArg some e)
end Go.Proofs.YtcoenncgoepadaaDoor
