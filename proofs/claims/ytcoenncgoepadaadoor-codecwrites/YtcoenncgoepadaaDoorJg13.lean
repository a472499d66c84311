/- Parts of the proof. -/
import Derived.Test.YtcoenncgoepadaaDoorJg11
import Derived.Test.YtcoenncgoepadaaDoorJg12
set_option linter.unusedSimpArgs false
set_option linter.unusedVariables false
/- The document's numbers: the walk of Quo. -/
namespace Go.Proofs.YtcoenncgoepadaaDoor
open Go.RowKit
theorem RNum.store {w:World} {bl:Bool} {a:Option Addr} {n c:Nat} {z:Int} (h:RNum w bl a n c z) {t:TypeId} {k:Nat} {bk:Bool} {ak:Option Addr} {nk ck:Nat} (hk:Bx w t k (.bool bk) (.slice ak nk ck)) (u v:Value) :
  RNum ((w.setCell ⟨k,0,none⟩ u).setCell ⟨k,1,none⟩ v) bl a n c z:=by
 by_cases hn:n=0
 ·
  subst hn
  refine ⟨⟨h.lie.cap,h.lie.capm,h.lie.nil,fun p hp=>⟨(h.lie.spot p hp).1,by rw [(only2 w k u v).size]; exact (h.lie.spot p hp).2⟩,fun p hp i hi=>by omega⟩,h.fit,h.sgn⟩
 ·
  refine h.only (only2 _ _ _ _) (fun p hp e=>?_)
  have h1:=h.lie.cell p hp 0 (by omega)
  rw [e] at h1
  unfold Bx at hk
  simp only [World.cell?,hk,Nat.add_zero] at h1
  rcases hpo:p.off with _ | _ | o
  ·
   rw [hpo] at h1; simp at h1
  ·
   rw [hpo] at h1; simp at h1
  ·
   rw [hpo] at h1; simp at h1
section
variable {w W W':World} {bl:Bool} {a:Option Addr} {n c:Nat} {bl':Bool} {a':Option Addr} {n' c':Nat}
end
end Go.Proofs.YtcoenncgoepadaaDoor
