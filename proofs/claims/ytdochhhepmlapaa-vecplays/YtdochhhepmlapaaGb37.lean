/- Parts of the proof. -/
import Derived.Test.YtdochhhepmlapaaGb17
import Derived.Lib.SmallJoins
import Derived.WalkKit
import Derived.ProofKit
import Derived.OpenShut
/- How a span that comes in reads, for the rows of package span's laws. -/
namespace Go.Proofs.Ytdochhhepmlapaa
open Go.Joins Go.ChangeShapes Go.WideShapes Go.RowKit Go.Deep
/-- A span, as it reads. -/
def spD {H : Type} (x : Sp) : DataW H := .agg [.lit (.int .i64 x.lo), .lit (.int .i64 x.hi), .lit (.bool x.all)]
section
variable {H : Type} {enc : TypeId × Value → H} {w : World} {base : Nat} {spare : Nat → Bool} {held : Bool}
set_option maxRecDepth 100000 in
theorem open_span {r : Reach} {b0 : Nat} {v : Value} {d : DataW H} {p : List MemPlace} (hv : Value.okWide Try.prog w r b0 23 v) (h : DataW.Trod enc Try.prog w base spare held 23 v d p) :
  ∃ x : Sp, v = .agg #[.int .i64 x.lo, .int .i64 x.hi, .bool x.all] ∧ d = spD x ∧ p = [] ∧ (Lit.int .i64 x.lo).wf = true ∧ (Lit.int .i64 x.hi).wf = true := by
 obtain ⟨v0, v1, v2, y0, y1, y2, n, rfl, rfl, rfl, h0, h1, h2⟩ := open_agg3 Try.underlying23 (by kernel_rfl) (by kernel_rfl) hv h
 obtain ⟨a, ha, rfl, wa⟩ := DataW.trod_int Try.underlying2 h0
 obtain ⟨b, hb, rfl, wb⟩ := DataW.trod_int Try.underlying2 h1
 obtain ⟨c, hc, rfl⟩ := DataW.trod_bool Try.underlying4 h2
 cases ha
 cases hb
 cases hc
 exact ⟨⟨a, b, c⟩, rfl, rfl, rfl, wa, wb⟩
set_option maxRecDepth 100000 in
theorem shut_span {x : Sp} (wa : (Lit.int .i64 x.lo).wf = true) (wb : (Lit.int .i64 x.hi).wf = true) : DataW.Trod enc Try.prog w base spare held 23 (.agg #[.int .i64 x.lo, .int .i64 x.hi, .bool x.all]) (spD x) [] :=
 shut_agg3 (y0 := (.lit (.int .i64 x.lo), [])) (y1 := (.lit (.int .i64 x.hi), [])) (y2 := (.lit (.bool x.all), [])) Try.underlying23 (by kernel_rfl) (by kernel_rfl)
  (field_of_Trod (shut_int Try.underlying2 wa) rfl) (field_of_Trod (shut_int Try.underlying2 wb) rfl) (field_of_Trod (shut_bool Try.underlying4 _) rfl)
end
end Go.Proofs.Ytdochhhepmlapaa
