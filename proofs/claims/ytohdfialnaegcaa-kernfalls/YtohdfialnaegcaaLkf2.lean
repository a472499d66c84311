/- The walk of the law KernFalls, for any numbers and spans. -/
import Derived.Test.YtohdfialnaegcaaLkf
import Derived.Test.YtohdfialnaegcaaKaf
namespace Go.Proofs.Ytohdfialnaegcaa
open Go.RowKit

theorem one_in {s : Int} (h0 : 0 ≤ s) (h1 : s ≤ 4194304) : ofS s s = ⟨s, s, false⟩ ∧ inB (ofS s s) fourS = true := by
  have hk : okB ⟨s, s, false⟩ = true := ok_mk (by show _ ≤ s; omega) (Int.le_refl s) (by show s ≤ _; omega) rfl
  have e : ofS s s = ⟨s, s, false⟩ := by rw [ofS_le (Int.le_refl s), mkS_ok hk]
  rw [e]
  exact ⟨rfl, (in_ok (D := fourS) rfl).2 ⟨hk, h0, h1⟩⟩
theorem falls_enc {c : Nat} {s t : Int} (hc : c ≤ 2) (h0 : 0 ≤ s) (h1 : s ≤ t) (h2 : t ≤ 4194304) (w : World) : Calls Try.prog 43 #[.agg #[.int .i64 (encS c (ofS s s)).lo, .int .i64 (encS c (ofS s s)).hi, .bool (encS c (ofS s s)).all], .agg #[.int .i64 (encS c (ofS t t)).lo, .int .i64 (encS c (ofS t t)).hi, .bool (encS c (ofS t t)).all]] w (PVal (.bool true) w) := by
  obtain ⟨e1, i1⟩ := one_in h0 (show s ≤ 4194304 by omega)
  obtain ⟨e2, i2⟩ := one_in (show 0 ≤ t by omega) h2
  obtain ⟨_, f1, _⟩ := enc_ok hc i1
  obtain ⟨_, f2, _⟩ := enc_ok hc i2
  refine falls_any _ _ ?_ ?_ ?_ ?_ w
  · rw [f1]
  · rw [f2]
  · rw [f1, f2, e1, e2]; exact lo_mono h0 h1 h2
  · rw [f1, f2, e1, e2]; exact hi_mono h0 h1 h2
theorem KernFalls_any (s t : Int) (x y : Sp) (w : World) : Calls Try.prog 9 #[.int .i64 s, .int .i64 t, .agg #[.int .i64 x.lo, .int .i64 x.hi, .bool x.all], .agg #[.int .i64 y.lo, .int .i64 y.hi, .bool y.all]] w (PVal (.bool true) w) := by
  have hA := kawake_any
  cases hin : inB x y
  · by_cases h0 : 0 ≤ s
    · by_cases h1 : s ≤ t
      · by_cases h2 : t ≤ 4194304
        · exact Falls_3o s t x y _ _ _ _ _ _ _ _ hA (sOf_any s s) (sOf_any t t) (kA_any _) (kA_any _) (falls_enc (by omega) h0 h1 h2) (kB_any _) (kB_any _) (falls_enc (by omega) h0 h1 h2) (kC_any _) (kC_any _) (falls_enc (by omega) h0 h1 h2) (kIn_at hin) (decide_eq_true h0) (decide_eq_true h1) (decide_eq_true h2) w
        · exact Falls_2o s t x y hA (kIn_at hin) (decide_eq_true h0) (decide_eq_true h1) (decide_eq_false h2) w
      · exact Falls_1o s t x y hA (kIn_at hin) (decide_eq_true h0) (decide_eq_false h1) w
    · exact Falls_0o s t x y hA (kIn_at hin) (decide_eq_false h0) w
  · have iA := kIn_at (enc_inB (c := 1) (by omega) hin)
    have iB := kIn_at (enc_inB (c := 2) (by omega) hin)
    have iC := kIn_at (enc_inB (c := 0) (by omega) hin)
    by_cases h0 : 0 ≤ s
    · by_cases h1 : s ≤ t
      · by_cases h2 : t ≤ 4194304
        · exact Falls_3i s t x y _ _ _ _ _ _ _ _ _ _ _ _ _ _ hA (sOf_any s s) (sOf_any t t) (kA_any _) (kA_any _) (falls_enc (by omega) h0 h1 h2) (kB_any _) (kB_any _) (falls_enc (by omega) h0 h1 h2) (kC_any _) (kC_any _) (falls_enc (by omega) h0 h1 h2) (kIn_at hin) (kA_any _) (kA_any _) iA (kB_any _) (kB_any _) iB (kC_any _) (kC_any _) iC (decide_eq_true h0) (decide_eq_true h1) (decide_eq_true h2) w
        · exact Falls_2i s t x y _ _ _ _ _ _ hA (kIn_at hin) (kA_any _) (kA_any _) iA (kB_any _) (kB_any _) iB (kC_any _) (kC_any _) iC (decide_eq_true h0) (decide_eq_true h1) (decide_eq_false h2) w
      · exact Falls_1i s t x y _ _ _ _ _ _ hA (kIn_at hin) (kA_any _) (kA_any _) iA (kB_any _) (kB_any _) iB (kC_any _) (kC_any _) iC (decide_eq_true h0) (decide_eq_false h1) w
    · exact Falls_0i s t x y _ _ _ _ _ _ hA (kIn_at hin) (kA_any _) (kA_any _) iA (kB_any _) (kB_any _) iB (kC_any _) (kC_any _) iC (decide_eq_false h0) w
end Go.Proofs.Ytohdfialnaegcaa
