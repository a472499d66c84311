/- Parts of the proof. -/
import Derived.Test.YtolpfibihialkaaDoorGm0
import Derived.Test.YtolpfibihialkaaDoorGm26
import Derived.Test.YtolpfibihialkaaDoorGm27
/- Lists and rows of two that a law writes down. No statement of the seat is proved here. -/
namespace Go.Proofs.YtolpfibihialkaaDoor
open Go Go.RowKit
theorem ei36 : EInf Tryd.prog 36 2 1 (.int .i64 0) 8 := ⟨by kernel_rfl, by kernel_rfl, by kernel_rfl, by decide, by decide⟩
theorem ei22 : EInf Tryd.prog 22 36 1 (.slice none 0 0) 24 := ⟨by kernel_rfl, by kernel_rfl, by kernel_rfl, by decide, by decide⟩
def l2 (a b : Int) (i : Nat) : Int := if i = 0 then a else b
def m2 (x y : Nat → Int) (i j : Nat) : Int := if i = 0 then x j else y j
theorem run_bslt {P : Program} {t e : TypeId} {by_ : Nat} {z : Value} (hI : EInf P t e 1 z by_) (u v : Value) (hu : u.cells = #[u]) (hv : v.cells = #[v]) (W : World) : (Instr.buildSlice t 2 #[(0, u), (1, v)]).run P W = .ok (.slice (some ⟨W.heap.size, 0, none⟩) 2 2) (W.alloc (.cells #[u, v] e)) := by
 obtain ⟨i, hi, hz, hs, hb⟩ := info_parts hI.hi
 simp [Instr.buildSlice, run_underlying hI.ht, sizeOf, typeInfo, hi, hs, zeroValue, hz, Instr.fill, newRow, hu, hv, set2]
section
variable {P : Program} {ops : Array Oper} {Q : Exit → Act → World → Prop} {a : Act} {w W : World} {rest : List Oper} {o : Oper} {l : List (Nat × Array Value × TypeId)} {X0 X : Nat → Prop} {fs : List Fa}
theorem wp_bslt {next : Act → World → Prop} {t e : TypeId} {by_ : Nat} {z : Value} (hI : EInf P t e 1 z by_) (x y : Operand) (ho : o.op = .buildSlice t 2 #[(0, x), (1, y)]) {u v : Value} (hx : a.eval x = u) (hy : a.eval y = v) (hu : u.cells = #[u]) (hv : v.cells = #[v]) (k : next (a.put o.dst (.slice (some ⟨W.heap.size, 0, none⟩) 2 2)) (W.alloc (.cells #[u, v] e))) : o.wp P a W next Q := by
 have e : (execOp a.eval o).run P W = .ok (.value (.slice (some ⟨W.heap.size, 0, none⟩) 2 2)) (W.alloc (.cells #[u, v] e)) := by
  unfold execOp
  rw [ho]
  simp only [List.map_toArray, List.map_cons, List.map_nil, hx, hy, Sem.run_bind, run_bslt hI u v hu hv, Result.andThen]
  rfl
 unfold Oper.wp
 rw [e]
 exact k
theorem sq_two {E : El} {u v : Value} {T : TypeId} (hx : NX X W) (h0 : E X (W.alloc (.cells #[u, v] T)) 0 [u]) (h1 : E X (W.alloc (.cells #[u, v] T)) 1 [v]) : Sq 1 E ⟨some ⟨W.heap.size, 0, none⟩, 2, 2⟩ X (W.alloc (.cells #[u, v] T)) := by
 have h : (W.alloc (.cells #[u, v] T)).heap[W.heap.size]? = some (.cells #[u, v] T (0, 0)) := heap_new W _
 refine ⟨Nat.le_refl _, by show 2 ≤ maxLen; unfold maxLen; omega, nofun, fun q hq _ => ?_, fun q hq i hi => ?_⟩
 ·
  cases hq
  exact ⟨rfl, (Array.getElem?_eq_some_iff.1 h).1, fun hX => Nat.lt_irrefl _ (hx _ hX)⟩
 ·
  cases hq
  simp only at hi
  obtain rfl | rfl : i = 0 ∨ i = 1 := by omega
  ·
   refine ⟨[u], rfl, fun j hj => ?_, h0⟩
   obtain rfl : j = 0 := by omega
   simp only [World.cell?, h]
   rfl
  ·
   refine ⟨[v], rfl, fun j hj => ?_, h1⟩
   obtain rfl : j = 0 := by omega
   simp only [World.cell?, h]
   rfl
theorem stopz_bi2 {t e : TypeId} {by_ : Nat} {z : Value} (hI : EInf P t e 1 z by_) (x y : Operand) {p q : Int} (hg : o.guard = none) (ho : o.op = .buildSlice t 2 #[(0, x), (1, y)]) (hx : a.eval x = .int .i64 p) (hy : a.eval y = .int .i64 q) (h : Zs w W X0 X l fs) (K : ∀ (s : Sl) (W' : World), Zs w W' X0 X l (Li 2 (l2 p q) s :: fs) → Stop (wpList P ops Q rest (a.put o.dst s.v) W')) : wpList P ops Q (o :: rest) a W :=
 wpList_plain hg fun K' hK => wp_bslt hI x y ho hx hy rfl rfl (hK _ _ (K ⟨some ⟨W.heap.size, 0, none⟩, 2, 2⟩ _ ((h.later (below_new _ _)).more (Li.stb _ _ _) ⟨rfl, sq_two h.nx rfl rfl⟩)))
theorem stopz_bm2 {t e : TypeId} {by_ : Nat} {z : Value} (hI : EInf P t e 1 z by_) (x y : Operand) {r s : Sl} {f g : Nat → Int} (hg : o.guard = none) (ho : o.op = .buildSlice t 2 #[(0, x), (1, y)]) (hx : a.eval x = r.v) (hy : a.eval y = s.v) (h : Zs w W X0 X l fs) (hr : Li 2 f r X W) (hs : Li 2 g s X W) (K : ∀ (u : Sl) (W' : World), Zs w W' X0 X l (Mi 2 (fun _ => 2) (m2 f g) u :: fs) → Stop (wpList P ops Q rest (a.put o.dst u.v) W')) : wpList P ops Q (o :: rest) a W :=
 wpList_plain hg fun K' hK => wp_bslt hI x y ho hx hy rfl rfl (hK _ _ (K ⟨some ⟨W.heap.size, 0, none⟩, 2, 2⟩ _ ((h.later (below_new _ _)).more (Mi.stb _ _ _ _) ⟨rfl, sq_two h.nx ⟨r, Li.stb _ _ _ _ _ _ _ (Ext.below X (below_new _ _)) hr, rfl⟩ ⟨s, Li.stb _ _ _ _ _ _ _ (Ext.below X (below_new _ _)) hs, rfl⟩⟩)))
end
theorem l2_in {a b : Int} (ha : -9 ≤ a ∧ a ≤ 9) (hb : -9 ≤ b ∧ b ≤ 9) (i : Nat) : -9223372036854775808 ≤ l2 a b i ∧ l2 a b i ≤ 9223372036854775807 := by unfold l2; split <;> omega
theorem m2_in {a b c d : Int} (ha : -9 ≤ a ∧ a ≤ 9) (hb : -9 ≤ b ∧ b ≤ 9) (hc : -9 ≤ c ∧ c ≤ 9) (hd : -9 ≤ d ∧ d ≤ 9) (i j : Nat) : -9223372036854775808 ≤ m2 (l2 a b) (l2 c d) i j ∧ m2 (l2 a b) (l2 c d) i j ≤ 9223372036854775807 := by
 unfold m2
 split
 ·
  exact l2_in ha hb j
 ·
  exact l2_in hc hd j
theorem m2_sz {a b c d : Int} (ha : -9 ≤ a ∧ a ≤ 9) (hb : -9 ≤ b ∧ b ≤ 9) (hc : -9 ≤ c ∧ c ≤ 9) (hd : -9 ≤ d ∧ d ≤ 9) (i j : Nat) : Sz 2 (m2 (l2 a b) (l2 c d) i j) := sz_int (m2_in ha hb hc hd i j).1 (m2_in ha hb hc hd i j).2
theorem xl_in {k : Nat} {x : Nat → Int} (h : ∀ i, i < k → -9223372036854775808 ≤ x i ∧ x i ≤ 9223372036854775807) (i : Nat) : Sz 2 (xl k x i) := by
 unfold xl
 split
 ·
  next hi => exact sz_int (h i hi).1 (h i hi).2
 ·
  exact sz_zero _
theorem a_det : M.dt 2 (m2 (l2 2 1) (l2 1 3)) = 5 := by rw [M.dt_two]; decide
theorem b_det : M.dt 2 (m2 (l2 1 2) (l2 2 4)) = 0 := by rw [M.dt_two]; decide
theorem c_det : M.dt 2 (m2 (l2 1 2) (l2 2 1)) = -3 := by rw [M.dt_two]; decide
theorem txt_5 : Txt 5 [53] := ⟨by decide +kernel, by decide +kernel⟩
theorem txt_0 : Txt 0 [48] := ⟨by decide +kernel, by decide +kernel⟩
theorem txt_3 : Txt 3 [51] := ⟨by decide +kernel, by decide +kernel⟩
theorem txt_1' : Txt 1 [49] := ⟨by decide +kernel, by decide +kernel⟩
theorem a_txt : decT (M.dt 2 (m2 (l2 2 1) (l2 1 3))) = [53] := by rw [a_det]; exact (decT_eq txt_5).symm
theorem b_txt : decT (M.dt 2 (m2 (l2 1 2) (l2 2 4))) = [48] := by rw [b_det]; exact (decT_eq txt_0).symm
theorem a_num : txL 2 (crx 2 (m2 (l2 2 1) (l2 1 3)) (xl 2 (l2 1 2))) = [49, 32, 51, 32] := by
 have h0 : crx 2 (m2 (l2 2 1) (l2 1 3)) (xl 2 (l2 1 2)) 0 = 1 := by unfold crx; rw [M.dt_two]; decide
 have h1 : crx 2 (m2 (l2 2 1) (l2 1 3)) (xl 2 (l2 1 2)) 1 = 3 := by unfold crx; rw [M.dt_two]; decide
 simp only [txL]
 rw [h0, h1, ← decT_eq txt_1', ← decT_eq txt_3]
 rfl
theorem a_quad : decT (M.sm 2 (fun k => xl 2 (l2 1 (-1)) k * M.mulv 2 (m2 (l2 2 1) (l2 1 3)) (xl 2 (l2 1 (-1))) k)) = [51] := by
 rw [show M.sm 2 (fun k => xl 2 (l2 1 (-1)) k * M.mulv 2 (m2 (l2 2 1) (l2 1 3)) (xl 2 (l2 1 (-1))) k) = 3 by decide]
 exact (decT_eq txt_3).symm
theorem a_def : Sym 2 (m2 (l2 2 1) (l2 1 3)) ∧ ∀ k, k < 2 → 0 < M.dt (k + 1) (m2 (l2 2 1) (l2 1 3)) := by
 refine ⟨fun i j hi hj => ?_, fun k hk => ?_⟩
 ·
  obtain rfl | rfl : i = 0 ∨ i = 1 := by omega
  ·
   obtain rfl | rfl : j = 0 ∨ j = 1 := by omega
   ·
    rfl
   ·
    decide
  ·
   obtain rfl | rfl : j = 0 ∨ j = 1 := by omega
   ·
    decide
   ·
    rfl
 ·
  obtain rfl | rfl : k = 0 ∨ k = 1 := by omega
  ·
   rw [dt_one]; decide
  ·
   rw [a_det]; decide
theorem c_def : ¬ (Sym 2 (m2 (l2 1 2) (l2 2 1)) ∧ ∀ k, k < 2 → 0 < M.dt (k + 1) (m2 (l2 1 2) (l2 2 1))) := fun h => by
 have := h.2 1 (by omega)
 rw [c_det] at this
 exact absurd this (by decide)
theorem d_def : ¬ (Sym 2 (m2 (l2 1 0) (l2 1 1)) ∧ ∀ k, k < 2 → 0 < M.dt (k + 1) (m2 (l2 1 0) (l2 1 1))) := fun h => absurd (h.1 0 1 (by omega) (by omega)) (by decide)
end Go.Proofs.YtolpfibihialkaaDoor

/- The laws' awake. No statement of the seat is proved here. -/
namespace Go.Proofs.YtolpfibihialkaaDoor
open Go Go.RowKit
open Classical in
set_option maxRecDepth 100000 in
set_option maxHeartbeats 12800000 in
theorem gAwake {X0 : Nat → Prop} {w : World} (hX : NX X0 w) : Calls Tryd.prog 9 #[] w (PVal (.bool true) w) := by
 have hZ0 := zs_start hX
 go_enter Tryd.func9, Tryd.ntmps9
 go_wp2_with (refine stopz_bi2 ei36 (.const (.int .i64 2)) (.const (.int .i64 1)) rfl rfl rfl rfl hZ0 (fun s1 W1 hZ1 => ?_))
 clear hZ0
 unfold Stop
 try simp only [Act.put, zzC, zzD, zzE]
 go_wp2_with (refine stopz_bi2 ei36 (.const (.int .i64 1)) (.const (.int .i64 3)) rfl rfl rfl rfl hZ1 (fun s2 W2 hZ2 => ?_))
 clear hZ1
 unfold Stop
 try simp only [Act.put, zzC, zzD, zzE]
 go_wp2_with (refine stopz_bm2 ei22 (.tmp 27) (.tmp 28) rfl rfl rfl rfl hZ2 (hZ2.get 1 (f := Li 2 (l2 2 1) s1) rfl) (hZ2.get 0 (f := Li 2 (l2 1 3) s2) rfl) (fun s3 W3 hZ3 => ?_))
 clear hZ2
 unfold Stop
 try simp only [Act.put, zzC, zzD, zzE]
 go_wp2_with fail
 refine ((lOf hZ3.nx s3 (hZ3.get 0 (f := Mi 2 (fun _ => 2) (m2 (l2 2 1) (l2 1 3)) s3) rfl) (fun _ _ i j _ _ => m2_in (by decide) (by decide) (by decide) (by decide) i j)).mono (of_ok (by omega) (fun _ _ => rfl))).mono ?_
 rintro zz W4 ⟨s4, rfl, hi_s4, hB⟩
 have hZ4 := hZ3.later hB
 clear hB
 clear hZ3
 have hZ5 := hZ4.more (f := Mt 2 (fun _ => 2) (m2 (l2 2 1) (l2 1 3)) s4) (Mt.stb _ _ _ _) hi_s4
 clear hZ4
 clear hi_s4
 go_wp2_with (refine stopz_bi2 ei36 (.const (.int .i64 1)) (.const (.int .i64 2)) rfl rfl rfl rfl hZ5 (fun s5 W5 hZ6 => ?_))
 clear hZ5
 unfold Stop
 try simp only [Act.put, zzC, zzD, zzE]
 go_wp2_with (refine stopz_bi2 ei36 (.const (.int .i64 2)) (.const (.int .i64 4)) rfl rfl rfl rfl hZ6 (fun s6 W6 hZ7 => ?_))
 clear hZ6
 unfold Stop
 try simp only [Act.put, zzC, zzD, zzE]
 go_wp2_with (refine stopz_bm2 ei22 (.tmp 34) (.tmp 35) rfl rfl rfl rfl hZ7 (hZ7.get 1 (f := Li 2 (l2 1 2) s5) rfl) (hZ7.get 0 (f := Li 2 (l2 2 4) s6) rfl) (fun s7 W7 hZ8 => ?_))
 clear hZ7
 unfold Stop
 try simp only [Act.put, zzC, zzD, zzE]
 go_wp2_with fail
 refine ((lOf hZ8.nx s7 (hZ8.get 0 (f := Mi 2 (fun _ => 2) (m2 (l2 1 2) (l2 2 4)) s7) rfl) (fun _ _ i j _ _ => m2_in (by decide) (by decide) (by decide) (by decide) i j)).mono (of_ok (by omega) (fun _ _ => rfl))).mono ?_
 rintro zz W8 ⟨s8, rfl, hi_s8, hB⟩
 have hZ9 := hZ8.later hB
 clear hB
 clear hZ8
 have hZ10 := hZ9.more (f := Mt 2 (fun _ => 2) (m2 (l2 1 2) (l2 2 4)) s8) (Mt.stb _ _ _ _) hi_s8
 clear hZ9
 clear hi_s8
 go_wp2_with (refine stopz_bi2 ei36 (.const (.int .i64 1)) (.const (.int .i64 2)) rfl rfl rfl rfl hZ10 (fun s9 W9 hZ11 => ?_))
 clear hZ10
 unfold Stop
 try simp only [Act.put, zzC, zzD, zzE]
 go_wp2_with (refine stopz_bi2 ei36 (.const (.int .i64 2)) (.const (.int .i64 1)) rfl rfl rfl rfl hZ11 (fun s10 W10 hZ12 => ?_))
 clear hZ11
 unfold Stop
 try simp only [Act.put, zzC, zzD, zzE]
 go_wp2_with (refine stopz_bm2 ei22 (.tmp 41) (.tmp 42) rfl rfl rfl rfl hZ12 (hZ12.get 1 (f := Li 2 (l2 1 2) s9) rfl) (hZ12.get 0 (f := Li 2 (l2 2 1) s10) rfl) (fun s11 W11 hZ13 => ?_))
 clear hZ12
 unfold Stop
 try simp only [Act.put, zzC, zzD, zzE]
 go_wp2_with fail
 refine ((lOf hZ13.nx s11 (hZ13.get 0 (f := Mi 2 (fun _ => 2) (m2 (l2 1 2) (l2 2 1)) s11) rfl) (fun _ _ i j _ _ => m2_in (by decide) (by decide) (by decide) (by decide) i j)).mono (of_ok (by omega) (fun _ _ => rfl))).mono ?_
 rintro zz W12 ⟨s12, rfl, hi_s12, hB⟩
 have hZ14 := hZ13.later hB
 clear hB
 clear hZ13
 have hZ15 := hZ14.more (f := Mt 2 (fun _ => 2) (m2 (l2 1 2) (l2 2 1)) s12) (Mt.stb _ _ _ _) hi_s12
 clear hZ14
 clear hi_s12
 go_wp2_with (refine stopz_bi2 ei36 (.const (.int .i64 1)) (.const (.int .i64 0)) rfl rfl rfl rfl hZ15 (fun s13 W13 hZ16 => ?_))
 clear hZ15
 unfold Stop
 try simp only [Act.put, zzC, zzD, zzE]
 go_wp2_with (refine stopz_bi2 ei36 (.const (.int .i64 1)) (.const (.int .i64 1)) rfl rfl rfl rfl hZ16 (fun s14 W14 hZ17 => ?_))
 clear hZ16
 unfold Stop
 try simp only [Act.put, zzC, zzD, zzE]
 go_wp2_with (refine stopz_bm2 ei22 (.tmp 48) (.tmp 49) rfl rfl rfl rfl hZ17 (hZ17.get 1 (f := Li 2 (l2 1 0) s13) rfl) (hZ17.get 0 (f := Li 2 (l2 1 1) s14) rfl) (fun s15 W15 hZ18 => ?_))
 clear hZ17
 unfold Stop
 try simp only [Act.put, zzC, zzD, zzE]
 go_wp2_with fail
 refine ((lOf hZ18.nx s15 (hZ18.get 0 (f := Mi 2 (fun _ => 2) (m2 (l2 1 0) (l2 1 1)) s15) rfl) (fun _ _ i j _ _ => m2_in (by decide) (by decide) (by decide) (by decide) i j)).mono (of_ok (by omega) (fun _ _ => rfl))).mono ?_
 rintro zz W16 ⟨s16, rfl, hi_s16, hB⟩
 have hZ19 := hZ18.later hB
 clear hB
 clear hZ18
 have hZ20 := hZ19.more (f := Mt 2 (fun _ => 2) (m2 (l2 1 0) (l2 1 1)) s16) (Mt.stb _ _ _ _) hi_s16
 clear hZ19
 clear hi_s16
 go_wp2_with (refine stop_opw (by kernel_rfl) (fun K hK => wp_lenq (.tmp 61) 25 39 s4 rfl (by kernel_rfl) rfl (hZ20.get 12 (f := Mt 2 (fun _ => 2) (m2 (l2 2 1) (l2 1 3)) s4) rfl).n (hK _ _ ?_)))
 unfold Stop
 try simp only [Act.put, zzC, zzD, zzE]
 go_wp2_with (refine stop_opw (by kernel_rfl) (fun K hK => wp_neqi (.tmp 62) (.const (.int .i64 2)) 3 3 rfl rfl rfl rfl (r := false) (decide_eq_false (by decide)) (hK _ _ ?_)))
 unfold Stop
 try simp only [Act.put, zzC, zzD, zzE]
 go_wp2_with (refine stop_opw (by kernel_rfl) (fun K hK => wp_lenq (.tmp 66) 25 39 s8 rfl (by kernel_rfl) rfl (hZ20.get 8 (f := Mt 2 (fun _ => 2) (m2 (l2 1 2) (l2 2 4)) s8) rfl).n (hK _ _ ?_)))
 unfold Stop
 try simp only [Act.put, zzC, zzD, zzE]
 go_wp2_with (refine stop_opw (by kernel_rfl) (fun K hK => wp_neqi (.tmp 67) (.const (.int .i64 2)) 3 3 rfl rfl rfl rfl (r := false) (decide_eq_false (by decide)) (hK _ _ ?_)))
 unfold Stop
 try simp only [Act.put, zzC, zzD, zzE]
 go_wp2_with (refine stop_opw (by kernel_rfl) (fun K hK => wp_lenq (.tmp 71) 25 39 s12 rfl (by kernel_rfl) rfl (hZ20.get 4 (f := Mt 2 (fun _ => 2) (m2 (l2 1 2) (l2 2 1)) s12) rfl).n (hK _ _ ?_)))
 unfold Stop
 try simp only [Act.put, zzC, zzD, zzE]
 go_wp2_with (refine stop_opw (by kernel_rfl) (fun K hK => wp_neqi (.tmp 72) (.const (.int .i64 2)) 3 3 rfl rfl rfl rfl (r := false) (decide_eq_false (by decide)) (hK _ _ ?_)))
 unfold Stop
 try simp only [Act.put, zzC, zzD, zzE]
 go_wp2_with (refine stop_opw (by kernel_rfl) (fun K hK => wp_lenq (.tmp 76) 25 39 s16 rfl (by kernel_rfl) rfl (hZ20.get 0 (f := Mt 2 (fun _ => 2) (m2 (l2 1 0) (l2 1 1)) s16) rfl).n (hK _ _ ?_)))
 unfold Stop
 try simp only [Act.put, zzC, zzD, zzE]
 go_wp2_with (refine stop_opw (by kernel_rfl) (fun K hK => wp_neqi (.tmp 77) (.const (.int .i64 2)) 3 3 rfl rfl rfl rfl (r := false) (decide_eq_false (by decide)) (hK _ _ ?_)))
 unfold Stop
 try simp only [Act.put, zzC, zzD, zzE]
 go_wp2_with (refine stopz_bi2 ei36 (.const (.int .i64 1)) (.const (.int .i64 2)) rfl rfl rfl rfl hZ20 (fun s17 W17 hZ21 => ?_))
 clear hZ20
 unfold Stop
 try simp only [Act.put, zzC, zzD, zzE]
 go_wp2_with fail
 refine (gList hZ21.nx s17 2 (hZ21.get 0 (f := Li 2 (l2 1 2) s17) rfl) (by omega) (fun i _ => l2_in (by decide) (by decide) i)).mono ?_
 rintro zz W18 ⟨s18, s18r, rfl, hi_s18, hB⟩
 have hZ22 := hZ21.later hB
 clear hB
 clear hZ21
 have hZ23 := hZ22.more (f := Ls 2 (xl 2 (l2 1 2)) s18) (Ls.stb _ _ _) hi_s18
 clear hZ22
 clear hi_s18
 go_wp2_with (refine stopz_bi2 ei36 (.const (.int .i64 1)) (.const (.int .i64 (-1))) rfl rfl rfl rfl hZ23 (fun s19 W19 hZ24 => ?_))
 clear hZ23
 unfold Stop
 try simp only [Act.put, zzC, zzD, zzE]
 go_wp2_with fail
 refine (gList hZ24.nx s19 2 (hZ24.get 0 (f := Li 2 (l2 1 (-1)) s19) rfl) (by omega) (fun i _ => l2_in (by decide) (by decide) i)).mono ?_
 rintro zz W20 ⟨s20, s20r, rfl, hi_s20, hB⟩
 have hZ25 := hZ24.later hB
 clear hB
 clear hZ24
 have hZ26 := hZ25.more (f := Ls 2 (xl 2 (l2 1 (-1))) s20) (Ls.stb _ _ _) hi_s20
 clear hZ25
 clear hi_s20
 go_wp2_with fail
 refine (lDet hZ26.nx s4 (e := 2) (by omega) (by omega) (by omega) (hZ26.get 16 (f := Mt 2 (fun _ => 2) (m2 (l2 2 1) (l2 1 3)) s4) rfl) (fun i j _ _ => m2_sz (by decide) (by decide) (by decide) (by decide) i j)).mono ?_
 rintro zz W21 ⟨q21, rfl, ez_q21, hi_q21, hB⟩
 have hZ27 := hZ26.later hB
 clear hB
 clear hZ26
 have hZ28 := hZ27.more (f := q21.is) q21.stb hi_q21
 clear hZ27
 clear hi_q21
 go_wp2_with fail
 refine ((zStr (hZ28.get 0 (f := q21.is) rfl) ez_q21 (dt_sz (fun i j _ _ => m2_sz (by decide) (by decide) (by decide) (by decide) i j)) (by first | omega | exact Nat.le_trans (dtb_le (by omega) (by omega)) (by omega))).mono (fun _ _ h => ptxt_dec h)).mono ?_
 rintro zz W22 ⟨rfl, hB⟩
 have hZ29 := hZ28.later hB
 clear hB
 clear hZ28
 go_wp2_with fail
 refine (lDet hZ29.nx s8 (e := 2) (by omega) (by omega) (by omega) (hZ29.get 13 (f := Mt 2 (fun _ => 2) (m2 (l2 1 2) (l2 2 4)) s8) rfl) (fun i j _ _ => m2_sz (by decide) (by decide) (by decide) (by decide) i j)).mono ?_
 rintro zz W23 ⟨q22, rfl, ez_q22, hi_q22, hB⟩
 have hZ30 := hZ29.later hB
 clear hB
 clear hZ29
 have hZ31 := hZ30.more (f := q22.is) q22.stb hi_q22
 clear hZ30
 clear hi_q22
 go_wp2_with fail
 refine ((zStr (hZ31.get 0 (f := q22.is) rfl) ez_q22 (dt_sz (fun i j _ _ => m2_sz (by decide) (by decide) (by decide) (by decide) i j)) (by first | omega | exact Nat.le_trans (dtb_le (by omega) (by omega)) (by omega))).mono (fun _ _ h => ptxt_dec h)).mono ?_
 rintro zz W24 ⟨rfl, hB⟩
 have hZ32 := hZ31.later hB
 clear hB
 clear hZ31
 go_wp2_with fail
 refine (lSolN hZ32.nx s4 s18 (e := 2) (by omega) (by omega) (by omega) (hZ32.get 18 (f := Mt 2 (fun _ => 2) (m2 (l2 2 1) (l2 1 3)) s4) rfl) (hZ32.get 4 (f := Ls 2 (xl 2 (l2 1 2)) s18) rfl) (fun i j _ _ => m2_sz (by decide) (by decide) (by decide) (by decide) i j) (fun k _ => xl_in (fun i _ => l2_in (by decide) (by decide) i) k) (by rw [a_det]; decide)).mono ?_
 rintro zz W25 ⟨s23, q23, rfl, hi_s23, ez_q23, hi_q23, hB⟩
 have hZ33 := hZ32.later hB
 clear hB
 clear hZ32
 have hZ34 := hZ33.more (f := Ls 2 (crx 2 (m2 (l2 2 1) (l2 1 3)) (xl 2 (l2 1 2))) s23) (Ls.stb _ _ _) hi_s23
 clear hZ33
 clear hi_s23
 have hZ35 := hZ34.more (f := q23.is) q23.stb hi_q23
 clear hZ34
 clear hi_q23
 go_wp2_with (refine stopz_alloc 45 #[.bool false, .slice none 0 0] (.agg #[.bool false, .slice none 0 0]) rfl rfl zv45 rfl hZ35 (fun bk1 X36 W26 hZ36 => ?_))
 clear hZ35
 unfold Stop
 try simp only [Act.put, zzC, zzD, zzE]
 go_wp2_with (refine stopz_store 45 (.tmp 16) (.tmp 101) 0 bk1 0 #[.bool false, .slice none 0 0] 45 2 [.bool q23.b, .slice q23.a q23.n q23.c] #[.bool q23.b, .slice q23.a q23.n q23.c] [(bk1, #[.bool q23.b, .slice q23.a q23.n q23.c], 45)] rfl rfl rfl rfl sz45 hZ36 rfl rfl (zzF (by kernel_rfl)) (by kernel_rfl) (by kernel_rfl) (by kernel_rfl) (fun W27 hZ37 => ?_))
 clear hZ36
 unfold Stop
 try simp only [Act.put, zzC, zzD, zzE]
 go_wp2_with fail
 refine (lSolZ hZ37.nx s8 s18 (e := 2) (by omega) (by omega) (by omega) (hZ37.get 16 (f := Mt 2 (fun _ => 2) (m2 (l2 1 2) (l2 2 4)) s8) rfl) (hZ37.get 6 (f := Ls 2 (xl 2 (l2 1 2)) s18) rfl) (fun i j _ _ => m2_sz (by decide) (by decide) (by decide) (by decide) i j) (fun k _ => xl_in (fun i _ => l2_in (by decide) (by decide) i) k) b_det).mono ?_
 rintro zz W28 ⟨rfl, hB⟩
 have hZ38 := hZ37.later hB
 clear hB
 clear hZ37
 go_wp2_with (refine stopz_alloc 45 #[.bool false, .slice none 0 0] (.agg #[.bool false, .slice none 0 0]) rfl rfl zv45 rfl hZ38 (fun bk2 X39 W29 hZ39 => ?_))
 clear hZ38
 unfold Stop
 try simp only [Act.put, zzC, zzD, zzE]
 go_wp2_with (refine stopz_store 45 (.tmp 19) (.tmp 108) 0 bk2 0 #[.bool false, .slice none 0 0] 45 2 [.bool false, .slice none 0 0] #[.bool false, .slice none 0 0] [(bk2, #[.bool false, .slice none 0 0], 45), (bk1, #[.bool q23.b, .slice q23.a q23.n q23.c], 45)] rfl rfl rfl rfl sz45 hZ39 rfl rfl (zzF (by kernel_rfl)) (by kernel_rfl) (by kernel_rfl) (by kernel_rfl) (fun W30 hZ40 => ?_))
 clear hZ39
 unfold Stop
 try simp only [Act.put, zzC, zzD, zzE]
 go_wp2_with (refine stop_op rfl (fun K hK => wp_load 45 (.tmp 16) rfl bk1 0 2 #[.bool q23.b, .slice q23.a q23.n q23.c] #[.bool q23.b, .slice q23.a q23.n q23.c] 45 (hZ40.es.at' _ (zzG (i := 1) rfl)) rfl ag45 sz45 (zzF (by kernel_rfl)) (by kernel_rfl) (hK _ _ ?_)))
 unfold Stop
 try simp only [Act.put, zzC, zzD, zzE]
 go_wp2_with fail
 refine ((zStr (hZ40.get 0 (f := q23.is) rfl) ez_q23 (dt_sz (fun i j _ _ => m2_sz (by decide) (by decide) (by decide) (by decide) i j)) (by first | omega | exact Nat.le_trans (dtb_le (by omega) (by omega)) (by omega))).mono (fun _ _ h => ptxt_dec h)).mono ?_
 rintro zz W31 ⟨rfl, hB⟩
 have hZ41 := hZ40.later hB
 clear hB
 clear hZ40
 go_wp2_with fail
 refine ((lDefinite hZ41.nx s4 (e := 2) (by omega) (by omega) (by omega) (hZ41.get 20 (f := Mt 2 (fun _ => 2) (m2 (l2 2 1) (l2 1 3)) s4) rfl) (fun i j _ _ => m2_sz (by decide) (by decide) (by decide) (by decide) i j)).mono (fun _ _ h => by rw [decide_eq_true a_def] at h; exact h)).mono ?_
 rintro zz W32 ⟨rfl, hB⟩
 have hZ42 := hZ41.later hB
 clear hB
 clear hZ41
 go_wp2_with fail
 refine ((lDefinite hZ42.nx s12 (e := 2) (by omega) (by omega) (by omega) (hZ42.get 12 (f := Mt 2 (fun _ => 2) (m2 (l2 1 2) (l2 2 1)) s12) rfl) (fun i j _ _ => m2_sz (by decide) (by decide) (by decide) (by decide) i j)).mono (fun _ _ h => by rw [decide_eq_false c_def] at h; exact h)).mono ?_
 rintro zz W33 ⟨rfl, hB⟩
 have hZ43 := hZ42.later hB
 clear hB
 clear hZ42
 go_wp2_with fail
 refine ((lDefinite hZ43.nx s16 (e := 2) (by omega) (by omega) (by omega) (hZ43.get 8 (f := Mt 2 (fun _ => 2) (m2 (l2 1 0) (l2 1 1)) s16) rfl) (fun i j _ _ => m2_sz (by decide) (by decide) (by decide) (by decide) i j)).mono (fun _ _ h => by rw [decide_eq_false d_def] at h; exact h)).mono ?_
 rintro zz W34 ⟨rfl, hB⟩
 have hZ44 := hZ43.later hB
 clear hB
 clear hZ43
 go_wp2_with fail
 refine (lQuad hZ44.nx s4 s20 (e := 2) (hZ44.get 20 (f := Mt 2 (fun _ => 2) (m2 (l2 2 1) (l2 1 3)) s4) rfl) (hZ44.get 4 (f := Ls 2 (xl 2 (l2 1 (-1))) s20) rfl) (fun i j _ _ => m2_sz (by decide) (by decide) (by decide) (by decide) i j) (fun k _ => xl_in (fun i _ => l2_in (by decide) (by decide) i) k) (by omega) (by omega)).mono ?_
 rintro zz W35 ⟨q24, rfl, ez_q24, hi_q24, hB⟩
 have hZ45 := hZ44.later hB
 clear hB
 clear hZ44
 have hZ46 := hZ45.more (f := q24.is) q24.stb hi_q24
 clear hZ45
 clear hi_q24
 go_wp2_with fail
 refine ((zStr (hZ46.get 0 (f := q24.is) rfl) ez_q24 (sm_sz (fun k _ => Sz.mul (xl_in (fun i _ => l2_in (by decide) (by decide) i) k) (sm_sz (fun j _ => Sz.mul (m2_sz (by decide) (by decide) (by decide) (by decide) k j) (xl_in (fun i _ => l2_in (by decide) (by decide) i) j))))) (by first | omega | exact Nat.le_trans (dtb_le (by omega) (by omega)) (by omega))).mono (fun _ _ h => ptxt_dec h)).mono ?_
 rintro zz W36 ⟨rfl, hB⟩
 have hZ47 := hZ46.later hB
 clear hB
 clear hZ46
 go_wp2_with (refine stop_op rfl (fun K hK => wp_seql (.tmp 122) (.const (.string ⟨([53]).toArray⟩)) 9 9 rfl rfl rfl rfl (r := true) (decide_eq_true a_txt) (hK _ _ ?_)))
 unfold Stop
 try simp only [Act.put, zzC, zzD, zzE]
 go_wp2_with (refine stop_opw (by kernel_rfl) (fun K hK => wp_seql (.tmp 125) (.const (.string ⟨([48]).toArray⟩)) 9 9 rfl rfl rfl rfl (r := true) (decide_eq_true b_txt) (hK _ _ ?_)))
 unfold Stop
 try simp only [Act.put, zzC, zzD, zzE]
 go_wp2_with fail
 refine (gText hZ47.nx s23 (hZ47.get 2 (f := Ls 2 (crx 2 (m2 (l2 2 1) (l2 1 3)) (xl 2 (l2 1 2))) s23) rfl) (fun j _ => crx_sz (fun i j _ _ => m2_sz (by decide) (by decide) (by decide) (by decide) i j) (fun k _ => xl_in (fun i _ => l2_in (by decide) (by decide) i) k) j) (by omega) (Nat.le_trans (dtb_le (by omega) (by omega)) (by omega))).mono ?_
 rintro zz W37 ⟨rfl, hB⟩
 have hZ48 := hZ47.later hB
 clear hB
 clear hZ47
 go_wp2_with (refine stop_opw (by kernel_rfl) (fun K hK => wp_seql (.tmp 130) (.const (.string ⟨([49, 32, 51, 32]).toArray⟩)) 9 9 rfl rfl rfl rfl (r := true) (decide_eq_true a_num) (hK _ _ ?_)))
 unfold Stop
 try simp only [Act.put, zzC, zzD, zzE]
 go_wp2_with (refine stop_opw (by kernel_rfl) (fun K hK => wp_seql (.tmp 134) (.const (.string ⟨([53]).toArray⟩)) 9 9 rfl rfl rfl rfl (r := true) (decide_eq_true a_txt) (hK _ _ ?_)))
 unfold Stop
 try simp only [Act.put, zzC, zzD, zzE]
 go_wp2_with (refine stop_opw (by kernel_rfl) (fun K hK => wp_seql (.tmp 157) (.const (.string ⟨([51]).toArray⟩)) 9 9 rfl rfl rfl rfl (r := true) (decide_eq_true a_quad) (hK _ _ ?_)))
 unfold Stop
 try simp only [Act.put, zzC, zzD, zzE]
 go_wp2
 go_ret
 exact ⟨rfl, hZ48.below⟩
end Go.Proofs.YtolpfibihialkaaDoor

/- The law LinBack of layer 7, walked. No statement of the seat is proved here. -/
namespace Go.Proofs.YtolpfibihialkaaDoor
open Go Go.RowKit
open Classical in
set_option maxRecDepth 100000 in
set_option maxHeartbeats 25600000 in
theorem lbk1 {X0 : Nat → Prop} {w : World} (hX : NX X0 w) (ra l : Sl) (ma kl : Nat) (ca : Nat → Nat) (Ra : Nat → Nat → Int) (xl_ : Nat → Int) (hra : Mi ma ca Ra ra X0 w) (hl_ : Li kl xl_ l X0 w) (rga0 : ∀ i j, i < ma → j < ca i → -9223372036854775808 ≤ Ra i j ∧ Ra i j ≤ 9223372036854775807) (rgl0 : ∀ i, i < kl → -9223372036854775808 ≤ xl_ i ∧ xl_ i ≤ 9223372036854775807) (ha : ¬ (ma ≤ 8 ∧ ∀ k, k < ma → ca k = ma)) : Calls Tryd.prog 5 #[ra.v, l.v] w (PVal (.bool true) w) := by
 have rga := Lib.hid rga0
 clear rga0
 have rgl := Lib.hid rgl0
 clear rgl0
 have hZ0 := zs_start hX
 have hZ1 := hZ0.more (f := Li kl xl_ l) (Li.stb _ _ _) hl_
 clear hZ0
 have hZ2 := hZ1.more (f := Mi ma ca Ra ra) (Mi.stb _ _ _ _) hra
 clear hZ1
 go_enter Tryd.func5, Tryd.ntmps5
 go_wp2_with fail
 refine (gAwake hZ2.nx).mono ?_
 rintro zz W1 ⟨rfl, hB⟩
 have hZ3 := hZ2.later hB
 clear hB
 clear hZ2
 go_wp2_with fail
 refine (gReadN hZ3.nx ra 8 (hZ3.get 0 (f := Mi ma ca Ra ra) rfl) (by omega) ha).mono ?_
 rintro zz W2 ⟨rfl, hB⟩
 have hZ4 := hZ3.later hB
 clear hB
 clear hZ3
 go_wp2
 go_ret
 exact ⟨rfl, hZ4.below⟩
open Classical in
set_option maxRecDepth 100000 in
set_option maxHeartbeats 25600000 in
theorem lbk2 {X0 : Nat → Prop} {w : World} (hX : NX X0 w) (ra l : Sl) (ma kl : Nat) (ca : Nat → Nat) (Ra : Nat → Nat → Int) (xl_ : Nat → Int) (hra : Mi ma ca Ra ra X0 w) (hl_ : Li kl xl_ l X0 w) (rga0 : ∀ i j, i < ma → j < ca i → -9223372036854775808 ≤ Ra i j ∧ Ra i j ≤ 9223372036854775807) (rgl0 : ∀ i, i < kl → -9223372036854775808 ≤ xl_ i ∧ xl_ i ≤ 9223372036854775807) (ha : (ma ≤ 8 ∧ ∀ k, k < ma → ca k = ma)) (hD : M.dt ma Ra = 0) : Calls Tryd.prog 5 #[ra.v, l.v] w (PVal (.bool true) w) := by
 have rga := Lib.hid rga0
 clear rga0
 have rgl := Lib.hid rgl0
 clear rgl0
 have HD := Lib.hid hD
 clear hD
 have ha8 : ma ≤ 8 := ha.1
 have hdb : dtb 2 ma ≤ 3000 := dtb_le (by omega) (by omega)
 have hZ0 := zs_start hX
 have hZ1 := hZ0.more (f := Li kl xl_ l) (Li.stb _ _ _) hl_
 clear hZ0
 have hZ2 := hZ1.more (f := Mi ma ca Ra ra) (Mi.stb _ _ _ _) hra
 clear hZ1
 go_enter Tryd.func5, Tryd.ntmps5
 go_wp2_with fail
 refine (gAwake hZ2.nx).mono ?_
 rintro zz W1 ⟨rfl, hB⟩
 have hZ3 := hZ2.later hB
 clear hB
 clear hZ2
 go_wp2_with fail
 refine (gReadY hZ3.nx ra 8 (hZ3.get 0 (f := Mi ma ca Ra ra) rfl) (by omega) ha.1 ha.2 rga.out).mono ?_
 rintro zz W2 ⟨s1, s1r, rfl, hi_s1, hB⟩
 have hZ4 := hZ3.later hB
 clear hB
 clear hZ3
 have hZ5 := hZ4.more (f := Mt ma (fun _ => ma) Ra s1) (Mt.stb _ _ _ _) hi_s1
 clear hZ4
 clear hi_s1
 go_wp2_with (refine stop_op rfl (fun K hK => wp_lenq (.tmp 30) 25 39 s1 rfl (by kernel_rfl) rfl (hZ5.get 0 (f := Mt ma (fun _ => ma) Ra s1) rfl).n (hK _ _ ?_)))
 unfold Stop
 try simp only [Act.put, zzC, zzD, zzE]
 go_wp2_with fail
 refine (gList hZ5.nx l ma (hZ5.get 2 (f := Li kl xl_ l) rfl) (by omega) rgl.out).mono ?_
 rintro zz W3 ⟨s2, s2r, rfl, hi_s2, hB⟩
 have hZ6 := hZ5.later hB
 clear hB
 clear hZ5
 have hZ7 := hZ6.more (f := Ls ma (xl kl xl_) s2) (Ls.stb _ _ _) hi_s2
 clear hZ6
 clear hi_s2
 go_wp2_with fail
 refine (lSolZ hZ7.nx s1 s2 (e := 2) (by omega) (by omega) (by omega) (hZ7.get 1 (f := Mt ma (fun _ => ma) Ra s1) rfl) (hZ7.get 0 (f := Ls ma (xl kl xl_) s2) rfl) (fun (i k : Nat) (hi : i < ma) (hk : k < ma) => sz_int (rga.out i k hi (by rw [ha.2 i hi]; exact hk)).1 (rga.out i k hi (by rw [ha.2 i hi]; exact hk)).2) (fun (i : Nat) (_ : i < ma) => xl_in rgl.out i) HD.out).mono ?_
 rintro zz W4 ⟨rfl, hB⟩
 have hZ8 := hZ7.later hB
 clear hB
 clear hZ7
 go_wp2_with (refine stopz_alloc 45 #[.bool false, .slice none 0 0] (.agg #[.bool false, .slice none 0 0]) rfl rfl zv45 rfl hZ8 (fun bk1 X9 W5 hZ9 => ?_))
 clear hZ8
 unfold Stop
 try simp only [Act.put, zzC, zzD, zzE]
 go_wp2_with (refine stopz_store 45 (.tmp 12) (.tmp 40) 0 bk1 0 #[.bool false, .slice none 0 0] 45 2 [.bool false, .slice none 0 0] #[.bool false, .slice none 0 0] [(bk1, #[.bool false, .slice none 0 0], 45)] rfl rfl rfl rfl sz45 hZ9 rfl rfl (zzF (by kernel_rfl)) (by kernel_rfl) (by kernel_rfl) (by kernel_rfl) (fun W6 hZ10 => ?_))
 clear hZ9
 unfold Stop
 try simp only [Act.put, zzC, zzD, zzE]
 go_wp2_with fail
 refine (lDet hZ10.nx s1 (e := 2) (by omega) (by omega) (by omega) (hZ10.get 1 (f := Mt ma (fun _ => ma) Ra s1) rfl) (fun (i k : Nat) (hi : i < ma) (hk : k < ma) => sz_int (rga.out i k hi (by rw [ha.2 i hi]; exact hk)).1 (rga.out i k hi (by rw [ha.2 i hi]; exact hk)).2)).mono ?_
 rintro zz W7 ⟨q3, rfl, ez_q3, hi_q3, hB⟩
 have hZ11 := hZ10.later hB
 clear hB
 clear hZ10
 have hZ12 := hZ11.more (f := q3.is) q3.stb hi_q3
 clear hZ11
 clear hi_q3
 go_wp2_with fail
 refine (zSign (hZ12.get 0 (f := q3.is) rfl) ez_q3).mono ?_
 rintro zz W8 ⟨rfl, hB⟩
 have hZ13 := hZ12.later hB
 clear hB
 clear hZ12
 go_wp2_with (refine stop_op rfl (fun K hK => wp_eqli (.tmp 45) (.const (.int .i64 0)) 3 3 rfl rfl rfl rfl (r := true) (decide_eq_true (by rw [HD.out]; decide)) (hK _ _ ?_)))
 unfold Stop
 try simp only [Act.put, zzC, zzD, zzE]
 go_wp2
 go_ret
 exact ⟨rfl, hZ13.below⟩
open Classical in
set_option maxRecDepth 100000 in
set_option maxHeartbeats 25600000 in
theorem lbk3 {X0 : Nat → Prop} {w : World} (hX : NX X0 w) (ra l : Sl) (ma kl : Nat) (ca : Nat → Nat) (Ra : Nat → Nat → Int) (xl_ : Nat → Int) (hra : Mi ma ca Ra ra X0 w) (hl_ : Li kl xl_ l X0 w) (rga0 : ∀ i j, i < ma → j < ca i → -9223372036854775808 ≤ Ra i j ∧ Ra i j ≤ 9223372036854775807) (rgl0 : ∀ i, i < kl → -9223372036854775808 ≤ xl_ i ∧ xl_ i ≤ 9223372036854775807) (ha : (ma ≤ 8 ∧ ∀ k, k < ma → ca k = ma)) (hD : M.dt ma Ra ≠ 0) : Calls Tryd.prog 5 #[ra.v, l.v] w (PVal (.bool true) w) := by
 have rga := Lib.hid rga0
 clear rga0
 have rgl := Lib.hid rgl0
 clear rgl0
 have HD := Lib.hid hD
 clear hD
 have ha8 : ma ≤ 8 := ha.1
 have hdb : dtb 2 ma ≤ 3000 := dtb_le (by omega) (by omega)
 have hZ0 := zs_start hX
 have hZ1 := hZ0.more (f := Li kl xl_ l) (Li.stb _ _ _) hl_
 clear hZ0
 have hZ2 := hZ1.more (f := Mi ma ca Ra ra) (Mi.stb _ _ _ _) hra
 clear hZ1
 go_enter Tryd.func5, Tryd.ntmps5
 go_wp2_with fail
 refine (gAwake hZ2.nx).mono ?_
 rintro zz W1 ⟨rfl, hB⟩
 have hZ3 := hZ2.later hB
 clear hB
 clear hZ2
 go_wp2_with fail
 refine (gReadY hZ3.nx ra 8 (hZ3.get 0 (f := Mi ma ca Ra ra) rfl) (by omega) ha.1 ha.2 rga.out).mono ?_
 rintro zz W2 ⟨s1, s1r, rfl, hi_s1, hB⟩
 have hZ4 := hZ3.later hB
 clear hB
 clear hZ3
 have hZ5 := hZ4.more (f := Mt ma (fun _ => ma) Ra s1) (Mt.stb _ _ _ _) hi_s1
 clear hZ4
 clear hi_s1
 go_wp2_with (refine stop_op rfl (fun K hK => wp_lenq (.tmp 30) 25 39 s1 rfl (by kernel_rfl) rfl (hZ5.get 0 (f := Mt ma (fun _ => ma) Ra s1) rfl).n (hK _ _ ?_)))
 unfold Stop
 try simp only [Act.put, zzC, zzD, zzE]
 go_wp2_with fail
 refine (gList hZ5.nx l ma (hZ5.get 2 (f := Li kl xl_ l) rfl) (by omega) rgl.out).mono ?_
 rintro zz W3 ⟨s2, s2r, rfl, hi_s2, hB⟩
 have hZ6 := hZ5.later hB
 clear hB
 clear hZ5
 have hZ7 := hZ6.more (f := Ls ma (xl kl xl_) s2) (Ls.stb _ _ _) hi_s2
 clear hZ6
 clear hi_s2
 go_wp2_with fail
 refine (lSolN hZ7.nx s1 s2 (e := 2) (by omega) (by omega) (by omega) (hZ7.get 1 (f := Mt ma (fun _ => ma) Ra s1) rfl) (hZ7.get 0 (f := Ls ma (xl kl xl_) s2) rfl) (fun (i k : Nat) (hi : i < ma) (hk : k < ma) => sz_int (rga.out i k hi (by rw [ha.2 i hi]; exact hk)).1 (rga.out i k hi (by rw [ha.2 i hi]; exact hk)).2) (fun (i : Nat) (_ : i < ma) => xl_in rgl.out i) HD.out).mono ?_
 rintro zz W4 ⟨sn, qd, rfl, hi_sn, ez_qd, hi_qd, hB⟩
 have hZ8 := hZ7.later hB
 clear hB
 clear hZ7
 have hZ9 := hZ8.more (f := Ls ma (crx ma Ra (xl kl xl_)) sn) (Ls.stb _ _ _) hi_sn
 clear hZ8
 clear hi_sn
 have hZ10 := hZ9.more (f := qd.is) qd.stb hi_qd
 clear hZ9
 clear hi_qd
 go_wp2_with (refine stopz_alloc 45 #[.bool false, .slice none 0 0] (.agg #[.bool false, .slice none 0 0]) rfl rfl zv45 rfl hZ10 (fun bk1 X11 W5 hZ11 => ?_))
 clear hZ10
 unfold Stop
 try simp only [Act.put, zzC, zzD, zzE]
 go_wp2_with (refine stopz_store 45 (.tmp 12) (.tmp 40) 0 bk1 0 #[.bool false, .slice none 0 0] 45 2 [.bool qd.b, .slice qd.a qd.n qd.c] #[.bool qd.b, .slice qd.a qd.n qd.c] [(bk1, #[.bool qd.b, .slice qd.a qd.n qd.c], 45)] rfl rfl rfl rfl sz45 hZ11 rfl rfl (zzF (by kernel_rfl)) (by kernel_rfl) (by kernel_rfl) (by kernel_rfl) (fun W6 hZ12 => ?_))
 clear hZ11
 unfold Stop
 try simp only [Act.put, zzC, zzD, zzE]
 go_wp2_with fail
 refine (lDet hZ12.nx s1 (e := 2) (by omega) (by omega) (by omega) (hZ12.get 3 (f := Mt ma (fun _ => ma) Ra s1) rfl) (fun (i k : Nat) (hi : i < ma) (hk : k < ma) => sz_int (rga.out i k hi (by rw [ha.2 i hi]; exact hk)).1 (rga.out i k hi (by rw [ha.2 i hi]; exact hk)).2)).mono ?_
 rintro zz W7 ⟨q3, rfl, ez_q3, hi_q3, hB⟩
 have hZ13 := hZ12.later hB
 clear hB
 clear hZ12
 have hZ14 := hZ13.more (f := q3.is) q3.stb hi_q3
 clear hZ13
 clear hi_q3
 go_wp2_with fail
 refine (zSign (hZ14.get 0 (f := q3.is) rfl) ez_q3).mono ?_
 rintro zz W8 ⟨rfl, hB⟩
 have hZ15 := hZ14.later hB
 clear hB
 clear hZ14
 go_wp2_with (refine stop_op rfl (fun K hK => wp_eqli (.tmp 45) (.const (.int .i64 0)) 3 3 rfl rfl rfl rfl (r := false) (decide_eq_false (by show sgnI _ ≠ 0; rw [sgnI_ne]; exact HD.out)) (hK _ _ ?_)))
 unfold Stop
 try simp only [Act.put, zzC, zzD, zzE]
 go_wp2_with (refine stop_opw (by kernel_rfl) (fun K hK => wp_lenq (.tmp 55) 39 45 sn rfl (by kernel_rfl) rfl (hZ15.get 2 (f := Ls ma (crx ma Ra (xl kl xl_)) sn) rfl).n (hK _ _ ?_)))
 unfold Stop
 try simp only [Act.put, zzC, zzD, zzE]
 go_wp2_with (refine stop_opw (by kernel_rfl) (fun K hK => wp_lenq (.tmp 57) 25 39 s1 rfl (by kernel_rfl) rfl (hZ15.get 4 (f := Mt ma (fun _ => ma) Ra s1) rfl).n (hK _ _ ?_)))
 unfold Stop
 try simp only [Act.put, zzC, zzD, zzE]
 go_wp2_with (refine stop_opw (by kernel_rfl) (fun K hK => wp_neqi (.tmp 56) (.tmp 58) 3 3 rfl rfl rfl rfl (r := false) (decide_eq_false (by simp)) (hK _ _ ?_)))
 unfold Stop
 try simp only [Act.put, zzC, zzD, zzE]
 go_wp2_with fail
 refine (lApply hZ15.nx s1 sn (e := 2 + (dtb 2 ma)) (hZ15.get 4 (f := Mt ma (fun _ => ma) Ra s1) rfl) (hZ15.get 2 (f := Ls ma (crx ma Ra (xl kl xl_)) sn) rfl) (fun i k hi hk => ((fun (i k : Nat) (hi : i < ma) (hk : k < ma) => sz_int (rga.out i k hi (by rw [ha.2 i hi]; exact hk)).1 (rga.out i k hi (by rw [ha.2 i hi]; exact hk)).2) i k hi hk).mono (Nat.le_add_right _ _)) (fun k hk => ((fun (j : Nat) (_ : j < ma) => crx_sz (fun (i k : Nat) (hi : i < ma) (hk : k < ma) => sz_int (rga.out i k hi (by rw [ha.2 i hi]; exact hk)).1 (rga.out i k hi (by rw [ha.2 i hi]; exact hk)).2) (fun (i : Nat) (_ : i < ma) => xl_in rgl.out i) j) k hk).mono (Nat.le_add_left _ _)) (by omega) (by omega)).mono ?_
 rintro zz W9 ⟨s4, rfl, hi_s4, hB⟩
 have hZ16 := hZ15.later hB
 clear hB
 clear hZ15
 have hZ17 := hZ16.more (f := Ls ma (M.mulv ma Ra (crx ma Ra (xl kl xl_))) s4) (Ls.stb _ _ _) hi_s4
 clear hZ16
 clear hi_s4
 have hZ18 := hZ17.only [qd.is, Ls ma (M.mulv ma Ra (crx ma Ra (xl kl xl_))) s4, Ls ma (xl kl xl_) s2, Mt ma (fun _ => ma) Ra s1] (by simp)
 clear hZ17
 go_wp2
 go_loopw [16] (fun iv wr => ∃ (i : Nat) (X : Nat → Prop), i ≤ ma ∧ iv = .int .i64 ((i : Nat) : Int) ∧ Zs w wr X0 X [(bk1, #[.bool qd.b, .slice qd.a qd.n qd.c], 45)] [qd.is, Ls ma (M.mulv ma Ra (crx ma Ra (xl kl xl_))) s4, Ls ma (xl kl xl_) s2, Mt ma (fun _ => ma) Ra s1]) (fun iv _ => ma - (intOf iv).toNat)
 case atStart => exact ⟨0, _, by omega, rfl, hZ18⟩
 case round =>
  clear hZ18
  obtain ⟨i, X, hi, rfl, hZ⟩ := hrel
  by_cases hlt : i < ma
  ·
   go_wp2_with (refine stop_op rfl (fun K hK => wp_lenq (.tmp 65) 25 39 s1 rfl (by kernel_rfl) rfl (hZ.get 3 (f := Mt ma (fun _ => ma) Ra s1) rfl).n (hK _ _ ?_)))
   unfold Stop
   try simp only [Act.put, zzC, zzD, zzE]
   go_wp2_with (refine stop_op rfl (fun K hK => wp_lssi (.tmp 64) (.tmp 66) rfl rfl rfl (r := true) (decide_eq_true (by omega)) (hK _ _ ?_)))
   unfold Stop
   try simp only [Act.put, zzC, zzD, zzE]
   go_wp2
   have hM : Zs w wr.drew X0 X [(bk1, #[.bool qd.b, .slice qd.a qd.n qd.c], 45)] [qd.is, Ls ma (M.mulv ma Ra (crx ma Ra (xl kl xl_))) s4, Ls ma (xl kl xl_) s2, Mt ma (fun _ => ma) Ra s1] ∧ Below wr.heap.size wr wr.drew := ⟨hZ.later (Below.refl _ _).drew, (Below.refl _ _).drew⟩
   clear hZ
   have hVS16 : ∀ k, k ∈ ([veq (s4.v), veq (.int .i64 (((i : Nat) : Int))), veq ((s4.at 2 i)), vnum ((M.mulv ma Ra (crx ma Ra (xl kl xl_))) i), veq (s2.v), veq (.int .i64 (((i : Nat) : Int))), veq ((s2.at 2 i)), vnum (xl kl xl_ i), veq (qd.v), vnum ((xl kl xl_ i) * (M.dt ma Ra)), veq (.int .i64 ((cmpI ((M.mulv ma Ra (crx ma Ra (xl kl xl_))) i) ((xl kl xl_ i) * (M.dt ma Ra))))), veq (.int .i64 ((cmpI ((M.mulv ma Ra (crx ma Ra (xl kl xl_))) i) ((xl kl xl_ i) * (M.dt ma Ra)))))] : List VF) → VSt k := by
    intro k hk
    simp only [List.mem_cons, List.not_mem_nil, or_false] at hk
    rcases hk with rfl | rfl | rfl | rfl | rfl | rfl | rfl | rfl | rfl | rfl | rfl | rfl
    ·
     exact veq_st _
    ·
     exact veq_st _
    ·
     exact veq_st _
    ·
     exact vnum_st _
    ·
     exact veq_st _
    ·
     exact veq_st _
    ·
     exact veq_st _
    ·
     exact vnum_st _
    ·
     exact veq_st _
    ·
     exact vnum_st _
    ·
     exact veq_st _
    ·
     exact veq_st _
   refine wp_region_q 12 [some 70, some 71, some 72, some 73, some 74, some 75, some 76, some 77, some 78, some 79, some 80, some 17] (vzL [veq (s4.v), veq (.int .i64 (((i : Nat) : Int))), veq ((s4.at 2 i)), vnum ((M.mulv ma Ra (crx ma Ra (xl kl xl_))) i), veq (s2.v), veq (.int .i64 (((i : Nat) : Int))), veq ((s2.at 2 i)), vnum (xl kl xl_ i), veq (qd.v), vnum ((xl kl xl_ i) * (M.dt ma Ra)), veq (.int .i64 ((cmpI ((M.mulv ma Ra (crx ma Ra (xl kl xl_))) i) ((xl kl xl_ i) * (M.dt ma Ra))))), veq (.int .i64 ((cmpI ((M.mulv ma Ra (crx ma Ra (xl kl xl_))) i) ((xl kl xl_ i) * (M.dt ma Ra)))))] X) (fun W => Zs w W X0 X [(bk1, #[.bool qd.b, .slice qd.a qd.n qd.c], 45)] [qd.is, Ls ma (M.mulv ma Ra (crx ma Ra (xl kl xl_))) s4, Ls ma (xl kl xl_) s2, Mt ma (fun _ => ma) Ra s1] ∧ Below wr.heap.size wr W) (by kernel_rfl) (by kernel_rfl) (by rfl) (by decide) (by rfl) hM ?_ ?_
   ·
    intro i hl hi LL uu ww aa hLi hLc hJ hd hev hin hold
    clear hM
    obtain ⟨hJ, hJb⟩ := hJ
    obtain rfl | rfl | rfl | rfl | rfl | rfl | rfl | rfl | rfl | rfl | rfl | rfl : i = 0 ∨ i = 1 ∨ i = 2 ∨ i = 3 ∨ i = 4 ∨ i = 5 ∨ i = 6 ∨ i = 7 ∨ i = 8 ∨ i = 9 ∨ i = 10 ∨ i = 11 := by omega
    ·
     exact .inr ⟨rfl, fun K' hK => wp_move (.tmp 15) rfl (eval_tmp ((hev 15 (by decide)).trans rfl)) (hK _ _ ⟨hJ, hJb⟩ rfl vzL_same)⟩
    ·
     exact .inr ⟨rfl, fun K' hK => wp_move (.tmp 16) rfl (eval_tmp ((hev 16 (by decide)).trans rfl)) (hK _ _ ⟨hJ, hJb⟩ rfl vzL_same)⟩
    ·
     exact .inr ⟨rfl, fun K' hK => wp_ixs 39 (.tmp 70) (.tmp 71) s4 i 2 45 rfl (eval_tmp ((hin 0 70 rfl).trans (congrArg some (show uu 0 = s4.v from hd 0 (by decide) (by kernel_rfl))))) (eval_tmp ((hin 1 71 rfl).trans (congrArg some (show uu 1 = .int .i64 (((i : Nat) : Int)) from hd 1 (by decide) (by kernel_rfl))))) (by kernel_rfl) sz45 (fun h => ((hJ.get 1 (f := Ls ma (M.mulv ma Ra (crx ma Ra (xl kl xl_))) s4) rfl).sq.nil h).1) ((hJ.get 1 (f := Ls ma (M.mulv ma Ra (crx ma Ra (xl kl xl_))) s4) rfl).n ▸ (by omega)) (hK _ _ ⟨hJ, hJb⟩ rfl vzL_same)⟩
    ·
     exact .inr ⟨rfl, fun K' hK => wp_ldn 45 (.tmp 72) s4 i ma (M.mulv ma Ra (crx ma Ra (xl kl xl_))) rfl (eval_tmp ((hin 2 72 rfl).trans (congrArg some (show uu 2 = (s4.at 2 i) from hd 2 (by decide) (by kernel_rfl))))) (hJ.get 1 (f := Ls ma (M.mulv ma Ra (crx ma Ra (xl kl xl_))) s4) rfl) (by omega) ag45 sz45 (fun q5 ez_q5 hi_q5 => hK _ _ ⟨hJ, hJb⟩ ⟨q5, rfl, ez_q5, hi_q5⟩ vzL_same)⟩
    ·
     exact .inr ⟨rfl, fun K' hK => wp_move (.tmp 9) rfl (eval_tmp ((hev 9 (by decide)).trans rfl)) (hK _ _ ⟨hJ, hJb⟩ rfl vzL_same)⟩
    ·
     exact .inr ⟨rfl, fun K' hK => wp_move (.tmp 16) rfl (eval_tmp ((hev 16 (by decide)).trans rfl)) (hK _ _ ⟨hJ, hJb⟩ rfl vzL_same)⟩
    ·
     exact .inr ⟨rfl, fun K' hK => wp_ixs 39 (.tmp 74) (.tmp 75) s2 i 2 45 rfl (eval_tmp ((hin 4 74 rfl).trans (congrArg some (show uu 4 = s2.v from hd 4 (by decide) (by kernel_rfl))))) (eval_tmp ((hin 5 75 rfl).trans (congrArg some (show uu 5 = .int .i64 (((i : Nat) : Int)) from hd 5 (by decide) (by kernel_rfl))))) (by kernel_rfl) sz45 (fun h => ((hJ.get 2 (f := Ls ma (xl kl xl_) s2) rfl).sq.nil h).1) ((hJ.get 2 (f := Ls ma (xl kl xl_) s2) rfl).n ▸ (by omega)) (hK _ _ ⟨hJ, hJb⟩ rfl vzL_same)⟩
    ·
     exact .inr ⟨rfl, fun K' hK => wp_ldn 45 (.tmp 76) s2 i ma (xl kl xl_) rfl (eval_tmp ((hin 6 76 rfl).trans (congrArg some (show uu 6 = (s2.at 2 i) from hd 6 (by decide) (by kernel_rfl))))) (hJ.get 2 (f := Ls ma (xl kl xl_) s2) rfl) (by omega) ag45 sz45 (fun q6 ez_q6 hi_q6 => hK _ _ ⟨hJ, hJb⟩ ⟨q6, rfl, ez_q6, hi_q6⟩ vzL_same)⟩
    ·
     exact .inr ⟨rfl, fun K' hK => wp_load 45 (.tmp 12) rfl bk1 0 2 #[.bool qd.b, .slice qd.a qd.n qd.c] #[.bool qd.b, .slice qd.a qd.n qd.c] 45 (hJ.es.at' _ (zzG (i := 0) rfl)) (eval_tmp ((hev 12 (by decide)).trans rfl)) ag45 sz45 (zzF (by kernel_rfl)) (by kernel_rfl) (hK _ _ ⟨hJ, hJb⟩ rfl vzL_same)⟩
    ·
     obtain ⟨q6, e7, ez_q6, hi_q6⟩ := (show (vnum (xl kl xl_ i)) (uu 7) X ww from hd 7 (by decide) (by kernel_rfl))
     replace hJ := hJ.more (f := q6.is) q6.stb hi_q6
     refine .inr ⟨rfl, fun K' hK => ?_⟩
     refine wp_callz (.func 29) #[.tmp 77, .tmp 78] #[45, 45] 29 #[] #[q6.v, qd.v] _ rfl rfl (map2 (eval_tmp ((hin 7 77 rfl).trans (congrArg some e7))) (eval_tmp ((hin 8 78 rfl).trans (congrArg some (show uu 8 = qd.v from hd 8 (by decide) (by kernel_rfl)))))) rfl (fun _ _ => rfl) (zMul hJ.nx (hJ.get 0 (f := q6.is) rfl) (hJ.get 1 (f := qd.is) rfl) ez_q6 ez_qd ((fun (i : Nat) (_ : i < ma) => xl_in rgl.out i) i (by omega)) (dt_sz (fun (i k : Nat) (hi : i < ma) (hk : k < ma) => sz_int (rga.out i k hi (by rw [ha.2 i hi]; exact hk)).1 (rga.out i k hi (by rw [ha.2 i hi]; exact hk)).2)) (by omega) (by omega)) ?_
     rintro zz ww2 ⟨q7, rfl, ez_q7, hi_q7, hB⟩
     exact ⟨_, rfl, hK _ _ ⟨(hJ.only [qd.is, Ls ma (M.mulv ma Ra (crx ma Ra (xl kl xl_))) s4, Ls ma (xl kl xl_) s2, Mt ma (fun _ => ma) Ra s1] (by simp)).later hB, hJb.trans (hB.mono hJb.size)⟩ ⟨q7, rfl, ez_q7, hi_q7⟩ (vzL_later hVS16 hB)⟩
    ·
     obtain ⟨q5, e3, ez_q5, hi_q5⟩ := (show (vnum ((M.mulv ma Ra (crx ma Ra (xl kl xl_))) i)) (uu 3) X ww from hd 3 (by decide) (by kernel_rfl))
     obtain ⟨q7, e9, ez_q7, hi_q7⟩ := (show (vnum ((xl kl xl_ i) * (M.dt ma Ra))) (uu 9) X ww from hd 9 (by decide) (by kernel_rfl))
     replace hJ := hJ.more (f := q5.is) q5.stb hi_q5
     replace hJ := hJ.more (f := q7.is) q7.stb hi_q7
     refine .inr ⟨rfl, fun K' hK => ?_⟩
     refine wp_callz (.func 28) #[.tmp 73, .tmp 79] #[45, 45] 28 #[] #[q5.v, q7.v] _ rfl rfl (map2 (eval_tmp ((hin 3 73 rfl).trans (congrArg some e3))) (eval_tmp ((hin 9 79 rfl).trans (congrArg some e9)))) rfl (fun _ _ => rfl) (zCmp (hJ.get 1 (f := q5.is) rfl) (hJ.get 0 (f := q7.is) rfl) ez_q5 ez_q7) ?_
     rintro zz ww2 ⟨rfl, hB⟩
     exact ⟨_, rfl, hK _ _ ⟨(hJ.only [qd.is, Ls ma (M.mulv ma Ra (crx ma Ra (xl kl xl_))) s4, Ls ma (xl kl xl_) s2, Mt ma (fun _ => ma) Ra s1] (by simp)).later hB, hJb.trans (hB.mono hJb.size)⟩ rfl (vzL_later hVS16 hB)⟩
    ·
     exact .inr ⟨rfl, fun K' hK => wp_asgn (.tmp 80) rfl (eval_tmp ((hin 10 80 rfl).trans (congrArg some (show uu 10 = .int .i64 ((cmpI ((M.mulv ma Ra (crx ma Ra (xl kl xl_))) i) ((xl kl xl_ i) * (M.dt ma Ra)))) from hd 10 (by decide) (by kernel_rfl))))) (hK _ _ ⟨hJ, hJb⟩ rfl vzL_same)⟩
   clear hM
   intro uu W10 hZ19p hd
   obtain ⟨hZ19, hb16⟩ := hZ19p
   have e_0 : uu 0 = s4.v := hd 0 (by decide)
   have e_1 : uu 1 = .int .i64 (((i : Nat) : Int)) := hd 1 (by decide)
   have e_2 : uu 2 = (s4.at 2 i) := hd 2 (by decide)
   obtain ⟨q5, e_3, ez_q5, hi_q5⟩ := (show (vnum ((M.mulv ma Ra (crx ma Ra (xl kl xl_))) i)) (uu 3) X W10 from hd 3 (by decide))
   have e_4 : uu 4 = s2.v := hd 4 (by decide)
   have e_5 : uu 5 = .int .i64 (((i : Nat) : Int)) := hd 5 (by decide)
   have e_6 : uu 6 = (s2.at 2 i) := hd 6 (by decide)
   obtain ⟨q6, e_7, ez_q6, hi_q6⟩ := (show (vnum (xl kl xl_ i)) (uu 7) X W10 from hd 7 (by decide))
   have e_8 : uu 8 = qd.v := hd 8 (by decide)
   obtain ⟨q7, e_9, ez_q7, hi_q7⟩ := (show (vnum ((xl kl xl_ i) * (M.dt ma Ra))) (uu 9) X W10 from hd 9 (by decide))
   have e_10 : uu 10 = .int .i64 ((cmpI ((M.mulv ma Ra (crx ma Ra (xl kl xl_))) i) ((xl kl xl_ i) * (M.dt ma Ra)))) := hd 10 (by decide)
   have e_11 : uu 11 = .int .i64 ((cmpI ((M.mulv ma Ra (crx ma Ra (xl kl xl_))) i) ((xl kl xl_ i) * (M.dt ma Ra)))) := hd 11 (by decide)
   clear hd hVS16
   simp only [layS, Act.put, zzC, zzD, zzE, Nat.zero_add, Nat.reduceAdd, List.drop_succ_cons, List.drop_zero, List.drop_nil, e_0, e_1, e_2, e_3, e_4, e_5, e_6, e_7, e_8, e_9, e_10, e_11]
   clear e_0 e_1 e_2 e_3 e_4 e_5 e_6 e_7 e_8 e_9 e_10 e_11
   have hZ20 := hZ19.more (f := q5.is) q5.stb hi_q5
   clear hZ19
   clear hi_q5
   have hZ21 := hZ20.more (f := q6.is) q6.stb hi_q6
   clear hZ20
   clear hi_q6
   have hZ22 := hZ21.more (f := q7.is) q7.stb hi_q7
   clear hZ21
   clear hi_q7
   go_wp2_with (refine stop_op rfl (fun K hK => wp_neqi (.tmp 81) (.const (.int .i64 0)) 3 3 rfl rfl rfl rfl (r := false) (decide_eq_false (by rw [cmpI_ne]; exact fun h => h ((M.cramer Ra (xl kl xl_) hlt).trans (Int.mul_comm _ _)))) (hK _ _ ?_)))
   unfold Stop
   try simp only [Act.put, zzC, zzD, zzE]
   have hZ23 := hZ22.only [qd.is, Ls ma (M.mulv ma Ra (crx ma Ra (xl kl xl_))) s4, Ls ma (xl kl xl_) s2, Mt ma (fun _ => ma) Ra s1] (by simp)
   clear hZ22
   go_wp2_with (refine stop_op rfl (fun K hK => wp_addi (.tmp 68) (.const (.int .i64 1)) rfl rfl rfl (C := ((i + 1 : Nat) : Int)) (by omega) (by omega) (by omega) (hK _ _ ?_)))
   unfold Stop
   try simp only [Act.put, zzC, zzD, zzE]
   go_wp2
   go_roundw
   case rel => exact ⟨i + 1, _, by omega, by go_num, hZ23⟩
   case measure => simp [intOf]; omega
  ·
   obtain rfl : ma = i := by omega
   go_wp2_with (refine stop_op rfl (fun K hK => wp_lenq (.tmp 65) 25 39 s1 rfl (by kernel_rfl) rfl (hZ.get 3 (f := Mt ma (fun _ => ma) Ra s1) rfl).n (hK _ _ ?_)))
   unfold Stop
   try simp only [Act.put, zzC, zzD, zzE]
   go_wp2_with (refine stop_op rfl (fun K hK => wp_lssi (.tmp 64) (.tmp 66) rfl rfl rfl (r := false) (decide_eq_false (Int.lt_irrefl _)) (hK _ _ ?_)))
   unfold Stop
   try simp only [Act.put, zzC, zzD, zzE]
   go_wp2
   go_ret
   exact ⟨rfl, hZ.below⟩
theorem lbkAny {X0 : Nat → Prop} {w : World} (hX : NX X0 w) (ra l : Sl) (ma kl : Nat) (ca : Nat → Nat) (Ra : Nat → Nat → Int) (xl_ : Nat → Int) (hra : Mi ma ca Ra ra X0 w) (hl_ : Li kl xl_ l X0 w) (rga0 : ∀ i j, i < ma → j < ca i → -9223372036854775808 ≤ Ra i j ∧ Ra i j ≤ 9223372036854775807) (rgl0 : ∀ i, i < kl → -9223372036854775808 ≤ xl_ i ∧ xl_ i ≤ 9223372036854775807)  : Calls Tryd.prog 5 #[ra.v, l.v] w (PVal (.bool true) w) := by
 by_cases ha : (ma ≤ 8 ∧ ∀ k, k < ma → ca k = ma)
 ·
  by_cases hD : M.dt ma Ra = 0
  ·
   exact lbk2 hX ra l ma kl ca Ra xl_ hra hl_ rga0 rgl0 ha hD
  ·
   exact lbk3 hX ra l ma kl ca Ra xl_ hra hl_ rga0 rgl0 ha hD
 ·
  exact lbk1 hX ra l ma kl ca Ra xl_ hra hl_ rga0 rgl0 ha
end Go.Proofs.YtolpfibihialkaaDoor
