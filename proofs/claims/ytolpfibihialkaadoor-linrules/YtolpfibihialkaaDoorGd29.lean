/- Parts of the proof. -/
import Derived.Test.YtolpfibihialkaaDoorGd0
import Derived.Test.YtolpfibihialkaaDoorGd27
import Derived.Test.YtolpfibihialkaaDoorGd28
import Derived.Test.YtolpfibihialkaaDoorGd23
/- Lists and rows of two that a law writes down. No statement of the seat is proved here. -/
namespace Go.Proofs.YtolpfibihialkaaDoor
open Go Go.RowKit
theorem ei36 : EInf Tryd.prog 36 2 1 (.int .i64 0) 8 := ⟨by kernel_rfl, by kernel_rfl, by kernel_rfl, by decide, by decide⟩
theorem ei22 : EInf Tryd.prog 22 36 1 (.slice none 0 0) 24 := ⟨by kernel_rfl, by kernel_rfl, by kernel_rfl, by decide, by decide⟩
def l2 (a b : Int) (i : Nat) : Int := if i = 0 then a else b
def m2 (x y : Nat → Int) (i j : Nat) : Int := if i = 0 then x j else y j
theorem run_bslt {P : Program} {t e : TypeId} {by_ : Nat} {z : Value} (hI : EInf P t e 1 z by_) (u v : Value) (hu : u.cells = #[u]) (hv : v.cells = #[v]) (W : World) : (Instr.buildSlice t 2 #[(0, u), (1, v)]).run P W = .ok (.slice (some ⟨W.heap.size, 0, none⟩) 2 2) (W.alloc (.cells #[u, v] e)) := by
 obtain ⟨i, hi, hz, hs, hb⟩ := info_parts hI.hi
 simp [Instr.buildSlice, run_underlying hI.ht, sizeOf, typeInfo, hi, hs, zeroValue, hz, Instr.fill, newRow, hu, hv, set2]
section
variable {P : Program} {ops : Array Oper} {Q : Exit → Act → World → Prop} {a : Act} {w W : World} {rest : List Oper} {o : Oper} {l : List (Nat × Array Value × TypeId)} {X0 X : Nat → Prop} {fs : List Fa}
theorem wp_bslt {next : Act → World → Prop} {t e : TypeId} {by_ : Nat} {z : Value} (hI : EInf P t e 1 z by_) (x y : Operand) (ho : o.op = .buildSlice t 2 #[(0, x), (1, y)]) {u v : Value} (hx : a.eval x = u) (hy : a.eval y = v) (hu : u.cells = #[u]) (hv : v.cells = #[v]) (k : next (a.put o.dst (.slice (some ⟨W.heap.size, 0, none⟩) 2 2)) (W.alloc (.cells #[u, v] e))) : o.wp P a W next Q := by
 have e : (execOp a.eval o).run P W = .ok (.value (.slice (some ⟨W.heap.size, 0, none⟩) 2 2)) (W.alloc (.cells #[u, v] e)) := by
  unfold execOp
  rw [ho]
  simp only [List.map_toArray, List.map_cons, List.map_nil, hx, hy, Sem.run_bind, run_bslt hI u v hu hv, Result.andThen]
  rfl
 unfold Oper.wp
 rw [e]
 exact k
theorem sq_two {E : El} {u v : Value} {T : TypeId} (hx : NX X W) (h0 : E X (W.alloc (.cells #[u, v] T)) 0 [u]) (h1 : E X (W.alloc (.cells #[u, v] T)) 1 [v]) : Sq 1 E ⟨some ⟨W.heap.size, 0, none⟩, 2, 2⟩ X (W.alloc (.cells #[u, v] T)) := by
 have h : (W.alloc (.cells #[u, v] T)).heap[W.heap.size]? = some (.cells #[u, v] T (0, 0)) := heap_new W _
 refine ⟨Nat.le_refl _, by show 2 ≤ maxLen; unfold maxLen; omega, nofun, fun q hq _ => ?_, fun q hq i hi => ?_⟩
 ·
  cases hq
  exact ⟨rfl, (Array.getElem?_eq_some_iff.1 h).1, fun hX => Nat.lt_irrefl _ (hx _ hX)⟩
 ·
  cases hq
  simp only at hi
  obtain rfl | rfl : i = 0 ∨ i = 1 := by omega
  ·
   refine ⟨[u], rfl, fun j hj => ?_, h0⟩
   obtain rfl : j = 0 := by omega
   simp only [World.cell?, h]
   rfl
  ·
   refine ⟨[v], rfl, fun j hj => ?_, h1⟩
   obtain rfl : j = 0 := by omega
   simp only [World.cell?, h]
   rfl
theorem stopz_bi2 {t e : TypeId} {by_ : Nat} {z : Value} (hI : EInf P t e 1 z by_) (x y : Operand) {p q : Int} (hg : o.guard = none) (ho : o.op = .buildSlice t 2 #[(0, x), (1, y)]) (hx : a.eval x = .int .i64 p) (hy : a.eval y = .int .i64 q) (h : Zs w W X0 X l fs) (K : ∀ (s : Sl) (W' : World), Zs w W' X0 X l (Li 2 (l2 p q) s :: fs) → Stop (wpList P ops Q rest (a.put o.dst s.v) W')) : wpList P ops Q (o :: rest) a W :=
 wpList_plain hg fun K' hK => wp_bslt hI x y ho hx hy rfl rfl (hK _ _ (K ⟨some ⟨W.heap.size, 0, none⟩, 2, 2⟩ _ ((h.later (below_new _ _)).more (Li.stb _ _ _) ⟨rfl, sq_two h.nx rfl rfl⟩)))
theorem stopz_bm2 {t e : TypeId} {by_ : Nat} {z : Value} (hI : EInf P t e 1 z by_) (x y : Operand) {r s : Sl} {f g : Nat → Int} (hg : o.guard = none) (ho : o.op = .buildSlice t 2 #[(0, x), (1, y)]) (hx : a.eval x = r.v) (hy : a.eval y = s.v) (h : Zs w W X0 X l fs) (hr : Li 2 f r X W) (hs : Li 2 g s X W) (K : ∀ (u : Sl) (W' : World), Zs w W' X0 X l (Mi 2 (fun _ => 2) (m2 f g) u :: fs) → Stop (wpList P ops Q rest (a.put o.dst u.v) W')) : wpList P ops Q (o :: rest) a W :=
 wpList_plain hg fun K' hK => wp_bslt hI x y ho hx hy rfl rfl (hK _ _ (K ⟨some ⟨W.heap.size, 0, none⟩, 2, 2⟩ _ ((h.later (below_new _ _)).more (Mi.stb _ _ _ _) ⟨rfl, sq_two h.nx ⟨r, Li.stb _ _ _ _ _ _ _ (Ext.below X (below_new _ _)) hr, rfl⟩ ⟨s, Li.stb _ _ _ _ _ _ _ (Ext.below X (below_new _ _)) hs, rfl⟩⟩)))
end
theorem l2_in {a b : Int} (ha : -9 ≤ a ∧ a ≤ 9) (hb : -9 ≤ b ∧ b ≤ 9) (i : Nat) : -9223372036854775808 ≤ l2 a b i ∧ l2 a b i ≤ 9223372036854775807 := by unfold l2; split <;> omega
theorem m2_in {a b c d : Int} (ha : -9 ≤ a ∧ a ≤ 9) (hb : -9 ≤ b ∧ b ≤ 9) (hc : -9 ≤ c ∧ c ≤ 9) (hd : -9 ≤ d ∧ d ≤ 9) (i j : Nat) : -9223372036854775808 ≤ m2 (l2 a b) (l2 c d) i j ∧ m2 (l2 a b) (l2 c d) i j ≤ 9223372036854775807 := by
 unfold m2
 split
 ·
  exact l2_in ha hb j
 ·
  exact l2_in hc hd j
theorem m2_sz {a b c d : Int} (ha : -9 ≤ a ∧ a ≤ 9) (hb : -9 ≤ b ∧ b ≤ 9) (hc : -9 ≤ c ∧ c ≤ 9) (hd : -9 ≤ d ∧ d ≤ 9) (i j : Nat) : Sz 2 (m2 (l2 a b) (l2 c d) i j) := sz_int (m2_in ha hb hc hd i j).1 (m2_in ha hb hc hd i j).2
theorem xl_in {k : Nat} {x : Nat → Int} (h : ∀ i, i < k → -9223372036854775808 ≤ x i ∧ x i ≤ 9223372036854775807) (i : Nat) : Sz 2 (xl k x i) := by
 unfold xl
 split
 ·
  next hi => exact sz_int (h i hi).1 (h i hi).2
 ·
  exact sz_zero _
theorem a_det : M.dt 2 (m2 (l2 2 1) (l2 1 3)) = 5 := by rw [M.dt_two]; decide
theorem b_det : M.dt 2 (m2 (l2 1 2) (l2 2 4)) = 0 := by rw [M.dt_two]; decide
theorem c_det : M.dt 2 (m2 (l2 1 2) (l2 2 1)) = -3 := by rw [M.dt_two]; decide
theorem txt_5 : Txt 5 [53] := ⟨by decide +kernel, by decide +kernel⟩
theorem txt_0 : Txt 0 [48] := ⟨by decide +kernel, by decide +kernel⟩
theorem txt_3 : Txt 3 [51] := ⟨by decide +kernel, by decide +kernel⟩
theorem txt_1' : Txt 1 [49] := ⟨by decide +kernel, by decide +kernel⟩
theorem a_txt : decT (M.dt 2 (m2 (l2 2 1) (l2 1 3))) = [53] := by rw [a_det]; exact (decT_eq txt_5).symm
theorem b_txt : decT (M.dt 2 (m2 (l2 1 2) (l2 2 4))) = [48] := by rw [b_det]; exact (decT_eq txt_0).symm
theorem a_num : txL 2 (crx 2 (m2 (l2 2 1) (l2 1 3)) (xl 2 (l2 1 2))) = [49, 32, 51, 32] := by
 have h0 : crx 2 (m2 (l2 2 1) (l2 1 3)) (xl 2 (l2 1 2)) 0 = 1 := by unfold crx; rw [M.dt_two]; decide
 have h1 : crx 2 (m2 (l2 2 1) (l2 1 3)) (xl 2 (l2 1 2)) 1 = 3 := by unfold crx; rw [M.dt_two]; decide
 simp only [txL]
 rw [h0, h1, ← decT_eq txt_1', ← decT_eq txt_3]
 rfl
theorem a_quad : decT (M.sm 2 (fun k => xl 2 (l2 1 (-1)) k * M.mulv 2 (m2 (l2 2 1) (l2 1 3)) (xl 2 (l2 1 (-1))) k)) = [51] := by
 rw [show M.sm 2 (fun k => xl 2 (l2 1 (-1)) k * M.mulv 2 (m2 (l2 2 1) (l2 1 3)) (xl 2 (l2 1 (-1))) k) = 3 by decide]
 exact (decT_eq txt_3).symm
theorem a_def : Sym 2 (m2 (l2 2 1) (l2 1 3)) ∧ ∀ k, k < 2 → 0 < M.dt (k + 1) (m2 (l2 2 1) (l2 1 3)) := by
 refine ⟨fun i j hi hj => ?_, fun k hk => ?_⟩
 ·
  obtain rfl | rfl : i = 0 ∨ i = 1 := by omega
  ·
   obtain rfl | rfl : j = 0 ∨ j = 1 := by omega
   ·
    rfl
   ·
    decide
  ·
   obtain rfl | rfl : j = 0 ∨ j = 1 := by omega
   ·
    decide
   ·
    rfl
 ·
  obtain rfl | rfl : k = 0 ∨ k = 1 := by omega
  ·
   rw [dt_one]; decide
  ·
   rw [a_det]; decide
theorem c_def : ¬ (Sym 2 (m2 (l2 1 2) (l2 2 1)) ∧ ∀ k, k < 2 → 0 < M.dt (k + 1) (m2 (l2 1 2) (l2 2 1))) := fun h => by
 have := h.2 1 (by omega)
 rw [c_det] at this
 exact absurd this (by decide)
theorem d_def : ¬ (Sym 2 (m2 (l2 1 0) (l2 1 1)) ∧ ∀ k, k < 2 → 0 < M.dt (k + 1) (m2 (l2 1 0) (l2 1 1))) := fun h => absurd (h.1 0 1 (by omega) (by omega)) (by decide)
end Go.Proofs.YtolpfibihialkaaDoor

/- The laws' awake. No statement of the seat is proved here. -/
namespace Go.Proofs.YtolpfibihialkaaDoor
open Go Go.RowKit
open Classical in
set_option maxRecDepth 100000 in
set_option maxHeartbeats 12800000 in
theorem gAwake {X0 : Nat → Prop} {w : World} (hX : NX X0 w) : Calls Tryd.prog 9 #[] w (PVal (.bool true) w) := by
 have hZ0 := zs_start hX
 go_enter Tryd.func9, Tryd.ntmps9
 go_wp2_with (refine stopz_bi2 ei36 (.const (.int .i64 2)) (.const (.int .i64 1)) rfl rfl rfl rfl hZ0 (fun s1 W1 hZ1 => ?_))
 clear hZ0
 unfold Stop
 try simp only [Act.put, zzC, zzD, zzE]
 go_wp2_with (refine stopz_bi2 ei36 (.const (.int .i64 1)) (.const (.int .i64 3)) rfl rfl rfl rfl hZ1 (fun s2 W2 hZ2 => ?_))
 clear hZ1
 unfold Stop
 try simp only [Act.put, zzC, zzD, zzE]
 go_wp2_with (refine stopz_bm2 ei22 (.tmp 27) (.tmp 28) rfl rfl rfl rfl hZ2 (hZ2.get 1 (f := Li 2 (l2 2 1) s1) rfl) (hZ2.get 0 (f := Li 2 (l2 1 3) s2) rfl) (fun s3 W3 hZ3 => ?_))
 clear hZ2
 unfold Stop
 try simp only [Act.put, zzC, zzD, zzE]
 go_wp2_with fail
 refine ((lOf hZ3.nx s3 (hZ3.get 0 (f := Mi 2 (fun _ => 2) (m2 (l2 2 1) (l2 1 3)) s3) rfl) (fun _ _ i j _ _ => m2_in (by decide) (by decide) (by decide) (by decide) i j)).mono (of_ok (by omega) (fun _ _ => rfl))).mono ?_
 rintro zz W4 ⟨s4, rfl, hi_s4, hB⟩
 have hZ4 := hZ3.later hB
 clear hB
 clear hZ3
 have hZ5 := hZ4.more (f := Mt 2 (fun _ => 2) (m2 (l2 2 1) (l2 1 3)) s4) (Mt.stb _ _ _ _) hi_s4
 clear hZ4
 clear hi_s4
 go_wp2_with (refine stopz_bi2 ei36 (.const (.int .i64 1)) (.const (.int .i64 2)) rfl rfl rfl rfl hZ5 (fun s5 W5 hZ6 => ?_))
 clear hZ5
 unfold Stop
 try simp only [Act.put, zzC, zzD, zzE]
 go_wp2_with (refine stopz_bi2 ei36 (.const (.int .i64 2)) (.const (.int .i64 4)) rfl rfl rfl rfl hZ6 (fun s6 W6 hZ7 => ?_))
 clear hZ6
 unfold Stop
 try simp only [Act.put, zzC, zzD, zzE]
 go_wp2_with (refine stopz_bm2 ei22 (.tmp 34) (.tmp 35) rfl rfl rfl rfl hZ7 (hZ7.get 1 (f := Li 2 (l2 1 2) s5) rfl) (hZ7.get 0 (f := Li 2 (l2 2 4) s6) rfl) (fun s7 W7 hZ8 => ?_))
 clear hZ7
 unfold Stop
 try simp only [Act.put, zzC, zzD, zzE]
 go_wp2_with fail
 refine ((lOf hZ8.nx s7 (hZ8.get 0 (f := Mi 2 (fun _ => 2) (m2 (l2 1 2) (l2 2 4)) s7) rfl) (fun _ _ i j _ _ => m2_in (by decide) (by decide) (by decide) (by decide) i j)).mono (of_ok (by omega) (fun _ _ => rfl))).mono ?_
 rintro zz W8 ⟨s8, rfl, hi_s8, hB⟩
 have hZ9 := hZ8.later hB
 clear hB
 clear hZ8
 have hZ10 := hZ9.more (f := Mt 2 (fun _ => 2) (m2 (l2 1 2) (l2 2 4)) s8) (Mt.stb _ _ _ _) hi_s8
 clear hZ9
 clear hi_s8
 go_wp2_with (refine stopz_bi2 ei36 (.const (.int .i64 1)) (.const (.int .i64 2)) rfl rfl rfl rfl hZ10 (fun s9 W9 hZ11 => ?_))
 clear hZ10
 unfold Stop
 try simp only [Act.put, zzC, zzD, zzE]
 go_wp2_with (refine stopz_bi2 ei36 (.const (.int .i64 2)) (.const (.int .i64 1)) rfl rfl rfl rfl hZ11 (fun s10 W10 hZ12 => ?_))
 clear hZ11
 unfold Stop
 try simp only [Act.put, zzC, zzD, zzE]
 go_wp2_with (refine stopz_bm2 ei22 (.tmp 41) (.tmp 42) rfl rfl rfl rfl hZ12 (hZ12.get 1 (f := Li 2 (l2 1 2) s9) rfl) (hZ12.get 0 (f := Li 2 (l2 2 1) s10) rfl) (fun s11 W11 hZ13 => ?_))
 clear hZ12
 unfold Stop
 try simp only [Act.put, zzC, zzD, zzE]
 go_wp2_with fail
 refine ((lOf hZ13.nx s11 (hZ13.get 0 (f := Mi 2 (fun _ => 2) (m2 (l2 1 2) (l2 2 1)) s11) rfl) (fun _ _ i j _ _ => m2_in (by decide) (by decide) (by decide) (by decide) i j)).mono (of_ok (by omega) (fun _ _ => rfl))).mono ?_
 rintro zz W12 ⟨s12, rfl, hi_s12, hB⟩
 have hZ14 := hZ13.later hB
 clear hB
 clear hZ13
 have hZ15 := hZ14.more (f := Mt 2 (fun _ => 2) (m2 (l2 1 2) (l2 2 1)) s12) (Mt.stb _ _ _ _) hi_s12
 clear hZ14
 clear hi_s12
 go_wp2_with (refine stopz_bi2 ei36 (.const (.int .i64 1)) (.const (.int .i64 0)) rfl rfl rfl rfl hZ15 (fun s13 W13 hZ16 => ?_))
 clear hZ15
 unfold Stop
 try simp only [Act.put, zzC, zzD, zzE]
 go_wp2_with (refine stopz_bi2 ei36 (.const (.int .i64 1)) (.const (.int .i64 1)) rfl rfl rfl rfl hZ16 (fun s14 W14 hZ17 => ?_))
 clear hZ16
 unfold Stop
 try simp only [Act.put, zzC, zzD, zzE]
 go_wp2_with (refine stopz_bm2 ei22 (.tmp 48) (.tmp 49) rfl rfl rfl rfl hZ17 (hZ17.get 1 (f := Li 2 (l2 1 0) s13) rfl) (hZ17.get 0 (f := Li 2 (l2 1 1) s14) rfl) (fun s15 W15 hZ18 => ?_))
 clear hZ17
 unfold Stop
 try simp only [Act.put, zzC, zzD, zzE]
 go_wp2_with fail
 refine ((lOf hZ18.nx s15 (hZ18.get 0 (f := Mi 2 (fun _ => 2) (m2 (l2 1 0) (l2 1 1)) s15) rfl) (fun _ _ i j _ _ => m2_in (by decide) (by decide) (by decide) (by decide) i j)).mono (of_ok (by omega) (fun _ _ => rfl))).mono ?_
 rintro zz W16 ⟨s16, rfl, hi_s16, hB⟩
 have hZ19 := hZ18.later hB
 clear hB
 clear hZ18
 have hZ20 := hZ19.more (f := Mt 2 (fun _ => 2) (m2 (l2 1 0) (l2 1 1)) s16) (Mt.stb _ _ _ _) hi_s16
 clear hZ19
 clear hi_s16
 go_wp2_with (refine stop_opw (by kernel_rfl) (fun K hK => wp_lenq (.tmp 61) 25 39 s4 rfl (by kernel_rfl) rfl (hZ20.get 12 (f := Mt 2 (fun _ => 2) (m2 (l2 2 1) (l2 1 3)) s4) rfl).n (hK _ _ ?_)))
 unfold Stop
 try simp only [Act.put, zzC, zzD, zzE]
 go_wp2_with (refine stop_opw (by kernel_rfl) (fun K hK => wp_neqi (.tmp 62) (.const (.int .i64 2)) 3 3 rfl rfl rfl rfl (r := false) (decide_eq_false (by decide)) (hK _ _ ?_)))
 unfold Stop
 try simp only [Act.put, zzC, zzD, zzE]
 go_wp2_with (refine stop_opw (by kernel_rfl) (fun K hK => wp_lenq (.tmp 66) 25 39 s8 rfl (by kernel_rfl) rfl (hZ20.get 8 (f := Mt 2 (fun _ => 2) (m2 (l2 1 2) (l2 2 4)) s8) rfl).n (hK _ _ ?_)))
 unfold Stop
 try simp only [Act.put, zzC, zzD, zzE]
 go_wp2_with (refine stop_opw (by kernel_rfl) (fun K hK => wp_neqi (.tmp 67) (.const (.int .i64 2)) 3 3 rfl rfl rfl rfl (r := false) (decide_eq_false (by decide)) (hK _ _ ?_)))
 unfold Stop
 try simp only [Act.put, zzC, zzD, zzE]
 go_wp2_with (refine stop_opw (by kernel_rfl) (fun K hK => wp_lenq (.tmp 71) 25 39 s12 rfl (by kernel_rfl) rfl (hZ20.get 4 (f := Mt 2 (fun _ => 2) (m2 (l2 1 2) (l2 2 1)) s12) rfl).n (hK _ _ ?_)))
 unfold Stop
 try simp only [Act.put, zzC, zzD, zzE]
 go_wp2_with (refine stop_opw (by kernel_rfl) (fun K hK => wp_neqi (.tmp 72) (.const (.int .i64 2)) 3 3 rfl rfl rfl rfl (r := false) (decide_eq_false (by decide)) (hK _ _ ?_)))
 unfold Stop
 try simp only [Act.put, zzC, zzD, zzE]
 go_wp2_with (refine stop_opw (by kernel_rfl) (fun K hK => wp_lenq (.tmp 76) 25 39 s16 rfl (by kernel_rfl) rfl (hZ20.get 0 (f := Mt 2 (fun _ => 2) (m2 (l2 1 0) (l2 1 1)) s16) rfl).n (hK _ _ ?_)))
 unfold Stop
 try simp only [Act.put, zzC, zzD, zzE]
 go_wp2_with (refine stop_opw (by kernel_rfl) (fun K hK => wp_neqi (.tmp 77) (.const (.int .i64 2)) 3 3 rfl rfl rfl rfl (r := false) (decide_eq_false (by decide)) (hK _ _ ?_)))
 unfold Stop
 try simp only [Act.put, zzC, zzD, zzE]
 go_wp2_with (refine stopz_bi2 ei36 (.const (.int .i64 1)) (.const (.int .i64 2)) rfl rfl rfl rfl hZ20 (fun s17 W17 hZ21 => ?_))
 clear hZ20
 unfold Stop
 try simp only [Act.put, zzC, zzD, zzE]
 go_wp2_with fail
 refine (gList hZ21.nx s17 2 (hZ21.get 0 (f := Li 2 (l2 1 2) s17) rfl) (by omega) (fun i _ => l2_in (by decide) (by decide) i)).mono ?_
 rintro zz W18 ⟨s18, s18r, rfl, hi_s18, hB⟩
 have hZ22 := hZ21.later hB
 clear hB
 clear hZ21
 have hZ23 := hZ22.more (f := Ls 2 (xl 2 (l2 1 2)) s18) (Ls.stb _ _ _) hi_s18
 clear hZ22
 clear hi_s18
 go_wp2_with (refine stopz_bi2 ei36 (.const (.int .i64 1)) (.const (.int .i64 (-1))) rfl rfl rfl rfl hZ23 (fun s19 W19 hZ24 => ?_))
 clear hZ23
 unfold Stop
 try simp only [Act.put, zzC, zzD, zzE]
 go_wp2_with fail
 refine (gList hZ24.nx s19 2 (hZ24.get 0 (f := Li 2 (l2 1 (-1)) s19) rfl) (by omega) (fun i _ => l2_in (by decide) (by decide) i)).mono ?_
 rintro zz W20 ⟨s20, s20r, rfl, hi_s20, hB⟩
 have hZ25 := hZ24.later hB
 clear hB
 clear hZ24
 have hZ26 := hZ25.more (f := Ls 2 (xl 2 (l2 1 (-1))) s20) (Ls.stb _ _ _) hi_s20
 clear hZ25
 clear hi_s20
 go_wp2_with fail
 refine (lDet hZ26.nx s4 (e := 2) (by omega) (by omega) (by omega) (hZ26.get 16 (f := Mt 2 (fun _ => 2) (m2 (l2 2 1) (l2 1 3)) s4) rfl) (fun i j _ _ => m2_sz (by decide) (by decide) (by decide) (by decide) i j)).mono ?_
 rintro zz W21 ⟨q21, rfl, ez_q21, hi_q21, hB⟩
 have hZ27 := hZ26.later hB
 clear hB
 clear hZ26
 have hZ28 := hZ27.more (f := q21.is) q21.stb hi_q21
 clear hZ27
 clear hi_q21
 go_wp2_with fail
 refine ((zStr (hZ28.get 0 (f := q21.is) rfl) ez_q21 (dt_sz (fun i j _ _ => m2_sz (by decide) (by decide) (by decide) (by decide) i j)) (by first | omega | exact Nat.le_trans (dtb_le (by omega) (by omega)) (by omega))).mono (fun _ _ h => ptxt_dec h)).mono ?_
 rintro zz W22 ⟨rfl, hB⟩
 have hZ29 := hZ28.later hB
 clear hB
 clear hZ28
 go_wp2_with fail
 refine (lDet hZ29.nx s8 (e := 2) (by omega) (by omega) (by omega) (hZ29.get 13 (f := Mt 2 (fun _ => 2) (m2 (l2 1 2) (l2 2 4)) s8) rfl) (fun i j _ _ => m2_sz (by decide) (by decide) (by decide) (by decide) i j)).mono ?_
 rintro zz W23 ⟨q22, rfl, ez_q22, hi_q22, hB⟩
 have hZ30 := hZ29.later hB
 clear hB
 clear hZ29
 have hZ31 := hZ30.more (f := q22.is) q22.stb hi_q22
 clear hZ30
 clear hi_q22
 go_wp2_with fail
 refine ((zStr (hZ31.get 0 (f := q22.is) rfl) ez_q22 (dt_sz (fun i j _ _ => m2_sz (by decide) (by decide) (by decide) (by decide) i j)) (by first | omega | exact Nat.le_trans (dtb_le (by omega) (by omega)) (by omega))).mono (fun _ _ h => ptxt_dec h)).mono ?_
 rintro zz W24 ⟨rfl, hB⟩
 have hZ32 := hZ31.later hB
 clear hB
 clear hZ31
 go_wp2_with fail
 refine (lSolN hZ32.nx s4 s18 (e := 2) (by omega) (by omega) (by omega) (hZ32.get 18 (f := Mt 2 (fun _ => 2) (m2 (l2 2 1) (l2 1 3)) s4) rfl) (hZ32.get 4 (f := Ls 2 (xl 2 (l2 1 2)) s18) rfl) (fun i j _ _ => m2_sz (by decide) (by decide) (by decide) (by decide) i j) (fun k _ => xl_in (fun i _ => l2_in (by decide) (by decide) i) k) (by rw [a_det]; decide)).mono ?_
 rintro zz W25 ⟨s23, q23, rfl, hi_s23, ez_q23, hi_q23, hB⟩
 have hZ33 := hZ32.later hB
 clear hB
 clear hZ32
 have hZ34 := hZ33.more (f := Ls 2 (crx 2 (m2 (l2 2 1) (l2 1 3)) (xl 2 (l2 1 2))) s23) (Ls.stb _ _ _) hi_s23
 clear hZ33
 clear hi_s23
 have hZ35 := hZ34.more (f := q23.is) q23.stb hi_q23
 clear hZ34
 clear hi_q23
 go_wp2_with (refine stopz_alloc 45 #[.bool false, .slice none 0 0] (.agg #[.bool false, .slice none 0 0]) rfl rfl zv45 rfl hZ35 (fun bk1 X36 W26 hZ36 => ?_))
 clear hZ35
 unfold Stop
 try simp only [Act.put, zzC, zzD, zzE]
 go_wp2_with (refine stopz_store 45 (.tmp 16) (.tmp 101) 0 bk1 0 #[.bool false, .slice none 0 0] 45 2 [.bool q23.b, .slice q23.a q23.n q23.c] #[.bool q23.b, .slice q23.a q23.n q23.c] [(bk1, #[.bool q23.b, .slice q23.a q23.n q23.c], 45)] rfl rfl rfl rfl sz45 hZ36 rfl rfl (zzF (by kernel_rfl)) (by kernel_rfl) (by kernel_rfl) (by kernel_rfl) (fun W27 hZ37 => ?_))
 clear hZ36
 unfold Stop
 try simp only [Act.put, zzC, zzD, zzE]
 go_wp2_with fail
 refine (lSolZ hZ37.nx s8 s18 (e := 2) (by omega) (by omega) (by omega) (hZ37.get 16 (f := Mt 2 (fun _ => 2) (m2 (l2 1 2) (l2 2 4)) s8) rfl) (hZ37.get 6 (f := Ls 2 (xl 2 (l2 1 2)) s18) rfl) (fun i j _ _ => m2_sz (by decide) (by decide) (by decide) (by decide) i j) (fun k _ => xl_in (fun i _ => l2_in (by decide) (by decide) i) k) b_det).mono ?_
 rintro zz W28 ⟨rfl, hB⟩
 have hZ38 := hZ37.later hB
 clear hB
 clear hZ37
 go_wp2_with (refine stopz_alloc 45 #[.bool false, .slice none 0 0] (.agg #[.bool false, .slice none 0 0]) rfl rfl zv45 rfl hZ38 (fun bk2 X39 W29 hZ39 => ?_))
 clear hZ38
 unfold Stop
 try simp only [Act.put, zzC, zzD, zzE]
 go_wp2_with (refine stopz_store 45 (.tmp 19) (.tmp 108) 0 bk2 0 #[.bool false, .slice none 0 0] 45 2 [.bool false, .slice none 0 0] #[.bool false, .slice none 0 0] [(bk2, #[.bool false, .slice none 0 0], 45), (bk1, #[.bool q23.b, .slice q23.a q23.n q23.c], 45)] rfl rfl rfl rfl sz45 hZ39 rfl rfl (zzF (by kernel_rfl)) (by kernel_rfl) (by kernel_rfl) (by kernel_rfl) (fun W30 hZ40 => ?_))
 clear hZ39
 unfold Stop
 try simp only [Act.put, zzC, zzD, zzE]
 go_wp2_with (refine stop_op rfl (fun K hK => wp_load 45 (.tmp 16) rfl bk1 0 2 #[.bool q23.b, .slice q23.a q23.n q23.c] #[.bool q23.b, .slice q23.a q23.n q23.c] 45 (hZ40.es.at' _ (zzG (i := 1) rfl)) rfl ag45 sz45 (zzF (by kernel_rfl)) (by kernel_rfl) (hK _ _ ?_)))
 unfold Stop
 try simp only [Act.put, zzC, zzD, zzE]
 go_wp2_with fail
 refine ((zStr (hZ40.get 0 (f := q23.is) rfl) ez_q23 (dt_sz (fun i j _ _ => m2_sz (by decide) (by decide) (by decide) (by decide) i j)) (by first | omega | exact Nat.le_trans (dtb_le (by omega) (by omega)) (by omega))).mono (fun _ _ h => ptxt_dec h)).mono ?_
 rintro zz W31 ⟨rfl, hB⟩
 have hZ41 := hZ40.later hB
 clear hB
 clear hZ40
 go_wp2_with fail
 refine ((lDefinite hZ41.nx s4 (e := 2) (by omega) (by omega) (by omega) (hZ41.get 20 (f := Mt 2 (fun _ => 2) (m2 (l2 2 1) (l2 1 3)) s4) rfl) (fun i j _ _ => m2_sz (by decide) (by decide) (by decide) (by decide) i j)).mono (fun _ _ h => by rw [decide_eq_true a_def] at h; exact h)).mono ?_
 rintro zz W32 ⟨rfl, hB⟩
 have hZ42 := hZ41.later hB
 clear hB
 clear hZ41
 go_wp2_with fail
 refine ((lDefinite hZ42.nx s12 (e := 2) (by omega) (by omega) (by omega) (hZ42.get 12 (f := Mt 2 (fun _ => 2) (m2 (l2 1 2) (l2 2 1)) s12) rfl) (fun i j _ _ => m2_sz (by decide) (by decide) (by decide) (by decide) i j)).mono (fun _ _ h => by rw [decide_eq_false c_def] at h; exact h)).mono ?_
 rintro zz W33 ⟨rfl, hB⟩
 have hZ43 := hZ42.later hB
 clear hB
 clear hZ42
 go_wp2_with fail
 refine ((lDefinite hZ43.nx s16 (e := 2) (by omega) (by omega) (by omega) (hZ43.get 8 (f := Mt 2 (fun _ => 2) (m2 (l2 1 0) (l2 1 1)) s16) rfl) (fun i j _ _ => m2_sz (by decide) (by decide) (by decide) (by decide) i j)).mono (fun _ _ h => by rw [decide_eq_false d_def] at h; exact h)).mono ?_
 rintro zz W34 ⟨rfl, hB⟩
 have hZ44 := hZ43.later hB
 clear hB
 clear hZ43
 go_wp2_with fail
 refine (lQuad hZ44.nx s4 s20 (e := 2) (hZ44.get 20 (f := Mt 2 (fun _ => 2) (m2 (l2 2 1) (l2 1 3)) s4) rfl) (hZ44.get 4 (f := Ls 2 (xl 2 (l2 1 (-1))) s20) rfl) (fun i j _ _ => m2_sz (by decide) (by decide) (by decide) (by decide) i j) (fun k _ => xl_in (fun i _ => l2_in (by decide) (by decide) i) k) (by omega) (by omega)).mono ?_
 rintro zz W35 ⟨q24, rfl, ez_q24, hi_q24, hB⟩
 have hZ45 := hZ44.later hB
 clear hB
 clear hZ44
 have hZ46 := hZ45.more (f := q24.is) q24.stb hi_q24
 clear hZ45
 clear hi_q24
 go_wp2_with fail
 refine ((zStr (hZ46.get 0 (f := q24.is) rfl) ez_q24 (sm_sz (fun k _ => Sz.mul (xl_in (fun i _ => l2_in (by decide) (by decide) i) k) (sm_sz (fun j _ => Sz.mul (m2_sz (by decide) (by decide) (by decide) (by decide) k j) (xl_in (fun i _ => l2_in (by decide) (by decide) i) j))))) (by first | omega | exact Nat.le_trans (dtb_le (by omega) (by omega)) (by omega))).mono (fun _ _ h => ptxt_dec h)).mono ?_
 rintro zz W36 ⟨rfl, hB⟩
 have hZ47 := hZ46.later hB
 clear hB
 clear hZ46
 go_wp2_with (refine stop_op rfl (fun K hK => wp_seql (.tmp 122) (.const (.string ⟨([53]).toArray⟩)) 9 9 rfl rfl rfl rfl (r := true) (decide_eq_true a_txt) (hK _ _ ?_)))
 unfold Stop
 try simp only [Act.put, zzC, zzD, zzE]
 go_wp2_with (refine stop_opw (by kernel_rfl) (fun K hK => wp_seql (.tmp 125) (.const (.string ⟨([48]).toArray⟩)) 9 9 rfl rfl rfl rfl (r := true) (decide_eq_true b_txt) (hK _ _ ?_)))
 unfold Stop
 try simp only [Act.put, zzC, zzD, zzE]
 go_wp2_with fail
 refine (gText hZ47.nx s23 (hZ47.get 2 (f := Ls 2 (crx 2 (m2 (l2 2 1) (l2 1 3)) (xl 2 (l2 1 2))) s23) rfl) (fun j _ => crx_sz (fun i j _ _ => m2_sz (by decide) (by decide) (by decide) (by decide) i j) (fun k _ => xl_in (fun i _ => l2_in (by decide) (by decide) i) k) j) (by omega) (Nat.le_trans (dtb_le (by omega) (by omega)) (by omega))).mono ?_
 rintro zz W37 ⟨rfl, hB⟩
 have hZ48 := hZ47.later hB
 clear hB
 clear hZ47
 go_wp2_with (refine stop_opw (by kernel_rfl) (fun K hK => wp_seql (.tmp 130) (.const (.string ⟨([49, 32, 51, 32]).toArray⟩)) 9 9 rfl rfl rfl rfl (r := true) (decide_eq_true a_num) (hK _ _ ?_)))
 unfold Stop
 try simp only [Act.put, zzC, zzD, zzE]
 go_wp2_with (refine stop_opw (by kernel_rfl) (fun K hK => wp_seql (.tmp 134) (.const (.string ⟨([53]).toArray⟩)) 9 9 rfl rfl rfl rfl (r := true) (decide_eq_true a_txt) (hK _ _ ?_)))
 unfold Stop
 try simp only [Act.put, zzC, zzD, zzE]
 go_wp2_with (refine stop_opw (by kernel_rfl) (fun K hK => wp_seql (.tmp 157) (.const (.string ⟨([51]).toArray⟩)) 9 9 rfl rfl rfl rfl (r := true) (decide_eq_true a_quad) (hK _ _ ?_)))
 unfold Stop
 try simp only [Act.put, zzC, zzD, zzE]
 go_wp2
 go_ret
 exact ⟨rfl, hZ48.below⟩
end Go.Proofs.YtolpfibihialkaaDoor

/- What the walks of the laws of layer 7 lean on. No statement of the seat is proved here. -/
namespace Go.Proofs.YtolpfibihialkaaDoor
open Go Go.RowKit
theorem gReadD {X0 : Nat → Prop} {w : World} (hX : NX X0 w) (rs : Sl) (u : Nat) {m : Nat} {c : Nat → Nat} {R : Nat → Nat → Int} (hr : Mi m c R rs X0 w) (hu12 : u ≤ 12) (hR : ∀ i j, i < m → j < c i → -9223372036854775808 ≤ R i j ∧ R i j ≤ 9223372036854775807) : Calls Tryd.prog 15 #[rs.v, .int .i64 ((u : Nat) : Int)] w (fun e w' => ∃ (a b : Sl) (t : Bool), e = .returned (.tuple #[a.v, b.v, .bool t]) ∧ Below w.heap.size w w') := by
 by_cases h : m ≤ u ∧ ∀ k, k < m → c k = m
 ·
  exact (gReadY hX rs u hr hu12 h.1 h.2 hR).mono fun _ _ ⟨a, b, h1, _, h3⟩ => ⟨a, b, true, h1, h3⟩
 ·
  exact (gReadN hX rs u hr hu12 h).mono fun _ _ ⟨h1, h3⟩ => ⟨slz, slz, false, h1, h3⟩
end Go.Proofs.YtolpfibihialkaaDoor

/- What the walks of LinDefinite and LinRules lean on. No statement of the seat is proved here. -/
namespace Go.Proofs.YtolpfibihialkaaDoor
open Go Go.RowKit
theorem gtr_t {z : Int} (h : 0 < z) : decide ((0 : Int) < sgnI z) = true := by
 unfold sgnI
 rw [if_neg (by omega), if_neg (by omega)]
 decide
theorem gtr_f {z : Int} (h : z ≤ 0) : decide ((0 : Int) < sgnI z) = false := by
 unfold sgnI
 split
 ·
  decide
 ·
  rw [if_pos (by omega)]; decide
theorem neq_t {z : Int} (h : z ≠ 0) : decide (sgnI z ≠ 0) = true := decide_eq_true (by rw [sgnI_ne]; exact h)
theorem neq_f {z : Int} (h : z = 0) : decide (sgnI z ≠ 0) = false := decide_eq_false (by rw [sgnI_ne]; exact fun k => k h)
theorem ceq_t {x y : Int} (h : x = y) : decide (cmpI x y = 0) = true := decide_eq_true (by
 refine Classical.byContradiction fun k => ?_
 have : cmpI x y ≠ 0 := k
 rw [cmpI_ne] at this
 exact this h)
/-- One of the first i numbers is not 0. -/
def Som (x : Nat → Int) (i : Nat) (b : Bool) : Prop := b = true ↔ ∃ k, k < i ∧ x k ≠ 0
section
variable {x : Nat → Int} {i m : Nat}
theorem som_0 : Som x 0 false := ⟨nofun, fun ⟨k, h, _⟩ => absurd h (Nat.not_lt_zero k)⟩
theorem som_t (h : Som x i true) : Som x (i + 1) true := ⟨fun _ => by obtain ⟨k, h1, h2⟩ := h.1 rfl; exact ⟨k, by omega, h2⟩, fun _ => rfl⟩
theorem som_n (h : x i ≠ 0) : Som x (i + 1) true := ⟨fun _ => ⟨i, by omega, h⟩, fun _ => rfl⟩
theorem som_z (h : Som x i false) (hz : x i = 0) : Som x (i + 1) false := ⟨nofun, fun ⟨k, h1, h2⟩ => by
 by_cases e : k = i
 ·
  subst e; exact absurd hz h2
 ·
  exact h.2 ⟨k, by omega, h2⟩⟩
theorem som_yes {b : Bool} (h : Som x m b) (hs : ∃ k, k < m ∧ x k ≠ 0) : b = true := h.2 hs
theorem som_no {b : Bool} (h : Som x m b) (hs : ¬ ∃ k, k < m ∧ x k ≠ 0) : b = false := by
 cases b
 ·
  rfl
 ·
  exact absurd (h.1 rfl) hs
end
theorem dfm_sz {m : Nat} {A : Nat → Nat → Int} (hA : ∀ i j, i < m → j < m → Sz 2 (A i j)) : ∀ i j, i < m → j < m → Sz (6 + m) (dfm m A i j) := fun i j hi hj => by
 have h1 : ∀ i j, i < m → j < m → Sz (2 + 2 + m) (M.mulm m (fun i j => A j i) A i j) := fun i j hi hj => sm_sz fun t ht => Sz.mul (hA t i ht hi) (hA t j ht hj)
 unfold dfm
 split
 ·
  exact (Sz.add (h1 i i hi hi) sz_one).mono (by omega)
 ·
  exact (h1 i j hi hj).mono (by omega)
end Go.Proofs.YtolpfibihialkaaDoor

/- The law LinDefinite of layer 7, walked: one way of it. No statement of the seat is proved here. -/
namespace Go.Proofs.YtolpfibihialkaaDoor
open Go Go.RowKit
open Classical in
set_option maxRecDepth 100000 in
set_option maxHeartbeats 25600000 in
theorem ldf1 {X0 : Nat → Prop} {w : World} (hX : NX X0 w) (ra l : Sl) (ma kl : Nat) (ca : Nat → Nat) (Ra : Nat → Nat → Int) (xl_ : Nat → Int) (hra : Mi ma ca Ra ra X0 w) (hl_ : Li kl xl_ l X0 w) (rga0 : ∀ i j, i < ma → j < ca i → -9223372036854775808 ≤ Ra i j ∧ Ra i j ≤ 9223372036854775807) (rgl0 : ∀ i, i < kl → -9223372036854775808 ≤ xl_ i ∧ xl_ i ≤ 9223372036854775807) (ha : ¬ (ma ≤ 6 ∧ ∀ k, k < ma → ca k = ma)) : Calls Tryd.prog 7 #[ra.v, l.v] w (PVal (.bool true) w) := by
 have rga := Lib.hid rga0
 clear rga0
 have rgl := Lib.hid rgl0
 clear rgl0
 have hZ0 := zs_start hX
 have hZ1 := hZ0.more (f := Li kl xl_ l) (Li.stb _ _ _) hl_
 clear hZ0
 have hZ2 := hZ1.more (f := Mi ma ca Ra ra) (Mi.stb _ _ _ _) hra
 clear hZ1
 go_enter Tryd.func7, Tryd.ntmps7
 go_wp2_with fail
 refine (gAwake hZ2.nx).mono ?_
 rintro zz W1 ⟨rfl, hB⟩
 have hZ3 := hZ2.later hB
 clear hB
 clear hZ2
 go_wp2_with fail
 refine (gReadN hZ3.nx ra 6 (hZ3.get 0 (f := Mi ma ca Ra ra) rfl) (by omega) ha).mono ?_
 rintro zz W2 ⟨rfl, hB⟩
 have hZ4 := hZ3.later hB
 clear hB
 clear hZ3
 go_wp2
 go_ret
 exact ⟨rfl, hZ4.below⟩
end Go.Proofs.YtolpfibihialkaaDoor
