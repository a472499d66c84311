/- Parts of the proof. -/
import Derived.Test.YtolpfibihialkaaGreatDoorGf0
import Derived.Test.YtolpfibihialkaaGreatDoorGf28
import Derived.Test.YtolpfibihialkaaGreatDoorGf29
import Derived.Test.YtolpfibihialkaaGreatDoorGf22
import Derived.Test.YtolpfibihialkaaGreatDoorGf13
/- Lists and rows of two that a law writes down. No statement of the seat is proved here. -/
namespace Go.Proofs.YtolpfibihialkaaGreatDoor
open Go Go.RowKit
theorem ei28 : EInf Tryz.prog 28 2 1 (.int .i64 0) 8 := ⟨by kernel_rfl, by kernel_rfl, by kernel_rfl, by decide, by decide⟩
theorem ei27 : EInf Tryz.prog 27 28 1 (.slice none 0 0) 24 := ⟨by kernel_rfl, by kernel_rfl, by kernel_rfl, by decide, by decide⟩
def l2 (a b : Int) (i : Nat) : Int := if i = 0 then a else b
def m2 (x y : Nat → Int) (i j : Nat) : Int := if i = 0 then x j else y j
theorem run_bslt {P : Program} {t e : TypeId} {by_ : Nat} {z : Value} (hI : EInf P t e 1 z by_) (u v : Value) (hu : u.cells = #[u]) (hv : v.cells = #[v]) (W : World) : (Instr.buildSlice t 2 #[(0, u), (1, v)]).run P W = .ok (.slice (some ⟨W.heap.size, 0, none⟩) 2 2) (W.alloc (.cells #[u, v] e)) := by
 obtain ⟨i, hi, hz, hs, hb⟩ := info_parts hI.hi
 simp [Instr.buildSlice, run_underlying hI.ht, sizeOf, typeInfo, hi, hs, zeroValue, hz, Instr.fill, newRow, hu, hv, set2]
section
variable {P : Program} {ops : Array Oper} {Q : Exit → Act → World → Prop} {a : Act} {w W : World} {rest : List Oper} {o : Oper} {l : List (Nat × Array Value × TypeId)} {X0 X : Nat → Prop} {fs : List Fa}
theorem wp_bslt {next : Act → World → Prop} {t e : TypeId} {by_ : Nat} {z : Value} (hI : EInf P t e 1 z by_) (x y : Operand) (ho : o.op = .buildSlice t 2 #[(0, x), (1, y)]) {u v : Value} (hx : a.eval x = u) (hy : a.eval y = v) (hu : u.cells = #[u]) (hv : v.cells = #[v]) (k : next (a.put o.dst (.slice (some ⟨W.heap.size, 0, none⟩) 2 2)) (W.alloc (.cells #[u, v] e))) : o.wp P a W next Q := by
 have e : (execOp a.eval o).run P W = .ok (.value (.slice (some ⟨W.heap.size, 0, none⟩) 2 2)) (W.alloc (.cells #[u, v] e)) := by
  unfold execOp
  rw [ho]
  simp only [List.map_toArray, List.map_cons, List.map_nil, hx, hy, Sem.run_bind, run_bslt hI u v hu hv, Result.andThen]
  rfl
 unfold Oper.wp
 rw [e]
 exact k
theorem sq_two {E : El} {u v : Value} {T : TypeId} (hx : NX X W) (h0 : E X (W.alloc (.cells #[u, v] T)) 0 [u]) (h1 : E X (W.alloc (.cells #[u, v] T)) 1 [v]) : Sq 1 E ⟨some ⟨W.heap.size, 0, none⟩, 2, 2⟩ X (W.alloc (.cells #[u, v] T)) := by
 have h : (W.alloc (.cells #[u, v] T)).heap[W.heap.size]? = some (.cells #[u, v] T (0, 0)) := heap_new W _
 refine ⟨Nat.le_refl _, by show 2 ≤ maxLen; unfold maxLen; omega, nofun, fun q hq _ => ?_, fun q hq i hi => ?_⟩
 ·
  cases hq
  exact ⟨rfl, (Array.getElem?_eq_some_iff.1 h).1, fun hX => Nat.lt_irrefl _ (hx _ hX)⟩
 ·
  cases hq
  simp only at hi
  obtain rfl | rfl : i = 0 ∨ i = 1 := by omega
  ·
   refine ⟨[u], rfl, fun j hj => ?_, h0⟩
   obtain rfl : j = 0 := by omega
   simp only [World.cell?, h]
   rfl
  ·
   refine ⟨[v], rfl, fun j hj => ?_, h1⟩
   obtain rfl : j = 0 := by omega
   simp only [World.cell?, h]
   rfl
theorem stopz_bi2 {t e : TypeId} {by_ : Nat} {z : Value} (hI : EInf P t e 1 z by_) (x y : Operand) {p q : Int} (hg : o.guard = none) (ho : o.op = .buildSlice t 2 #[(0, x), (1, y)]) (hx : a.eval x = .int .i64 p) (hy : a.eval y = .int .i64 q) (h : Zs w W X0 X l fs) (K : ∀ (s : Sl) (W' : World), Zs w W' X0 X l (Li 2 (l2 p q) s :: fs) → Stop (wpList P ops Q rest (a.put o.dst s.v) W')) : wpList P ops Q (o :: rest) a W :=
 wpList_plain hg fun K' hK => wp_bslt hI x y ho hx hy rfl rfl (hK _ _ (K ⟨some ⟨W.heap.size, 0, none⟩, 2, 2⟩ _ ((h.later (below_new _ _)).more (Li.stb _ _ _) ⟨rfl, sq_two h.nx rfl rfl⟩)))
theorem stopz_bm2 {t e : TypeId} {by_ : Nat} {z : Value} (hI : EInf P t e 1 z by_) (x y : Operand) {r s : Sl} {f g : Nat → Int} (hg : o.guard = none) (ho : o.op = .buildSlice t 2 #[(0, x), (1, y)]) (hx : a.eval x = r.v) (hy : a.eval y = s.v) (h : Zs w W X0 X l fs) (hr : Li 2 f r X W) (hs : Li 2 g s X W) (K : ∀ (u : Sl) (W' : World), Zs w W' X0 X l (Mi 2 (fun _ => 2) (m2 f g) u :: fs) → Stop (wpList P ops Q rest (a.put o.dst u.v) W')) : wpList P ops Q (o :: rest) a W :=
 wpList_plain hg fun K' hK => wp_bslt hI x y ho hx hy rfl rfl (hK _ _ (K ⟨some ⟨W.heap.size, 0, none⟩, 2, 2⟩ _ ((h.later (below_new _ _)).more (Mi.stb _ _ _ _) ⟨rfl, sq_two h.nx ⟨r, Li.stb _ _ _ _ _ _ _ (Ext.below X (below_new _ _)) hr, rfl⟩ ⟨s, Li.stb _ _ _ _ _ _ _ (Ext.below X (below_new _ _)) hs, rfl⟩⟩)))
end
theorem l2_in {a b : Int} (ha : -9 ≤ a ∧ a ≤ 9) (hb : -9 ≤ b ∧ b ≤ 9) (i : Nat) : -9223372036854775808 ≤ l2 a b i ∧ l2 a b i ≤ 9223372036854775807 := by unfold l2; split <;> omega
theorem m2_in {a b c d : Int} (ha : -9 ≤ a ∧ a ≤ 9) (hb : -9 ≤ b ∧ b ≤ 9) (hc : -9 ≤ c ∧ c ≤ 9) (hd : -9 ≤ d ∧ d ≤ 9) (i j : Nat) : -9223372036854775808 ≤ m2 (l2 a b) (l2 c d) i j ∧ m2 (l2 a b) (l2 c d) i j ≤ 9223372036854775807 := by
 unfold m2
 split
 ·
  exact l2_in ha hb j
 ·
  exact l2_in hc hd j
theorem m2_sz {a b c d : Int} (ha : -9 ≤ a ∧ a ≤ 9) (hb : -9 ≤ b ∧ b ≤ 9) (hc : -9 ≤ c ∧ c ≤ 9) (hd : -9 ≤ d ∧ d ≤ 9) (i j : Nat) : Sz 2 (m2 (l2 a b) (l2 c d) i j) := sz_int (m2_in ha hb hc hd i j).1 (m2_in ha hb hc hd i j).2
theorem xl_in {k : Nat} {x : Nat → Int} (h : ∀ i, i < k → -9223372036854775808 ≤ x i ∧ x i ≤ 9223372036854775807) (i : Nat) : Sz 2 (xl k x i) := by
 unfold xl
 split
 ·
  next hi => exact sz_int (h i hi).1 (h i hi).2
 ·
  exact sz_zero _
theorem a_det : M.dt 2 (m2 (l2 2 1) (l2 1 3)) = 5 := by rw [M.dt_two]; decide
theorem b_det : M.dt 2 (m2 (l2 1 2) (l2 2 4)) = 0 := by rw [M.dt_two]; decide
theorem c_det : M.dt 2 (m2 (l2 1 2) (l2 2 1)) = -3 := by rw [M.dt_two]; decide
theorem txt_5 : Txt 5 [53] := ⟨by decide +kernel, by decide +kernel⟩
theorem txt_0 : Txt 0 [48] := ⟨by decide +kernel, by decide +kernel⟩
theorem txt_3 : Txt 3 [51] := ⟨by decide +kernel, by decide +kernel⟩
theorem txt_1' : Txt 1 [49] := ⟨by decide +kernel, by decide +kernel⟩
theorem a_txt : decT (M.dt 2 (m2 (l2 2 1) (l2 1 3))) = [53] := by rw [a_det]; exact (decT_eq txt_5).symm
theorem b_txt : decT (M.dt 2 (m2 (l2 1 2) (l2 2 4))) = [48] := by rw [b_det]; exact (decT_eq txt_0).symm
theorem a_num : txL 2 (crx 2 (m2 (l2 2 1) (l2 1 3)) (xl 2 (l2 1 2))) = [49, 32, 51, 32] := by
 have h0 : crx 2 (m2 (l2 2 1) (l2 1 3)) (xl 2 (l2 1 2)) 0 = 1 := by unfold crx; rw [M.dt_two]; decide
 have h1 : crx 2 (m2 (l2 2 1) (l2 1 3)) (xl 2 (l2 1 2)) 1 = 3 := by unfold crx; rw [M.dt_two]; decide
 simp only [txL]
 rw [h0, h1, ← decT_eq txt_1', ← decT_eq txt_3]
 rfl
theorem a_quad : decT (M.sm 2 (fun k => xl 2 (l2 1 (-1)) k * M.mulv 2 (m2 (l2 2 1) (l2 1 3)) (xl 2 (l2 1 (-1))) k)) = [51] := by
 rw [show M.sm 2 (fun k => xl 2 (l2 1 (-1)) k * M.mulv 2 (m2 (l2 2 1) (l2 1 3)) (xl 2 (l2 1 (-1))) k) = 3 by decide]
 exact (decT_eq txt_3).symm
theorem a_def : Sym 2 (m2 (l2 2 1) (l2 1 3)) ∧ ∀ k, k < 2 → 0 < M.dt (k + 1) (m2 (l2 2 1) (l2 1 3)) := by
 refine ⟨fun i j hi hj => ?_, fun k hk => ?_⟩
 ·
  obtain rfl | rfl : i = 0 ∨ i = 1 := by omega
  ·
   obtain rfl | rfl : j = 0 ∨ j = 1 := by omega
   ·
    rfl
   ·
    decide
  ·
   obtain rfl | rfl : j = 0 ∨ j = 1 := by omega
   ·
    decide
   ·
    rfl
 ·
  obtain rfl | rfl : k = 0 ∨ k = 1 := by omega
  ·
   rw [dt_one]; decide
  ·
   rw [a_det]; decide
theorem c_def : ¬ (Sym 2 (m2 (l2 1 2) (l2 2 1)) ∧ ∀ k, k < 2 → 0 < M.dt (k + 1) (m2 (l2 1 2) (l2 2 1))) := fun h => by
 have := h.2 1 (by omega)
 rw [c_det] at this
 exact absurd this (by decide)
theorem d_def : ¬ (Sym 2 (m2 (l2 1 0) (l2 1 1)) ∧ ∀ k, k < 2 → 0 < M.dt (k + 1) (m2 (l2 1 0) (l2 1 1))) := fun h => absurd (h.1 0 1 (by omega) (by omega)) (by decide)
end Go.Proofs.YtolpfibihialkaaGreatDoor

/- The laws' awake. No statement of the seat is proved here. -/
namespace Go.Proofs.YtolpfibihialkaaGreatDoor
open Go Go.RowKit
open Classical in
set_option maxRecDepth 100000 in
set_option maxHeartbeats 12800000 in
theorem gAwake {X0 : Nat → Prop} {w : World} (hX : NX X0 w) : Calls Tryz.prog 8 #[] w (PVal (.bool true) w) := by
 have hZ0 := zs_start hX
 go_enter Tryz.func8, Tryz.ntmps8
 go_wp2_with (refine stopz_bi2 ei28 (.const (.int .i64 2)) (.const (.int .i64 1)) rfl rfl rfl rfl hZ0 (fun s1 W1 hZ1 => ?_))
 clear hZ0
 unfold Stop
 try simp only [Act.put, zzC, zzD, zzE]
 go_wp2_with (refine stopz_bi2 ei28 (.const (.int .i64 1)) (.const (.int .i64 3)) rfl rfl rfl rfl hZ1 (fun s2 W2 hZ2 => ?_))
 clear hZ1
 unfold Stop
 try simp only [Act.put, zzC, zzD, zzE]
 go_wp2_with (refine stopz_bm2 ei27 (.tmp 27) (.tmp 28) rfl rfl rfl rfl hZ2 (hZ2.get 1 (f := Li 2 (l2 2 1) s1) rfl) (hZ2.get 0 (f := Li 2 (l2 1 3) s2) rfl) (fun s3 W3 hZ3 => ?_))
 clear hZ2
 unfold Stop
 try simp only [Act.put, zzC, zzD, zzE]
 go_wp2_with fail
 refine ((lOf hZ3.nx s3 (hZ3.get 0 (f := Mi 2 (fun _ => 2) (m2 (l2 2 1) (l2 1 3)) s3) rfl) (fun _ _ i j _ _ => m2_in (by decide) (by decide) (by decide) (by decide) i j)).mono (of_ok (by omega) (fun _ _ => rfl))).mono ?_
 rintro zz W4 ⟨s4, rfl, hi_s4, hB⟩
 have hZ4 := hZ3.later hB
 clear hB
 clear hZ3
 have hZ5 := hZ4.more (f := Mt 2 (fun _ => 2) (m2 (l2 2 1) (l2 1 3)) s4) (Mt.stb _ _ _ _) hi_s4
 clear hZ4
 clear hi_s4
 go_wp2_with (refine stopz_bi2 ei28 (.const (.int .i64 1)) (.const (.int .i64 2)) rfl rfl rfl rfl hZ5 (fun s5 W5 hZ6 => ?_))
 clear hZ5
 unfold Stop
 try simp only [Act.put, zzC, zzD, zzE]
 go_wp2_with (refine stopz_bi2 ei28 (.const (.int .i64 2)) (.const (.int .i64 4)) rfl rfl rfl rfl hZ6 (fun s6 W6 hZ7 => ?_))
 clear hZ6
 unfold Stop
 try simp only [Act.put, zzC, zzD, zzE]
 go_wp2_with (refine stopz_bm2 ei27 (.tmp 34) (.tmp 35) rfl rfl rfl rfl hZ7 (hZ7.get 1 (f := Li 2 (l2 1 2) s5) rfl) (hZ7.get 0 (f := Li 2 (l2 2 4) s6) rfl) (fun s7 W7 hZ8 => ?_))
 clear hZ7
 unfold Stop
 try simp only [Act.put, zzC, zzD, zzE]
 go_wp2_with fail
 refine ((lOf hZ8.nx s7 (hZ8.get 0 (f := Mi 2 (fun _ => 2) (m2 (l2 1 2) (l2 2 4)) s7) rfl) (fun _ _ i j _ _ => m2_in (by decide) (by decide) (by decide) (by decide) i j)).mono (of_ok (by omega) (fun _ _ => rfl))).mono ?_
 rintro zz W8 ⟨s8, rfl, hi_s8, hB⟩
 have hZ9 := hZ8.later hB
 clear hB
 clear hZ8
 have hZ10 := hZ9.more (f := Mt 2 (fun _ => 2) (m2 (l2 1 2) (l2 2 4)) s8) (Mt.stb _ _ _ _) hi_s8
 clear hZ9
 clear hi_s8
 go_wp2_with (refine stopz_bi2 ei28 (.const (.int .i64 1)) (.const (.int .i64 2)) rfl rfl rfl rfl hZ10 (fun s9 W9 hZ11 => ?_))
 clear hZ10
 unfold Stop
 try simp only [Act.put, zzC, zzD, zzE]
 go_wp2_with (refine stopz_bi2 ei28 (.const (.int .i64 2)) (.const (.int .i64 1)) rfl rfl rfl rfl hZ11 (fun s10 W10 hZ12 => ?_))
 clear hZ11
 unfold Stop
 try simp only [Act.put, zzC, zzD, zzE]
 go_wp2_with (refine stopz_bm2 ei27 (.tmp 41) (.tmp 42) rfl rfl rfl rfl hZ12 (hZ12.get 1 (f := Li 2 (l2 1 2) s9) rfl) (hZ12.get 0 (f := Li 2 (l2 2 1) s10) rfl) (fun s11 W11 hZ13 => ?_))
 clear hZ12
 unfold Stop
 try simp only [Act.put, zzC, zzD, zzE]
 go_wp2_with fail
 refine ((lOf hZ13.nx s11 (hZ13.get 0 (f := Mi 2 (fun _ => 2) (m2 (l2 1 2) (l2 2 1)) s11) rfl) (fun _ _ i j _ _ => m2_in (by decide) (by decide) (by decide) (by decide) i j)).mono (of_ok (by omega) (fun _ _ => rfl))).mono ?_
 rintro zz W12 ⟨s12, rfl, hi_s12, hB⟩
 have hZ14 := hZ13.later hB
 clear hB
 clear hZ13
 have hZ15 := hZ14.more (f := Mt 2 (fun _ => 2) (m2 (l2 1 2) (l2 2 1)) s12) (Mt.stb _ _ _ _) hi_s12
 clear hZ14
 clear hi_s12
 go_wp2_with (refine stopz_bi2 ei28 (.const (.int .i64 1)) (.const (.int .i64 0)) rfl rfl rfl rfl hZ15 (fun s13 W13 hZ16 => ?_))
 clear hZ15
 unfold Stop
 try simp only [Act.put, zzC, zzD, zzE]
 go_wp2_with (refine stopz_bi2 ei28 (.const (.int .i64 1)) (.const (.int .i64 1)) rfl rfl rfl rfl hZ16 (fun s14 W14 hZ17 => ?_))
 clear hZ16
 unfold Stop
 try simp only [Act.put, zzC, zzD, zzE]
 go_wp2_with (refine stopz_bm2 ei27 (.tmp 48) (.tmp 49) rfl rfl rfl rfl hZ17 (hZ17.get 1 (f := Li 2 (l2 1 0) s13) rfl) (hZ17.get 0 (f := Li 2 (l2 1 1) s14) rfl) (fun s15 W15 hZ18 => ?_))
 clear hZ17
 unfold Stop
 try simp only [Act.put, zzC, zzD, zzE]
 go_wp2_with fail
 refine ((lOf hZ18.nx s15 (hZ18.get 0 (f := Mi 2 (fun _ => 2) (m2 (l2 1 0) (l2 1 1)) s15) rfl) (fun _ _ i j _ _ => m2_in (by decide) (by decide) (by decide) (by decide) i j)).mono (of_ok (by omega) (fun _ _ => rfl))).mono ?_
 rintro zz W16 ⟨s16, rfl, hi_s16, hB⟩
 have hZ19 := hZ18.later hB
 clear hB
 clear hZ18
 have hZ20 := hZ19.more (f := Mt 2 (fun _ => 2) (m2 (l2 1 0) (l2 1 1)) s16) (Mt.stb _ _ _ _) hi_s16
 clear hZ19
 clear hi_s16
 go_wp2_with (refine stop_opw (by kernel_rfl) (fun K hK => wp_lenq (.tmp 61) 30 35 s4 rfl (by kernel_rfl) rfl (hZ20.get 12 (f := Mt 2 (fun _ => 2) (m2 (l2 2 1) (l2 1 3)) s4) rfl).n (hK _ _ ?_)))
 unfold Stop
 try simp only [Act.put, zzC, zzD, zzE]
 go_wp2_with (refine stop_opw (by kernel_rfl) (fun K hK => wp_neqi (.tmp 62) (.const (.int .i64 2)) 3 3 rfl rfl rfl rfl (r := false) (decide_eq_false (by decide)) (hK _ _ ?_)))
 unfold Stop
 try simp only [Act.put, zzC, zzD, zzE]
 go_wp2_with (refine stop_opw (by kernel_rfl) (fun K hK => wp_lenq (.tmp 66) 30 35 s8 rfl (by kernel_rfl) rfl (hZ20.get 8 (f := Mt 2 (fun _ => 2) (m2 (l2 1 2) (l2 2 4)) s8) rfl).n (hK _ _ ?_)))
 unfold Stop
 try simp only [Act.put, zzC, zzD, zzE]
 go_wp2_with (refine stop_opw (by kernel_rfl) (fun K hK => wp_neqi (.tmp 67) (.const (.int .i64 2)) 3 3 rfl rfl rfl rfl (r := false) (decide_eq_false (by decide)) (hK _ _ ?_)))
 unfold Stop
 try simp only [Act.put, zzC, zzD, zzE]
 go_wp2_with (refine stop_opw (by kernel_rfl) (fun K hK => wp_lenq (.tmp 71) 30 35 s12 rfl (by kernel_rfl) rfl (hZ20.get 4 (f := Mt 2 (fun _ => 2) (m2 (l2 1 2) (l2 2 1)) s12) rfl).n (hK _ _ ?_)))
 unfold Stop
 try simp only [Act.put, zzC, zzD, zzE]
 go_wp2_with (refine stop_opw (by kernel_rfl) (fun K hK => wp_neqi (.tmp 72) (.const (.int .i64 2)) 3 3 rfl rfl rfl rfl (r := false) (decide_eq_false (by decide)) (hK _ _ ?_)))
 unfold Stop
 try simp only [Act.put, zzC, zzD, zzE]
 go_wp2_with (refine stop_opw (by kernel_rfl) (fun K hK => wp_lenq (.tmp 76) 30 35 s16 rfl (by kernel_rfl) rfl (hZ20.get 0 (f := Mt 2 (fun _ => 2) (m2 (l2 1 0) (l2 1 1)) s16) rfl).n (hK _ _ ?_)))
 unfold Stop
 try simp only [Act.put, zzC, zzD, zzE]
 go_wp2_with (refine stop_opw (by kernel_rfl) (fun K hK => wp_neqi (.tmp 77) (.const (.int .i64 2)) 3 3 rfl rfl rfl rfl (r := false) (decide_eq_false (by decide)) (hK _ _ ?_)))
 unfold Stop
 try simp only [Act.put, zzC, zzD, zzE]
 go_wp2_with (refine stopz_bi2 ei28 (.const (.int .i64 1)) (.const (.int .i64 2)) rfl rfl rfl rfl hZ20 (fun s17 W17 hZ21 => ?_))
 clear hZ20
 unfold Stop
 try simp only [Act.put, zzC, zzD, zzE]
 go_wp2_with fail
 refine (gList hZ21.nx s17 2 (hZ21.get 0 (f := Li 2 (l2 1 2) s17) rfl) (by omega) (fun i _ => l2_in (by decide) (by decide) i)).mono ?_
 rintro zz W18 ⟨s18, s18r, rfl, hi_s18, hB⟩
 have hZ22 := hZ21.later hB
 clear hB
 clear hZ21
 have hZ23 := hZ22.more (f := Ls 2 (xl 2 (l2 1 2)) s18) (Ls.stb _ _ _) hi_s18
 clear hZ22
 clear hi_s18
 go_wp2_with (refine stopz_bi2 ei28 (.const (.int .i64 1)) (.const (.int .i64 (-1))) rfl rfl rfl rfl hZ23 (fun s19 W19 hZ24 => ?_))
 clear hZ23
 unfold Stop
 try simp only [Act.put, zzC, zzD, zzE]
 go_wp2_with fail
 refine (gList hZ24.nx s19 2 (hZ24.get 0 (f := Li 2 (l2 1 (-1)) s19) rfl) (by omega) (fun i _ => l2_in (by decide) (by decide) i)).mono ?_
 rintro zz W20 ⟨s20, s20r, rfl, hi_s20, hB⟩
 have hZ25 := hZ24.later hB
 clear hB
 clear hZ24
 have hZ26 := hZ25.more (f := Ls 2 (xl 2 (l2 1 (-1))) s20) (Ls.stb _ _ _) hi_s20
 clear hZ25
 clear hi_s20
 go_wp2_with fail
 refine (lDet hZ26.nx s4 (e := 2) (by omega) (by omega) (by omega) (hZ26.get 16 (f := Mt 2 (fun _ => 2) (m2 (l2 2 1) (l2 1 3)) s4) rfl) (fun i j _ _ => m2_sz (by decide) (by decide) (by decide) (by decide) i j)).mono ?_
 rintro zz W21 ⟨q21, rfl, ez_q21, hi_q21, hB⟩
 have hZ27 := hZ26.later hB
 clear hB
 clear hZ26
 have hZ28 := hZ27.more (f := q21.is) q21.stb hi_q21
 clear hZ27
 clear hi_q21
 go_wp2_with fail
 refine ((zStr (hZ28.get 0 (f := q21.is) rfl) ez_q21 (dt_sz (fun i j _ _ => m2_sz (by decide) (by decide) (by decide) (by decide) i j)) (by first | omega | exact Nat.le_trans (dtb_le (by omega) (by omega)) (by omega))).mono (fun _ _ h => ptxt_dec h)).mono ?_
 rintro zz W22 ⟨rfl, hB⟩
 have hZ29 := hZ28.later hB
 clear hB
 clear hZ28
 go_wp2_with fail
 refine (lDet hZ29.nx s8 (e := 2) (by omega) (by omega) (by omega) (hZ29.get 13 (f := Mt 2 (fun _ => 2) (m2 (l2 1 2) (l2 2 4)) s8) rfl) (fun i j _ _ => m2_sz (by decide) (by decide) (by decide) (by decide) i j)).mono ?_
 rintro zz W23 ⟨q22, rfl, ez_q22, hi_q22, hB⟩
 have hZ30 := hZ29.later hB
 clear hB
 clear hZ29
 have hZ31 := hZ30.more (f := q22.is) q22.stb hi_q22
 clear hZ30
 clear hi_q22
 go_wp2_with fail
 refine ((zStr (hZ31.get 0 (f := q22.is) rfl) ez_q22 (dt_sz (fun i j _ _ => m2_sz (by decide) (by decide) (by decide) (by decide) i j)) (by first | omega | exact Nat.le_trans (dtb_le (by omega) (by omega)) (by omega))).mono (fun _ _ h => ptxt_dec h)).mono ?_
 rintro zz W24 ⟨rfl, hB⟩
 have hZ32 := hZ31.later hB
 clear hB
 clear hZ31
 go_wp2_with fail
 refine (lSolN hZ32.nx s4 s18 (e := 2) (by omega) (by omega) (by omega) (hZ32.get 18 (f := Mt 2 (fun _ => 2) (m2 (l2 2 1) (l2 1 3)) s4) rfl) (hZ32.get 4 (f := Ls 2 (xl 2 (l2 1 2)) s18) rfl) (fun i j _ _ => m2_sz (by decide) (by decide) (by decide) (by decide) i j) (fun k _ => xl_in (fun i _ => l2_in (by decide) (by decide) i) k) (by rw [a_det]; decide)).mono ?_
 rintro zz W25 ⟨s23, q23, rfl, hi_s23, ez_q23, hi_q23, hB⟩
 have hZ33 := hZ32.later hB
 clear hB
 clear hZ32
 have hZ34 := hZ33.more (f := Ls 2 (crx 2 (m2 (l2 2 1) (l2 1 3)) (xl 2 (l2 1 2))) s23) (Ls.stb _ _ _) hi_s23
 clear hZ33
 clear hi_s23
 have hZ35 := hZ34.more (f := q23.is) q23.stb hi_q23
 clear hZ34
 clear hi_q23
 go_wp2_with (refine stopz_alloc 46 #[.bool false, .slice none 0 0] (.agg #[.bool false, .slice none 0 0]) rfl rfl zv46 rfl hZ35 (fun bk1 X36 W26 hZ36 => ?_))
 clear hZ35
 unfold Stop
 try simp only [Act.put, zzC, zzD, zzE]
 go_wp2_with (refine stopz_store 46 (.tmp 16) (.tmp 101) 0 bk1 0 #[.bool false, .slice none 0 0] 46 2 [.bool q23.b, .slice q23.a q23.n q23.c] #[.bool q23.b, .slice q23.a q23.n q23.c] [(bk1, #[.bool q23.b, .slice q23.a q23.n q23.c], 46)] rfl rfl rfl rfl sz46 hZ36 rfl rfl (zzF (by kernel_rfl)) (by kernel_rfl) (by kernel_rfl) (by kernel_rfl) (fun W27 hZ37 => ?_))
 clear hZ36
 unfold Stop
 try simp only [Act.put, zzC, zzD, zzE]
 go_wp2_with fail
 refine (lSolZ hZ37.nx s8 s18 (e := 2) (by omega) (by omega) (by omega) (hZ37.get 16 (f := Mt 2 (fun _ => 2) (m2 (l2 1 2) (l2 2 4)) s8) rfl) (hZ37.get 6 (f := Ls 2 (xl 2 (l2 1 2)) s18) rfl) (fun i j _ _ => m2_sz (by decide) (by decide) (by decide) (by decide) i j) (fun k _ => xl_in (fun i _ => l2_in (by decide) (by decide) i) k) b_det).mono ?_
 rintro zz W28 ⟨rfl, hB⟩
 have hZ38 := hZ37.later hB
 clear hB
 clear hZ37
 go_wp2_with (refine stopz_alloc 46 #[.bool false, .slice none 0 0] (.agg #[.bool false, .slice none 0 0]) rfl rfl zv46 rfl hZ38 (fun bk2 X39 W29 hZ39 => ?_))
 clear hZ38
 unfold Stop
 try simp only [Act.put, zzC, zzD, zzE]
 go_wp2_with (refine stopz_store 46 (.tmp 19) (.tmp 108) 0 bk2 0 #[.bool false, .slice none 0 0] 46 2 [.bool false, .slice none 0 0] #[.bool false, .slice none 0 0] [(bk2, #[.bool false, .slice none 0 0], 46), (bk1, #[.bool q23.b, .slice q23.a q23.n q23.c], 46)] rfl rfl rfl rfl sz46 hZ39 rfl rfl (zzF (by kernel_rfl)) (by kernel_rfl) (by kernel_rfl) (by kernel_rfl) (fun W30 hZ40 => ?_))
 clear hZ39
 unfold Stop
 try simp only [Act.put, zzC, zzD, zzE]
 go_wp2_with (refine stop_op rfl (fun K hK => wp_load 46 (.tmp 16) rfl bk1 0 2 #[.bool q23.b, .slice q23.a q23.n q23.c] #[.bool q23.b, .slice q23.a q23.n q23.c] 46 (hZ40.es.at' _ (zzG (i := 1) rfl)) rfl ag46 sz46 (zzF (by kernel_rfl)) (by kernel_rfl) (hK _ _ ?_)))
 unfold Stop
 try simp only [Act.put, zzC, zzD, zzE]
 go_wp2_with fail
 refine ((zStr (hZ40.get 0 (f := q23.is) rfl) ez_q23 (dt_sz (fun i j _ _ => m2_sz (by decide) (by decide) (by decide) (by decide) i j)) (by first | omega | exact Nat.le_trans (dtb_le (by omega) (by omega)) (by omega))).mono (fun _ _ h => ptxt_dec h)).mono ?_
 rintro zz W31 ⟨rfl, hB⟩
 have hZ41 := hZ40.later hB
 clear hB
 clear hZ40
 go_wp2_with fail
 refine ((lDefinite hZ41.nx s4 (e := 2) (by omega) (by omega) (by omega) (hZ41.get 20 (f := Mt 2 (fun _ => 2) (m2 (l2 2 1) (l2 1 3)) s4) rfl) (fun i j _ _ => m2_sz (by decide) (by decide) (by decide) (by decide) i j)).mono (fun _ _ h => by rw [decide_eq_true a_def] at h; exact h)).mono ?_
 rintro zz W32 ⟨rfl, hB⟩
 have hZ42 := hZ41.later hB
 clear hB
 clear hZ41
 go_wp2_with fail
 refine ((lDefinite hZ42.nx s12 (e := 2) (by omega) (by omega) (by omega) (hZ42.get 12 (f := Mt 2 (fun _ => 2) (m2 (l2 1 2) (l2 2 1)) s12) rfl) (fun i j _ _ => m2_sz (by decide) (by decide) (by decide) (by decide) i j)).mono (fun _ _ h => by rw [decide_eq_false c_def] at h; exact h)).mono ?_
 rintro zz W33 ⟨rfl, hB⟩
 have hZ43 := hZ42.later hB
 clear hB
 clear hZ42
 go_wp2_with fail
 refine ((lDefinite hZ43.nx s16 (e := 2) (by omega) (by omega) (by omega) (hZ43.get 8 (f := Mt 2 (fun _ => 2) (m2 (l2 1 0) (l2 1 1)) s16) rfl) (fun i j _ _ => m2_sz (by decide) (by decide) (by decide) (by decide) i j)).mono (fun _ _ h => by rw [decide_eq_false d_def] at h; exact h)).mono ?_
 rintro zz W34 ⟨rfl, hB⟩
 have hZ44 := hZ43.later hB
 clear hB
 clear hZ43
 go_wp2_with fail
 refine (lQuad hZ44.nx s4 s20 (e := 2) (hZ44.get 20 (f := Mt 2 (fun _ => 2) (m2 (l2 2 1) (l2 1 3)) s4) rfl) (hZ44.get 4 (f := Ls 2 (xl 2 (l2 1 (-1))) s20) rfl) (fun i j _ _ => m2_sz (by decide) (by decide) (by decide) (by decide) i j) (fun k _ => xl_in (fun i _ => l2_in (by decide) (by decide) i) k) (by omega) (by omega)).mono ?_
 rintro zz W35 ⟨q24, rfl, ez_q24, hi_q24, hB⟩
 have hZ45 := hZ44.later hB
 clear hB
 clear hZ44
 have hZ46 := hZ45.more (f := q24.is) q24.stb hi_q24
 clear hZ45
 clear hi_q24
 go_wp2_with fail
 refine ((zStr (hZ46.get 0 (f := q24.is) rfl) ez_q24 (sm_sz (fun k _ => Sz.mul (xl_in (fun i _ => l2_in (by decide) (by decide) i) k) (sm_sz (fun j _ => Sz.mul (m2_sz (by decide) (by decide) (by decide) (by decide) k j) (xl_in (fun i _ => l2_in (by decide) (by decide) i) j))))) (by first | omega | exact Nat.le_trans (dtb_le (by omega) (by omega)) (by omega))).mono (fun _ _ h => ptxt_dec h)).mono ?_
 rintro zz W36 ⟨rfl, hB⟩
 have hZ47 := hZ46.later hB
 clear hB
 clear hZ46
 go_wp2_with (refine stop_op rfl (fun K hK => wp_seql (.tmp 122) (.const (.string ⟨([53]).toArray⟩)) 9 9 rfl rfl rfl rfl (r := true) (decide_eq_true a_txt) (hK _ _ ?_)))
 unfold Stop
 try simp only [Act.put, zzC, zzD, zzE]
 go_wp2_with (refine stop_opw (by kernel_rfl) (fun K hK => wp_seql (.tmp 125) (.const (.string ⟨([48]).toArray⟩)) 9 9 rfl rfl rfl rfl (r := true) (decide_eq_true b_txt) (hK _ _ ?_)))
 unfold Stop
 try simp only [Act.put, zzC, zzD, zzE]
 go_wp2_with fail
 refine (gText hZ47.nx s23 (hZ47.get 2 (f := Ls 2 (crx 2 (m2 (l2 2 1) (l2 1 3)) (xl 2 (l2 1 2))) s23) rfl) (fun j _ => crx_sz (fun i j _ _ => m2_sz (by decide) (by decide) (by decide) (by decide) i j) (fun k _ => xl_in (fun i _ => l2_in (by decide) (by decide) i) k) j) (by omega) (Nat.le_trans (dtb_le (by omega) (by omega)) (by omega))).mono ?_
 rintro zz W37 ⟨rfl, hB⟩
 have hZ48 := hZ47.later hB
 clear hB
 clear hZ47
 go_wp2_with (refine stop_opw (by kernel_rfl) (fun K hK => wp_seql (.tmp 130) (.const (.string ⟨([49, 32, 51, 32]).toArray⟩)) 9 9 rfl rfl rfl rfl (r := true) (decide_eq_true a_num) (hK _ _ ?_)))
 unfold Stop
 try simp only [Act.put, zzC, zzD, zzE]
 go_wp2_with (refine stop_opw (by kernel_rfl) (fun K hK => wp_seql (.tmp 134) (.const (.string ⟨([53]).toArray⟩)) 9 9 rfl rfl rfl rfl (r := true) (decide_eq_true a_txt) (hK _ _ ?_)))
 unfold Stop
 try simp only [Act.put, zzC, zzD, zzE]
 go_wp2_with (refine stop_opw (by kernel_rfl) (fun K hK => wp_seql (.tmp 157) (.const (.string ⟨([51]).toArray⟩)) 9 9 rfl rfl rfl rfl (r := true) (decide_eq_true a_quad) (hK _ _ ?_)))
 unfold Stop
 try simp only [Act.put, zzC, zzD, zzE]
 go_wp2
 go_ret
 exact ⟨rfl, hZ48.below⟩
end Go.Proofs.YtolpfibihialkaaGreatDoor

/- What the walks of the laws of layer 7 lean on. No statement of the seat is proved here. -/
namespace Go.Proofs.YtolpfibihialkaaGreatDoor
open Go Go.RowKit
theorem gReadD {X0 : Nat → Prop} {w : World} (hX : NX X0 w) (rs : Sl) (u : Nat) {m : Nat} {c : Nat → Nat} {R : Nat → Nat → Int} (hr : Mi m c R rs X0 w) (hu12 : u ≤ 12) (hR : ∀ i j, i < m → j < c i → -9223372036854775808 ≤ R i j ∧ R i j ≤ 9223372036854775807) : Calls Tryz.prog 9 #[rs.v, .int .i64 ((u : Nat) : Int)] w (fun e w' => ∃ (a b : Sl) (t : Bool), e = .returned (.tuple #[a.v, b.v, .bool t]) ∧ Below w.heap.size w w') := by
 by_cases h : m ≤ u ∧ ∀ k, k < m → c k = m
 ·
  exact (gReadY hX rs u hr hu12 h.1 h.2 hR).mono fun _ _ ⟨a, b, h1, _, h3⟩ => ⟨a, b, true, h1, h3⟩
 ·
  exact (gReadN hX rs u hr hu12 h).mono fun _ _ ⟨h1, h3⟩ => ⟨slz, slz, false, h1, h3⟩
end Go.Proofs.YtolpfibihialkaaGreatDoor

/- A list that is copied by append; rows of one's own that are told, in matrices of one's own. No statement of the seat is proved here. -/
namespace Go.Proofs.YtolpfibihialkaaGreatDoor
open Go Go.RowKit
section
variable {P : Program} {ops : Array Oper} {Q : Exit → Act → World → Prop} {a : Act} {w W : World} {rest : List Oper} {o : Oper} {l : List (Nat × Array Value × TypeId)} {X0 X : Nat → Prop} {fs : List Fa} {next : Act → World → Prop}
end
section
variable {w W : World} {X0 X : Nat → Prop} {l : List (Nat × Array Value × TypeId)} {fs : List Fa}
/-- A row of one's own is told, and not written any more. -/
theorem Zs.tell {s : Sl} {C : Array Value} {T : TypeId} {f : Nat → Int} {n : Nat} (h : Zs w W X0 X (owl s C T ++ l) fs) (hx : NX X0 w) (hw : Wr 2 s C) (hn : s.n = n) (hf : Fl 2 (EN f) n C X W) : ∃ X', Zs w W X0 X' l (Ls n f s :: fs) := by
 obtain ⟨sa, sn, sc⟩ := s
 rcases hw.at_ with ⟨h1, h2⟩ | ⟨b, h1⟩
 ·
  have hcap := hw.cap
  simp only at h1 h2 hcap hn
  subst h1 h2 hn
  obtain rfl : sn = 0 := by omega
  exact ⟨X, Zs.more (l := l) h (Ls.stb 0 f ⟨none, 0, 0⟩) ⟨rfl, Nat.le_refl _, Nat.zero_le _, fun _ => ⟨rfl, rfl⟩, nofun, nofun⟩⟩
 simp only at h1 hn
 subst h1 hn
 have hlt := h.es.lt (b, C, T) (List.mem_cons_self ..)
 have hc : W.heap[b]? = some (.cells C T (0, 0)) := h.es.at' (b, C, T) (List.mem_cons_self ..)
 have hr := Zs.release (b := b) (C := C) (T := T) h hx
 refine ⟨_, (hr.more (Ls.stb sn f ⟨some ⟨b, 0, none⟩, sn, sc⟩) ⟨rfl, hw.cap, hw.capm, nofun, fun q hq _ => ?_, fun q hq i hi => ?_⟩).only _ (by
  intro g hg
  rcases List.mem_cons.1 hg with rfl | hg
  ·
   exact List.mem_cons_self ..
  ·
   exact List.mem_cons_of_mem _ (List.mem_cons_of_mem _ hg))⟩
 ·
  cases hq; exact ⟨rfl, hlt, fun hk => hk.2 rfl⟩
 ·
  cases hq
  obtain ⟨cs, h1, h2, h3⟩ := hf i hi
  refine ⟨cs, h1, fun j hj => ?_, EN.stb f i cs _ _ _ _ (Ext.less W fun k hk => hk.1) h3⟩
  rw [← h2 j hj]
  have hsz := hw.sz
  have hcap := hw.cap
  simp only at hsz hcap hi
  simp only [Nat.zero_add]
  have hl2 : i * 2 + j < C.size := by omega
  simp [World.cell?, hc, hl2]
/-- One place is written anew: the others are as they were. -/
theorem Fl.put {k : Nat} {E : El} {n i : Nat} {C C' : Array Value} {X : Nat → Prop} {W : World} (h : Fl k E n C X W) {cs : List Value} (hk : cs.length = k) (hg : ∀ j, j < k → C'[i * k + j]? = cs[j]?) (ho : ∀ j, (j < i * k ∨ i * k + k ≤ j) → C'[j]? = C[j]?) {E' : El} (hE : E' X W i cs) (hE' : ∀ m cs, m < n → m ≠ i → E X W m cs → E' X W m cs) : Fl k E' n C' X W := by
 intro m hm
 by_cases e : m = i
 ·
  subst e; exact ⟨cs, hk, hg, hE⟩
 ·
  obtain ⟨ds, h1, h2, h3⟩ := h m hm
  refine ⟨ds, h1, fun j hj => ?_, hE' m ds hm e h3⟩
  rw [ho]
  ·
   exact h2 j hj
  ·
   rcases Nat.lt_or_gt_of_ne e with hl | hl
   ·
    have : (m + 1) * k ≤ i * k := Nat.mul_le_mul_right k (by omega)
    rw [Nat.add_mul] at this
    omega
   ·
    have : (i + 1) * k ≤ m * k := Nat.mul_le_mul_right k (by omega)
    rw [Nat.add_mul] at this
    omega
/-- The rows of a matrix, but row i, which is one's own. -/
def ERo (i : Nat) (r : Sl) (c : Nat → Nat) (B : Nat → Nat → Int) : El := fun X W m cs => if m = i then cs = [r.v] else ER c B X W m cs
theorem ERo.stb (i : Nat) (r : Sl) (c : Nat → Nat) (B : Nat → Nat → Int) : EStb (ERo i r c B) := fun m cs X W X' W' he h => by
 by_cases e : m = i
 ·
  have h' : cs = [r.v] := by simpa only [ERo, if_pos e] using h
  simpa only [ERo, if_pos e] using h'
 ·
  have h' : ER c B X W m cs := by simpa only [ERo, if_neg e] using h
  have := ER.stb c B m cs X W X' W' he h'
  simpa only [ERo, if_neg e] using this
end
end Go.Proofs.YtolpfibihialkaaGreatDoor

/- Lists and matrices of the document's numbers in memory, and its numbers' calls over them. No statement of the seat is proved here. -/
namespace Go.Proofs.YtolpfibihialkaaGreatDoor
open Go Go.RowKit
def NL.ir (p : NL) : Fa := fun X W => RNum W p.b p.a p.n p.c p.z ∧ ∀ q, p.a = some q → 0 < p.n → ¬ X q.block
theorem NL.stbr (p : NL) : Stb p.ir := by
 intro X W X' W' he h
 refine ⟨⟨⟨h.1.lie.cap, h.1.lie.capm, h.1.lie.nil, fun q hq => ⟨(h.1.lie.spot q hq).1, Nat.lt_of_lt_of_le (h.1.lie.spot q hq).2 he.size⟩, fun q hq i hi => ?_⟩, h.1.fit, h.1.sgn⟩, fun q hq h0 hx => h.2 q hq h0 (he.grow _ hx (h.1.lie.spot q hq).2)⟩
 exact (he.cell (q := ⟨q.block, q.off + i, none⟩) (h.1.lie.spot q hq).2 (h.2 q hq (by omega))).trans (h.1.lie.cell q hq i hi)
def ENr (x : Nat → Int) : El := fun X W i cs => ∃ p : NL, p.z = x i ∧ p.ir X W ∧ cs = [.bool p.b, .slice p.a p.n p.c]
theorem ENr.stb (x : Nat → Int) : EStb (ENr x) := fun _ _ X W X' W' he ⟨p, h1, h2, h3⟩ => ⟨p, h1, p.stbr X W X' W' he h2, h3⟩
/-- A list of n numbers. -/
structure Lr (n : Nat) (x : Nat → Int) (s : Sl) (X : Nat → Prop) (W : World) : Prop where
 n : s.n = n
 sq : Sq 2 (ENr x) s X W
theorem Lr.stb (n : Nat) (x : Nat → Int) (s : Sl) : Stb (Lr n x s) := fun X W X' W' he h => ⟨h.n, Sq.stb (ENr.stb x) s X W X' W' he h.sq⟩
def ERr (c : Nat → Nat) (B : Nat → Nat → Int) : El := fun X W i cs => ∃ r : Sl, Lr (c i) (B i) r X W ∧ cs = [r.v]
theorem ERr.stb (c : Nat → Nat) (B : Nat → Nat → Int) : EStb (ERr c B) := fun i _ X W X' W' he ⟨r, h1, h2⟩ => ⟨r, Lr.stb (c i) (B i) r X W X' W' he h1, h2⟩
/-- Rows, the i-th of c i numbers. -/
structure Mr (m : Nat) (c : Nat → Nat) (B : Nat → Nat → Int) (s : Sl) (X : Nat → Prop) (W : World) : Prop where
 n : s.n = m
 sq : Sq 1 (ERr c B) s X W
theorem Mr.stb (m : Nat) (c : Nat → Nat) (B : Nat → Nat → Int) (s : Sl) : Stb (Mr m c B s) := fun X W X' W' he h => ⟨h.n, Sq.stb (ERr.stb c B) s X W X' W' he h.sq⟩
theorem Lr.congr {n : Nat} {x y : Nat → Int} {s : Sl} {X : Nat → Prop} {W : World} (h : Lr n x s X W) (e : ∀ i, i < n → x i = y i) : Lr n y s X W :=
 ⟨h.n, h.sq.congr fun i _ hi ⟨p, h1, h2⟩ => ⟨p, h1.trans (e i (h.n ▸ hi)), h2⟩⟩
theorem Mr.congr {m : Nat} {c c' : Nat → Nat} {B B' : Nat → Nat → Int} {s : Sl} {X : Nat → Prop} {W : World} (h : Mr m c B s X W) (ec : ∀ i, i < m → c i = c' i) (e : ∀ i j, i < m → j < c i → B i j = B' i j) : Mr m c' B' s X W :=
 ⟨h.n, h.sq.congr fun i _ hi ⟨r, h1, h2⟩ => ⟨r, by rw [← ec i (h.n ▸ hi)]; exact h1.congr fun j hj => e i j (h.n ▸ hi) hj, h2⟩⟩
/-- A number is handed back. -/
def PNXr (X : Nat → Prop) (z : Int) (w : World) (e : Ending) (w' : World) : Prop := ∃ p : NL, e = .returned p.v ∧ p.z = z ∧ p.ir X w' ∧ Below w.heap.size w w'
def PLXr (X : Nat → Prop) (n : Nat) (x : Nat → Int) (w : World) (e : Ending) (w' : World) : Prop := ∃ s : Sl, e = .returned s.v ∧ Lr n x s X w' ∧ Below w.heap.size w w'
def PMXr (X : Nat → Prop) (m : Nat) (c : Nat → Nat) (B : Nat → Nat → Int) (w : World) (e : Ending) (w' : World) : Prop := ∃ s : Sl, e = .returned s.v ∧ Mr m c B s X w' ∧ Below w.heap.size w w'
theorem pnx_ofr {X : Nat → Prop} {z : Int} {w : World} (hx : NX X w) {e : Ending} {w' : World} (h : PRNumF z w e w') : PNXr X z w e w' := by
 obtain ⟨b, a, n, c, rfl, h1, h2, h3⟩ := h
 exact ⟨⟨b, a, n, c, z⟩, rfl, rfl, ⟨h1, fun q hq _ hX => by have := h2 q hq; have := hx _ hX; omega⟩, h3⟩
section
variable {P : Program} {ops : Array Oper} {Q : Exit → Act → World → Prop} {a : Act} {w W W0 : World} {rest : List Oper} {o : Oper} {l : List (Nat × Array Value × TypeId)} {X0 X : Nat → Prop} {fs : List Fa} {next : Act → World → Prop}
theorem run_lds2r {T : TypeId} {s : Sl} {i : Nat} {n : Nat} {x : Nat → Int} (h : Lr n x s X W) (hi : i < s.n) (hagg : ∀ W, (isAgg T).run P W = .ok true W) (hn : ∀ W, (sizeOf T).run P W = .ok 2 W) : ∃ p : NL, p.z = x i ∧ p.ir X W ∧ (Instr.loadAt T (s.at 2 i)).run P W = .ok p.v W := by
 obtain ⟨sa, sn, sc⟩ := s
 cases sa with
 | none => have := (h.sq.nil rfl).1; simp only at this hi; omega
 | some q =>
  obtain ⟨cs, h1, h2, p, h3, h4, rfl⟩ := h.sq.el q rfl i hi
  obtain ⟨hq, _, _⟩ := h.sq.spot q rfl (Nat.lt_of_le_of_lt (Nat.zero_le _) hi)
  obtain ⟨qb, qo, qs⟩ := q
  simp only at hq
  subst hq
  refine ⟨p, h3, h4, ?_⟩
  have hadd : (⟨qb, qo, none⟩ : Addr).add (i * 2) = ⟨qb, qo + i * 2, none⟩ := by unfold Addr.add; split <;> simp_all
  have hl : (loadCells ⟨qb, qo + i * 2, none⟩ 2).run P W = .ok #[.bool p.b, .slice p.a p.n p.c] W := run_loadCells_list (P := P) W ⟨qb, qo + i * 2, none⟩ [.bool p.b, .slice p.a p.n p.c] (fun j v hj => by
   have hadd2 : (⟨qb, qo + i * 2, none⟩ : Addr).add j = ⟨qb, qo + i * 2 + j, none⟩ := by unfold Addr.add; split <;> simp_all
   have hj2 : j < 2 := (List.getElem?_eq_some_iff.1 hj).1
   rw [hadd2]
   exact (h2 j hj2).trans hj)
  have hsa : (Instr.sureAddr (.pointer (some ⟨qb, qo + i * 2, none⟩))).run P W = .ok ⟨qb, qo + i * 2, none⟩ W := rfl
  show (Instr.loadAt T (.pointer (some ((⟨qb, qo, none⟩ : Addr).add (i * 2))))).run P W = _
  rw [hadd]
  unfold Instr.loadAt loadVar
  simp only [Sem.run_bind, hsa, Result.andThen, hagg, hn, if_true, hl]
  rfl
/-- A number of a list. -/
theorem wp_ldnr (T : TypeId) (p : Operand) (s : Sl) (i n : Nat) (x : Nat → Int) (ho : o.op = .load T p) (hp : a.eval p = s.at 2 i) (h : Lr n x s X W) (hi : i < n) (hagg : ∀ W, (isAgg T).run P W = .ok true W) (hn : ∀ W, (sizeOf T).run P W = .ok 2 W) (k : ∀ p : NL, p.z = x i → p.ir X W → next (a.put o.dst p.v) W) : o.wp P a W next Q := by
 obtain ⟨q, h1, h2, h3⟩ := run_lds2r (P := P) (T := T) h (by rw [h.n]; exact hi) hagg hn
 exact wp_ldr T p ho hp h3 (k q h1 h2)
/-- A row of a matrix. -/
theorem wp_ldmr (T : TypeId) (p : Operand) (s : Sl) (i m : Nat) (c : Nat → Nat) (B : Nat → Nat → Int) (ho : o.op = .load T p) (hp : a.eval p = s.at 1 i) (h : Mr m c B s X W) (hi : i < m) (hagg : ∀ W, (isAgg T).run P W = .ok false W) (k : ∀ r : Sl, Lr (c i) (B i) r X W → next (a.put o.dst r.v) W) : o.wp P a W next Q := by
 obtain ⟨v, ⟨r, h1, h2⟩, h3⟩ := run_lds1 (P := P) (T := T) h.sq (by rw [h.n]; exact hi) hagg
 cases h2
 exact wp_ldr T p ho hp h3 (k r h1)
end
section
variable {w W : World} {X0 X : Nat → Prop} {l : List (Nat × Array Value × TypeId)} {fs : List Fa}
/-- A row of one's own is told, and not written any more. -/
theorem Zs.tellr {s : Sl} {C : Array Value} {T : TypeId} {f : Nat → Int} {n : Nat} (h : Zs w W X0 X (owl s C T ++ l) fs) (hx : NX X0 w) (hw : Wr 2 s C) (hn : s.n = n) (hf : Fl 2 (ENr f) n C X W) : ∃ X', Zs w W X0 X' l (Lr n f s :: fs) := by
 obtain ⟨sa, sn, sc⟩ := s
 rcases hw.at_ with ⟨h1, h2⟩ | ⟨b, h1⟩
 ·
  have hcap := hw.cap
  simp only at h1 h2 hcap hn
  subst h1 h2 hn
  obtain rfl : sn = 0 := by omega
  exact ⟨X, Zs.more (l := l) h (Lr.stb 0 f ⟨none, 0, 0⟩) ⟨rfl, Nat.le_refl _, Nat.zero_le _, fun _ => ⟨rfl, rfl⟩, nofun, nofun⟩⟩
 simp only at h1 hn
 subst h1 hn
 have hlt := h.es.lt (b, C, T) (List.mem_cons_self ..)
 have hc : W.heap[b]? = some (.cells C T (0, 0)) := h.es.at' (b, C, T) (List.mem_cons_self ..)
 have hr := Zs.release (b := b) (C := C) (T := T) h hx
 refine ⟨_, (hr.more (Lr.stb sn f ⟨some ⟨b, 0, none⟩, sn, sc⟩) ⟨rfl, hw.cap, hw.capm, nofun, fun q hq _ => ?_, fun q hq i hi => ?_⟩).only _ (by
  intro g hg
  rcases List.mem_cons.1 hg with rfl | hg
  ·
   exact List.mem_cons_self ..
  ·
   exact List.mem_cons_of_mem _ (List.mem_cons_of_mem _ hg))⟩
 ·
  cases hq; exact ⟨rfl, hlt, fun hk => hk.2 rfl⟩
 ·
  cases hq
  obtain ⟨cs, h1, h2, h3⟩ := hf i hi
  refine ⟨cs, h1, fun j hj => ?_, ENr.stb f i cs _ _ _ _ (Ext.less W fun k hk => hk.1) h3⟩
  rw [← h2 j hj]
  have hsz := hw.sz
  have hcap := hw.cap
  simp only at hsz hcap hi
  simp only [Nat.zero_add]
  have hl2 : i * 2 + j < C.size := by omega
  simp [World.cell?, hc, hl2]
/-- The rows of a matrix, but row i, which is one's own. -/
def ERor (i : Nat) (r : Sl) (c : Nat → Nat) (B : Nat → Nat → Int) : El := fun X W m cs => if m = i then cs = [r.v] else ERr c B X W m cs
theorem ERor.stb (i : Nat) (r : Sl) (c : Nat → Nat) (B : Nat → Nat → Int) : EStb (ERor i r c B) := fun m cs X W X' W' he h => by
 by_cases e : m = i
 ·
  have h' : cs = [r.v] := by simpa only [ERor, if_pos e] using h
  simpa only [ERor, if_pos e] using h'
 ·
  have h' : ERr c B X W m cs := by simpa only [ERor, if_neg e] using h
  have := ERr.stb c B m cs X W X' W' he h'
  simpa only [ERor, if_neg e] using this
end
theorem Lr.cut {n : Nat} {x : Nat → Int} {s : Sl} {X : Nat → Prop} {W : World} (h : Lr n x s X W) {l u : Nat} (hl : l ≤ u) (hu : u ≤ n) : Lr (u - l) (fun j => x (l + j)) (s.cut 2 l u) X W := by
 have hcap := h.sq.cap
 have hn := h.n
 refine ⟨rfl, ?_, ?_, ?_, ?_, ?_⟩
 ·
  show u - l ≤ s.c - l; omega
 ·
  have := h.sq.capm; show s.c - l ≤ maxLen; omega
 ·
  intro e
  have e' : s.a = none := by
   unfold Sl.cut at e
   simp only at e
   split at e
   ·
    exact e
   ·
    cases hs : s.a with
    | none => rfl
    | some q => rw [hs] at e; cases e
  have := h.sq.nil e'
  exact ⟨by show u - l = 0; omega, by show s.c - l = 0; omega⟩
 ·
  intro q hq h0
  change 0 < u - l at h0
  unfold Sl.cut at hq
  simp only at hq
  split at hq
  ·
   exact h.sq.spot q hq (by omega)
  ·
   cases hs : s.a with
   | none => rw [hs] at hq; cases hq
   | some p =>
    rw [hs] at hq
    simp only [Option.map_some, Option.some.injEq] at hq
    subst hq
    obtain ⟨h1, h2, h3⟩ := h.sq.spot p hs (by omega)
    obtain ⟨pb, po, ps⟩ := p
    simp only at h1
    subst h1
    have hadd : (⟨pb, po, none⟩ : Addr).add (l * 2) = ⟨pb, po + l * 2, none⟩ := by unfold Addr.add; split <;> simp_all
    rw [hadd]
    exact ⟨rfl, h2, h3⟩
 ·
  intro q hq i hi
  change i < u - l at hi
  unfold Sl.cut at hq
  simp only at hq
  split at hq
  ·
   omega
  ·
   cases hs : s.a with
   | none => rw [hs] at hq; cases hq
   | some p =>
    rw [hs] at hq
    simp only [Option.map_some, Option.some.injEq] at hq
    subst hq
    obtain ⟨h1, h2, h3⟩ := h.sq.spot p hs (by omega)
    obtain ⟨pb, po, ps⟩ := p
    simp only at h1
    subst h1
    have hadd : (⟨pb, po, none⟩ : Addr).add (l * 2) = ⟨pb, po + l * 2, none⟩ := by unfold Addr.add; split <;> simp_all
    obtain ⟨cs, k1, k2, k3⟩ := h.sq.el _ hs (l + i) (by omega)
    refine ⟨cs, k1, fun j hj => ?_, k3⟩
    rw [hadd]
    have := k2 j hj
    simp only at this ⊢
    rw [show po + l * 2 + i * 2 + j = po + (l + i) * 2 + j by omega]
    exact this
def vnumr (z : Int) : VF := fun u X W => ∃ p : NL, u = p.v ∧ p.z = z ∧ p.ir X W
def vlsr (n : Nat) (x : Nat → Int) : VF := fun u X W => ∃ s : Sl, u = s.v ∧ Lr n x s X W
def vmtr (m : Nat) (c : Nat → Nat) (B : Nat → Nat → Int) : VF := fun u X W => ∃ s : Sl, u = s.v ∧ Mr m c B s X W
theorem vnum_str (z : Int) : VSt (vnumr z) := fun _ X W W' hb ⟨p, h1, h2, h3⟩ => ⟨p, h1, h2, p.stbr X W X W' (Ext.below X hb) h3⟩
theorem vls_str (n : Nat) (x : Nat → Int) : VSt (vlsr n x) := fun _ X W W' hb ⟨s, h1, h2⟩ => ⟨s, h1, Lr.stb n x s X W X W' (Ext.below X hb) h2⟩
theorem vmt_str (m : Nat) (c : Nat → Nat) (B : Nat → Nat → Int) : VSt (vmtr m c B) := fun _ X W W' hb ⟨s, h1, h2⟩ => ⟨s, h1, Mr.stb m c B s X W X W' (Ext.below X hb) h2⟩
def vatr (n : Nat) (x : Nat → Int) (i : Nat) : VF := fun u X W => ∃ s : Sl, u = s.at 2 i ∧ Lr n x s X W
theorem vat_str (n : Nat) (x : Nat → Int) (i : Nat) : VSt (vatr n x i) := fun _ X W W' hb ⟨s, h1, h2⟩ => ⟨s, h1, Lr.stb n x s X W X W' (Ext.below X hb) h2⟩
theorem NL.joinr {p : NL} {X : Nat → Prop} {W : World} {b : Nat} {C : Array Value} {T : TypeId} (h : p.ir X W) (hc : Cl W (b, C, T)) (hn : NoI C) : p.ir (fun k => X k ∨ k = b) W := by
 refine ⟨h.1, fun q hq h0 hX => hX.elim (h.2 q hq h0) fun hne => ?_⟩
 have h1 := h.1.lie.cell q hq 0 h0
 have hh : W.heap[b]? = some (.cells C T (0, 0)) := hc
 rw [hne] at h1
 simp only [World.cell?, hh] at h1
 exact hn _ _ _ h1
theorem noI_zeror : NoI (Value.agg #[.bool false, .slice none 0 0]).cells := by
 intro j k n h
 have : (Value.agg #[.bool false, .slice none 0 0]).cells = #[.bool false, .slice none 0 0] := by kernel_rfl
 rw [this] at h
 match j, h with
 | 0, h => simp at h
 | 1, h => simp at h
 | j + 2, h => simp at h
/-- A matrix of one's own is told, and not written any more. -/
theorem Zs.tellm {w W : World} {X0 X : Nat → Prop} {l : List (Nat × Array Value × TypeId)} {fs : List Fa} {s : Sl} {C : Array Value} {T : TypeId} {c : Nat → Nat} {B : Nat → Nat → Int} {n : Nat} (h : Zs w W X0 X (owl s C T ++ l) fs) (hx : NX X0 w) (hw : Wr 1 s C) (hn : s.n = n) (hf : Fl 1 (ERr c B) n C X W) : ∃ X', Zs w W X0 X' l (Mr n c B s :: fs) := by
 obtain ⟨sa, sn, sc⟩ := s
 rcases hw.at_ with ⟨h1, h2⟩ | ⟨b, h1⟩
 ·
  have hcap := hw.cap
  simp only at h1 h2 hcap hn
  subst h1 h2 hn
  obtain rfl : sn = 0 := by omega
  exact ⟨X, Zs.more (l := l) h (Mr.stb 0 c B ⟨none, 0, 0⟩) ⟨rfl, Nat.le_refl _, Nat.zero_le _, fun _ => ⟨rfl, rfl⟩, nofun, nofun⟩⟩
 simp only at h1 hn
 subst h1 hn
 have hlt := h.es.lt (b, C, T) (List.mem_cons_self ..)
 have hc : W.heap[b]? = some (.cells C T (0, 0)) := h.es.at' (b, C, T) (List.mem_cons_self ..)
 have hr := Zs.release (b := b) (C := C) (T := T) h hx
 refine ⟨_, (hr.more (Mr.stb sn c B ⟨some ⟨b, 0, none⟩, sn, sc⟩) ⟨rfl, hw.cap, hw.capm, nofun, fun q hq _ => ?_, fun q hq i hi => ?_⟩).only _ (by
  intro g hg
  rcases List.mem_cons.1 hg with rfl | hg
  ·
   exact List.mem_cons_self ..
  ·
   exact List.mem_cons_of_mem _ (List.mem_cons_of_mem _ hg))⟩
 ·
  cases hq; exact ⟨rfl, hlt, fun hk => hk.2 rfl⟩
 ·
  cases hq
  obtain ⟨cs, h1, h2, h3⟩ := hf i hi
  refine ⟨cs, h1, fun j hj => ?_, ERr.stb c B i cs _ _ _ _ (Ext.less W fun k hk => hk.1) h3⟩
  rw [← h2 j hj]
  have hsz := hw.sz
  have hcap := hw.cap
  simp only at hsz hcap hi
  simp only [Nat.zero_add]
  have hl2 : i * 1 + j < C.size := by omega
  simp [World.cell?, hc, hl2]
theorem fit10_len {n e N : Nat} (h : Fit10 n N) (hN : N < BB ^ e) : n ≤ 10 * e := by
 rcases h.2 with h0 | h0
 ·
  omega
 ·
  refine Nat.le_of_not_lt fun hlt => ?_
  have h1 : BB ^ e ≤ (10 ^ 10) ^ e := Nat.pow_le_pow_left (by decide) e
  rw [← Nat.pow_mul] at h1
  have h2 : 10 ^ (10 * e) ≤ 10 ^ (n - 1) := Nat.pow_le_pow_right (by decide) (by omega)
  omega
section
variable {X : Nat → Prop} {W : World} {p q : NL} {x y : Int} {e f : Nat}
theorem NL.lenr (hp : p.ir X W) (ex : p.z = x) (b : Sz e x) (he : e ≤ 900000) : p.n ≤ 9000000 := by
 have := fit10_len hp.1.fit (show p.z.natAbs < BB ^ e by rw [ex]; exact b)
 omega
theorem zAddr (hx : NX X W) (hp : p.ir X W) (hq : q.ir X W) (ex : p.z = x) (ey : q.z = y) (b : Sz e x) (c : Sz f y) (he : e ≤ 900000) (hf : f ≤ 900000) : Calls Tryz.prog 36 #[p.v, q.v] W (PNXr X (x + y) W) := by
 have h1 := NL.lenr hp ex b he
 have h2 := NL.lenr hq ey c hf
 subst ex ey
 exact (rAdd_any _ _ _ _ _ _ _ _ _ _ W hp.1 hq.1 (by omega) (by omega)).mono fun _ _ h => pnx_ofr hx h
theorem zMulr (hx : NX X W) (hp : p.ir X W) (hq : q.ir X W) (ex : p.z = x) (ey : q.z = y) (b : Sz e x) (c : Sz f y) (he : e ≤ 900000) (hf : f ≤ 900000) : Calls Tryz.prog 35 #[p.v, q.v] W (PNXr X (x * y) W) := by
 have h1 := NL.lenr hp ex b he
 have h2 := NL.lenr hq ey c hf
 subst ex ey
 exact (rMul_any _ _ _ _ _ _ _ _ _ _ W hp.1 hq.1 (by omega) (by omega)).mono fun _ _ h => pnx_ofr hx h
theorem zOfr (hx : NX X W) (h1 : -9223372036854775808 ≤ x) (h2 : x ≤ 9223372036854775807) : Calls Tryz.prog 34 #[.int .i64 x] W (PNXr X x W) :=
 (rOf_any x W h1 h2).mono fun _ _ h => pnx_ofr hx h
theorem zSignr (hp : p.ir X W) (ex : p.z = x) : Calls Tryz.prog 37 #[p.v] W (PVal (.int .i64 (sgnI x)) W) := by
 subst ex
 exact rSign_any _ _ _ _ _ W hp.1
theorem zCmpr (hp : p.ir X W) (hq : q.ir X W) (ex : p.z = x) (ey : q.z = y) : Calls Tryz.prog 61 #[p.v, q.v] W (PVal (.int .i64 (cmpI x y)) W) := by
 subst ex ey
 exact rCmp_any _ _ _ _ _ _ _ _ _ _ W hp.1 hq.1
theorem zStrr (hp : p.ir X W) (ex : p.z = x) (b : Sz e x) (he : e ≤ 900000) : Calls Tryz.prog 25 #[p.v] W (PTxt x W) := by
 have h1 := NL.lenr hp ex b he
 subst ex
 exact rString_all _ _ _ _ _ W hp.1 (by omega)
end
theorem rmade_store {w w3 : World} {bl : Bool} {a : Option Addr} {n c r : Nat} {z : Int} (hn : RNum w3 bl a n c z) (hB : Below w.heap.size w w3) (hr : w.heap.size ≤ r) (hfr : ∀ p, a = some p → p.block ≠ r) :
  PRMade a z w (.returned (.agg #[.bool bl, .slice a n c])) ((w3.setCell ⟨r, 0, none⟩ (.bool bl)).setCell ⟨r, 1, none⟩ (.slice a n c)) :=
 ⟨bl, n, c, rfl, hn.only (only2 _ _ _ _) hfr, hB.trans ((only2 _ _ _ _).below hr)⟩
set_option maxHeartbeats 800000 in
theorem rMinus_at (bl : Bool) (a : Option Addr) (n c : Nat) (z : Int) (w : World) (h : RNum w bl a n c z) :
  Calls Tryz.prog 38 #[.agg #[.bool bl, .slice a n c]] w (PRMade a (-z) w) := by
 have hl := h.lie
 have hf := Lib.hid h.fit
 have hsg := Lib.hid h.sgn
 clear h
 go_enter Tryz.func38, Tryz.ntmps38
 go_wp2_with fail
 have hR := box_res w 56 (.cells #[.bool bl, .slice a n c] 56)
 generalize (w.alloc (.cells #[.bool bl, .slice a n c] 56)).alloc (.cells #[.bool false, .slice none 0 0] 56) = w1 at *
 refine (rmade_any (!bl) a n c z.natAbs _ (hl.below hR.below) hf.out.1).mono ?_
 rintro e w3 ⟨bl3, n3, c3, rfl, hnum, hb3⟩
 have hR3 := hR.later hb3
 have rB0 := hR3.r0
 have rB1 := hR3.r1
 have fB0 := hR3.f0
 have fB1 := hR3.f1
 go_wp2
 rw [sg_not hsg.out] at hnum
 refine bodyPost_ret (v := .agg #[.bool bl3, .slice a n3 c3]) (by simp [results, Tryz.results38, go_sem, rB0, rB1]) rfl ?_
 exact rmade_store hnum hR3.below (by omega) (fun p hp => by have := (hl.spot p hp).2; omega)
theorem zNegr {X : Nat → Prop} {W : World} {p : NL} {x : Int} (hp : p.ir X W) (ex : p.z = x) : Calls Tryz.prog 38 #[p.v] W (PNXr X (-x) W) := by
 subst ex
 refine (rMinus_at _ _ _ _ _ W hp.1).mono ?_
 rintro _ w' ⟨bl, n, c, rfl, h1, h2⟩
 refine ⟨⟨bl, p.a, n, c, -p.z⟩, rfl, rfl, ⟨h1, fun q hq h0 => hp.2 q hq ?_⟩, h2⟩
 have e1 := h1.zero_iff
 have e2 := hp.1.zero_iff
 simp only at h0
 omega
end Go.Proofs.YtolpfibihialkaaGreatDoor
