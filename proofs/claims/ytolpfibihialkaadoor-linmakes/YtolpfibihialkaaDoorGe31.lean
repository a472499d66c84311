/- Parts of the proof. -/
import Derived.Test.YtolpfibihialkaaDoorGe0
import Derived.Test.YtolpfibihialkaaDoorGe30
import Derived.Test.YtolpfibihialkaaDoorGe28
import Derived.Test.YtolpfibihialkaaDoorGe23
import Derived.Test.YtolpfibihialkaaDoorGe29
import Derived.Test.YtolpfibihialkaaDoorGe27
import Derived.Test.YtolpfibihialkaaDoorGe24
/- The document's Solve, walked. No statement of the seat is proved here. -/
namespace Go.Proofs.YtolpfibihialkaaDoor
open Go Go.RowKit
theorem clx_sz {n e : Nat} {B : Nat → Nat → Int} {b : Nat → Int} (bB : ∀ i j, i < n → j < n → Sz e (B i j)) (bb : ∀ i, i < n → Sz e (b i)) (k : Nat) : ∀ i j, i < n → j < n → Sz e (M.cl' B k b i j) := fun i j hi hj => by
 unfold M.cl'
 split
 ·
  exact bb i hi
 ·
  exact bB i j hi hj
set_option maxRecDepth 100000 in
set_option maxHeartbeats 12800000 in
theorem dSolve {X0 : Nat → Prop} {w : World} (hX : NX X0 w) (a bs : Sl) {n e : Nat} {B : Nat → Nat → Int} {b : Nat → Int} (he1 : 1 ≤ e) (he : e ≤ 200) (hn : n ≤ 12) (ha : Mr n (fun _ => n) B a X0 w) (hb_ : Lr n b bs X0 w) (bB : ∀ i j, i < n → j < n → Sz e (B i j)) (bb : ∀ i, i < n → Sz e (b i)) : Calls Tryd.prog 25 #[a.v, bs.v] w (PLXr X0 n (crx n B b) w) := by
 have hdb : dtb e n ≤ 3000 := dtb_le he hn
 have hZ0 := zs_start hX
 have hZ1 := hZ0.more (f := Lr n b bs) (Lr.stb _ _ _) hb_
 clear hZ0
 have hZ2 := hZ1.more (f := Mr n (fun _ => n) B a) (Mr.stb _ _ _ _) ha
 clear hZ1
 go_enter Tryd.func25, Tryd.ntmps25
 have hZ3 := hZ2.only [Mr n (fun _ => n) B a, Lr n b bs] (by simp)
 clear hZ2
 go_wp2
 go_loopw [5, 6] (fun ov kv wr => ∃ (kk : Nat) (so : Sl) (Co : Array Value) (X : Nat → Prop), kk ≤ n ∧ kv = .int .i64 ((kk : Nat) : Int) ∧ ov = so.v ∧ so.n = kk ∧ Wr 2 so Co ∧ Zs w wr X0 X ([] ++ owl so Co 52) [Fl 2 (ENr (crx n B b)) kk Co, Mr n (fun _ => n) B a, Lr n b bs]) (fun _ iv _ => n - (intOf iv).toNat)
 case atStart => exact ⟨0, slz, #[], _, by omega, rfl, rfl, rfl, wr_slz 2, by simpa [owl, slz] using (hZ3.more (f := Fl 2 (ENr (crx n B b)) 0 #[]) (Fl.stb (ENr.stb _) _ _) (fl_zero 2 (ENr (crx n B b)) #[] _ _))⟩
 case round =>
  clear hZ3
  obtain ⟨kk, so, Co, X, hk, rfl, rfl, hn_so, hw_so, hZ⟩ := hrel
  by_cases hlt : kk < n
  ·
   go_wp2_with (refine stop_op rfl (fun K hK => wp_lenq (.tmp 11) 33 40 a rfl (by kernel_rfl) rfl (hZ.get 1 (f := Mr n (fun _ => n) B a) rfl).n (hK _ _ ?_)))
   unfold Stop
   try simp only [Act.put, zzC, zzD, zzE]
   go_wp2_with (refine stop_op rfl (fun K hK => wp_lssi (.tmp 10) (.tmp 12) rfl rfl rfl (r := true) (decide_eq_true (by omega)) (hK _ _ ?_)))
   unfold Stop
   try simp only [Act.put, zzC, zzD, zzE]
   go_wp2
   obtain ⟨wo, rfl⟩ : ∃ wo : World, wo = wr := ⟨_, rfl⟩
   go_wp2
   go_loopw [7, 8] (fun mv iv wr => ∃ (i : Nat) (sm : Sl) (Cm : Array Value) (X : Nat → Prop), i ≤ n ∧ iv = .int .i64 ((i : Nat) : Int) ∧ mv = sm.v ∧ sm.n = i ∧ Wr 1 sm Cm ∧ Zs w wr X0 X ([] ++ (owl so Co 52 ++ owl sm Cm 40)) [Fl 1 (ERr (fun _ => n) (M.cl' B kk b)) i Cm, Fl 2 (ENr (crx n B b)) kk Co, Mr n (fun _ => n) B a, Lr n b bs]) (fun _ iv _ => n - (intOf iv).toNat)
   case atStart => exact ⟨0, slz, #[], _, by omega, rfl, rfl, rfl, wr_slz 1, by simpa [owl, slz] using (hZ.more (f := Fl 1 (ERr (fun _ => n) (M.cl' B kk b)) 0 #[]) (Fl.stb (ERr.stb _ _) _ _) (fl_zero 1 (ERr (fun _ => n) (M.cl' B kk b)) #[] _ _))⟩
   case round =>
    clear hZ
    obtain ⟨i, sm, Cm, Xi, hi, rfl, rfl, hn_sm, hw_sm, hZi⟩ := hrel
    by_cases hli : i < n
    ·
     go_wp2_with (refine stop_op rfl (fun K hK => wp_lenq (.tmp 17) 33 40 a rfl (by kernel_rfl) rfl (hZi.get 2 (f := Mr n (fun _ => n) B a) rfl).n (hK _ _ ?_)))
     unfold Stop
     try simp only [Act.put, zzC, zzD, zzE]
     go_wp2_with (refine stop_op rfl (fun K hK => wp_lssi (.tmp 16) (.tmp 18) rfl rfl rfl (r := true) (decide_eq_true (by omega)) (hK _ _ ?_)))
     unfold Stop
     try simp only [Act.put, zzC, zzD, zzE]
     go_wp2_with (refine stop_op rfl (fun K hK => wp_bs0 ei40 rfl hZi (fun b01 W1 hZ4 => hK _ _ ?_)))
     unfold Stop
     try simp only [Act.put, zzC, zzD, zzE]
     clear hZi
     go_wp2_with (refine stop_op rfl (fun K hK => wp_ixs 33 (.tmp 23) (.tmp 24) a i 1 40 rfl rfl rfl (by kernel_rfl) sz40 (fun h => ((hZ4.get 2 (f := Mr n (fun _ => n) B a) rfl).sq.nil h).1) ((hZ4.get 2 (f := Mr n (fun _ => n) B a) rfl).n ▸ (by omega)) (hK _ _ ?_)))
     unfold Stop
     try simp only [Act.put, zzC, zzD, zzE]
     go_wp2_with (refine stop_op rfl (fun K hK => wp_ldmr 40 (.tmp 25) a i n (fun _ => n) B rfl rfl (hZ4.get 2 (f := Mr n (fun _ => n) B a) rfl) (by omega) ag40 (fun s2 hi_s2 => hK _ _ ?_)))
     unfold Stop
     try simp only [Act.put, zzC, zzD, zzE]
     have hZ5 := hZ4.more (f := Lr n (B i) s2) (Lr.stb _ _ _) hi_s2
     clear hZ4
     clear hi_s2
     go_wp2_with (refine stop_op rfl (fun K hK => wp_spreadr ei40 (.tmp 22) (.tmp 26) rfl b01 rfl (s := s2) rfl (hZ5.get 0 (f := Lr n (B i) s2) rfl) (by omega) (by omega) hZ5 (fun o3 C3 X6 W2 hn_o3 hw_o3 hZ6 => hK _ _ ?_)))
     unfold Stop
     try simp only [Act.put, zzC, zzD, zzE]
     have hZ7 := hZ6.perm (perm_mid _ _ _)
     clear hZ6
     clear hZ5
     go_wp2_with (refine stop_op rfl (fun K hK => wp_ixs 40 (.tmp 30) (.tmp 31) bs i 2 52 rfl rfl rfl (by kernel_rfl) sz52 (fun h => ((hZ7.get 5 (f := Lr n b bs) rfl).sq.nil h).1) ((hZ7.get 5 (f := Lr n b bs) rfl).n ▸ (by omega)) (hK _ _ ?_)))
     unfold Stop
     try simp only [Act.put, zzC, zzD, zzE]
     go_wp2_with (refine stop_op rfl (fun K hK => wp_ldnr 52 (.tmp 32) bs i n b rfl rfl (hZ7.get 5 (f := Lr n b bs) rfl) (by omega) ag52 sz52 (fun q4 ez_q4 hi_q4 => hK _ _ ?_)))
     unfold Stop
     try simp only [Act.put, zzC, zzD, zzE]
     have hZ8 := hZ7.more (f := q4.ir) q4.stbr hi_q4
     clear hZ7
     clear hi_q4
     go_wp2_with (refine stop_op rfl (fun K hK => wp_ixs 40 (.tmp 28) (.tmp 29) o3 kk 2 52 rfl rfl rfl (by kernel_rfl) sz52 hw_o3.nil (by rw [hn_o3]; omega) (hK _ _ ?_)))
     unfold Stop
     try simp only [Act.put, zzC, zzD, zzE]
     have hZ9y := hZ8.perm (perm_mid _ _ _)
     go_wp2_with (refine stopz_put 52 (.tmp 34) (.tmp 33) o3 C3 kk [.bool q4.b, .slice q4.a q4.n q4.c] rfl rfl rfl rfl sz52 rfl (by kernel_rfl) hw_o3 (by rw [hn_o3]; omega) hZ9y (fun C5 W3 hw_o3n hg_C5 ho_C5 hZ9x => ?_))
     clear hZ9y hw_o3
     have hw_o3 := hw_o3n
     clear hw_o3n
     have hZ9 := hZ9x.perm (List.Perm.symm (perm_mid _ _ _))
     clear hZ9x
     clear hZ8
     unfold Stop
     try simp only [Act.put, zzC, zzD, zzE]
     have hZ10r : Fl 2 (ENr ((M.cl' B kk b) i)) n C5 X6 W3 := Fl.put (hZ9.get 1 (f := Fl 2 (ENr (B i)) n C3) rfl) (cs := [.bool q4.b, .slice q4.a q4.n q4.c]) rfl hg_C5 ho_C5 ⟨q4, ez_q4.trans (by unfold M.cl'; rw [if_pos rfl]), (hZ9.get 0 (f := q4.ir) rfl), rfl⟩ (fun m cs _ hne ⟨p, h1, h2, h3⟩ => ⟨p, h1.trans (by unfold M.cl'; rw [if_neg hne]), h2, h3⟩)
     obtain ⟨X11, hZ11⟩ := Zs.tellr (hZ9.perm (perm_mid _ _ _)) hX hw_o3 hn_o3 hZ10r
     clear hZ9
     clear hZ10r
     go_wp2_with (refine stop_op rfl (fun K hK => wp_bs1 ei33 (.tmp 36) rfl rfl rfl (hK _ _ ?_)))
     unfold Stop
     try simp only [Act.put, zzC, zzD, zzE]
     have hZ12 := hZ11.later (below_new _ (.cells #[o3.v] 40))
     clear hZ11
     have hZ13y := hZ12.perm ((List.Perm.append_left _ List.perm_append_comm).trans (perm_mid _ _ _))
     go_wp2_with (refine stop_op rfl (fun K hK => wp_app ei33 (.tmp 35) (.tmp 37) rfl (s := sm) rfl ⟨W3.heap.size, 0, none⟩ 1 rfl hw_sm (by rw [hn_sm]; omega) hZ13y [o3.v] rfl (cell_one _ o3.v _) (fun u hu => by simp only [List.mem_cons, List.not_mem_nil, or_false] at hu; subst hu; rfl) (fun o6 C6 X13 W4 hn_o6 hw_o6 ho_C6 hg_C6 hZ13x => hK _ _ ?_)))
     unfold Stop
     try simp only [Act.put, zzC, zzD, zzE]
     clear hZ13y
     rw [hn_sm] at hn_o6 ho_C6 hg_C6
     have hZ13 := hZ13x.perm (List.Perm.symm ((List.Perm.append_left _ List.perm_append_comm).trans (perm_mid _ _ _)))
     clear hZ13x
     clear hZ12
     have hZ14s : Fl 1 (ERr (fun _ => n) (M.cl' B kk b)) (i + 1) C6 X13 W4 := Fl.snoc (C := Cm) (hZ13.get 4 (f := Fl 1 (ERr (fun _ => n) (M.cl' B kk b)) i Cm) rfl) (cs := [o3.v]) rfl ho_C6 hg_C6 ⟨o3, (hZ13.get 0 (f := Lr n ((M.cl' B kk b) i) o3) rfl), rfl⟩
     have hZ14 := (hZ13.more (Fl.stb (ERr.stb _ _) _ _) hZ14s).only [Fl 1 (ERr (fun _ => n) (M.cl' B kk b)) (i + 1) C6, Fl 2 (ENr (crx n B b)) kk Co, Mr n (fun _ => n) B a, Lr n b bs] (by simp)
     clear hZ13 hZ14s
     go_wp2_with (refine stop_op rfl (fun K hK => wp_addi (.tmp 20) (.const (.int .i64 1)) rfl rfl rfl (C := ((i + 1 : Nat) : Int)) (by omega) (by omega) (by omega) (hK _ _ ?_)))
     unfold Stop
     try simp only [Act.put, zzC, zzD, zzE]
     go_wp2
     go_roundw
     case rel => exact ⟨i + 1, o6, C6, _, by omega, by go_num, rfl, hn_o6, hw_o6, hZ14⟩
     case measure => simp [intOf]; omega
    ·
     obtain rfl : n = i := by omega
     go_wp2_with (refine stop_op rfl (fun K hK => wp_lenq (.tmp 17) 33 40 a rfl (by kernel_rfl) rfl (hZi.get 2 (f := Mr n (fun _ => n) B a) rfl).n (hK _ _ ?_)))
     unfold Stop
     try simp only [Act.put, zzC, zzD, zzE]
     go_wp2_with (refine stop_op rfl (fun K hK => wp_lssi (.tmp 16) (.tmp 18) rfl rfl rfl (r := false) (decide_eq_false (Int.lt_irrefl _)) (hK _ _ ?_)))
     unfold Stop
     try simp only [Act.put, zzC, zzD, zzE]
     have hZ15r := (hZi.get 0 (f := Fl 1 (ERr (fun _ => n) (M.cl' B kk b)) n Cm) rfl)
     obtain ⟨X16, hZ16⟩ := Zs.tellm (hZi.perm ((List.Perm.append_left _ List.perm_append_comm).trans (perm_mid _ _ _))) hX hw_sm hn_sm hZ15r
     clear hZi
     clear hZ15r
     have hZ17 := hZ16.only [Mr n (fun _ => n) (M.cl' B kk b) sm, Fl 2 (ENr (crx n B b)) kk Co, Mr n (fun _ => n) B a, Lr n b bs] (by simp)
     clear hZ16
     go_wp2_with fail
     refine (dDet (e := e) he1 he n (by omega) _ _ hZ17.nx sm _ (hZ17.get 0 (f := Mr n (fun _ => n) (M.cl' B kk b) sm) rfl) (clx_sz bB bb _)).mono ?_
     rintro zz W5 ⟨q7, rfl, ez_q7, hi_q7, hB⟩
     have hZ18 := hZ17.later hB
     clear hB
     clear hZ17
     have hZ19 := hZ18.more (f := q7.ir) q7.stbr hi_q7
     clear hZ18
     clear hi_q7
     go_wp2_with (refine stop_op rfl (fun K hK => wp_bs2 ei40 (.tmp 41) rfl rfl (hK _ _ ?_)))
     unfold Stop
     try simp only [Act.put, zzC, zzD, zzE]
     have hZ20 := hZ19.later (below_new _ (.cells #[.bool q7.b, .slice q7.a q7.n q7.c] 52))
     clear hZ19
     have hZ21y := hZ20.perm List.perm_append_comm
     go_wp2_with (refine stop_op rfl (fun K hK => wp_app ei40 (.tmp 39) (.tmp 42) rfl (s := so) rfl ⟨W5.heap.size, 0, none⟩ 1 rfl hw_so (by rw [hn_so]; omega) hZ21y [.bool q7.b, .slice q7.a q7.n q7.c] rfl (cell_two _ (.bool q7.b) (.slice q7.a q7.n q7.c) _) (fun u hu => by simp only [List.mem_cons, List.not_mem_nil, or_false] at hu; rcases hu with rfl | rfl <;> rfl) (fun o8 C8 X21 W6 hn_o8 hw_o8 ho_C8 hg_C8 hZ21x => hK _ _ ?_)))
     unfold Stop
     try simp only [Act.put, zzC, zzD, zzE]
     clear hZ21y
     rw [hn_so] at hn_o8 ho_C8 hg_C8
     have hZ21 := hZ21x.perm List.perm_append_comm
     clear hZ21x
     clear hZ20
     have hZ22s : Fl 2 (ENr (crx n B b)) (kk + 1) C8 X21 W6 := Fl.snoc (C := Co) (hZ21.get 2 (f := Fl 2 (ENr (crx n B b)) kk Co) rfl) (cs := [.bool q7.b, .slice q7.a q7.n q7.c]) rfl ho_C8 hg_C8 ⟨q7, ez_q7, (hZ21.get 0 (f := q7.ir) rfl), rfl⟩
     have hZ22 := (hZ21.more (Fl.stb (ENr.stb _) _ _) hZ22s).only [Fl 2 (ENr (crx n B b)) (kk + 1) C8, Mr n (fun _ => n) B a, Lr n b bs] (by simp)
     clear hZ21 hZ22s
     go_wp2_with (refine stop_op rfl (fun K hK => wp_addi (.tmp 14) (.const (.int .i64 1)) rfl rfl rfl (C := ((kk + 1 : Nat) : Int)) (by omega) (by omega) (by omega) (hK _ _ ?_)))
     unfold Stop
     try simp only [Act.put, zzC, zzD, zzE]
     go_wp2
     go_roundw
     case rel => exact ⟨kk + 1, o8, C8, _, by omega, by go_num, rfl, hn_o8, hw_o8, hZ22⟩
     case measure => simp [intOf]; omega
  ·
   obtain rfl : n = kk := by omega
   go_wp2_with (refine stop_op rfl (fun K hK => wp_lenq (.tmp 11) 33 40 a rfl (by kernel_rfl) rfl (hZ.get 1 (f := Mr n (fun _ => n) B a) rfl).n (hK _ _ ?_)))
   unfold Stop
   try simp only [Act.put, zzC, zzD, zzE]
   go_wp2_with (refine stop_op rfl (fun K hK => wp_lssi (.tmp 10) (.tmp 12) rfl rfl rfl (r := false) (decide_eq_false (Int.lt_irrefl _)) (hK _ _ ?_)))
   unfold Stop
   try simp only [Act.put, zzC, zzD, zzE]
   go_wp2
   go_ret
   exact ⟨so, rfl, ⟨hn_so, hZ.sq hX (ENr.stb _) hw_so (T := 52) (fun p hp => hp) (hn_so ▸ hZ.get 0 (f := Fl 2 (ENr (crx n B b)) n Co) rfl)⟩, hZ.below⟩
end Go.Proofs.YtolpfibihialkaaDoor

/- The laws' helpers texts, wholes. No statement of the seat is proved here. -/
namespace Go.Proofs.YtolpfibihialkaaDoor
open Go Go.RowKit
set_option maxRecDepth 100000 in
set_option maxHeartbeats 12800000 in
theorem gTexts {X0 : Nat → Prop} {w : World} (hX : NX X0 w) (xs : Sl) {n e : Nat} {x : Nat → Int} (hx : Lr n x xs X0 w) (bx : ∀ k, k < n → Sz e (x k)) (hn : n ≤ 1000) (he : e ≤ 900000) : Calls Tryd.prog 24 #[xs.v] w (PVal (.string ⟨(txL n x).toArray⟩) w) := by
 have hZ0 := zs_start hX
 have hZ1 := hZ0.more (f := Lr n x xs) (Lr.stb _ _ _) hx
 clear hZ0
 go_enter Tryd.func24, Tryd.ntmps24
 go_wp2
 go_loopw [3, 4] (fun sv iv wr => ∃ i : Nat, i ≤ n ∧ iv = .int .i64 ((i : Nat) : Int) ∧ sv = .string ⟨(txL i x).toArray⟩ ∧ ∃ X : Nat → Prop, Zs w wr X0 X [] [Lr n x xs]) (fun _ iv _ => n - (intOf iv).toNat)
 case atStart => exact ⟨0, by omega, rfl, rfl, _, hZ1⟩
 case round =>
  obtain ⟨i, hi, rfl, rfl, X, hZ⟩ := hrel
  by_cases hlt : i < n
  ·
   have hl1 : (txL i x).length ≤ i * (10 * e + 3) := txL_len (fun k hk => bx k (by omega))
   have hl2 : (decT (x i)).length ≤ 10 * e + 2 := decT_len (bx i hlt)
   have hl3 : i * (10 * e + 3) ≤ 1000 * 90000003 := Nat.mul_le_mul (by omega) (by omega)
   have hl4 : (txL i x ++ decT (x i)).length ≤ 1000 * 90000003 + 90000003 := by rw [List.length_append]; omega
   go_wp2_with (refine stop_op rfl (fun K hK => wp_lenq (.tmp 6) 40 52 xs rfl (by kernel_rfl) rfl (hZ.get 0 (f := Lr n x xs) rfl).n (hK _ _ ?_)))
   unfold Stop
   try simp only [Act.put, zzC, zzD, zzE]
   go_wp2_with (refine stop_op rfl (fun K hK => wp_lssi (.tmp 5) (.tmp 7) rfl rfl rfl (r := true) (decide_eq_true (by omega)) (hK _ _ ?_)))
   unfold Stop
   try simp only [Act.put, zzC, zzD, zzE]
   go_wp2_with (refine stop_op rfl (fun K hK => wp_ixs 40 (.tmp 12) (.tmp 13) xs i 2 52 rfl rfl rfl (by kernel_rfl) sz52 (fun h => ((hZ.get 0 (f := Lr n x xs) rfl).sq.nil h).1) ((hZ.get 0 (f := Lr n x xs) rfl).n ▸ (by omega)) (hK _ _ ?_)))
   unfold Stop
   try simp only [Act.put, zzC, zzD, zzE]
   go_wp2_with (refine stop_op rfl (fun K hK => wp_ldnr 52 (.tmp 14) xs i n x rfl rfl (hZ.get 0 (f := Lr n x xs) rfl) (by omega) ag52 sz52 (fun q1 ez_q1 hi_q1 => hK _ _ ?_)))
   unfold Stop
   try simp only [Act.put, zzC, zzD, zzE]
   have hZ2 := hZ.more (f := q1.ir) q1.stbr hi_q1
   clear hZ
   clear hi_q1
   go_wp2_with fail
   refine ((zStrr (hZ2.get 0 (f := q1.ir) rfl) ez_q1 ((fun k hk => bx k hk) i (by omega)) (by omega)).mono (fun _ _ h => ptxt_dec h)).mono ?_
   rintro zz W1 ⟨rfl, hB⟩
   have hZ3 := hZ2.later hB
   clear hB
   clear hZ2
   have hZ4 := hZ3.only [Lr n x xs] (by simp)
   clear hZ3
   go_wp2
   go_roundw
   case rel => exact ⟨i + 1, by omega, by go_num, by rw [txL, ← ByteArray.mk_append_mk, ← ByteArray.mk_append_mk], _, hZ4⟩
   case measure => simp [intOf]; omega
  ·
   obtain rfl : i = n := by omega
   go_wp2_with (refine stop_op rfl (fun K hK => wp_lenq (.tmp 6) 40 52 xs rfl (by kernel_rfl) rfl (hZ.get 0 (f := Lr i x xs) rfl).n (hK _ _ ?_)))
   unfold Stop
   try simp only [Act.put, zzC, zzD, zzE]
   go_wp2_with (refine stop_op rfl (fun K hK => wp_lssi (.tmp 5) (.tmp 7) rfl rfl rfl (r := false) (decide_eq_false (Int.lt_irrefl _)) (hK _ _ ?_)))
   unfold Stop
   try simp only [Act.put, zzC, zzD, zzE]
   go_wp2
   go_ret
   exact ⟨rfl, hZ.below⟩
set_option maxRecDepth 100000 in
set_option maxHeartbeats 12800000 in
theorem gWholes {X0 : Nat → Prop} {w : World} (hX : NX X0 w) (a : Sl) {m e : Nat} {c : Nat → Nat} {B : Nat → Nat → Int} (ha : Mr m c B a X0 w) (hc : ∀ i, i < m → c i ≤ 1000) (bB : ∀ i k, i < m → k < c i → Sz e (B i k)) (hm : m ≤ 1000) (he : e ≤ 900000) : Calls Tryd.prog 13 #[a.v] w (PVal (.string ⟨(whL m c B).toArray⟩) w) := by
 have hZ0 := zs_start hX
 have hZ1 := hZ0.more (f := Mr m c B a) (Mr.stb _ _ _ _) ha
 clear hZ0
 go_enter Tryd.func13, Tryd.ntmps13
 go_wp2
 go_loopw [3, 4] (fun sv iv wr => ∃ i : Nat, i ≤ m ∧ iv = .int .i64 ((i : Nat) : Int) ∧ sv = .string ⟨(whL i c B).toArray⟩ ∧ ∃ X : Nat → Prop, Zs w wr X0 X [] [Mr m c B a]) (fun _ iv _ => m - (intOf iv).toNat)
 case atStart => exact ⟨0, by omega, rfl, rfl, _, hZ1⟩
 case round =>
  obtain ⟨i, hi, rfl, rfl, X, hZ⟩ := hrel
  by_cases hlt : i < m
  ·
   have hl1 : (whL i c B).length ≤ i * (1000 * (10 * e + 3) + 1) := whL_len (fun k hk => hc k (by omega)) (fun x y hx hy => bB x y (by omega) hy)
   have hl2 : (txL (c i) (B i)).length ≤ c i * (10 * e + 3) := txL_len (fun k hk => bB i k hlt hk)
   have hl5 : c i * (10 * e + 3) ≤ 1000 * 90000003 := Nat.mul_le_mul (hc i hlt) (by omega)
   have hl3 : i * (1000 * (10 * e + 3) + 1) ≤ 1000 * (1000 * 90000003 + 1) := Nat.mul_le_mul (by omega) (by omega)
   have hl4 : (whL i c B ++ txL (c i) (B i)).length ≤ 1000 * (1000 * 90000003 + 1) + 1000 * 90000003 := by rw [List.length_append]; omega
   go_wp2_with (refine stop_op rfl (fun K hK => wp_lenq (.tmp 6) 33 40 a rfl (by kernel_rfl) rfl (hZ.get 0 (f := Mr m c B a) rfl).n (hK _ _ ?_)))
   unfold Stop
   try simp only [Act.put, zzC, zzD, zzE]
   go_wp2_with (refine stop_op rfl (fun K hK => wp_lssi (.tmp 5) (.tmp 7) rfl rfl rfl (r := true) (decide_eq_true (by omega)) (hK _ _ ?_)))
   unfold Stop
   try simp only [Act.put, zzC, zzD, zzE]
   go_wp2_with (refine stop_op rfl (fun K hK => wp_ixs 33 (.tmp 12) (.tmp 13) a i 1 40 rfl rfl rfl (by kernel_rfl) sz40 (fun h => ((hZ.get 0 (f := Mr m c B a) rfl).sq.nil h).1) ((hZ.get 0 (f := Mr m c B a) rfl).n ▸ (by omega)) (hK _ _ ?_)))
   unfold Stop
   try simp only [Act.put, zzC, zzD, zzE]
   go_wp2_with (refine stop_op rfl (fun K hK => wp_ldmr 40 (.tmp 14) a i m c B rfl rfl (hZ.get 0 (f := Mr m c B a) rfl) (by omega) ag40 (fun s1 hi_s1 => hK _ _ ?_)))
   unfold Stop
   try simp only [Act.put, zzC, zzD, zzE]
   have hZ2 := hZ.more (f := Lr (c i) (B i) s1) (Lr.stb _ _ _) hi_s1
   clear hZ
   clear hi_s1
   go_wp2_with fail
   refine (gTexts hZ2.nx s1 (hZ2.get 0 (f := Lr (c i) (B i) s1) rfl) (fun k hk => bB i k (by omega) hk) (hc i hlt) (by omega)).mono ?_
   rintro zz W1 ⟨rfl, hB⟩
   have hZ3 := hZ2.later hB
   clear hB
   clear hZ2
   have hZ4 := hZ3.only [Mr m c B a] (by simp)
   clear hZ3
   go_wp2
   go_roundw
   case rel => exact ⟨i + 1, by omega, by go_num, by rw [whL, ← ByteArray.mk_append_mk, ← ByteArray.mk_append_mk], _, hZ4⟩
   case measure => simp [intOf]; omega
  ·
   obtain rfl : i = m := by omega
   go_wp2_with (refine stop_op rfl (fun K hK => wp_lenq (.tmp 6) 33 40 a rfl (by kernel_rfl) rfl (hZ.get 0 (f := Mr i c B a) rfl).n (hK _ _ ?_)))
   unfold Stop
   try simp only [Act.put, zzC, zzD, zzE]
   go_wp2_with (refine stop_op rfl (fun K hK => wp_lssi (.tmp 5) (.tmp 7) rfl rfl rfl (r := false) (decide_eq_false (Int.lt_irrefl _)) (hK _ _ ?_)))
   unfold Stop
   try simp only [Act.put, zzC, zzD, zzE]
   go_wp2
   go_ret
   exact ⟨rfl, hZ.below⟩
end Go.Proofs.YtolpfibihialkaaDoor

/- The document's Of, walked. No statement of the seat is proved here. -/
namespace Go.Proofs.YtolpfibihialkaaDoor
open Go Go.RowKit
set_option maxRecDepth 100000 in
set_option maxHeartbeats 12800000 in
theorem dOf {X0 : Nat → Prop} {w : World} (hX : NX X0 w) (rs : Sl) {m : Nat} {c : Nat → Nat} {R : Nat → Nat → Int} (hr : Mi m c R rs X0 w) (hm : m ≤ 100) (hc : ∀ i, i < m → c i ≤ 100) (hR : ∀ i j, i < m → j < c i → -9223372036854775808 ≤ R i j ∧ R i j ≤ 9223372036854775807) : Calls Tryd.prog 14 #[rs.v] w (PMXr X0 m c R w) := by
 have hZ0 := zs_start hX
 have hZ1 := hZ0.more (f := Mi m c R rs) (Mi.stb _ _ _ _) hr
 clear hZ0
 go_enter Tryd.func14, Tryd.ntmps14
 go_wp2
 go_loopw [3, 4] (fun ov iv wr => ∃ (i : Nat) (so : Sl) (Co : Array Value) (X : Nat → Prop), i ≤ m ∧ iv = .int .i64 ((i : Nat) : Int) ∧ ov = so.v ∧ so.n = i ∧ Wr 1 so Co ∧ Zs w wr X0 X ([] ++ owl so Co 40) [Fl 1 (ERr c R) i Co, Mi m c R rs]) (fun _ iv _ => m - (intOf iv).toNat)
 case atStart => exact ⟨0, slz, #[], _, by omega, rfl, rfl, rfl, wr_slz 1, by simpa [owl, slz] using (hZ1.more (f := Fl 1 (ERr c R) 0 #[]) (Fl.stb (ERr.stb _ _) _ _) (fl_zero 1 (ERr c R) #[] _ _))⟩
 case round =>
  obtain ⟨i, so, Co, X, hi, rfl, rfl, hn_so, hw_so, hZ⟩ := hrel
  by_cases hlt : i < m
  ·
   go_wp2_with (refine stop_op rfl (fun K hK => wp_lenq (.tmp 8) 22 36 rs rfl (by kernel_rfl) rfl (hZ.get 1 (f := Mi m c R rs) rfl).n (hK _ _ ?_)))
   unfold Stop
   try simp only [Act.put, zzC, zzD, zzE]
   go_wp2_with (refine stop_op rfl (fun K hK => wp_lssi (.tmp 7) (.tmp 9) rfl rfl rfl (r := true) (decide_eq_true (by omega)) (hK _ _ ?_)))
   unfold Stop
   try simp only [Act.put, zzC, zzD, zzE]
   go_wp2
   obtain ⟨wo, rfl⟩ : ∃ wo : World, wo = wr := ⟨_, rfl⟩
   have hci := hc i hlt
   go_wp2
   go_loopw [5, 6] (fun rv jv wr => ∃ (j : Nat) (si : Sl) (Ci : Array Value) (X : Nat → Prop), j ≤ c i ∧ jv = .int .i64 ((j : Nat) : Int) ∧ rv = si.v ∧ si.n = j ∧ Wr 2 si Ci ∧ Zs w wr X0 X ([] ++ (owl so Co 40 ++ owl si Ci 52)) [Fl 2 (ENr (R i)) j Ci, Fl 1 (ERr c R) i Co, Mi m c R rs]) (fun _ iv _ => c i - (intOf iv).toNat)
   case atStart => exact ⟨0, slz, #[], _, by omega, rfl, rfl, rfl, wr_slz 2, by simpa [owl, slz] using (hZ.more (f := Fl 2 (ENr (R i)) 0 #[]) (Fl.stb (ENr.stb _) _ _) (fl_zero 2 (ENr (R i)) #[] _ _))⟩
   case round =>
    clear hZ
    obtain ⟨j, si, Ci, Xi, hj, rfl, rfl, hn_si, hw_si, hZi⟩ := hrel
    by_cases hlj : j < c i
    ·
     go_wp2_with (refine stop_op rfl (fun K hK => wp_ixs 22 (.tmp 14) (.tmp 15) rs i 1 36 rfl rfl rfl (by kernel_rfl) sz36 (fun h => ((hZi.get 2 (f := Mi m c R rs) rfl).sq.nil h).1) ((hZi.get 2 (f := Mi m c R rs) rfl).n ▸ (by omega)) (hK _ _ ?_)))
     unfold Stop
     try simp only [Act.put, zzC, zzD, zzE]
     go_wp2_with (refine stop_op rfl (fun K hK => wp_ldim 36 (.tmp 16) rs i m c R rfl rfl (hZi.get 2 (f := Mi m c R rs) rfl) (by omega) ag36 (fun s1 hi_s1 => hK _ _ ?_)))
     unfold Stop
     try simp only [Act.put, zzC, zzD, zzE]
     have hZ2 := hZi.more (f := Li (c i) (R i) s1) (Li.stb _ _ _) hi_s1
     clear hZi
     clear hi_s1
     go_wp2_with (refine stop_op rfl (fun K hK => wp_lenq (.tmp 17) 36 2 s1 rfl (by kernel_rfl) rfl (hZ2.get 0 (f := Li (c i) (R i) s1) rfl).n (hK _ _ ?_)))
     unfold Stop
     try simp only [Act.put, zzC, zzD, zzE]
     go_wp2_with (refine stop_op rfl (fun K hK => wp_lssi (.tmp 13) (.tmp 18) rfl rfl rfl (r := true) (decide_eq_true (by omega)) (hK _ _ ?_)))
     unfold Stop
     try simp only [Act.put, zzC, zzD, zzE]
     go_wp2_with (refine stop_op rfl (fun K hK => wp_ixs 22 (.tmp 23) (.tmp 24) rs i 1 36 rfl rfl rfl (by kernel_rfl) sz36 (fun h => ((hZ2.get 3 (f := Mi m c R rs) rfl).sq.nil h).1) ((hZ2.get 3 (f := Mi m c R rs) rfl).n ▸ (by omega)) (hK _ _ ?_)))
     unfold Stop
     try simp only [Act.put, zzC, zzD, zzE]
     go_wp2_with (refine stop_op rfl (fun K hK => wp_ldim 36 (.tmp 25) rs i m c R rfl rfl (hZ2.get 3 (f := Mi m c R rs) rfl) (by omega) ag36 (fun s2 hi_s2 => hK _ _ ?_)))
     unfold Stop
     try simp only [Act.put, zzC, zzD, zzE]
     have hZ3 := hZ2.more (f := Li (c i) (R i) s2) (Li.stb _ _ _) hi_s2
     clear hZ2
     clear hi_s2
     go_wp2_with (refine stop_op rfl (fun K hK => wp_ixs 36 (.tmp 26) (.tmp 27) s2 j 1 2 rfl rfl rfl (by kernel_rfl) sz2 (fun h => ((hZ3.get 0 (f := Li (c i) (R i) s2) rfl).sq.nil h).1) ((hZ3.get 0 (f := Li (c i) (R i) s2) rfl).n ▸ (by omega)) (hK _ _ ?_)))
     unfold Stop
     try simp only [Act.put, zzC, zzD, zzE]
     go_wp2_with (refine stop_op rfl (fun K hK => wp_ldi 2 (.tmp 28) s2 j (c i) (R i) rfl rfl (hZ3.get 0 (f := Li (c i) (R i) s2) rfl) (by omega) ag2 (hK _ _ ?_)))
     unfold Stop
     try simp only [Act.put, zzC, zzD, zzE]
     go_wp2_with fail
     refine (zOfr hZ3.nx (hR i j hlt hlj).1 (hR i j hlt hlj).2).mono ?_
     rintro zz W1 ⟨q3, rfl, ez_q3, hi_q3, hB⟩
     have hZ4 := hZ3.later hB
     clear hB
     clear hZ3
     have hZ5 := hZ4.more (f := q3.ir) q3.stbr hi_q3
     clear hZ4
     clear hi_q3
     go_wp2_with (refine stop_op rfl (fun K hK => wp_bs2 ei40 (.tmp 30) rfl rfl (hK _ _ ?_)))
     unfold Stop
     try simp only [Act.put, zzC, zzD, zzE]
     have hZ6 := hZ5.later (below_new _ (.cells #[.bool q3.b, .slice q3.a q3.n q3.c] 52))
     clear hZ5
     have hZ7y := hZ6.perm ((List.Perm.append_left _ List.perm_append_comm).trans (perm_mid _ _ _))
     go_wp2_with (refine stop_op rfl (fun K hK => wp_app ei40 (.tmp 22) (.tmp 31) rfl (s := si) rfl ⟨W1.heap.size, 0, none⟩ 1 rfl hw_si (by rw [hn_si]; omega) hZ7y [.bool q3.b, .slice q3.a q3.n q3.c] rfl (cell_two _ (.bool q3.b) (.slice q3.a q3.n q3.c) _) (fun u hu => by simp only [List.mem_cons, List.not_mem_nil, or_false] at hu; rcases hu with rfl | rfl <;> rfl) (fun o4 C4 X7 W2 hn_o4 hw_o4 ho_C4 hg_C4 hZ7x => hK _ _ ?_)))
     unfold Stop
     try simp only [Act.put, zzC, zzD, zzE]
     clear hZ7y
     rw [hn_si] at hn_o4 ho_C4 hg_C4
     have hZ7 := hZ7x.perm (List.Perm.symm ((List.Perm.append_left _ List.perm_append_comm).trans (perm_mid _ _ _)))
     clear hZ7x
     clear hZ6
     have hZ8s : Fl 2 (ENr (R i)) (j + 1) C4 X7 W2 := Fl.snoc (C := Ci) (hZ7.get 3 (f := Fl 2 (ENr (R i)) j Ci) rfl) (cs := [.bool q3.b, .slice q3.a q3.n q3.c]) rfl ho_C4 hg_C4 ⟨q3, ez_q3, (hZ7.get 0 (f := q3.ir) rfl), rfl⟩
     have hZ8 := (hZ7.more (Fl.stb (ENr.stb _) _ _) hZ8s).only [Fl 2 (ENr (R i)) (j + 1) C4, Fl 1 (ERr c R) i Co, Mi m c R rs] (by simp)
     clear hZ7 hZ8s
     go_wp2_with (refine stop_op rfl (fun K hK => wp_addi (.tmp 20) (.const (.int .i64 1)) rfl rfl rfl (C := ((j + 1 : Nat) : Int)) (by omega) (by omega) (by omega) (hK _ _ ?_)))
     unfold Stop
     try simp only [Act.put, zzC, zzD, zzE]
     go_wp2
     go_roundw
     case rel => exact ⟨j + 1, o4, C4, _, by omega, by go_num, rfl, hn_o4, hw_o4, hZ8⟩
     case measure => simp [intOf]; omega
    ·
     obtain rfl : j = c i := by omega
     go_wp2_with (refine stop_op rfl (fun K hK => wp_ixs 22 (.tmp 14) (.tmp 15) rs i 1 36 rfl rfl rfl (by kernel_rfl) sz36 (fun h => ((hZi.get 2 (f := Mi m c R rs) rfl).sq.nil h).1) ((hZi.get 2 (f := Mi m c R rs) rfl).n ▸ (by omega)) (hK _ _ ?_)))
     unfold Stop
     try simp only [Act.put, zzC, zzD, zzE]
     go_wp2_with (refine stop_op rfl (fun K hK => wp_ldim 36 (.tmp 16) rs i m c R rfl rfl (hZi.get 2 (f := Mi m c R rs) rfl) (by omega) ag36 (fun s5 hi_s5 => hK _ _ ?_)))
     unfold Stop
     try simp only [Act.put, zzC, zzD, zzE]
     have hZ9 := hZi.more (f := Li (c i) (R i) s5) (Li.stb _ _ _) hi_s5
     clear hZi
     clear hi_s5
     go_wp2_with (refine stop_op rfl (fun K hK => wp_lenq (.tmp 17) 36 2 s5 rfl (by kernel_rfl) rfl (hZ9.get 0 (f := Li (c i) (R i) s5) rfl).n (hK _ _ ?_)))
     unfold Stop
     try simp only [Act.put, zzC, zzD, zzE]
     go_wp2_with (refine stop_op rfl (fun K hK => wp_lssi (.tmp 13) (.tmp 18) rfl rfl rfl (r := false) (decide_eq_false (Int.lt_irrefl _)) (hK _ _ ?_)))
     unfold Stop
     try simp only [Act.put, zzC, zzD, zzE]
     have hZ10r := (hZ9.get 1 (f := Fl 2 (ENr (R i)) (c i) Ci) rfl)
     obtain ⟨X11, hZ11⟩ := Zs.tellr (hZ9.perm ((List.Perm.append_left _ List.perm_append_comm).trans (perm_mid _ _ _))) hX hw_si hn_si hZ10r
     clear hZ9
     clear hZ10r
     go_wp2_with (refine stop_op rfl (fun K hK => wp_bs1 ei33 (.tmp 34) rfl rfl rfl (hK _ _ ?_)))
     unfold Stop
     try simp only [Act.put, zzC, zzD, zzE]
     have hZ12 := hZ11.later (below_new _ (.cells #[si.v] 40))
     clear hZ11
     have hZ13y := hZ12.perm List.perm_append_comm
     go_wp2_with (refine stop_op rfl (fun K hK => wp_app ei33 (.tmp 33) (.tmp 35) rfl (s := so) rfl ⟨wr.heap.size, 0, none⟩ 1 rfl hw_so (by rw [hn_so]; omega) hZ13y [si.v] rfl (cell_one _ si.v _) (fun u hu => by simp only [List.mem_cons, List.not_mem_nil, or_false] at hu; subst hu; rfl) (fun o6 C6 X13 W3 hn_o6 hw_o6 ho_C6 hg_C6 hZ13x => hK _ _ ?_)))
     unfold Stop
     try simp only [Act.put, zzC, zzD, zzE]
     clear hZ13y
     rw [hn_so] at hn_o6 ho_C6 hg_C6
     have hZ13 := hZ13x.perm List.perm_append_comm
     clear hZ13x
     clear hZ12
     have hZ14s : Fl 1 (ERr c R) (i + 1) C6 X13 W3 := Fl.snoc (C := Co) (hZ13.get 3 (f := Fl 1 (ERr c R) i Co) rfl) (cs := [si.v]) rfl ho_C6 hg_C6 ⟨si, (hZ13.get 0 (f := Lr (c i) (R i) si) rfl), rfl⟩
     have hZ14 := (hZ13.more (Fl.stb (ERr.stb _ _) _ _) hZ14s).only [Fl 1 (ERr c R) (i + 1) C6, Mi m c R rs] (by simp)
     clear hZ13 hZ14s
     go_wp2_with (refine stop_op rfl (fun K hK => wp_addi (.tmp 11) (.const (.int .i64 1)) rfl rfl rfl (C := ((i + 1 : Nat) : Int)) (by omega) (by omega) (by omega) (hK _ _ ?_)))
     unfold Stop
     try simp only [Act.put, zzC, zzD, zzE]
     go_wp2
     go_roundw
     case rel => exact ⟨i + 1, o6, C6, _, by omega, by go_num, rfl, hn_o6, hw_o6, hZ14⟩
     case measure => simp [intOf]; omega
  ·
   obtain rfl : i = m := by omega
   go_wp2_with (refine stop_op rfl (fun K hK => wp_lenq (.tmp 8) 22 36 rs rfl (by kernel_rfl) rfl (hZ.get 1 (f := Mi i c R rs) rfl).n (hK _ _ ?_)))
   unfold Stop
   try simp only [Act.put, zzC, zzD, zzE]
   go_wp2_with (refine stop_op rfl (fun K hK => wp_lssi (.tmp 7) (.tmp 9) rfl rfl rfl (r := false) (decide_eq_false (Int.lt_irrefl _)) (hK _ _ ?_)))
   unfold Stop
   try simp only [Act.put, zzC, zzD, zzE]
   go_wp2
   go_ret
   exact ⟨so, rfl, ⟨hn_so, hZ.sq hX (ERr.stb _ _) hw_so (T := 40) (fun p hp => hp) (hn_so ▸ hZ.get 0 (f := Fl 1 (ERr c R) i Co) rfl)⟩, hZ.below⟩
end Go.Proofs.YtolpfibihialkaaDoor

/- The laws' helpers list, read: the program's and the document's. No statement of the seat is proved here. -/
namespace Go.Proofs.YtolpfibihialkaaDoor
open Go Go.RowKit
/-- A list of numbers, and the same of the document's. -/
def PLi2 (X : Nat → Prop) (n : Nat) (x : Nat → Int) (w : World) (e : Ending) (w' : World) : Prop := ∃ a b : Sl, e = .returned (.tuple #[a.v, b.v]) ∧ Ls n x a X w' ∧ Lr n x b X w' ∧ Below w.heap.size w w'
set_option maxRecDepth 100000 in
set_option maxHeartbeats 12800000 in
theorem gList2 {X0 : Nat → Prop} {w : World} (hX : NX X0 w) (l : Sl) (n : Nat) {k : Nat} {x : Nat → Int} (hl : Li k x l X0 w) (hn : n ≤ 100) (hb : ∀ i, i < k → -9223372036854775808 ≤ x i ∧ x i ≤ 9223372036854775807) : Calls Tryd.prog 16 #[l.v, .int .i64 ((n : Nat) : Int)] w (PLi2 X0 n (xl k x) w) := by
 have hZ0 := zs_start hX
 have hZ1 := hZ0.more (f := Li k x l) (Li.stb _ _ _) hl
 clear hZ0
 go_enter Tryd.func16, Tryd.ntmps16
 go_wp2
 go_loopw [6, 7, 8] (fun av bv iv wr => ∃ (i : Nat) (sa sb : Sl) (Ca Cb : Array Value) (X : Nat → Prop), i ≤ n ∧ iv = .int .i64 ((i : Nat) : Int) ∧ av = sa.v ∧ bv = sb.v ∧ sa.n = i ∧ Wr 2 sa Ca ∧ sb.n = i ∧ Wr 2 sb Cb ∧ Zs w wr X0 X ([] ++ (owl sa Ca 45 ++ owl sb Cb 52)) [Fl 2 (EN (xl k x)) i Ca, Fl 2 (ENr (xl k x)) i Cb, Li k x l]) (fun _ _ iv _ => n - (intOf iv).toNat)
 case atStart => exact ⟨0, slz, slz, #[], #[], _, by omega, rfl, rfl, rfl, rfl, wr_slz 2, rfl, wr_slz 2, ((hZ1.more (f := Fl 2 (ENr (xl k x)) 0 #[]) (Fl.stb (ENr.stb _) _ _) (fl_zero 2 (ENr (xl k x)) #[] _ _)).more (f := Fl 2 (EN (xl k x)) 0 #[]) (Fl.stb (EN.stb _) _ _) (fl_zero 2 (EN (xl k x)) #[] _ _))⟩
 case round =>
  obtain ⟨i, sa, sb, Ca, Cb, X, hi, rfl, rfl, rfl, hn_sa, hw_sa, hn_sb, hw_sb, hZ⟩ := hrel
  by_cases hlt : i < n
  ·
   by_cases hk : i < k
   ·
    go_wp2_with (refine stop_op rfl (fun K hK => wp_lssi (.tmp 10) (.tmp 11) rfl rfl rfl (r := true) (decide_eq_true (by omega)) (hK _ _ ?_)))
    unfold Stop
    try simp only [Act.put, zzC, zzD, zzE]
    go_wp2_with (refine stop_op rfl (fun K hK => wp_lenq (.tmp 16) 36 2 l rfl (by kernel_rfl) rfl (hZ.get 2 (f := Li k x l) rfl).n (hK _ _ ?_)))
    unfold Stop
    try simp only [Act.put, zzC, zzD, zzE]
    go_wp2_with (refine stop_op rfl (fun K hK => wp_lssi (.tmp 15) (.tmp 17) rfl rfl rfl (r := true) (decide_eq_true (by omega)) (hK _ _ ?_)))
    unfold Stop
    try simp only [Act.put, zzC, zzD, zzE]
    go_wp2_with (refine stop_op rfl (fun K hK => wp_ixs 36 (.tmp 19) (.tmp 20) l i 1 2 rfl rfl rfl (by kernel_rfl) sz2 (fun h => ((hZ.get 2 (f := Li k x l) rfl).sq.nil h).1) ((hZ.get 2 (f := Li k x l) rfl).n ▸ (by omega)) (hK _ _ ?_)))
    unfold Stop
    try simp only [Act.put, zzC, zzD, zzE]
    go_wp2_with (refine stop_op rfl (fun K hK => wp_ldi 2 (.tmp 21) l i k x rfl rfl (hZ.get 2 (f := Li k x l) rfl) (by omega) ag2 (hK _ _ ?_)))
    unfold Stop
    try simp only [Act.put, zzC, zzD, zzE]
    go_wp2_with fail
    refine (zOf hZ.nx (hb i hk).1 (hb i hk).2).mono ?_
    rintro zz W1 ⟨q1, rfl, ez_q1, hi_q1, hB⟩
    have hZ2 := hZ.later hB
    clear hB
    clear hZ
    have hZ3 := hZ2.more (f := q1.is) q1.stb hi_q1
    clear hZ2
    clear hi_q1
    go_wp2_with (refine stop_op rfl (fun K hK => wp_bs2 ei39 (.tmp 25) rfl rfl (hK _ _ ?_)))
    unfold Stop
    try simp only [Act.put, zzC, zzD, zzE]
    have hZ4 := hZ3.later (below_new _ (.cells #[.bool q1.b, .slice q1.a q1.n q1.c] 45))
    clear hZ3
    have hZ5y := hZ4.perm (perm_mid _ _ _)
    go_wp2_with (refine stop_op rfl (fun K hK => wp_app ei39 (.tmp 23) (.tmp 26) rfl (s := sa) rfl ⟨W1.heap.size, 0, none⟩ 1 rfl hw_sa (by rw [hn_sa]; omega) hZ5y [.bool q1.b, .slice q1.a q1.n q1.c] rfl (cell_two _ (.bool q1.b) (.slice q1.a q1.n q1.c) _) (fun u hu => by simp only [List.mem_cons, List.not_mem_nil, or_false] at hu; rcases hu with rfl | rfl <;> rfl) (fun o2 C2 X5 W2 hn_o2 hw_o2 ho_C2 hg_C2 hZ5x => hK _ _ ?_)))
    unfold Stop
    try simp only [Act.put, zzC, zzD, zzE]
    clear hZ5y
    rw [hn_sa] at hn_o2 ho_C2 hg_C2
    have hZ5 := hZ5x.perm (List.Perm.symm (perm_mid _ _ _))
    clear hZ5x
    clear hZ4
    have hZ6s : Fl 2 (EN (xl k x)) (i + 1) C2 X5 W2 := Fl.snoc (C := Ca) (hZ5.get 1 (f := Fl 2 (EN (xl k x)) i Ca) rfl) (cs := [.bool q1.b, .slice q1.a q1.n q1.c]) rfl ho_C2 hg_C2 ⟨q1, ez_q1.trans (by unfold xl; rw [if_pos hk]), (hZ5.get 0 (f := q1.is) rfl), rfl⟩
    have hZ6 := (hZ5.more (Fl.stb (EN.stb _) _ _) hZ6s).only [Fl 2 (EN (xl k x)) (i + 1) C2, Fl 2 (ENr (xl k x)) i Cb, Li k x l] (by simp)
    clear hZ5 hZ6s
    go_wp2_with fail
    refine (zOfr hZ6.nx (hb i hk).1 (hb i hk).2).mono ?_
    rintro zz W3 ⟨d3, rfl, ez_d3, hi_d3, hB⟩
    have hZ7 := hZ6.later hB
    clear hB
    clear hZ6
    have hZ8 := hZ7.more (f := d3.ir) d3.stbr hi_d3
    clear hZ7
    clear hi_d3
    go_wp2_with (refine stop_op rfl (fun K hK => wp_bs2 ei40 (.tmp 30) rfl rfl (hK _ _ ?_)))
    unfold Stop
    try simp only [Act.put, zzC, zzD, zzE]
    have hZ9 := hZ8.later (below_new _ (.cells #[.bool d3.b, .slice d3.a d3.n d3.c] 52))
    clear hZ8
    have hZ10y := hZ9.perm ((List.Perm.append_left _ List.perm_append_comm).trans (perm_mid _ _ _))
    go_wp2_with (refine stop_op rfl (fun K hK => wp_app ei40 (.tmp 28) (.tmp 31) rfl (s := sb) rfl ⟨W3.heap.size, 0, none⟩ 1 rfl hw_sb (by rw [hn_sb]; omega) hZ10y [.bool d3.b, .slice d3.a d3.n d3.c] rfl (cell_two _ (.bool d3.b) (.slice d3.a d3.n d3.c) _) (fun u hu => by simp only [List.mem_cons, List.not_mem_nil, or_false] at hu; rcases hu with rfl | rfl <;> rfl) (fun o4 C4 X10 W4 hn_o4 hw_o4 ho_C4 hg_C4 hZ10x => hK _ _ ?_)))
    unfold Stop
    try simp only [Act.put, zzC, zzD, zzE]
    clear hZ10y
    rw [hn_sb] at hn_o4 ho_C4 hg_C4
    have hZ10 := hZ10x.perm (List.Perm.symm ((List.Perm.append_left _ List.perm_append_comm).trans (perm_mid _ _ _)))
    clear hZ10x
    clear hZ9
    have hZ11s : Fl 2 (ENr (xl k x)) (i + 1) C4 X10 W4 := Fl.snoc (C := Cb) (hZ10.get 2 (f := Fl 2 (ENr (xl k x)) i Cb) rfl) (cs := [.bool d3.b, .slice d3.a d3.n d3.c]) rfl ho_C4 hg_C4 ⟨d3, ez_d3.trans (by unfold xl; rw [if_pos hk]), (hZ10.get 0 (f := d3.ir) rfl), rfl⟩
    have hZ11 := (hZ10.more (Fl.stb (ENr.stb _) _ _) hZ11s).only [Fl 2 (ENr (xl k x)) (i + 1) C4, Fl 2 (EN (xl k x)) (i + 1) C2, Li k x l] (by simp)
    clear hZ10 hZ11s
    have hZ12 := hZ11.only [Fl 2 (EN (xl k x)) (i + 1) C2, Fl 2 (ENr (xl k x)) (i + 1) C4, Li k x l] (by simp)
    clear hZ11
    go_wp2_with (refine stop_op rfl (fun K hK => wp_addi (.tmp 13) (.const (.int .i64 1)) rfl rfl rfl (C := ((i + 1 : Nat) : Int)) (by omega) (by omega) (by omega) (hK _ _ ?_)))
    unfold Stop
    try simp only [Act.put, zzC, zzD, zzE]
    go_wp2
    go_roundw
    case rel => exact ⟨i + 1, o2, o4, C2, C4, _, by omega, by go_num, rfl, rfl, hn_o2, hw_o2, hn_o4, hw_o4, hZ12⟩
    case measure => simp [intOf]; omega
   ·
    go_wp2_with (refine stop_op rfl (fun K hK => wp_lssi (.tmp 10) (.tmp 11) rfl rfl rfl (r := true) (decide_eq_true (by omega)) (hK _ _ ?_)))
    unfold Stop
    try simp only [Act.put, zzC, zzD, zzE]
    go_wp2_with (refine stop_op rfl (fun K hK => wp_lenq (.tmp 16) 36 2 l rfl (by kernel_rfl) rfl (hZ.get 2 (f := Li k x l) rfl).n (hK _ _ ?_)))
    unfold Stop
    try simp only [Act.put, zzC, zzD, zzE]
    go_wp2_with (refine stop_op rfl (fun K hK => wp_lssi (.tmp 15) (.tmp 17) rfl rfl rfl (r := false) (decide_eq_false (by omega)) (hK _ _ ?_)))
    unfold Stop
    try simp only [Act.put, zzC, zzD, zzE]
    go_wp2_with fail
    refine (zOf hZ.nx (by omega) (by omega)).mono ?_
    rintro zz W5 ⟨q5, rfl, ez_q5, hi_q5, hB⟩
    have hZ13 := hZ.later hB
    clear hB
    clear hZ
    have hZ14 := hZ13.more (f := q5.is) q5.stb hi_q5
    clear hZ13
    clear hi_q5
    go_wp2_with (refine stop_op rfl (fun K hK => wp_bs2 ei39 (.tmp 25) rfl rfl (hK _ _ ?_)))
    unfold Stop
    try simp only [Act.put, zzC, zzD, zzE]
    have hZ15 := hZ14.later (below_new _ (.cells #[.bool q5.b, .slice q5.a q5.n q5.c] 45))
    clear hZ14
    have hZ16y := hZ15.perm (perm_mid _ _ _)
    go_wp2_with (refine stop_op rfl (fun K hK => wp_app ei39 (.tmp 23) (.tmp 26) rfl (s := sa) rfl ⟨W5.heap.size, 0, none⟩ 1 rfl hw_sa (by rw [hn_sa]; omega) hZ16y [.bool q5.b, .slice q5.a q5.n q5.c] rfl (cell_two _ (.bool q5.b) (.slice q5.a q5.n q5.c) _) (fun u hu => by simp only [List.mem_cons, List.not_mem_nil, or_false] at hu; rcases hu with rfl | rfl <;> rfl) (fun o6 C6 X16 W6 hn_o6 hw_o6 ho_C6 hg_C6 hZ16x => hK _ _ ?_)))
    unfold Stop
    try simp only [Act.put, zzC, zzD, zzE]
    clear hZ16y
    rw [hn_sa] at hn_o6 ho_C6 hg_C6
    have hZ16 := hZ16x.perm (List.Perm.symm (perm_mid _ _ _))
    clear hZ16x
    clear hZ15
    have hZ17s : Fl 2 (EN (xl k x)) (i + 1) C6 X16 W6 := Fl.snoc (C := Ca) (hZ16.get 1 (f := Fl 2 (EN (xl k x)) i Ca) rfl) (cs := [.bool q5.b, .slice q5.a q5.n q5.c]) rfl ho_C6 hg_C6 ⟨q5, ez_q5.trans (by unfold xl; rw [if_neg hk]), (hZ16.get 0 (f := q5.is) rfl), rfl⟩
    have hZ17 := (hZ16.more (Fl.stb (EN.stb _) _ _) hZ17s).only [Fl 2 (EN (xl k x)) (i + 1) C6, Fl 2 (ENr (xl k x)) i Cb, Li k x l] (by simp)
    clear hZ16 hZ17s
    go_wp2_with fail
    refine (zOfr hZ17.nx (by omega) (by omega)).mono ?_
    rintro zz W7 ⟨d7, rfl, ez_d7, hi_d7, hB⟩
    have hZ18 := hZ17.later hB
    clear hB
    clear hZ17
    have hZ19 := hZ18.more (f := d7.ir) d7.stbr hi_d7
    clear hZ18
    clear hi_d7
    go_wp2_with (refine stop_op rfl (fun K hK => wp_bs2 ei40 (.tmp 30) rfl rfl (hK _ _ ?_)))
    unfold Stop
    try simp only [Act.put, zzC, zzD, zzE]
    have hZ20 := hZ19.later (below_new _ (.cells #[.bool d7.b, .slice d7.a d7.n d7.c] 52))
    clear hZ19
    have hZ21y := hZ20.perm ((List.Perm.append_left _ List.perm_append_comm).trans (perm_mid _ _ _))
    go_wp2_with (refine stop_op rfl (fun K hK => wp_app ei40 (.tmp 28) (.tmp 31) rfl (s := sb) rfl ⟨W7.heap.size, 0, none⟩ 1 rfl hw_sb (by rw [hn_sb]; omega) hZ21y [.bool d7.b, .slice d7.a d7.n d7.c] rfl (cell_two _ (.bool d7.b) (.slice d7.a d7.n d7.c) _) (fun u hu => by simp only [List.mem_cons, List.not_mem_nil, or_false] at hu; rcases hu with rfl | rfl <;> rfl) (fun o8 C8 X21 W8 hn_o8 hw_o8 ho_C8 hg_C8 hZ21x => hK _ _ ?_)))
    unfold Stop
    try simp only [Act.put, zzC, zzD, zzE]
    clear hZ21y
    rw [hn_sb] at hn_o8 ho_C8 hg_C8
    have hZ21 := hZ21x.perm (List.Perm.symm ((List.Perm.append_left _ List.perm_append_comm).trans (perm_mid _ _ _)))
    clear hZ21x
    clear hZ20
    have hZ22s : Fl 2 (ENr (xl k x)) (i + 1) C8 X21 W8 := Fl.snoc (C := Cb) (hZ21.get 2 (f := Fl 2 (ENr (xl k x)) i Cb) rfl) (cs := [.bool d7.b, .slice d7.a d7.n d7.c]) rfl ho_C8 hg_C8 ⟨d7, ez_d7.trans (by unfold xl; rw [if_neg hk]), (hZ21.get 0 (f := d7.ir) rfl), rfl⟩
    have hZ22 := (hZ21.more (Fl.stb (ENr.stb _) _ _) hZ22s).only [Fl 2 (ENr (xl k x)) (i + 1) C8, Fl 2 (EN (xl k x)) (i + 1) C6, Li k x l] (by simp)
    clear hZ21 hZ22s
    have hZ23 := hZ22.only [Fl 2 (EN (xl k x)) (i + 1) C6, Fl 2 (ENr (xl k x)) (i + 1) C8, Li k x l] (by simp)
    clear hZ22
    go_wp2_with (refine stop_op rfl (fun K hK => wp_addi (.tmp 13) (.const (.int .i64 1)) rfl rfl rfl (C := ((i + 1 : Nat) : Int)) (by omega) (by omega) (by omega) (hK _ _ ?_)))
    unfold Stop
    try simp only [Act.put, zzC, zzD, zzE]
    go_wp2
    go_roundw
    case rel => exact ⟨i + 1, o6, o8, C6, C8, _, by omega, by go_num, rfl, rfl, hn_o6, hw_o6, hn_o8, hw_o8, hZ23⟩
    case measure => simp [intOf]; omega
  ·
   obtain rfl : i = n := by omega
   go_wp2_with (refine stop_op rfl (fun K hK => wp_lssi (.tmp 10) (.tmp 11) rfl rfl rfl (r := false) (decide_eq_false (Int.lt_irrefl _)) (hK _ _ ?_)))
   unfold Stop
   try simp only [Act.put, zzC, zzD, zzE]
   go_wp2
   go_ret2
   exact ⟨sa, sb, rfl, ⟨hn_sa, hZ.sq hX (EN.stb _) hw_sa (T := 45) (fun p hp => List.mem_append_right _ (List.mem_append_left _ hp)) (hn_sa ▸ hZ.get 0 (f := Fl 2 (EN (xl k x)) i Ca) rfl)⟩, ⟨hn_sb, hZ.sq hX (ENr.stb _) hw_sb (T := 52) (fun p hp => List.mem_append_right _ (List.mem_append_right _ hp)) (hn_sb ▸ hZ.get 1 (f := Fl 2 (ENr (xl k x)) i Cb) rfl)⟩, hZ.below⟩
/-- A matrix, the document's, yes. -/
def PRd2 (X : Nat → Prop) (m : Nat) (R : Nat → Nat → Int) (w : World) (e : Ending) (w' : World) : Prop := ∃ a b : Sl, e = .returned (.tuple #[a.v, b.v, .bool true]) ∧ Mt m (fun _ => m) R a X w' ∧ Mr m (fun _ => m) R b X w' ∧ Below w.heap.size w w'
open Classical in
set_option maxRecDepth 100000 in
set_option maxHeartbeats 12800000 in
theorem gReadY2 {X0 : Nat → Prop} {w : World} (hX : NX X0 w) (rs : Sl) (u : Nat) {m : Nat} {c : Nat → Nat} {R : Nat → Nat → Int} (hr : Mi m c R rs X0 w) (hu12 : u ≤ 12) (hmu : m ≤ u) (hck : ∀ k, k < m → c k = m) (hR : ∀ i j, i < m → j < c i → -9223372036854775808 ≤ R i j ∧ R i j ≤ 9223372036854775807) : Calls Tryd.prog 15 #[rs.v, .int .i64 ((u : Nat) : Int)] w (PRd2 X0 m R w) := by
 have hZ0 := zs_start hX
 have hZ1 := hZ0.more (f := Mi m c R rs) (Mi.stb _ _ _ _) hr
 clear hZ0
 go_enter Tryd.func15, Tryd.ntmps15
 go_wp2_with fail
 refine ((gSquare hZ1.nx rs u (hZ1.get 0 (f := Mi m c R rs) rfl) hu12).mono (fun _ _ h => by rw [decide_eq_true ⟨hmu, hck⟩] at h; exact h)).mono ?_
 rintro zz W1 ⟨rfl, hB⟩
 have hZ2 := hZ1.later hB
 clear hB
 clear hZ1
 go_wp2_with fail
 refine ((lOf hZ2.nx rs (hZ2.get 0 (f := Mi m c R rs) rfl) (fun _ _ i j hi hj => hR i j hi (by rw [hck i hi]; exact hj))).mono (of_ok (by omega) hck)).mono ?_
 rintro zz W2 ⟨sa, rfl, hi_sa, hB⟩
 have hZ3 := hZ2.later hB
 clear hB
 clear hZ2
 have hZ4 := hZ3.more (f := Mt m (fun _ => m) R sa) (Mt.stb _ _ _ _) hi_sa
 clear hZ3
 clear hi_sa
 go_wp2_with fail
 refine (dOf hZ4.nx rs (hZ4.get 1 (f := Mi m c R rs) rfl) (by omega) (fun i hi => by rw [hck i hi]; omega) hR).mono ?_
 rintro zz W3 ⟨sb, rfl, hi_sb, hB⟩
 have hZ5 := hZ4.later hB
 clear hB
 clear hZ4
 have hZ6 := hZ5.more (f := Mr m c R sb) (Mr.stb _ _ _ _) hi_sb
 clear hZ5
 clear hi_sb
 go_wp2
 exact bodyPost_ret (v := .tuple #[sa.v, sb.v, .bool true]) (by simp [results, Tryd.results15, go_sem]) rfl ⟨sa, sb, rfl, hZ6.out 1 (f := Mt m (fun _ => m) R sa) rfl, (hZ6.out 0 (f := Mr m c R sb) rfl).congr hck (fun _ _ _ _ => rfl), hZ6.below⟩
end Go.Proofs.YtolpfibihialkaaDoor

/- What the walks of LinMakes and LinDets lean on. No statement of the seat is proved here. -/
namespace Go.Proofs.YtolpfibihialkaaDoor
open Go Go.RowKit
theorem of_long {X : Nat → Prop} {m : Nat} {cc : Nat → Nat} {R : Nat → Nat → Int} {w : World} (h1 : ¬ m ≤ 12) (e : Ending) (w' : World) (h : POfs X m cc R w e w') : PVal (.tuple #[.slice none 0 0, .int .i64 2]) w e w' := by
 rcases h with h | h | h
 ·
  exact absurd h.1 h1
 ·
  exact absurd h.2.1 h1
 ·
  exact ⟨h.1, h.2.2⟩
theorem of_arg {X : Nat → Prop} {m : Nat} {cc : Nat → Nat} {R : Nat → Nat → Int} {w : World} (h1 : m ≤ 12) (h2 : ¬ ∀ k, k < m → cc k = m) (e : Ending) (w' : World) (h : POfs X m cc R w e w') : PVal (.tuple #[.slice none 0 0, .int .i64 1]) w e w' := by
 rcases h with h | h | h
 ·
  exact absurd h.2.1 h2
 ·
  exact ⟨h.1, h.2.2.2⟩
 ·
  exact absurd h1 h.2.1
theorem pmxr_sq {X : Nat → Prop} {m : Nat} {cc : Nat → Nat} {R : Nat → Nat → Int} {w : World} (h2 : ∀ k, k < m → cc k = m) (e : Ending) (w' : World) (h : PMXr X m cc R w e w') : PMXr X m (fun _ => m) R w e w' := by
 obtain ⟨s, h1, h3, h4⟩ := h
 exact ⟨s, h1, h3.congr h2 (fun _ _ _ _ => rfl), h4⟩
section
variable {Q : Exit → Act → World → Prop} {a : Act} {W : World} {o : Oper} {next : Act → World → Prop} {p q : List UInt8}
theorem wp_sneq (x y : Operand) (T T' : TypeId) (hT : (T == 9) = true) (ho : o.op = .binOp .neq T x y T') (hx : a.eval x = .string ⟨p.toArray⟩) (hy : a.eval y = .string ⟨q.toArray⟩) {r : Bool} (hr : decide (p ≠ q) = r) (k : next (a.put o.dst (.bool r)) W) : o.wp Tryd.prog a W next Q := by
 have := eq_of_beq hT
 subst this
 subst hr
 refine wp_run ?_ k
 unfold execOp
 rw [ho]
 simp only [hx, hy]
 simp [go_sem]
 by_cases e : p = q <;> simp [e]
end
end Go.Proofs.YtolpfibihialkaaDoor
