/- Parts of the proof. -/
import Derived.Test.YtolpfibihialkaaGreatDoorGf0
import Derived.Test.YtolpfibihialkaaGreatDoorGf31
import Derived.Test.YtolpfibihialkaaGreatDoorGf33
import Derived.Test.YtolpfibihialkaaGreatDoorGf25
import Derived.Test.YtolpfibihialkaaGreatDoorGf30
import Derived.Test.YtolpfibihialkaaGreatDoorGf29
import Derived.Test.YtolpfibihialkaaGreatDoorGf32
import Derived.Test.YtolpfibihialkaaGreatDoorGf24
/- The document's Definite, walked. No statement of the seat is proved here. -/
namespace Go.Proofs.YtolpfibihialkaaGreatDoor
open Go Go.RowKit
section
variable {P : Program} {Q : Exit → Act → World → Prop} {a : Act} {W : World} {X : Nat → Prop} {o : Oper} {next : Act → World → Prop}
theorem run_cuth {t e : TypeId} {k : Nat} (ht : P.underlying t = some (.slice e)) (hk : ∀ W, (sizeOf e).run P W = .ok k W) (s : Sl) (u : Nat) (hu : u ≤ s.c) : (Instr.sliceAt t s.v none (some (.int .i64 (u : Int))) none).run P W = .ok (s.cut k 0 u).v W := by
 have h2 : (0 : Int) ≤ (u : Int) ∧ (u : Int) ≤ (s.c : Int) := ⟨by omega, by omega⟩
 simp [Instr.sliceAt, Instr.slice, Instr.sliceBounds, Instr.sliceBound, Sl.v, asIntOf, run_underlying ht, hk, Sem.run_bind, Result.andThen, Sl.cut, hu]
theorem wp_slh (t e : TypeId) (x z : Operand) (s : Sl) (u : Nat) (ho : o.op = .slice t x none (some z) none) (hx : a.eval x = s.v) (hz : a.eval z = .int .i64 (u : Int)) (ht : P.underlying t = some (.slice e)) (hk : ∀ W, (sizeOf e).run P W = .ok 2 W) {n : Nat} {f : Nat → Int} (h : Lr n f s X W) (hu : u ≤ n) (K : ∀ s' : Sl, Lr u f s' X W → next (a.put o.dst s'.v) W) : o.wp P a W next Q := by
 have hc : u ≤ s.c := by have := h.sq.cap; have := h.n; omega
 refine wp_run ?_ (K (s.cut 2 0 u) ((h.cut (Nat.zero_le u) hu).congr fun i _ => by rw [Nat.zero_add]))
 unfold execOp
 rw [ho]
 simp only [hx, hz, Option.map_some, Option.map_none, Sem.run_bind, run_cuth ht hk s u hc, Result.andThen]
 rfl
end
theorem defd_no1 {n i q : Nat} {B : Nat → Nat → Int} (hi : i < n) (hq : q ≤ i) (h : B i q ≠ B q i) : ¬ (Sym n B ∧ ∀ k, k < n → 0 < M.dt (k + 1) B) := fun k => h (k.1 i q hi (by omega))
theorem defd_no2 {n i : Nat} {B : Nat → Nat → Int} (hi : i < n) (h : M.dt (i + 1) B ≤ 0) : ¬ (Sym n B ∧ ∀ k, k < n → 0 < M.dt (k + 1) B) := fun k => by have := k.2 i hi; omega
theorem defd_yes {n : Nat} {B : Nat → Nat → Int} (h1 : ∀ x y, x < n → y ≤ x → B x y = B y x) (h2 : ∀ k, k < n → 0 < M.dt (k + 1) B) : Sym n B ∧ ∀ k, k < n → 0 < M.dt (k + 1) B := ⟨fun i j hi hj => by
 rcases Nat.le_total j i with h | h
 ·
  exact h1 i j hi h
 ·
  exact (h1 j i hj h).symm, h2⟩
open Classical in
set_option maxRecDepth 100000 in
set_option maxHeartbeats 12800000 in
theorem dDefinite {X0 : Nat → Prop} {w : World} (hX : NX X0 w) (a : Sl) {n e : Nat} {B : Nat → Nat → Int} (he1 : 1 ≤ e) (he : e ≤ 200) (hn : n ≤ 12) (ha : Mr n (fun _ => n) B a X0 w) (bB : ∀ i j, i < n → j < n → Sz e (B i j)) : Calls Tryz.prog 26 #[a.v] w (PVal (.bool (decide (Sym n B ∧ ∀ k, k < n → 0 < M.dt (k + 1) B))) w) := by
 have hZ0 := zs_start hX
 have hZ1 := hZ0.more (f := Mr n (fun _ => n) B a) (Mr.stb _ _ _ _) ha
 clear hZ0
 go_enter Tryz.func26, Tryz.ntmps26
 go_wp2
 go_loopw [3] (fun iv wr => ∃ (i : Nat) (X : Nat → Prop), i ≤ n ∧ iv = .int .i64 ((i : Nat) : Int) ∧ Hid (∀ x y, x < i → y ≤ x → B x y = B y x) ∧ Hid (∀ k, k < i → 0 < M.dt (k + 1) B) ∧ Zs w wr X0 X [] [Mr n (fun _ => n) B a]) (fun iv _ => n - (intOf iv).toNat)
 case atStart => exact ⟨0, _, by omega, rfl, Lib.hid (fun x y hx _ => absurd hx (Nat.not_lt_zero x)), Lib.hid (fun k hk => absurd hk (Nat.not_lt_zero k)), hZ1⟩
 case round =>
  clear hZ1
  obtain ⟨i, X, hi, rfl, H1, H2, hZ⟩ := hrel
  by_cases hlt : i < n
  ·
   go_wp2_with (refine stop_op rfl (fun K hK => wp_lenq (.tmp 9) 32 36 a rfl (by kernel_rfl) rfl (hZ.get 0 (f := Mr n (fun _ => n) B a) rfl).n (hK _ _ ?_)))
   unfold Stop
   try simp only [Act.put, zzC, zzD, zzE]
   go_wp2_with (refine stop_op rfl (fun K hK => wp_lssi (.tmp 8) (.tmp 10) rfl rfl rfl (r := true) (decide_eq_true (by omega)) (hK _ _ ?_)))
   unfold Stop
   try simp only [Act.put, zzC, zzD, zzE]
   go_wp2
   obtain ⟨wo, rfl⟩ : ∃ wo : World, wo = wr := ⟨_, rfl⟩
   go_wp2
   go_loopw [4, 5] (fun mv kv wr => ∃ (kk : Nat) (so : Sl) (Co : Array Value) (X : Nat → Prop), kk ≤ i + 1 ∧ kv = .int .i64 ((kk : Nat) : Int) ∧ mv = so.v ∧ so.n = kk ∧ Wr 1 so Co ∧ Hid (∀ q, q < kk → B i q = B q i) ∧ Zs w wr X0 X ([] ++ owl so Co 36) [Fl 1 (ERr (fun _ => i + 1) B) kk Co, Mr n (fun _ => n) B a]) (fun _ iv _ => i + 1 - (intOf iv).toNat)
   case atStart => exact ⟨0, slz, #[], _, by omega, rfl, rfl, rfl, wr_slz 1, Lib.hid (fun q hq => absurd hq (Nat.not_lt_zero q)), by simpa [owl, slz] using (hZ.more (f := Fl 1 (ERr (fun _ => i + 1) B) 0 #[]) (Fl.stb (ERr.stb _ _) _ _) (fl_zero 1 (ERr (fun _ => i + 1) B) #[] _ _))⟩
   case round =>
    clear hZ
    obtain ⟨kk, so, Co, Xi, hk, rfl, rfl, hn_so, hw_so, H3, hZi⟩ := hrel
    by_cases hlk : kk ≤ i
    ·
     go_wp2_with (refine stop_op rfl (fun K hK => wp_leqi (.tmp 14) (.tmp 15) rfl rfl rfl (r := true) (decide_eq_true (by omega)) (hK _ _ ?_)))
     unfold Stop
     try simp only [Act.put, zzC, zzD, zzE]
     go_wp2_with (refine stop_op rfl (fun K hK => wp_ixs 32 (.tmp 20) (.tmp 21) a kk 1 36 rfl rfl rfl (by kernel_rfl) sz36 (fun h => ((hZi.get 1 (f := Mr n (fun _ => n) B a) rfl).sq.nil h).1) ((hZi.get 1 (f := Mr n (fun _ => n) B a) rfl).n ▸ (by omega)) (hK _ _ ?_)))
     unfold Stop
     try simp only [Act.put, zzC, zzD, zzE]
     go_wp2_with (refine stop_op rfl (fun K hK => wp_ldmr 36 (.tmp 22) a kk n (fun _ => n) B rfl rfl (hZi.get 1 (f := Mr n (fun _ => n) B a) rfl) (by omega) ag36 (fun s1 hi_s1 => hK _ _ ?_)))
     unfold Stop
     try simp only [Act.put, zzC, zzD, zzE]
     have hZ2 := hZi.more (f := Lr n (B kk) s1) (Lr.stb _ _ _) hi_s1
     clear hZi
     clear hi_s1
     go_wp2_with (refine stop_op rfl (fun K hK => wp_addi (.tmp 24) (.const (.int .i64 1)) rfl rfl rfl (C := ((i + 1 : Nat) : Int)) (by omega) (by omega) (by omega) (hK _ _ ?_)))
     unfold Stop
     try simp only [Act.put, zzC, zzD, zzE]
     go_wp2_with (refine stop_op rfl (fun K hK => wp_slh 36 56 (.tmp 23) (.tmp 25) s1 (i + 1) rfl rfl rfl (by kernel_rfl) sz56 (hZ2.get 0 (f := Lr n (B kk) s1) rfl) (by omega) (fun s2 hi_s2 => hK _ _ ?_)))
     unfold Stop
     try simp only [Act.put, zzC, zzD, zzE]
     have hZ3 := hZ2.more (f := Lr (i + 1) (B kk) s2) (Lr.stb _ _ _) hi_s2
     clear hZ2
     clear hi_s2
     go_wp2_with (refine stop_op rfl (fun K hK => wp_bs1 ei32 (.tmp 26) rfl rfl rfl (hK _ _ ?_)))
     unfold Stop
     try simp only [Act.put, zzC, zzD, zzE]
     have hZ4 := hZ3.later (below_new _ (.cells #[s2.v] 36))
     clear hZ3
     have hZ5y := hZ4.perm List.perm_append_comm
     go_wp2_with (refine stop_op rfl (fun K hK => wp_app ei32 (.tmp 19) (.tmp 27) rfl (s := so) rfl ⟨wr.heap.size, 0, none⟩ 1 rfl hw_so (by rw [hn_so]; omega) hZ5y [s2.v] rfl (cell_one _ s2.v _) (fun u hu => by simp only [List.mem_cons, List.not_mem_nil, or_false] at hu; subst hu; rfl) (fun o3 C3 X5 W1 hn_o3 hw_o3 ho_C3 hg_C3 hZ5x => hK _ _ ?_)))
     unfold Stop
     try simp only [Act.put, zzC, zzD, zzE]
     clear hZ5y
     rw [hn_so] at hn_o3 ho_C3 hg_C3
     have hZ5 := hZ5x.perm List.perm_append_comm
     clear hZ5x
     clear hZ4
     have hZ6s : Fl 1 (ERr (fun _ => i + 1) B) (kk + 1) C3 X5 W1 := Fl.snoc (C := Co) (hZ5.get 2 (f := Fl 1 (ERr (fun _ => i + 1) B) kk Co) rfl) (cs := [s2.v]) rfl ho_C3 hg_C3 ⟨s2, (hZ5.get 0 (f := Lr (i + 1) (B kk) s2) rfl), rfl⟩
     have hZ6 := (hZ5.more (Fl.stb (ERr.stb _ _) _ _) hZ6s).only [Fl 1 (ERr (fun _ => i + 1) B) (kk + 1) C3, Mr n (fun _ => n) B a] (by simp)
     clear hZ5 hZ6s
     go_wp2
     have hM : Zs w W1.drew X0 X5 ([] ++ owl o3 C3 36) [Fl 1 (ERr (fun _ => i + 1) B) (kk + 1) C3, Mr n (fun _ => n) B a] ∧ Below W1.heap.size W1 W1.drew := ⟨hZ6.later (Below.refl _ _).drew, (Below.refl _ _).drew⟩
     clear hZ6
     have hVS9 : ∀ k, k ∈ ([veq (a.v), veq (.int .i64 (((i : Nat) : Int))), veq ((a.at 1 i)), vlsr n (B i), veq (.int .i64 (((kk : Nat) : Int))), vatr n (B i) kk, vnumr (B i kk), veq (a.v), veq (.int .i64 (((kk : Nat) : Int))), veq ((a.at 1 kk)), vlsr n (B kk), veq (.int .i64 (((i : Nat) : Int))), vatr n (B kk) i, vnumr (B kk i), veq (.int .i64 ((cmpI (B i kk) (B kk i))))] : List VF) → VSt k := by
      intro k hk
      simp only [List.mem_cons, List.not_mem_nil, or_false] at hk
      rcases hk with rfl | rfl | rfl | rfl | rfl | rfl | rfl | rfl | rfl | rfl | rfl | rfl | rfl | rfl | rfl
      ·
       exact veq_st _
      ·
       exact veq_st _
      ·
       exact veq_st _
      ·
       exact vls_str _ _
      ·
       exact veq_st _
      ·
       exact vat_str _ _ _
      ·
       exact vnum_str _
      ·
       exact veq_st _
      ·
       exact veq_st _
      ·
       exact veq_st _
      ·
       exact vls_str _ _
      ·
       exact veq_st _
      ·
       exact vat_str _ _ _
      ·
       exact vnum_str _
      ·
       exact veq_st _
     refine wp_region_q 15 [some 29, some 30, some 31, some 32, some 33, some 34, some 35, some 36, some 37, some 38, some 39, some 40, some 41, some 42, some 43] (vzL [veq (a.v), veq (.int .i64 (((i : Nat) : Int))), veq ((a.at 1 i)), vlsr n (B i), veq (.int .i64 (((kk : Nat) : Int))), vatr n (B i) kk, vnumr (B i kk), veq (a.v), veq (.int .i64 (((kk : Nat) : Int))), veq ((a.at 1 kk)), vlsr n (B kk), veq (.int .i64 (((i : Nat) : Int))), vatr n (B kk) i, vnumr (B kk i), veq (.int .i64 ((cmpI (B i kk) (B kk i))))] X5) (fun W => Zs w W X0 X5 ([] ++ owl o3 C3 36) [Fl 1 (ERr (fun _ => i + 1) B) (kk + 1) C3, Mr n (fun _ => n) B a] ∧ Below W1.heap.size W1 W) (by kernel_rfl) (by kernel_rfl) (by rfl) (by decide) (by rfl) hM ?_ ?_
     ·
      intro i hl hi LL uu ww aa hLi hLc hJ hd hev hin hold
      clear hM
      obtain ⟨hJ, hJb⟩ := hJ
      obtain rfl | rfl | rfl | rfl | rfl | rfl | rfl | rfl | rfl | rfl | rfl | rfl | rfl | rfl | rfl : i = 0 ∨ i = 1 ∨ i = 2 ∨ i = 3 ∨ i = 4 ∨ i = 5 ∨ i = 6 ∨ i = 7 ∨ i = 8 ∨ i = 9 ∨ i = 10 ∨ i = 11 ∨ i = 12 ∨ i = 13 ∨ i = 14 := by omega
      ·
       exact .inr ⟨rfl, fun K' hK => wp_move (.tmp 0) rfl (eval_tmp ((hev 0 (by decide)).trans rfl)) (hK _ _ ⟨hJ, hJb⟩ rfl vzL_same)⟩
      ·
       exact .inr ⟨rfl, fun K' hK => wp_move (.tmp 3) rfl (eval_tmp ((hev 3 (by decide)).trans rfl)) (hK _ _ ⟨hJ, hJb⟩ rfl vzL_same)⟩
      ·
       exact .inr ⟨rfl, fun K' hK => wp_ixs 32 (.tmp 29) (.tmp 30) a i 1 36 rfl (eval_tmp ((hin 0 29 rfl).trans (congrArg some (show uu 0 = a.v from hd 0 (by decide) (by kernel_rfl))))) (eval_tmp ((hin 1 30 rfl).trans (congrArg some (show uu 1 = .int .i64 (((i : Nat) : Int)) from hd 1 (by decide) (by kernel_rfl))))) (by kernel_rfl) sz36 (fun h => ((hJ.get 1 (f := Mr n (fun _ => n) B a) rfl).sq.nil h).1) ((hJ.get 1 (f := Mr n (fun _ => n) B a) rfl).n ▸ (by omega)) (hK _ _ ⟨hJ, hJb⟩ rfl vzL_same)⟩
      ·
       exact .inr ⟨rfl, fun K' hK => wp_ldmr 36 (.tmp 31) a i n (fun _ => n) B rfl (eval_tmp ((hin 2 31 rfl).trans (congrArg some (show uu 2 = (a.at 1 i) from hd 2 (by decide) (by kernel_rfl))))) (hJ.get 1 (f := Mr n (fun _ => n) B a) rfl) (by omega) ag36 (fun s4 hi_s4 => hK _ _ ⟨hJ, hJb⟩ ⟨s4, rfl, hi_s4⟩ vzL_same)⟩
      ·
       exact .inr ⟨rfl, fun K' hK => wp_move (.tmp 5) rfl (eval_tmp ((hev 5 (by decide)).trans rfl)) (hK _ _ ⟨hJ, hJb⟩ rfl vzL_same)⟩
      ·
       obtain ⟨s4, e3, hi_s4⟩ := (show (vlsr n (B i)) (uu 3) X5 ww from hd 3 (by decide) (by kernel_rfl))
       replace hJ := hJ.more (f := Lr n (B i) s4) (Lr.stb _ _ _) hi_s4
       exact .inr ⟨rfl, fun K' hK => wp_ixs 36 (.tmp 32) (.tmp 33) s4 kk 2 56 rfl (eval_tmp ((hin 3 32 rfl).trans (congrArg some e3))) (eval_tmp ((hin 4 33 rfl).trans (congrArg some (show uu 4 = .int .i64 (((kk : Nat) : Int)) from hd 4 (by decide) (by kernel_rfl))))) (by kernel_rfl) sz56 (fun h => ((hJ.get 0 (f := Lr n (B i) s4) rfl).sq.nil h).1) ((hJ.get 0 (f := Lr n (B i) s4) rfl).n ▸ (by omega)) (hK _ _ ⟨(hJ.only [Fl 1 (ERr (fun _ => i + 1) B) (kk + 1) C3, Mr n (fun _ => n) B a] (by simp)), hJb⟩ ⟨s4, rfl, hi_s4⟩ vzL_same)⟩
      ·
       obtain ⟨s4, e5, hi_s4⟩ := (show (vatr n (B i) kk) (uu 5) X5 ww from hd 5 (by decide) (by kernel_rfl))
       replace hJ := hJ.more (f := Lr n (B i) s4) (Lr.stb _ _ _) hi_s4
       exact .inr ⟨rfl, fun K' hK => wp_ldnr 56 (.tmp 34) s4 kk n (B i) rfl (eval_tmp ((hin 5 34 rfl).trans (congrArg some e5))) (hJ.get 0 (f := Lr n (B i) s4) rfl) (by omega) ag56 sz56 (fun q5 ez_q5 hi_q5 => hK _ _ ⟨(hJ.only [Fl 1 (ERr (fun _ => i + 1) B) (kk + 1) C3, Mr n (fun _ => n) B a] (by simp)), hJb⟩ ⟨q5, rfl, ez_q5, hi_q5⟩ vzL_same)⟩
      ·
       exact .inr ⟨rfl, fun K' hK => wp_move (.tmp 0) rfl (eval_tmp ((hev 0 (by decide)).trans rfl)) (hK _ _ ⟨hJ, hJb⟩ rfl vzL_same)⟩
      ·
       exact .inr ⟨rfl, fun K' hK => wp_move (.tmp 5) rfl (eval_tmp ((hev 5 (by decide)).trans rfl)) (hK _ _ ⟨hJ, hJb⟩ rfl vzL_same)⟩
      ·
       exact .inr ⟨rfl, fun K' hK => wp_ixs 32 (.tmp 36) (.tmp 37) a kk 1 36 rfl (eval_tmp ((hin 7 36 rfl).trans (congrArg some (show uu 7 = a.v from hd 7 (by decide) (by kernel_rfl))))) (eval_tmp ((hin 8 37 rfl).trans (congrArg some (show uu 8 = .int .i64 (((kk : Nat) : Int)) from hd 8 (by decide) (by kernel_rfl))))) (by kernel_rfl) sz36 (fun h => ((hJ.get 1 (f := Mr n (fun _ => n) B a) rfl).sq.nil h).1) ((hJ.get 1 (f := Mr n (fun _ => n) B a) rfl).n ▸ (by omega)) (hK _ _ ⟨hJ, hJb⟩ rfl vzL_same)⟩
      ·
       exact .inr ⟨rfl, fun K' hK => wp_ldmr 36 (.tmp 38) a kk n (fun _ => n) B rfl (eval_tmp ((hin 9 38 rfl).trans (congrArg some (show uu 9 = (a.at 1 kk) from hd 9 (by decide) (by kernel_rfl))))) (hJ.get 1 (f := Mr n (fun _ => n) B a) rfl) (by omega) ag36 (fun s6 hi_s6 => hK _ _ ⟨hJ, hJb⟩ ⟨s6, rfl, hi_s6⟩ vzL_same)⟩
      ·
       exact .inr ⟨rfl, fun K' hK => wp_move (.tmp 3) rfl (eval_tmp ((hev 3 (by decide)).trans rfl)) (hK _ _ ⟨hJ, hJb⟩ rfl vzL_same)⟩
      ·
       obtain ⟨s6, e10, hi_s6⟩ := (show (vlsr n (B kk)) (uu 10) X5 ww from hd 10 (by decide) (by kernel_rfl))
       replace hJ := hJ.more (f := Lr n (B kk) s6) (Lr.stb _ _ _) hi_s6
       exact .inr ⟨rfl, fun K' hK => wp_ixs 36 (.tmp 39) (.tmp 40) s6 i 2 56 rfl (eval_tmp ((hin 10 39 rfl).trans (congrArg some e10))) (eval_tmp ((hin 11 40 rfl).trans (congrArg some (show uu 11 = .int .i64 (((i : Nat) : Int)) from hd 11 (by decide) (by kernel_rfl))))) (by kernel_rfl) sz56 (fun h => ((hJ.get 0 (f := Lr n (B kk) s6) rfl).sq.nil h).1) ((hJ.get 0 (f := Lr n (B kk) s6) rfl).n ▸ (by omega)) (hK _ _ ⟨(hJ.only [Fl 1 (ERr (fun _ => i + 1) B) (kk + 1) C3, Mr n (fun _ => n) B a] (by simp)), hJb⟩ ⟨s6, rfl, hi_s6⟩ vzL_same)⟩
      ·
       obtain ⟨s6, e12, hi_s6⟩ := (show (vatr n (B kk) i) (uu 12) X5 ww from hd 12 (by decide) (by kernel_rfl))
       replace hJ := hJ.more (f := Lr n (B kk) s6) (Lr.stb _ _ _) hi_s6
       exact .inr ⟨rfl, fun K' hK => wp_ldnr 56 (.tmp 41) s6 i n (B kk) rfl (eval_tmp ((hin 12 41 rfl).trans (congrArg some e12))) (hJ.get 0 (f := Lr n (B kk) s6) rfl) (by omega) ag56 sz56 (fun q7 ez_q7 hi_q7 => hK _ _ ⟨(hJ.only [Fl 1 (ERr (fun _ => i + 1) B) (kk + 1) C3, Mr n (fun _ => n) B a] (by simp)), hJb⟩ ⟨q7, rfl, ez_q7, hi_q7⟩ vzL_same)⟩
      ·
       obtain ⟨q5, e6, ez_q5, hi_q5⟩ := (show (vnumr (B i kk)) (uu 6) X5 ww from hd 6 (by decide) (by kernel_rfl))
       obtain ⟨q7, e13, ez_q7, hi_q7⟩ := (show (vnumr (B kk i)) (uu 13) X5 ww from hd 13 (by decide) (by kernel_rfl))
       replace hJ := hJ.more (f := q5.ir) q5.stbr hi_q5
       replace hJ := hJ.more (f := q7.ir) q7.stbr hi_q7
       refine .inr ⟨rfl, fun K' hK => ?_⟩
       refine wp_callz (.func 61) #[.tmp 35, .tmp 42] #[56, 56] 61 #[] #[q5.v, q7.v] _ rfl rfl (map2 (eval_tmp ((hin 6 35 rfl).trans (congrArg some e6))) (eval_tmp ((hin 13 42 rfl).trans (congrArg some e13)))) rfl (fun _ _ => rfl) (zCmpr (hJ.get 1 (f := q5.ir) rfl) (hJ.get 0 (f := q7.ir) rfl) ez_q5 ez_q7) ?_
       rintro zz ww2 ⟨rfl, hB⟩
       exact ⟨_, rfl, hK _ _ ⟨(hJ.only [Fl 1 (ERr (fun _ => i + 1) B) (kk + 1) C3, Mr n (fun _ => n) B a] (by simp)).later hB, hJb.trans (hB.mono hJb.size)⟩ rfl (vzL_later hVS9 hB)⟩
     clear hM
     intro uu W2 hZ7p hd
     obtain ⟨hZ7, hb9⟩ := hZ7p
     have e_0 : uu 0 = a.v := hd 0 (by decide)
     have e_1 : uu 1 = .int .i64 (((i : Nat) : Int)) := hd 1 (by decide)
     have e_2 : uu 2 = (a.at 1 i) := hd 2 (by decide)
     obtain ⟨s4, e_3, hi_s4⟩ := (show (vlsr n (B i)) (uu 3) X5 W2 from hd 3 (by decide))
     have e_4 : uu 4 = .int .i64 (((kk : Nat) : Int)) := hd 4 (by decide)
     obtain ⟨s4_5, e_5, hi_s4_5⟩ := (show (vatr n (B i) kk) (uu 5) X5 W2 from hd 5 (by decide))
     obtain ⟨q5, e_6, ez_q5, hi_q5⟩ := (show (vnumr (B i kk)) (uu 6) X5 W2 from hd 6 (by decide))
     have e_7 : uu 7 = a.v := hd 7 (by decide)
     have e_8 : uu 8 = .int .i64 (((kk : Nat) : Int)) := hd 8 (by decide)
     have e_9 : uu 9 = (a.at 1 kk) := hd 9 (by decide)
     obtain ⟨s6, e_10, hi_s6⟩ := (show (vlsr n (B kk)) (uu 10) X5 W2 from hd 10 (by decide))
     have e_11 : uu 11 = .int .i64 (((i : Nat) : Int)) := hd 11 (by decide)
     obtain ⟨s6_12, e_12, hi_s6_12⟩ := (show (vatr n (B kk) i) (uu 12) X5 W2 from hd 12 (by decide))
     obtain ⟨q7, e_13, ez_q7, hi_q7⟩ := (show (vnumr (B kk i)) (uu 13) X5 W2 from hd 13 (by decide))
     have e_14 : uu 14 = .int .i64 ((cmpI (B i kk) (B kk i))) := hd 14 (by decide)
     clear hd hVS9
     simp only [layS, Act.put, zzC, zzD, zzE, Nat.zero_add, Nat.reduceAdd, List.drop_succ_cons, List.drop_zero, List.drop_nil, e_0, e_1, e_2, e_3, e_4, e_5, e_6, e_7, e_8, e_9, e_10, e_11, e_12, e_13, e_14]
     clear e_0 e_1 e_2 e_3 e_4 e_5 e_6 e_7 e_8 e_9 e_10 e_11 e_12 e_13 e_14
     have hZ8 := hZ7.more (f := Lr n (B i) s4) (Lr.stb _ _ _) hi_s4
     clear hZ7
     clear hi_s4
     have hZ9 := hZ8.more (f := Lr n (B i) s4_5) (Lr.stb _ _ _) hi_s4_5
     clear hZ8
     clear hi_s4_5
     have hZ10 := hZ9.more (f := q5.ir) q5.stbr hi_q5
     clear hZ9
     clear hi_q5
     have hZ11 := hZ10.more (f := Lr n (B kk) s6) (Lr.stb _ _ _) hi_s6
     clear hZ10
     clear hi_s6
     have hZ12 := hZ11.more (f := Lr n (B kk) s6_12) (Lr.stb _ _ _) hi_s6_12
     clear hZ11
     clear hi_s6_12
     have hZ13 := hZ12.more (f := q7.ir) q7.stbr hi_q7
     clear hZ12
     clear hi_q7
     have hZ14 := hZ13.only [Fl 1 (ERr (fun _ => i + 1) B) (kk + 1) C3, Mr n (fun _ => n) B a] (by simp)
     clear hZ13
     by_cases hq : B i kk = B kk i
     ·
      have HQ := Lib.hid hq
      clear hq
      go_wp2_with (refine stop_op rfl (fun K hK => wp_neqi (.tmp 44) (.const (.int .i64 0)) 3 3 rfl rfl rfl rfl (r := false) (decide_eq_false (by rw [cmpI_ne]; exact fun h => h HQ.out)) (hK _ _ ?_)))
      unfold Stop
      try simp only [Act.put, zzC, zzD, zzE]
      go_wp2_with (refine stop_op rfl (fun K hK => wp_addi (.tmp 17) (.const (.int .i64 1)) rfl rfl rfl (C := ((kk + 1 : Nat) : Int)) (by omega) (by omega) (by omega) (hK _ _ ?_)))
      unfold Stop
      try simp only [Act.put, zzC, zzD, zzE]
      go_wp2
      go_roundw
      case rel => exact ⟨kk + 1, o3, C3, _, by omega, by go_num, rfl, hn_o3, hw_o3, Lib.hid (fun q hq => by
        by_cases e : q = kk
        ·
         rw [e]; exact HQ.out
        ·
         exact H3.out q (by omega)), hZ14⟩
      case measure => simp [intOf]; omega
     ·
      have HQ := Lib.hid hq
      clear hq
      go_wp2_with (refine stop_op rfl (fun K hK => wp_neqi (.tmp 44) (.const (.int .i64 0)) 3 3 rfl rfl rfl rfl (r := true) (decide_eq_true (by rw [cmpI_ne]; exact HQ.out)) (hK _ _ ?_)))
      unfold Stop
      try simp only [Act.put, zzC, zzD, zzE]
      go_wp2
      go_ret
      refine ⟨?_, hZ14.below⟩
      rw [show decide (Sym n B ∧ ∀ k, k < n → 0 < M.dt (k + 1) B) = false from decide_eq_false (defd_no1 hlt hlk HQ.out)]
      rfl
    ·
     obtain rfl : kk = i + 1 := by omega
     go_wp2_with (refine stop_op rfl (fun K hK => wp_leqi (.tmp 14) (.tmp 15) rfl rfl rfl (r := false) (decide_eq_false (by omega)) (hK _ _ ?_)))
     unfold Stop
     try simp only [Act.put, zzC, zzD, zzE]
     have hZ15r := (hZi.get 0 (f := Fl 1 (ERr (fun _ => i + 1) B) (i + 1) Co) rfl)
     obtain ⟨X16, hZ16⟩ := Zs.tellm (hZi.perm List.perm_append_comm) hX hw_so hn_so hZ15r
     clear hZi
     clear hZ15r
     go_wp2_with fail
     refine (dDet (e := e) he1 he (i + 1) (by omega) _ _ hZ16.nx so _ (hZ16.get 0 (f := Mr (i + 1) (fun _ => i + 1) B so) rfl) (fun x y hx hy => bB x y (by omega) (by omega))).mono ?_
     rintro zz W3 ⟨q8, rfl, ez_q8, hi_q8, hB⟩
     have hZ17 := hZ16.later hB
     clear hB
     clear hZ16
     have hZ18 := hZ17.more (f := q8.ir) q8.stbr hi_q8
     clear hZ17
     clear hi_q8
     go_wp2_with fail
     refine (zSignr (hZ18.get 0 (f := q8.ir) rfl) ez_q8).mono ?_
     rintro zz W4 ⟨rfl, hB⟩
     have hZ19 := hZ18.later hB
     clear hB
     clear hZ18
     have hZ20 := hZ19.only [Mr n (fun _ => n) B a] (by simp)
     clear hZ19
     by_cases hd : M.dt (i + 1) B ≤ 0
     ·
      have HD := Lib.hid hd
      clear hd
      go_wp2_with (refine stop_op rfl (fun K hK => wp_leqi (.tmp 49) (.const (.int .i64 0)) rfl rfl rfl (r := true) (decide_eq_true (by rw [sgnI_pos]; have := HD.out; omega)) (hK _ _ ?_)))
      unfold Stop
      try simp only [Act.put, zzC, zzD, zzE]
      go_wp2
      go_ret
      refine ⟨?_, hZ20.below⟩
      rw [show decide (Sym n B ∧ ∀ k, k < n → 0 < M.dt (k + 1) B) = false from decide_eq_false (defd_no2 hlt HD.out)]
      rfl
     ·
      have HD := Lib.hid hd
      clear hd
      go_wp2_with (refine stop_op rfl (fun K hK => wp_leqi (.tmp 49) (.const (.int .i64 0)) rfl rfl rfl (r := false) (decide_eq_false (by rw [sgnI_pos]; have := HD.out; omega)) (hK _ _ ?_)))
      unfold Stop
      try simp only [Act.put, zzC, zzD, zzE]
      go_wp2_with (refine stop_op rfl (fun K hK => wp_addi (.tmp 12) (.const (.int .i64 1)) rfl rfl rfl (C := ((i + 1 : Nat) : Int)) (by omega) (by omega) (by omega) (hK _ _ ?_)))
      unfold Stop
      try simp only [Act.put, zzC, zzD, zzE]
      go_wp2
      go_roundw
      case rel => exact ⟨i + 1, _, by omega, by go_num, Lib.hid (fun x y hx hy => by
        by_cases e : x = i
        ·
         rw [e]; exact H3.out y (by omega)
        ·
         exact H1.out x y (by omega) hy), Lib.hid (fun k hk => by
        by_cases e : k = i
        ·
         rw [e]; have := HD.out; omega
        ·
         exact H2.out k (by omega)), hZ20⟩
      case measure => simp [intOf]; omega
  ·
   obtain rfl : n = i := by omega
   go_wp2_with (refine stop_op rfl (fun K hK => wp_lenq (.tmp 9) 32 36 a rfl (by kernel_rfl) rfl (hZ.get 0 (f := Mr n (fun _ => n) B a) rfl).n (hK _ _ ?_)))
   unfold Stop
   try simp only [Act.put, zzC, zzD, zzE]
   go_wp2_with (refine stop_op rfl (fun K hK => wp_lssi (.tmp 8) (.tmp 10) rfl rfl rfl (r := false) (decide_eq_false (Int.lt_irrefl _)) (hK _ _ ?_)))
   unfold Stop
   try simp only [Act.put, zzC, zzD, zzE]
   go_wp2
   go_ret
   refine ⟨?_, hZ.below⟩
   rw [show decide (Sym n B ∧ ∀ k, k < n → 0 < M.dt (k + 1) B) = true from decide_eq_true (defd_yes H1.out H2.out)]
   rfl
end Go.Proofs.YtolpfibihialkaaGreatDoor

/- The law LinReckons of layer 7, walked: one way of it. No statement of the seat is proved here. -/
namespace Go.Proofs.YtolpfibihialkaaGreatDoor
open Go Go.RowKit
open Classical in
set_option maxRecDepth 100000 in
set_option maxHeartbeats 25600000 in
theorem lrk1 {X0 : Nat → Prop} {w : World} (hX : NX X0 w) (ra rb l : Sl) (ma mb kl : Nat) (ca cb : Nat → Nat) (Ra Rb : Nat → Nat → Int) (xl_ : Nat → Int) (hra : Mi ma ca Ra ra X0 w) (hrb : Mi mb cb Rb rb X0 w) (hl_ : Li kl xl_ l X0 w) (rga0 : ∀ i j, i < ma → j < ca i → -9223372036854775808 ≤ Ra i j ∧ Ra i j ≤ 9223372036854775807) (rgb0 : ∀ i j, i < mb → j < cb i → -9223372036854775808 ≤ Rb i j ∧ Rb i j ≤ 9223372036854775807) (rgl0 : ∀ i, i < kl → -9223372036854775808 ≤ xl_ i ∧ xl_ i ≤ 9223372036854775807) (ha : ¬ (ma ≤ 5 ∧ ∀ k, k < ma → ca k = ma)) : Calls Tryz.prog 4 #[ra.v, rb.v, l.v] w (PVal (.bool true) w) := by
 have rga := Lib.hid rga0
 clear rga0
 have rgb := Lib.hid rgb0
 clear rgb0
 have rgl := Lib.hid rgl0
 clear rgl0
 have hZ0 := zs_start hX
 have hZ1 := hZ0.more (f := Li kl xl_ l) (Li.stb _ _ _) hl_
 clear hZ0
 have hZ2 := hZ1.more (f := Mi mb cb Rb rb) (Mi.stb _ _ _ _) hrb
 clear hZ1
 have hZ3 := hZ2.more (f := Mi ma ca Ra ra) (Mi.stb _ _ _ _) hra
 clear hZ2
 go_enter Tryz.func4, Tryz.ntmps4
 go_wp2_with fail
 refine (gAwake hZ3.nx).mono ?_
 rintro zz W1 ⟨rfl, hB⟩
 have hZ4 := hZ3.later hB
 clear hB
 clear hZ3
 go_wp2_with fail
 refine (gReadN hZ4.nx ra 5 (hZ4.get 0 (f := Mi ma ca Ra ra) rfl) (by omega) ha).mono ?_
 rintro zz W2 ⟨rfl, hB⟩
 have hZ5 := hZ4.later hB
 clear hB
 clear hZ4
 go_wp2_with fail
 refine (gReadD hZ5.nx rb 5 (hZ5.get 1 (f := Mi mb cb Rb rb) rfl) (by omega) rgb.out).mono ?_
 rintro zz W3 ⟨s1, s1r, t1, rfl, hB⟩
 have hZ6 := hZ5.later hB
 clear hB
 clear hZ5
 go_wp2
 go_ret
 exact ⟨rfl, hZ6.below⟩
end Go.Proofs.YtolpfibihialkaaGreatDoor

/- The law LinReckons of layer 7, walked: one way of it. No statement of the seat is proved here. -/
namespace Go.Proofs.YtolpfibihialkaaGreatDoor
open Go Go.RowKit
open Classical in
set_option maxRecDepth 100000 in
set_option maxHeartbeats 25600000 in
theorem lrk2 {X0 : Nat → Prop} {w : World} (hX : NX X0 w) (ra rb l : Sl) (ma mb kl : Nat) (ca cb : Nat → Nat) (Ra Rb : Nat → Nat → Int) (xl_ : Nat → Int) (hra : Mi ma ca Ra ra X0 w) (hrb : Mi mb cb Rb rb X0 w) (hl_ : Li kl xl_ l X0 w) (rga0 : ∀ i j, i < ma → j < ca i → -9223372036854775808 ≤ Ra i j ∧ Ra i j ≤ 9223372036854775807) (rgb0 : ∀ i j, i < mb → j < cb i → -9223372036854775808 ≤ Rb i j ∧ Rb i j ≤ 9223372036854775807) (rgl0 : ∀ i, i < kl → -9223372036854775808 ≤ xl_ i ∧ xl_ i ≤ 9223372036854775807) (ha : (ma ≤ 5 ∧ ∀ k, k < ma → ca k = ma)) (hb : ¬ (mb ≤ 5 ∧ ∀ k, k < mb → cb k = mb)) : Calls Tryz.prog 4 #[ra.v, rb.v, l.v] w (PVal (.bool true) w) := by
 have rga := Lib.hid rga0
 clear rga0
 have rgb := Lib.hid rgb0
 clear rgb0
 have rgl := Lib.hid rgl0
 clear rgl0
 have hZ0 := zs_start hX
 have hZ1 := hZ0.more (f := Li kl xl_ l) (Li.stb _ _ _) hl_
 clear hZ0
 have hZ2 := hZ1.more (f := Mi mb cb Rb rb) (Mi.stb _ _ _ _) hrb
 clear hZ1
 have hZ3 := hZ2.more (f := Mi ma ca Ra ra) (Mi.stb _ _ _ _) hra
 clear hZ2
 go_enter Tryz.func4, Tryz.ntmps4
 go_wp2_with fail
 refine (gAwake hZ3.nx).mono ?_
 rintro zz W1 ⟨rfl, hB⟩
 have hZ4 := hZ3.later hB
 clear hB
 clear hZ3
 go_wp2_with fail
 refine (gReadY2 hZ4.nx ra 5 (hZ4.get 0 (f := Mi ma ca Ra ra) rfl) (by omega) ha.1 ha.2 rga.out).mono ?_
 rintro zz W2 ⟨s1, d1, rfl, hi_s1, hi_d1, hB⟩
 have hZ5 := hZ4.later hB
 clear hB
 clear hZ4
 have hZ6 := hZ5.more (f := Mt ma (fun _ => ma) Ra s1) (Mt.stb _ _ _ _) hi_s1
 clear hZ5
 clear hi_s1
 have hZ7 := hZ6.more (f := Mr ma (fun _ => ma) Ra d1) (Mr.stb _ _ _ _) hi_d1
 clear hZ6
 clear hi_d1
 go_wp2_with fail
 refine (gReadN hZ7.nx rb 5 (hZ7.get 3 (f := Mi mb cb Rb rb) rfl) (by omega) hb).mono ?_
 rintro zz W3 ⟨rfl, hB⟩
 have hZ8 := hZ7.later hB
 clear hB
 clear hZ7
 go_wp2
 go_ret
 exact ⟨rfl, hZ8.below⟩
end Go.Proofs.YtolpfibihialkaaGreatDoor

/- The law LinReckons of layer 7, walked: one way of it. No statement of the seat is proved here. -/
namespace Go.Proofs.YtolpfibihialkaaGreatDoor
open Go Go.RowKit
open Classical in
set_option maxRecDepth 100000 in
set_option maxHeartbeats 25600000 in
theorem lrk3 {X0 : Nat → Prop} {w : World} (hX : NX X0 w) (ra rb l : Sl) (ma mb kl : Nat) (ca cb : Nat → Nat) (Ra Rb : Nat → Nat → Int) (xl_ : Nat → Int) (hra : Mi ma ca Ra ra X0 w) (hrb : Mi mb cb Rb rb X0 w) (hl_ : Li kl xl_ l X0 w) (rga0 : ∀ i j, i < ma → j < ca i → -9223372036854775808 ≤ Ra i j ∧ Ra i j ≤ 9223372036854775807) (rgb0 : ∀ i j, i < mb → j < cb i → -9223372036854775808 ≤ Rb i j ∧ Rb i j ≤ 9223372036854775807) (rgl0 : ∀ i, i < kl → -9223372036854775808 ≤ xl_ i ∧ xl_ i ≤ 9223372036854775807) (ha : (ma ≤ 5 ∧ ∀ k, k < ma → ca k = ma)) (hb : (mb ≤ 5 ∧ ∀ k, k < mb → cb k = mb)) (eab : ¬ ma = mb) : Calls Tryz.prog 4 #[ra.v, rb.v, l.v] w (PVal (.bool true) w) := by
 have rga := Lib.hid rga0
 clear rga0
 have rgb := Lib.hid rgb0
 clear rgb0
 have rgl := Lib.hid rgl0
 clear rgl0
 have hZ0 := zs_start hX
 have hZ1 := hZ0.more (f := Li kl xl_ l) (Li.stb _ _ _) hl_
 clear hZ0
 have hZ2 := hZ1.more (f := Mi mb cb Rb rb) (Mi.stb _ _ _ _) hrb
 clear hZ1
 have hZ3 := hZ2.more (f := Mi ma ca Ra ra) (Mi.stb _ _ _ _) hra
 clear hZ2
 go_enter Tryz.func4, Tryz.ntmps4
 go_wp2_with fail
 refine (gAwake hZ3.nx).mono ?_
 rintro zz W1 ⟨rfl, hB⟩
 have hZ4 := hZ3.later hB
 clear hB
 clear hZ3
 go_wp2_with fail
 refine (gReadY2 hZ4.nx ra 5 (hZ4.get 0 (f := Mi ma ca Ra ra) rfl) (by omega) ha.1 ha.2 rga.out).mono ?_
 rintro zz W2 ⟨s1, d1, rfl, hi_s1, hi_d1, hB⟩
 have hZ5 := hZ4.later hB
 clear hB
 clear hZ4
 have hZ6 := hZ5.more (f := Mt ma (fun _ => ma) Ra s1) (Mt.stb _ _ _ _) hi_s1
 clear hZ5
 clear hi_s1
 have hZ7 := hZ6.more (f := Mr ma (fun _ => ma) Ra d1) (Mr.stb _ _ _ _) hi_d1
 clear hZ6
 clear hi_d1
 go_wp2_with fail
 refine (gReadY2 hZ7.nx rb 5 (hZ7.get 3 (f := Mi mb cb Rb rb) rfl) (by omega) hb.1 hb.2 rgb.out).mono ?_
 rintro zz W3 ⟨s2, d2, rfl, hi_s2, hi_d2, hB⟩
 have hZ8 := hZ7.later hB
 clear hB
 clear hZ7
 have hZ9 := hZ8.more (f := Mt mb (fun _ => mb) Rb s2) (Mt.stb _ _ _ _) hi_s2
 clear hZ8
 clear hi_s2
 have hZ10 := hZ9.more (f := Mr mb (fun _ => mb) Rb d2) (Mr.stb _ _ _ _) hi_d2
 clear hZ9
 clear hi_d2
 go_wp2_with (refine stop_opw (by kernel_rfl) (fun K hK => wp_lenq (.tmp 41) 30 35 s1 rfl (by kernel_rfl) rfl (hZ10.get 3 (f := Mt ma (fun _ => ma) Ra s1) rfl).n (hK _ _ ?_)))
 unfold Stop
 try simp only [Act.put, zzC, zzD, zzE]
 go_wp2_with (refine stop_opw (by kernel_rfl) (fun K hK => wp_lenq (.tmp 43) 30 35 s2 rfl (by kernel_rfl) rfl (hZ10.get 1 (f := Mt mb (fun _ => mb) Rb s2) rfl).n (hK _ _ ?_)))
 unfold Stop
 try simp only [Act.put, zzC, zzD, zzE]
 go_wp2_with (refine stop_opw (by kernel_rfl) (fun K hK => wp_neqi (.tmp 42) (.tmp 44) 3 3 rfl rfl rfl rfl (r := true) (decide_eq_true (by omega)) (hK _ _ ?_)))
 unfold Stop
 try simp only [Act.put, zzC, zzD, zzE]
 go_wp2
 go_ret
 exact ⟨rfl, hZ10.below⟩
end Go.Proofs.YtolpfibihialkaaGreatDoor

/- The law LinReckons of layer 7, walked: one way of it. No statement of the seat is proved here. -/
namespace Go.Proofs.YtolpfibihialkaaGreatDoor
open Go Go.RowKit
open Classical in
set_option maxRecDepth 100000 in
set_option maxHeartbeats 25600000 in
theorem lrk4 {X0 : Nat → Prop} {w : World} (hX : NX X0 w) (ra rb l : Sl) (ma mb kl : Nat) (ca cb : Nat → Nat) (Ra Rb : Nat → Nat → Int) (xl_ : Nat → Int) (hra : Mi ma ca Ra ra X0 w) (hrb : Mi mb cb Rb rb X0 w) (hl_ : Li kl xl_ l X0 w) (rga0 : ∀ i j, i < ma → j < ca i → -9223372036854775808 ≤ Ra i j ∧ Ra i j ≤ 9223372036854775807) (rgb0 : ∀ i j, i < mb → j < cb i → -9223372036854775808 ≤ Rb i j ∧ Rb i j ≤ 9223372036854775807) (rgl0 : ∀ i, i < kl → -9223372036854775808 ≤ xl_ i ∧ xl_ i ≤ 9223372036854775807) (ha : (ma ≤ 5 ∧ ∀ k, k < ma → ca k = ma)) (hb : (mb ≤ 5 ∧ ∀ k, k < mb → cb k = mb)) (eab : ma = mb) (ho : (Sym ma Ra ∧ ∀ k, k < ma → 0 < M.dt (k + 1) Ra)) : Calls Tryz.prog 4 #[ra.v, rb.v, l.v] w (PVal (.bool true) w) := by
 have rga := Lib.hid rga0
 clear rga0
 have rgb := Lib.hid rgb0
 clear rgb0
 have rgl := Lib.hid rgl0
 clear rgl0
 have EAB := Lib.hid eab
 clear eab
 have HO := Lib.hid ho
 clear ho
 have ha5 : ma ≤ 5 := ha.1
 have hZ0 := zs_start hX
 have hZ1 := hZ0.more (f := Li kl xl_ l) (Li.stb _ _ _) hl_
 clear hZ0
 have hZ2 := hZ1.more (f := Mi mb cb Rb rb) (Mi.stb _ _ _ _) hrb
 clear hZ1
 have hZ3 := hZ2.more (f := Mi ma ca Ra ra) (Mi.stb _ _ _ _) hra
 clear hZ2
 go_enter Tryz.func4, Tryz.ntmps4
 go_wp2_with fail
 refine (gAwake hZ3.nx).mono ?_
 rintro zz W1 ⟨rfl, hB⟩
 have hZ4 := hZ3.later hB
 clear hB
 clear hZ3
 go_wp2_with fail
 refine (gReadY2 hZ4.nx ra 5 (hZ4.get 0 (f := Mi ma ca Ra ra) rfl) (by omega) ha.1 ha.2 rga.out).mono ?_
 rintro zz W2 ⟨s1, d1, rfl, hi_s1, hi_d1, hB⟩
 have hZ5 := hZ4.later hB
 clear hB
 clear hZ4
 have hZ6 := hZ5.more (f := Mt ma (fun _ => ma) Ra s1) (Mt.stb _ _ _ _) hi_s1
 clear hZ5
 clear hi_s1
 have hZ7 := hZ6.more (f := Mr ma (fun _ => ma) Ra d1) (Mr.stb _ _ _ _) hi_d1
 clear hZ6
 clear hi_d1
 go_wp2_with fail
 refine (gReadY2 hZ7.nx rb 5 (hZ7.get 3 (f := Mi mb cb Rb rb) rfl) (by omega) hb.1 hb.2 rgb.out).mono ?_
 rintro zz W3 ⟨s2, d2, rfl, hi_s2, hi_d2, hB⟩
 have hZ8 := hZ7.later hB
 clear hB
 clear hZ7
 have hZ9 := hZ8.more (f := Mt mb (fun _ => mb) Rb s2) (Mt.stb _ _ _ _) hi_s2
 clear hZ8
 clear hi_s2
 have hZ10 := hZ9.more (f := Mr mb (fun _ => mb) Rb d2) (Mr.stb _ _ _ _) hi_d2
 clear hZ9
 clear hi_d2
 go_wp2_with (refine stop_opw (by kernel_rfl) (fun K hK => wp_lenq (.tmp 41) 30 35 s1 rfl (by kernel_rfl) rfl (hZ10.get 3 (f := Mt ma (fun _ => ma) Ra s1) rfl).n (hK _ _ ?_)))
 unfold Stop
 try simp only [Act.put, zzC, zzD, zzE]
 go_wp2_with (refine stop_opw (by kernel_rfl) (fun K hK => wp_lenq (.tmp 43) 30 35 s2 rfl (by kernel_rfl) rfl (hZ10.get 1 (f := Mt mb (fun _ => mb) Rb s2) rfl).n (hK _ _ ?_)))
 unfold Stop
 try simp only [Act.put, zzC, zzD, zzE]
 go_wp2_with (refine stop_opw (by kernel_rfl) (fun K hK => wp_neqi (.tmp 42) (.tmp 44) 3 3 rfl rfl rfl rfl (r := false) (decide_eq_false (by have := EAB.out; omega)) (hK _ _ ?_)))
 unfold Stop
 try simp only [Act.put, zzC, zzD, zzE]
 have hZ11 := hZ10.only [Mt ma (fun _ => ma) Ra s1, Mr ma (fun _ => ma) Ra d1, Mt mb (fun _ => mb) Rb s2, Mr mb (fun _ => mb) Rb d2, Li kl xl_ l] (by simp)
 clear hZ10
 have hZ12 : Zs w W3 X0 X0 [] [Mt ma (fun _ => ma) Ra s1, Mr ma (fun _ => ma) Ra d1, Mt ma (fun _ => ma) Rb s2, Mr ma (fun _ => ma) Rb d2, Li kl xl_ l] := by
  have h := hZ11
  rw [← EAB.out] at h
  exact h
 clear hZ11
 go_wp2_with (refine stop_op rfl (fun K hK => wp_lenq (.tmp 50) 30 35 s1 rfl (by kernel_rfl) rfl (hZ12.get 0 (f := Mt ma (fun _ => ma) Ra s1) rfl).n (hK _ _ ?_)))
 unfold Stop
 try simp only [Act.put, zzC, zzD, zzE]
 go_wp2_with fail
 refine (gList2 hZ12.nx l ma (hZ12.get 4 (f := Li kl xl_ l) rfl) (by omega) rgl.out).mono ?_
 rintro zz W4 ⟨s3, d3, rfl, hi_s3, hi_d3, hB⟩
 have hZ13 := hZ12.later hB
 clear hB
 clear hZ12
 have hZ14 := hZ13.more (f := Ls ma (xl kl xl_) s3) (Ls.stb _ _ _) hi_s3
 clear hZ13
 clear hi_s3
 have hZ15 := hZ14.more (f := Lr ma (xl kl xl_) d3) (Lr.stb _ _ _) hi_d3
 clear hZ14
 clear hi_d3
 have hZ16 := hZ15.only [Mt ma (fun _ => ma) Ra s1, Mr ma (fun _ => ma) Ra d1, Mt ma (fun _ => ma) Rb s2, Mr ma (fun _ => ma) Rb d2, Ls ma (xl kl xl_) s3, Lr ma (xl kl xl_) d3] (by simp)
 clear hZ15
 go_wp2_with fail
 refine (lMul hZ16.nx s1 s2 (e := 2 + 2) (hZ16.get 0 (f := Mt ma (fun _ => ma) Ra s1) rfl) (hZ16.get 2 (f := Mt ma (fun _ => ma) Rb s2) rfl) (fun i k hi hk => ((fun (i k : Nat) (hi : i < ma) (hk : k < ma) => sz_int (rga.out i k (by have := EAB.out; omega) (by rw [ha.2 i (by have := EAB.out; omega)]; have := EAB.out; omega)).1 (rga.out i k (by have := EAB.out; omega) (by rw [ha.2 i (by have := EAB.out; omega)]; have := EAB.out; omega)).2) i k hi hk).mono (Nat.le_add_right _ _)) (fun i k hi hk => ((fun (i k : Nat) (hi : i < ma) (hk : k < ma) => sz_int (rgb.out i k (by have := EAB.out; omega) (by rw [hb.2 i (by have := EAB.out; omega)]; have := EAB.out; omega)).1 (rgb.out i k (by have := EAB.out; omega) (by rw [hb.2 i (by have := EAB.out; omega)]; have := EAB.out; omega)).2) i k hi hk).mono (Nat.le_add_left _ _)) (by omega) (by omega)).mono ?_
 rintro zz W5 ⟨s4, rfl, hi_s4, hB⟩
 have hZ17 := hZ16.later hB
 clear hB
 clear hZ16
 have hZ18 := hZ17.more (f := Mt ma (fun _ => ma) (M.mulm ma Ra Rb) s4) (Mt.stb _ _ _ _) hi_s4
 clear hZ17
 clear hi_s4
 go_wp2_with fail
 refine (gWhole hZ18.nx s4 (hZ18.get 0 (f := Mt ma (fun _ => ma) (M.mulm ma Ra Rb) s4) rfl) (fun i _ => by omega) (fun (i k : Nat) (hi : i < ma) (hk : k < ma) => sm_sz (fun (t : Nat) (ht : t < ma) => Sz.mul ((fun (i k : Nat) (hi : i < ma) (hk : k < ma) => sz_int (rga.out i k (by have := EAB.out; omega) (by rw [ha.2 i (by have := EAB.out; omega)]; have := EAB.out; omega)).1 (rga.out i k (by have := EAB.out; omega) (by rw [ha.2 i (by have := EAB.out; omega)]; have := EAB.out; omega)).2) i t hi ht) ((fun (i k : Nat) (hi : i < ma) (hk : k < ma) => sz_int (rgb.out i k (by have := EAB.out; omega) (by rw [hb.2 i (by have := EAB.out; omega)]; have := EAB.out; omega)).1 (rgb.out i k (by have := EAB.out; omega) (by rw [hb.2 i (by have := EAB.out; omega)]; have := EAB.out; omega)).2) t k ht hk))) (by omega) (by omega)).mono ?_
 rintro zz W6 ⟨rfl, hB⟩
 have hZ19 := hZ18.later hB
 clear hB
 clear hZ18
 have hZ20 := hZ19.only [Mt ma (fun _ => ma) Ra s1, Mr ma (fun _ => ma) Ra d1, Mt ma (fun _ => ma) Rb s2, Mr ma (fun _ => ma) Rb d2, Ls ma (xl kl xl_) s3, Lr ma (xl kl xl_) d3] (by simp)
 clear hZ19
 go_wp2_with fail
 refine (lTurned hZ20.nx s1 (by omega) (hZ20.get 0 (f := Mt ma (fun _ => ma) Ra s1) rfl)).mono ?_
 rintro zz W7 ⟨s5, rfl, hi_s5, hB⟩
 have hZ21 := hZ20.later hB
 clear hB
 clear hZ20
 have hZ22 := hZ21.more (f := Mt ma (fun _ => ma) (fun i j => Ra j i) s5) (Mt.stb _ _ _ _) hi_s5
 clear hZ21
 clear hi_s5
 go_wp2_with fail
 refine (gWhole hZ22.nx s5 (hZ22.get 0 (f := Mt ma (fun _ => ma) (fun i j => Ra j i) s5) rfl) (fun i _ => by omega) (fun (i j : Nat) (hi : i < ma) (hj : j < ma) => (fun (i k : Nat) (hi : i < ma) (hk : k < ma) => sz_int (rga.out i k (by have := EAB.out; omega) (by rw [ha.2 i (by have := EAB.out; omega)]; have := EAB.out; omega)).1 (rga.out i k (by have := EAB.out; omega) (by rw [ha.2 i (by have := EAB.out; omega)]; have := EAB.out; omega)).2) j i hj hi) (by omega) (by omega)).mono ?_
 rintro zz W8 ⟨rfl, hB⟩
 have hZ23 := hZ22.later hB
 clear hB
 clear hZ22
 have hZ24 := hZ23.only [Mt ma (fun _ => ma) Ra s1, Mr ma (fun _ => ma) Ra d1, Mt ma (fun _ => ma) Rb s2, Mr ma (fun _ => ma) Rb d2, Ls ma (xl kl xl_) s3, Lr ma (xl kl xl_) d3] (by simp)
 clear hZ23
 go_wp2_with fail
 refine (lApply hZ24.nx s1 s3 (e := 2 + 2) (hZ24.get 0 (f := Mt ma (fun _ => ma) Ra s1) rfl) (hZ24.get 4 (f := Ls ma (xl kl xl_) s3) rfl) (fun i k hi hk => ((fun (i k : Nat) (hi : i < ma) (hk : k < ma) => sz_int (rga.out i k (by have := EAB.out; omega) (by rw [ha.2 i (by have := EAB.out; omega)]; have := EAB.out; omega)).1 (rga.out i k (by have := EAB.out; omega) (by rw [ha.2 i (by have := EAB.out; omega)]; have := EAB.out; omega)).2) i k hi hk).mono (Nat.le_add_right _ _)) (fun k hk => ((fun (i : Nat) (_ : i < ma) => xl_in rgl.out i) k hk).mono (Nat.le_add_left _ _)) (by omega) (by omega)).mono ?_
 rintro zz W9 ⟨s6, rfl, hi_s6, hB⟩
 have hZ25 := hZ24.later hB
 clear hB
 clear hZ24
 have hZ26 := hZ25.more (f := Ls ma (M.mulv ma Ra (xl kl xl_)) s6) (Ls.stb _ _ _) hi_s6
 clear hZ25
 clear hi_s6
 go_wp2_with fail
 refine (gText hZ26.nx s6 (hZ26.get 0 (f := Ls ma (M.mulv ma Ra (xl kl xl_)) s6) rfl) (fun (i : Nat) (hi : i < ma) => sm_sz (fun (t : Nat) (ht : t < ma) => Sz.mul ((fun (i k : Nat) (hi : i < ma) (hk : k < ma) => sz_int (rga.out i k (by have := EAB.out; omega) (by rw [ha.2 i (by have := EAB.out; omega)]; have := EAB.out; omega)).1 (rga.out i k (by have := EAB.out; omega) (by rw [ha.2 i (by have := EAB.out; omega)]; have := EAB.out; omega)).2) i t hi ht) ((fun (i : Nat) (_ : i < ma) => xl_in rgl.out i) t ht))) (by omega) (by omega)).mono ?_
 rintro zz W10 ⟨rfl, hB⟩
 have hZ27 := hZ26.later hB
 clear hB
 clear hZ26
 have hZ28 := hZ27.only [Mt ma (fun _ => ma) Ra s1, Mr ma (fun _ => ma) Ra d1, Mt ma (fun _ => ma) Rb s2, Mr ma (fun _ => ma) Rb d2, Ls ma (xl kl xl_) s3, Lr ma (xl kl xl_) d3] (by simp)
 clear hZ27
 go_wp2_with fail
 refine (lQuad hZ28.nx s1 s3 (e := 2 + 2) (hZ28.get 0 (f := Mt ma (fun _ => ma) Ra s1) rfl) (hZ28.get 4 (f := Ls ma (xl kl xl_) s3) rfl) (fun i k hi hk => ((fun (i k : Nat) (hi : i < ma) (hk : k < ma) => sz_int (rga.out i k (by have := EAB.out; omega) (by rw [ha.2 i (by have := EAB.out; omega)]; have := EAB.out; omega)).1 (rga.out i k (by have := EAB.out; omega) (by rw [ha.2 i (by have := EAB.out; omega)]; have := EAB.out; omega)).2) i k hi hk).mono (Nat.le_add_right _ _)) (fun k hk => ((fun (i : Nat) (_ : i < ma) => xl_in rgl.out i) k hk).mono (Nat.le_add_left _ _)) (by omega) (by omega)).mono ?_
 rintro zz W11 ⟨q7, rfl, ez_q7, hi_q7, hB⟩
 have hZ29 := hZ28.later hB
 clear hB
 clear hZ28
 have hZ30 := hZ29.more (f := q7.is) q7.stb hi_q7
 clear hZ29
 clear hi_q7
 go_wp2_with fail
 refine ((zStr (hZ30.get 0 (f := q7.is) rfl) ez_q7 (show Sz (2 + (2 + 2 + ma) + ma) (Qf ma Ra (xl kl xl_)) from sm_sz (fun (i : Nat) (hi : i < ma) => Sz.mul ((fun (i : Nat) (_ : i < ma) => xl_in rgl.out i) i hi) (sm_sz (fun (t : Nat) (ht : t < ma) => Sz.mul ((fun (i k : Nat) (hi : i < ma) (hk : k < ma) => sz_int (rga.out i k (by have := EAB.out; omega) (by rw [ha.2 i (by have := EAB.out; omega)]; have := EAB.out; omega)).1 (rga.out i k (by have := EAB.out; omega) (by rw [ha.2 i (by have := EAB.out; omega)]; have := EAB.out; omega)).2) i t hi ht) ((fun (i : Nat) (_ : i < ma) => xl_in rgl.out i) t ht))))) (by omega)).mono (fun _ _ h => ptxt_dec h)).mono ?_
 rintro zz W12 ⟨rfl, hB⟩
 have hZ31 := hZ30.later hB
 clear hB
 clear hZ30
 have hZ32 := hZ31.only [Mt ma (fun _ => ma) Ra s1, Mr ma (fun _ => ma) Ra d1, Mt ma (fun _ => ma) Rb s2, Mr ma (fun _ => ma) Rb d2, Ls ma (xl kl xl_) s3, Lr ma (xl kl xl_) d3] (by simp)
 clear hZ31
 go_wp2_with fail
 refine ((lDefinite hZ32.nx s1 (e := 2) (by omega) (by omega) (by omega) (hZ32.get 0 (f := Mt ma (fun _ => ma) Ra s1) rfl) (fun (i k : Nat) (hi : i < ma) (hk : k < ma) => sz_int (rga.out i k (by have := EAB.out; omega) (by rw [ha.2 i (by have := EAB.out; omega)]; have := EAB.out; omega)).1 (rga.out i k (by have := EAB.out; omega) (by rw [ha.2 i (by have := EAB.out; omega)]; have := EAB.out; omega)).2)).mono (fun _ _ h => by rw [decide_eq_true HO.out] at h; exact h)).mono ?_
 rintro zz W13 ⟨rfl, hB⟩
 have hZ33 := hZ32.later hB
 clear hB
 clear hZ32
 have hZ34 := hZ33.only [Mt ma (fun _ => ma) Ra s1, Mr ma (fun _ => ma) Ra d1, Mt ma (fun _ => ma) Rb s2, Mr ma (fun _ => ma) Rb d2, Ls ma (xl kl xl_) s3, Lr ma (xl kl xl_) d3] (by simp)
 clear hZ33
 go_wp2_with fail
 refine (dMul hZ34.nx d1 d2 (e := 2 + 2) (hZ34.get 1 (f := Mr ma (fun _ => ma) Ra d1) rfl) (hZ34.get 3 (f := Mr ma (fun _ => ma) Rb d2) rfl) (fun i k hi hk => ((fun (i k : Nat) (hi : i < ma) (hk : k < ma) => sz_int (rga.out i k (by have := EAB.out; omega) (by rw [ha.2 i (by have := EAB.out; omega)]; have := EAB.out; omega)).1 (rga.out i k (by have := EAB.out; omega) (by rw [ha.2 i (by have := EAB.out; omega)]; have := EAB.out; omega)).2) i k hi hk).mono (Nat.le_add_right _ _)) (fun i k hi hk => ((fun (i k : Nat) (hi : i < ma) (hk : k < ma) => sz_int (rgb.out i k (by have := EAB.out; omega) (by rw [hb.2 i (by have := EAB.out; omega)]; have := EAB.out; omega)).1 (rgb.out i k (by have := EAB.out; omega) (by rw [hb.2 i (by have := EAB.out; omega)]; have := EAB.out; omega)).2) i k hi hk).mono (Nat.le_add_left _ _)) (by omega) (by omega)).mono ?_
 rintro zz W14 ⟨d8, rfl, hi_d8, hB⟩
 have hZ35 := hZ34.later hB
 clear hB
 clear hZ34
 have hZ36 := hZ35.more (f := Mr ma (fun _ => ma) (M.mulm ma Ra Rb) d8) (Mr.stb _ _ _ _) hi_d8
 clear hZ35
 clear hi_d8
 go_wp2_with fail
 refine (gWholes hZ36.nx d8 (hZ36.get 0 (f := Mr ma (fun _ => ma) (M.mulm ma Ra Rb) d8) rfl) (fun i _ => by omega) (fun (i k : Nat) (hi : i < ma) (hk : k < ma) => sm_sz (fun (t : Nat) (ht : t < ma) => Sz.mul ((fun (i k : Nat) (hi : i < ma) (hk : k < ma) => sz_int (rga.out i k (by have := EAB.out; omega) (by rw [ha.2 i (by have := EAB.out; omega)]; have := EAB.out; omega)).1 (rga.out i k (by have := EAB.out; omega) (by rw [ha.2 i (by have := EAB.out; omega)]; have := EAB.out; omega)).2) i t hi ht) ((fun (i k : Nat) (hi : i < ma) (hk : k < ma) => sz_int (rgb.out i k (by have := EAB.out; omega) (by rw [hb.2 i (by have := EAB.out; omega)]; have := EAB.out; omega)).1 (rgb.out i k (by have := EAB.out; omega) (by rw [hb.2 i (by have := EAB.out; omega)]; have := EAB.out; omega)).2) t k ht hk))) (by omega) (by omega)).mono ?_
 rintro zz W15 ⟨rfl, hB⟩
 have hZ37 := hZ36.later hB
 clear hB
 clear hZ36
 go_wp2_with (refine stop_opw (by kernel_rfl) (fun K hK => wp_seql (.tmp 74) (.tmp 78) 9 9 rfl rfl rfl rfl (r := true) (decide_eq_true rfl) (hK _ _ ?_)))
 unfold Stop
 try simp only [Act.put, zzC, zzD, zzE]
 go_wp2_with fail
 refine (dTurned hZ37.nx d1 (hZ37.get 2 (f := Mr ma (fun _ => ma) Ra d1) rfl) (by omega)).mono ?_
 rintro zz W16 ⟨d9, rfl, hi_d9, hB⟩
 have hZ38 := hZ37.later hB
 clear hB
 clear hZ37
 have hZ39 := hZ38.more (f := Mr ma (fun _ => ma) (fun i j => Ra j i) d9) (Mr.stb _ _ _ _) hi_d9
 clear hZ38
 clear hi_d9
 go_wp2_with fail
 refine (gWholes hZ39.nx d9 (hZ39.get 0 (f := Mr ma (fun _ => ma) (fun i j => Ra j i) d9) rfl) (fun i _ => by omega) (fun (i j : Nat) (hi : i < ma) (hj : j < ma) => (fun (i k : Nat) (hi : i < ma) (hk : k < ma) => sz_int (rga.out i k (by have := EAB.out; omega) (by rw [ha.2 i (by have := EAB.out; omega)]; have := EAB.out; omega)).1 (rga.out i k (by have := EAB.out; omega) (by rw [ha.2 i (by have := EAB.out; omega)]; have := EAB.out; omega)).2) j i hj hi) (by omega) (by omega)).mono ?_
 rintro zz W17 ⟨rfl, hB⟩
 have hZ40 := hZ39.later hB
 clear hB
 clear hZ39
 go_wp2_with (refine stop_opw (by kernel_rfl) (fun K hK => wp_seql (.tmp 82) (.tmp 85) 9 9 rfl rfl rfl rfl (r := true) (decide_eq_true rfl) (hK _ _ ?_)))
 unfold Stop
 try simp only [Act.put, zzC, zzD, zzE]
 go_wp2_with fail
 refine (dApply hZ40.nx d1 d3 (e := 2 + 2) (hZ40.get 3 (f := Mr ma (fun _ => ma) Ra d1) rfl) (hZ40.get 7 (f := Lr ma (xl kl xl_) d3) rfl) (fun i k hi hk => ((fun (i k : Nat) (hi : i < ma) (hk : k < ma) => sz_int (rga.out i k (by have := EAB.out; omega) (by rw [ha.2 i (by have := EAB.out; omega)]; have := EAB.out; omega)).1 (rga.out i k (by have := EAB.out; omega) (by rw [ha.2 i (by have := EAB.out; omega)]; have := EAB.out; omega)).2) i k hi hk).mono (Nat.le_add_right _ _)) (fun k hk => ((fun (i : Nat) (_ : i < ma) => xl_in rgl.out i) k hk).mono (Nat.le_add_left _ _)) (by omega) (by omega)).mono ?_
 rintro zz W18 ⟨d10, rfl, hi_d10, hB⟩
 have hZ41 := hZ40.later hB
 clear hB
 clear hZ40
 have hZ42 := hZ41.more (f := Lr ma (M.mulv ma Ra (xl kl xl_)) d10) (Lr.stb _ _ _) hi_d10
 clear hZ41
 clear hi_d10
 go_wp2_with fail
 refine (gTexts hZ42.nx d10 (hZ42.get 0 (f := Lr ma (M.mulv ma Ra (xl kl xl_)) d10) rfl) (fun (i : Nat) (hi : i < ma) => sm_sz (fun (t : Nat) (ht : t < ma) => Sz.mul ((fun (i k : Nat) (hi : i < ma) (hk : k < ma) => sz_int (rga.out i k (by have := EAB.out; omega) (by rw [ha.2 i (by have := EAB.out; omega)]; have := EAB.out; omega)).1 (rga.out i k (by have := EAB.out; omega) (by rw [ha.2 i (by have := EAB.out; omega)]; have := EAB.out; omega)).2) i t hi ht) ((fun (i : Nat) (_ : i < ma) => xl_in rgl.out i) t ht))) (by omega) (by omega)).mono ?_
 rintro zz W19 ⟨rfl, hB⟩
 have hZ43 := hZ42.later hB
 clear hB
 clear hZ42
 go_wp2_with (refine stop_opw (by kernel_rfl) (fun K hK => wp_seql (.tmp 89) (.tmp 93) 9 9 rfl rfl rfl rfl (r := true) (decide_eq_true rfl) (hK _ _ ?_)))
 unfold Stop
 try simp only [Act.put, zzC, zzD, zzE]
 go_wp2_with fail
 refine (dQuad hZ43.nx d1 d3 (e := 2 + 2) (hZ43.get 4 (f := Mr ma (fun _ => ma) Ra d1) rfl) (hZ43.get 8 (f := Lr ma (xl kl xl_) d3) rfl) (fun i k hi hk => ((fun (i k : Nat) (hi : i < ma) (hk : k < ma) => sz_int (rga.out i k (by have := EAB.out; omega) (by rw [ha.2 i (by have := EAB.out; omega)]; have := EAB.out; omega)).1 (rga.out i k (by have := EAB.out; omega) (by rw [ha.2 i (by have := EAB.out; omega)]; have := EAB.out; omega)).2) i k hi hk).mono (Nat.le_add_right _ _)) (fun k hk => ((fun (i : Nat) (_ : i < ma) => xl_in rgl.out i) k hk).mono (Nat.le_add_left _ _)) (by omega) (by omega)).mono ?_
 rintro zz W20 ⟨d11, rfl, ez_d11, hi_d11, hB⟩
 have hZ44 := hZ43.later hB
 clear hB
 clear hZ43
 have hZ45 := hZ44.more (f := d11.ir) d11.stbr hi_d11
 clear hZ44
 clear hi_d11
 go_wp2_with fail
 refine ((zStrr (hZ45.get 0 (f := d11.ir) rfl) ez_d11 (show Sz (2 + (2 + 2 + ma) + ma) (Qf ma Ra (xl kl xl_)) from sm_sz (fun (i : Nat) (hi : i < ma) => Sz.mul ((fun (i : Nat) (_ : i < ma) => xl_in rgl.out i) i hi) (sm_sz (fun (t : Nat) (ht : t < ma) => Sz.mul ((fun (i k : Nat) (hi : i < ma) (hk : k < ma) => sz_int (rga.out i k (by have := EAB.out; omega) (by rw [ha.2 i (by have := EAB.out; omega)]; have := EAB.out; omega)).1 (rga.out i k (by have := EAB.out; omega) (by rw [ha.2 i (by have := EAB.out; omega)]; have := EAB.out; omega)).2) i t hi ht) ((fun (i : Nat) (_ : i < ma) => xl_in rgl.out i) t ht))))) (by omega)).mono (fun _ _ h => ptxt_dec h)).mono ?_
 rintro zz W21 ⟨rfl, hB⟩
 have hZ46 := hZ45.later hB
 clear hB
 clear hZ45
 go_wp2_with (refine stop_opw (by kernel_rfl) (fun K hK => wp_seql (.tmp 97) (.tmp 101) 9 9 rfl rfl rfl rfl (r := true) (decide_eq_true rfl) (hK _ _ ?_)))
 unfold Stop
 try simp only [Act.put, zzC, zzD, zzE]
 go_wp2_with fail
 refine ((dDefinite hZ46.nx d1 (e := 2) (by omega) (by omega) (by omega) (hZ46.get 5 (f := Mr ma (fun _ => ma) Ra d1) rfl) (fun (i k : Nat) (hi : i < ma) (hk : k < ma) => sz_int (rga.out i k (by have := EAB.out; omega) (by rw [ha.2 i (by have := EAB.out; omega)]; have := EAB.out; omega)).1 (rga.out i k (by have := EAB.out; omega) (by rw [ha.2 i (by have := EAB.out; omega)]; have := EAB.out; omega)).2)).mono (fun _ _ h => by rw [decide_eq_true HO.out] at h; exact h)).mono ?_
 rintro zz W22 ⟨rfl, hB⟩
 have hZ47 := hZ46.later hB
 clear hB
 clear hZ46
 go_wp2
 go_ret
 exact ⟨rfl, hZ47.below⟩
end Go.Proofs.YtolpfibihialkaaGreatDoor
