/- Parts of the proof. -/
import Derived.Test.YtolpfibihialkaaGreatDoorGf0
import Derived.Test.YtolpfibihialkaaGreatDoorGf28
import Derived.Test.YtolpfibihialkaaGreatDoorGf30
/- The document's Of, walked. No statement of the seat is proved here. -/
namespace Go.Proofs.YtolpfibihialkaaGreatDoor
open Go Go.RowKit
set_option maxRecDepth 100000 in
set_option maxHeartbeats 12800000 in
theorem dOf {X0 : Nat → Prop} {w : World} (hX : NX X0 w) (rs : Sl) {m : Nat} {c : Nat → Nat} {R : Nat → Nat → Int} (hr : Mi m c R rs X0 w) (hm : m ≤ 100) (hc : ∀ i, i < m → c i ≤ 100) (hR : ∀ i j, i < m → j < c i → -9223372036854775808 ≤ R i j ∧ R i j ≤ 9223372036854775807) : Calls Tryz.prog 46 #[rs.v] w (PMXr X0 m c R w) := by
 have hZ0 := zs_start hX
 have hZ1 := hZ0.more (f := Mi m c R rs) (Mi.stb _ _ _ _) hr
 clear hZ0
 go_enter Tryz.func46, Tryz.ntmps46
 go_wp2
 go_loopw [3, 4] (fun ov iv wr => ∃ (i : Nat) (so : Sl) (Co : Array Value) (X : Nat → Prop), i ≤ m ∧ iv = .int .i64 ((i : Nat) : Int) ∧ ov = so.v ∧ so.n = i ∧ Wr 1 so Co ∧ Zs w wr X0 X ([] ++ owl so Co 36) [Fl 1 (ERr c R) i Co, Mi m c R rs]) (fun _ iv _ => m - (intOf iv).toNat)
 case atStart => exact ⟨0, slz, #[], _, by omega, rfl, rfl, rfl, wr_slz 1, by simpa [owl, slz] using (hZ1.more (f := Fl 1 (ERr c R) 0 #[]) (Fl.stb (ERr.stb _ _) _ _) (fl_zero 1 (ERr c R) #[] _ _))⟩
 case round =>
  obtain ⟨i, so, Co, X, hi, rfl, rfl, hn_so, hw_so, hZ⟩ := hrel
  by_cases hlt : i < m
  ·
   go_wp2_with (refine stop_op rfl (fun K hK => wp_lenq (.tmp 8) 27 28 rs rfl (by kernel_rfl) rfl (hZ.get 1 (f := Mi m c R rs) rfl).n (hK _ _ ?_)))
   unfold Stop
   try simp only [Act.put, zzC, zzD, zzE]
   go_wp2_with (refine stop_op rfl (fun K hK => wp_lssi (.tmp 7) (.tmp 9) rfl rfl rfl (r := true) (decide_eq_true (by omega)) (hK _ _ ?_)))
   unfold Stop
   try simp only [Act.put, zzC, zzD, zzE]
   go_wp2
   obtain ⟨wo, rfl⟩ : ∃ wo : World, wo = wr := ⟨_, rfl⟩
   have hci := hc i hlt
   go_wp2
   go_loopw [5, 6] (fun rv jv wr => ∃ (j : Nat) (si : Sl) (Ci : Array Value) (X : Nat → Prop), j ≤ c i ∧ jv = .int .i64 ((j : Nat) : Int) ∧ rv = si.v ∧ si.n = j ∧ Wr 2 si Ci ∧ Zs w wr X0 X ([] ++ (owl so Co 36 ++ owl si Ci 56)) [Fl 2 (ENr (R i)) j Ci, Fl 1 (ERr c R) i Co, Mi m c R rs]) (fun _ iv _ => c i - (intOf iv).toNat)
   case atStart => exact ⟨0, slz, #[], _, by omega, rfl, rfl, rfl, wr_slz 2, by simpa [owl, slz] using (hZ.more (f := Fl 2 (ENr (R i)) 0 #[]) (Fl.stb (ENr.stb _) _ _) (fl_zero 2 (ENr (R i)) #[] _ _))⟩
   case round =>
    clear hZ
    obtain ⟨j, si, Ci, Xi, hj, rfl, rfl, hn_si, hw_si, hZi⟩ := hrel
    by_cases hlj : j < c i
    ·
     go_wp2_with (refine stop_op rfl (fun K hK => wp_ixs 27 (.tmp 14) (.tmp 15) rs i 1 28 rfl rfl rfl (by kernel_rfl) sz28 (fun h => ((hZi.get 2 (f := Mi m c R rs) rfl).sq.nil h).1) ((hZi.get 2 (f := Mi m c R rs) rfl).n ▸ (by omega)) (hK _ _ ?_)))
     unfold Stop
     try simp only [Act.put, zzC, zzD, zzE]
     go_wp2_with (refine stop_op rfl (fun K hK => wp_ldim 28 (.tmp 16) rs i m c R rfl rfl (hZi.get 2 (f := Mi m c R rs) rfl) (by omega) ag28 (fun s1 hi_s1 => hK _ _ ?_)))
     unfold Stop
     try simp only [Act.put, zzC, zzD, zzE]
     have hZ2 := hZi.more (f := Li (c i) (R i) s1) (Li.stb _ _ _) hi_s1
     clear hZi
     clear hi_s1
     go_wp2_with (refine stop_op rfl (fun K hK => wp_lenq (.tmp 17) 28 2 s1 rfl (by kernel_rfl) rfl (hZ2.get 0 (f := Li (c i) (R i) s1) rfl).n (hK _ _ ?_)))
     unfold Stop
     try simp only [Act.put, zzC, zzD, zzE]
     go_wp2_with (refine stop_op rfl (fun K hK => wp_lssi (.tmp 13) (.tmp 18) rfl rfl rfl (r := true) (decide_eq_true (by omega)) (hK _ _ ?_)))
     unfold Stop
     try simp only [Act.put, zzC, zzD, zzE]
     go_wp2_with (refine stop_op rfl (fun K hK => wp_ixs 27 (.tmp 23) (.tmp 24) rs i 1 28 rfl rfl rfl (by kernel_rfl) sz28 (fun h => ((hZ2.get 3 (f := Mi m c R rs) rfl).sq.nil h).1) ((hZ2.get 3 (f := Mi m c R rs) rfl).n ▸ (by omega)) (hK _ _ ?_)))
     unfold Stop
     try simp only [Act.put, zzC, zzD, zzE]
     go_wp2_with (refine stop_op rfl (fun K hK => wp_ldim 28 (.tmp 25) rs i m c R rfl rfl (hZ2.get 3 (f := Mi m c R rs) rfl) (by omega) ag28 (fun s2 hi_s2 => hK _ _ ?_)))
     unfold Stop
     try simp only [Act.put, zzC, zzD, zzE]
     have hZ3 := hZ2.more (f := Li (c i) (R i) s2) (Li.stb _ _ _) hi_s2
     clear hZ2
     clear hi_s2
     go_wp2_with (refine stop_op rfl (fun K hK => wp_ixs 28 (.tmp 26) (.tmp 27) s2 j 1 2 rfl rfl rfl (by kernel_rfl) sz2 (fun h => ((hZ3.get 0 (f := Li (c i) (R i) s2) rfl).sq.nil h).1) ((hZ3.get 0 (f := Li (c i) (R i) s2) rfl).n ▸ (by omega)) (hK _ _ ?_)))
     unfold Stop
     try simp only [Act.put, zzC, zzD, zzE]
     go_wp2_with (refine stop_op rfl (fun K hK => wp_ldi 2 (.tmp 28) s2 j (c i) (R i) rfl rfl (hZ3.get 0 (f := Li (c i) (R i) s2) rfl) (by omega) ag2 (hK _ _ ?_)))
     unfold Stop
     try simp only [Act.put, zzC, zzD, zzE]
     go_wp2_with fail
     refine (zOfr hZ3.nx (hR i j hlt hlj).1 (hR i j hlt hlj).2).mono ?_
     rintro zz W1 ⟨q3, rfl, ez_q3, hi_q3, hB⟩
     have hZ4 := hZ3.later hB
     clear hB
     clear hZ3
     have hZ5 := hZ4.more (f := q3.ir) q3.stbr hi_q3
     clear hZ4
     clear hi_q3
     go_wp2_with (refine stop_op rfl (fun K hK => wp_bs2 ei36 (.tmp 30) rfl rfl (hK _ _ ?_)))
     unfold Stop
     try simp only [Act.put, zzC, zzD, zzE]
     have hZ6 := hZ5.later (below_new _ (.cells #[.bool q3.b, .slice q3.a q3.n q3.c] 56))
     clear hZ5
     have hZ7y := hZ6.perm ((List.Perm.append_left _ List.perm_append_comm).trans (perm_mid _ _ _))
     go_wp2_with (refine stop_op rfl (fun K hK => wp_app ei36 (.tmp 22) (.tmp 31) rfl (s := si) rfl ⟨W1.heap.size, 0, none⟩ 1 rfl hw_si (by rw [hn_si]; omega) hZ7y [.bool q3.b, .slice q3.a q3.n q3.c] rfl (cell_two _ (.bool q3.b) (.slice q3.a q3.n q3.c) _) (fun u hu => by simp only [List.mem_cons, List.not_mem_nil, or_false] at hu; rcases hu with rfl | rfl <;> rfl) (fun o4 C4 X7 W2 hn_o4 hw_o4 ho_C4 hg_C4 hZ7x => hK _ _ ?_)))
     unfold Stop
     try simp only [Act.put, zzC, zzD, zzE]
     clear hZ7y
     rw [hn_si] at hn_o4 ho_C4 hg_C4
     have hZ7 := hZ7x.perm (List.Perm.symm ((List.Perm.append_left _ List.perm_append_comm).trans (perm_mid _ _ _)))
     clear hZ7x
     clear hZ6
     have hZ8s : Fl 2 (ENr (R i)) (j + 1) C4 X7 W2 := Fl.snoc (C := Ci) (hZ7.get 3 (f := Fl 2 (ENr (R i)) j Ci) rfl) (cs := [.bool q3.b, .slice q3.a q3.n q3.c]) rfl ho_C4 hg_C4 ⟨q3, ez_q3, (hZ7.get 0 (f := q3.ir) rfl), rfl⟩
     have hZ8 := (hZ7.more (Fl.stb (ENr.stb _) _ _) hZ8s).only [Fl 2 (ENr (R i)) (j + 1) C4, Fl 1 (ERr c R) i Co, Mi m c R rs] (by simp)
     clear hZ7 hZ8s
     go_wp2_with (refine stop_op rfl (fun K hK => wp_addi (.tmp 20) (.const (.int .i64 1)) rfl rfl rfl (C := ((j + 1 : Nat) : Int)) (by omega) (by omega) (by omega) (hK _ _ ?_)))
     unfold Stop
     try simp only [Act.put, zzC, zzD, zzE]
     go_wp2
     go_roundw
     case rel => exact ⟨j + 1, o4, C4, _, by omega, by go_num, rfl, hn_o4, hw_o4, hZ8⟩
     case measure => simp [intOf]; omega
    ·
     obtain rfl : j = c i := by omega
     go_wp2_with (refine stop_op rfl (fun K hK => wp_ixs 27 (.tmp 14) (.tmp 15) rs i 1 28 rfl rfl rfl (by kernel_rfl) sz28 (fun h => ((hZi.get 2 (f := Mi m c R rs) rfl).sq.nil h).1) ((hZi.get 2 (f := Mi m c R rs) rfl).n ▸ (by omega)) (hK _ _ ?_)))
     unfold Stop
     try simp only [Act.put, zzC, zzD, zzE]
     go_wp2_with (refine stop_op rfl (fun K hK => wp_ldim 28 (.tmp 16) rs i m c R rfl rfl (hZi.get 2 (f := Mi m c R rs) rfl) (by omega) ag28 (fun s5 hi_s5 => hK _ _ ?_)))
     unfold Stop
     try simp only [Act.put, zzC, zzD, zzE]
     have hZ9 := hZi.more (f := Li (c i) (R i) s5) (Li.stb _ _ _) hi_s5
     clear hZi
     clear hi_s5
     go_wp2_with (refine stop_op rfl (fun K hK => wp_lenq (.tmp 17) 28 2 s5 rfl (by kernel_rfl) rfl (hZ9.get 0 (f := Li (c i) (R i) s5) rfl).n (hK _ _ ?_)))
     unfold Stop
     try simp only [Act.put, zzC, zzD, zzE]
     go_wp2_with (refine stop_op rfl (fun K hK => wp_lssi (.tmp 13) (.tmp 18) rfl rfl rfl (r := false) (decide_eq_false (Int.lt_irrefl _)) (hK _ _ ?_)))
     unfold Stop
     try simp only [Act.put, zzC, zzD, zzE]
     have hZ10r := (hZ9.get 1 (f := Fl 2 (ENr (R i)) (c i) Ci) rfl)
     obtain ⟨X11, hZ11⟩ := Zs.tellr (hZ9.perm ((List.Perm.append_left _ List.perm_append_comm).trans (perm_mid _ _ _))) hX hw_si hn_si hZ10r
     clear hZ9
     clear hZ10r
     go_wp2_with (refine stop_op rfl (fun K hK => wp_bs1 ei32 (.tmp 34) rfl rfl rfl (hK _ _ ?_)))
     unfold Stop
     try simp only [Act.put, zzC, zzD, zzE]
     have hZ12 := hZ11.later (below_new _ (.cells #[si.v] 36))
     clear hZ11
     have hZ13y := hZ12.perm List.perm_append_comm
     go_wp2_with (refine stop_op rfl (fun K hK => wp_app ei32 (.tmp 33) (.tmp 35) rfl (s := so) rfl ⟨wr.heap.size, 0, none⟩ 1 rfl hw_so (by rw [hn_so]; omega) hZ13y [si.v] rfl (cell_one _ si.v _) (fun u hu => by simp only [List.mem_cons, List.not_mem_nil, or_false] at hu; subst hu; rfl) (fun o6 C6 X13 W3 hn_o6 hw_o6 ho_C6 hg_C6 hZ13x => hK _ _ ?_)))
     unfold Stop
     try simp only [Act.put, zzC, zzD, zzE]
     clear hZ13y
     rw [hn_so] at hn_o6 ho_C6 hg_C6
     have hZ13 := hZ13x.perm List.perm_append_comm
     clear hZ13x
     clear hZ12
     have hZ14s : Fl 1 (ERr c R) (i + 1) C6 X13 W3 := Fl.snoc (C := Co) (hZ13.get 3 (f := Fl 1 (ERr c R) i Co) rfl) (cs := [si.v]) rfl ho_C6 hg_C6 ⟨si, (hZ13.get 0 (f := Lr (c i) (R i) si) rfl), rfl⟩
     have hZ14 := (hZ13.more (Fl.stb (ERr.stb _ _) _ _) hZ14s).only [Fl 1 (ERr c R) (i + 1) C6, Mi m c R rs] (by simp)
     clear hZ13 hZ14s
     go_wp2_with (refine stop_op rfl (fun K hK => wp_addi (.tmp 11) (.const (.int .i64 1)) rfl rfl rfl (C := ((i + 1 : Nat) : Int)) (by omega) (by omega) (by omega) (hK _ _ ?_)))
     unfold Stop
     try simp only [Act.put, zzC, zzD, zzE]
     go_wp2
     go_roundw
     case rel => exact ⟨i + 1, o6, C6, _, by omega, by go_num, rfl, hn_o6, hw_o6, hZ14⟩
     case measure => simp [intOf]; omega
  ·
   obtain rfl : i = m := by omega
   go_wp2_with (refine stop_op rfl (fun K hK => wp_lenq (.tmp 8) 27 28 rs rfl (by kernel_rfl) rfl (hZ.get 1 (f := Mi i c R rs) rfl).n (hK _ _ ?_)))
   unfold Stop
   try simp only [Act.put, zzC, zzD, zzE]
   go_wp2_with (refine stop_op rfl (fun K hK => wp_lssi (.tmp 7) (.tmp 9) rfl rfl rfl (r := false) (decide_eq_false (Int.lt_irrefl _)) (hK _ _ ?_)))
   unfold Stop
   try simp only [Act.put, zzC, zzD, zzE]
   go_wp2
   go_ret
   exact ⟨so, rfl, ⟨hn_so, hZ.sq hX (ERr.stb _ _) hw_so (T := 36) (fun p hp => hp) (hn_so ▸ hZ.get 0 (f := Fl 1 (ERr c R) i Co) rfl)⟩, hZ.below⟩
end Go.Proofs.YtolpfibihialkaaGreatDoor

/- The laws' helpers list, read: the program's and the document's. No statement of the seat is proved here. -/
namespace Go.Proofs.YtolpfibihialkaaGreatDoor
open Go Go.RowKit
/-- A list of numbers, and the same of the document's. -/
def PLi2 (X : Nat → Prop) (n : Nat) (x : Nat → Int) (w : World) (e : Ending) (w' : World) : Prop := ∃ a b : Sl, e = .returned (.tuple #[a.v, b.v]) ∧ Ls n x a X w' ∧ Lr n x b X w' ∧ Below w.heap.size w w'
set_option maxRecDepth 100000 in
set_option maxHeartbeats 12800000 in
theorem gList2 {X0 : Nat → Prop} {w : World} (hX : NX X0 w) (l : Sl) (n : Nat) {k : Nat} {x : Nat → Int} (hl : Li k x l X0 w) (hn : n ≤ 100) (hb : ∀ i, i < k → -9223372036854775808 ≤ x i ∧ x i ≤ 9223372036854775807) : Calls Tryz.prog 10 #[l.v, .int .i64 ((n : Nat) : Int)] w (PLi2 X0 n (xl k x) w) := by
 have hZ0 := zs_start hX
 have hZ1 := hZ0.more (f := Li k x l) (Li.stb _ _ _) hl
 clear hZ0
 go_enter Tryz.func10, Tryz.ntmps10
 go_wp2
 go_loopw [6, 7, 8] (fun av bv iv wr => ∃ (i : Nat) (sa sb : Sl) (Ca Cb : Array Value) (X : Nat → Prop), i ≤ n ∧ iv = .int .i64 ((i : Nat) : Int) ∧ av = sa.v ∧ bv = sb.v ∧ sa.n = i ∧ Wr 2 sa Ca ∧ sb.n = i ∧ Wr 2 sb Cb ∧ Zs w wr X0 X ([] ++ (owl sa Ca 46 ++ owl sb Cb 56)) [Fl 2 (EN (xl k x)) i Ca, Fl 2 (ENr (xl k x)) i Cb, Li k x l]) (fun _ _ iv _ => n - (intOf iv).toNat)
 case atStart => exact ⟨0, slz, slz, #[], #[], _, by omega, rfl, rfl, rfl, rfl, wr_slz 2, rfl, wr_slz 2, ((hZ1.more (f := Fl 2 (ENr (xl k x)) 0 #[]) (Fl.stb (ENr.stb _) _ _) (fl_zero 2 (ENr (xl k x)) #[] _ _)).more (f := Fl 2 (EN (xl k x)) 0 #[]) (Fl.stb (EN.stb _) _ _) (fl_zero 2 (EN (xl k x)) #[] _ _))⟩
 case round =>
  obtain ⟨i, sa, sb, Ca, Cb, X, hi, rfl, rfl, rfl, hn_sa, hw_sa, hn_sb, hw_sb, hZ⟩ := hrel
  by_cases hlt : i < n
  ·
   by_cases hk : i < k
   ·
    go_wp2_with (refine stop_op rfl (fun K hK => wp_lssi (.tmp 10) (.tmp 11) rfl rfl rfl (r := true) (decide_eq_true (by omega)) (hK _ _ ?_)))
    unfold Stop
    try simp only [Act.put, zzC, zzD, zzE]
    go_wp2_with (refine stop_op rfl (fun K hK => wp_lenq (.tmp 16) 28 2 l rfl (by kernel_rfl) rfl (hZ.get 2 (f := Li k x l) rfl).n (hK _ _ ?_)))
    unfold Stop
    try simp only [Act.put, zzC, zzD, zzE]
    go_wp2_with (refine stop_op rfl (fun K hK => wp_lssi (.tmp 15) (.tmp 17) rfl rfl rfl (r := true) (decide_eq_true (by omega)) (hK _ _ ?_)))
    unfold Stop
    try simp only [Act.put, zzC, zzD, zzE]
    go_wp2_with (refine stop_op rfl (fun K hK => wp_ixs 28 (.tmp 19) (.tmp 20) l i 1 2 rfl rfl rfl (by kernel_rfl) sz2 (fun h => ((hZ.get 2 (f := Li k x l) rfl).sq.nil h).1) ((hZ.get 2 (f := Li k x l) rfl).n ▸ (by omega)) (hK _ _ ?_)))
    unfold Stop
    try simp only [Act.put, zzC, zzD, zzE]
    go_wp2_with (refine stop_op rfl (fun K hK => wp_ldi 2 (.tmp 21) l i k x rfl rfl (hZ.get 2 (f := Li k x l) rfl) (by omega) ag2 (hK _ _ ?_)))
    unfold Stop
    try simp only [Act.put, zzC, zzD, zzE]
    go_wp2_with fail
    refine (zOf hZ.nx (hb i hk).1 (hb i hk).2).mono ?_
    rintro zz W1 ⟨q1, rfl, ez_q1, hi_q1, hB⟩
    have hZ2 := hZ.later hB
    clear hB
    clear hZ
    have hZ3 := hZ2.more (f := q1.is) q1.stb hi_q1
    clear hZ2
    clear hi_q1
    go_wp2_with (refine stop_op rfl (fun K hK => wp_bs2 ei35 (.tmp 25) rfl rfl (hK _ _ ?_)))
    unfold Stop
    try simp only [Act.put, zzC, zzD, zzE]
    have hZ4 := hZ3.later (below_new _ (.cells #[.bool q1.b, .slice q1.a q1.n q1.c] 46))
    clear hZ3
    have hZ5y := hZ4.perm (perm_mid _ _ _)
    go_wp2_with (refine stop_op rfl (fun K hK => wp_app ei35 (.tmp 23) (.tmp 26) rfl (s := sa) rfl ⟨W1.heap.size, 0, none⟩ 1 rfl hw_sa (by rw [hn_sa]; omega) hZ5y [.bool q1.b, .slice q1.a q1.n q1.c] rfl (cell_two _ (.bool q1.b) (.slice q1.a q1.n q1.c) _) (fun u hu => by simp only [List.mem_cons, List.not_mem_nil, or_false] at hu; rcases hu with rfl | rfl <;> rfl) (fun o2 C2 X5 W2 hn_o2 hw_o2 ho_C2 hg_C2 hZ5x => hK _ _ ?_)))
    unfold Stop
    try simp only [Act.put, zzC, zzD, zzE]
    clear hZ5y
    rw [hn_sa] at hn_o2 ho_C2 hg_C2
    have hZ5 := hZ5x.perm (List.Perm.symm (perm_mid _ _ _))
    clear hZ5x
    clear hZ4
    have hZ6s : Fl 2 (EN (xl k x)) (i + 1) C2 X5 W2 := Fl.snoc (C := Ca) (hZ5.get 1 (f := Fl 2 (EN (xl k x)) i Ca) rfl) (cs := [.bool q1.b, .slice q1.a q1.n q1.c]) rfl ho_C2 hg_C2 ⟨q1, ez_q1.trans (by unfold xl; rw [if_pos hk]), (hZ5.get 0 (f := q1.is) rfl), rfl⟩
    have hZ6 := (hZ5.more (Fl.stb (EN.stb _) _ _) hZ6s).only [Fl 2 (EN (xl k x)) (i + 1) C2, Fl 2 (ENr (xl k x)) i Cb, Li k x l] (by simp)
    clear hZ5 hZ6s
    go_wp2_with fail
    refine (zOfr hZ6.nx (hb i hk).1 (hb i hk).2).mono ?_
    rintro zz W3 ⟨d3, rfl, ez_d3, hi_d3, hB⟩
    have hZ7 := hZ6.later hB
    clear hB
    clear hZ6
    have hZ8 := hZ7.more (f := d3.ir) d3.stbr hi_d3
    clear hZ7
    clear hi_d3
    go_wp2_with (refine stop_op rfl (fun K hK => wp_bs2 ei36 (.tmp 30) rfl rfl (hK _ _ ?_)))
    unfold Stop
    try simp only [Act.put, zzC, zzD, zzE]
    have hZ9 := hZ8.later (below_new _ (.cells #[.bool d3.b, .slice d3.a d3.n d3.c] 56))
    clear hZ8
    have hZ10y := hZ9.perm ((List.Perm.append_left _ List.perm_append_comm).trans (perm_mid _ _ _))
    go_wp2_with (refine stop_op rfl (fun K hK => wp_app ei36 (.tmp 28) (.tmp 31) rfl (s := sb) rfl ⟨W3.heap.size, 0, none⟩ 1 rfl hw_sb (by rw [hn_sb]; omega) hZ10y [.bool d3.b, .slice d3.a d3.n d3.c] rfl (cell_two _ (.bool d3.b) (.slice d3.a d3.n d3.c) _) (fun u hu => by simp only [List.mem_cons, List.not_mem_nil, or_false] at hu; rcases hu with rfl | rfl <;> rfl) (fun o4 C4 X10 W4 hn_o4 hw_o4 ho_C4 hg_C4 hZ10x => hK _ _ ?_)))
    unfold Stop
    try simp only [Act.put, zzC, zzD, zzE]
    clear hZ10y
    rw [hn_sb] at hn_o4 ho_C4 hg_C4
    have hZ10 := hZ10x.perm (List.Perm.symm ((List.Perm.append_left _ List.perm_append_comm).trans (perm_mid _ _ _)))
    clear hZ10x
    clear hZ9
    have hZ11s : Fl 2 (ENr (xl k x)) (i + 1) C4 X10 W4 := Fl.snoc (C := Cb) (hZ10.get 2 (f := Fl 2 (ENr (xl k x)) i Cb) rfl) (cs := [.bool d3.b, .slice d3.a d3.n d3.c]) rfl ho_C4 hg_C4 ⟨d3, ez_d3.trans (by unfold xl; rw [if_pos hk]), (hZ10.get 0 (f := d3.ir) rfl), rfl⟩
    have hZ11 := (hZ10.more (Fl.stb (ENr.stb _) _ _) hZ11s).only [Fl 2 (ENr (xl k x)) (i + 1) C4, Fl 2 (EN (xl k x)) (i + 1) C2, Li k x l] (by simp)
    clear hZ10 hZ11s
    have hZ12 := hZ11.only [Fl 2 (EN (xl k x)) (i + 1) C2, Fl 2 (ENr (xl k x)) (i + 1) C4, Li k x l] (by simp)
    clear hZ11
    go_wp2_with (refine stop_op rfl (fun K hK => wp_addi (.tmp 13) (.const (.int .i64 1)) rfl rfl rfl (C := ((i + 1 : Nat) : Int)) (by omega) (by omega) (by omega) (hK _ _ ?_)))
    unfold Stop
    try simp only [Act.put, zzC, zzD, zzE]
    go_wp2
    go_roundw
    case rel => exact ⟨i + 1, o2, o4, C2, C4, _, by omega, by go_num, rfl, rfl, hn_o2, hw_o2, hn_o4, hw_o4, hZ12⟩
    case measure => simp [intOf]; omega
   ·
    go_wp2_with (refine stop_op rfl (fun K hK => wp_lssi (.tmp 10) (.tmp 11) rfl rfl rfl (r := true) (decide_eq_true (by omega)) (hK _ _ ?_)))
    unfold Stop
    try simp only [Act.put, zzC, zzD, zzE]
    go_wp2_with (refine stop_op rfl (fun K hK => wp_lenq (.tmp 16) 28 2 l rfl (by kernel_rfl) rfl (hZ.get 2 (f := Li k x l) rfl).n (hK _ _ ?_)))
    unfold Stop
    try simp only [Act.put, zzC, zzD, zzE]
    go_wp2_with (refine stop_op rfl (fun K hK => wp_lssi (.tmp 15) (.tmp 17) rfl rfl rfl (r := false) (decide_eq_false (by omega)) (hK _ _ ?_)))
    unfold Stop
    try simp only [Act.put, zzC, zzD, zzE]
    go_wp2_with fail
    refine (zOf hZ.nx (by omega) (by omega)).mono ?_
    rintro zz W5 ⟨q5, rfl, ez_q5, hi_q5, hB⟩
    have hZ13 := hZ.later hB
    clear hB
    clear hZ
    have hZ14 := hZ13.more (f := q5.is) q5.stb hi_q5
    clear hZ13
    clear hi_q5
    go_wp2_with (refine stop_op rfl (fun K hK => wp_bs2 ei35 (.tmp 25) rfl rfl (hK _ _ ?_)))
    unfold Stop
    try simp only [Act.put, zzC, zzD, zzE]
    have hZ15 := hZ14.later (below_new _ (.cells #[.bool q5.b, .slice q5.a q5.n q5.c] 46))
    clear hZ14
    have hZ16y := hZ15.perm (perm_mid _ _ _)
    go_wp2_with (refine stop_op rfl (fun K hK => wp_app ei35 (.tmp 23) (.tmp 26) rfl (s := sa) rfl ⟨W5.heap.size, 0, none⟩ 1 rfl hw_sa (by rw [hn_sa]; omega) hZ16y [.bool q5.b, .slice q5.a q5.n q5.c] rfl (cell_two _ (.bool q5.b) (.slice q5.a q5.n q5.c) _) (fun u hu => by simp only [List.mem_cons, List.not_mem_nil, or_false] at hu; rcases hu with rfl | rfl <;> rfl) (fun o6 C6 X16 W6 hn_o6 hw_o6 ho_C6 hg_C6 hZ16x => hK _ _ ?_)))
    unfold Stop
    try simp only [Act.put, zzC, zzD, zzE]
    clear hZ16y
    rw [hn_sa] at hn_o6 ho_C6 hg_C6
    have hZ16 := hZ16x.perm (List.Perm.symm (perm_mid _ _ _))
    clear hZ16x
    clear hZ15
    have hZ17s : Fl 2 (EN (xl k x)) (i + 1) C6 X16 W6 := Fl.snoc (C := Ca) (hZ16.get 1 (f := Fl 2 (EN (xl k x)) i Ca) rfl) (cs := [.bool q5.b, .slice q5.a q5.n q5.c]) rfl ho_C6 hg_C6 ⟨q5, ez_q5.trans (by unfold xl; rw [if_neg hk]), (hZ16.get 0 (f := q5.is) rfl), rfl⟩
    have hZ17 := (hZ16.more (Fl.stb (EN.stb _) _ _) hZ17s).only [Fl 2 (EN (xl k x)) (i + 1) C6, Fl 2 (ENr (xl k x)) i Cb, Li k x l] (by simp)
    clear hZ16 hZ17s
    go_wp2_with fail
    refine (zOfr hZ17.nx (by omega) (by omega)).mono ?_
    rintro zz W7 ⟨d7, rfl, ez_d7, hi_d7, hB⟩
    have hZ18 := hZ17.later hB
    clear hB
    clear hZ17
    have hZ19 := hZ18.more (f := d7.ir) d7.stbr hi_d7
    clear hZ18
    clear hi_d7
    go_wp2_with (refine stop_op rfl (fun K hK => wp_bs2 ei36 (.tmp 30) rfl rfl (hK _ _ ?_)))
    unfold Stop
    try simp only [Act.put, zzC, zzD, zzE]
    have hZ20 := hZ19.later (below_new _ (.cells #[.bool d7.b, .slice d7.a d7.n d7.c] 56))
    clear hZ19
    have hZ21y := hZ20.perm ((List.Perm.append_left _ List.perm_append_comm).trans (perm_mid _ _ _))
    go_wp2_with (refine stop_op rfl (fun K hK => wp_app ei36 (.tmp 28) (.tmp 31) rfl (s := sb) rfl ⟨W7.heap.size, 0, none⟩ 1 rfl hw_sb (by rw [hn_sb]; omega) hZ21y [.bool d7.b, .slice d7.a d7.n d7.c] rfl (cell_two _ (.bool d7.b) (.slice d7.a d7.n d7.c) _) (fun u hu => by simp only [List.mem_cons, List.not_mem_nil, or_false] at hu; rcases hu with rfl | rfl <;> rfl) (fun o8 C8 X21 W8 hn_o8 hw_o8 ho_C8 hg_C8 hZ21x => hK _ _ ?_)))
    unfold Stop
    try simp only [Act.put, zzC, zzD, zzE]
    clear hZ21y
    rw [hn_sb] at hn_o8 ho_C8 hg_C8
    have hZ21 := hZ21x.perm (List.Perm.symm ((List.Perm.append_left _ List.perm_append_comm).trans (perm_mid _ _ _)))
    clear hZ21x
    clear hZ20
    have hZ22s : Fl 2 (ENr (xl k x)) (i + 1) C8 X21 W8 := Fl.snoc (C := Cb) (hZ21.get 2 (f := Fl 2 (ENr (xl k x)) i Cb) rfl) (cs := [.bool d7.b, .slice d7.a d7.n d7.c]) rfl ho_C8 hg_C8 ⟨d7, ez_d7.trans (by unfold xl; rw [if_neg hk]), (hZ21.get 0 (f := d7.ir) rfl), rfl⟩
    have hZ22 := (hZ21.more (Fl.stb (ENr.stb _) _ _) hZ22s).only [Fl 2 (ENr (xl k x)) (i + 1) C8, Fl 2 (EN (xl k x)) (i + 1) C6, Li k x l] (by simp)
    clear hZ21 hZ22s
    have hZ23 := hZ22.only [Fl 2 (EN (xl k x)) (i + 1) C6, Fl 2 (ENr (xl k x)) (i + 1) C8, Li k x l] (by simp)
    clear hZ22
    go_wp2_with (refine stop_op rfl (fun K hK => wp_addi (.tmp 13) (.const (.int .i64 1)) rfl rfl rfl (C := ((i + 1 : Nat) : Int)) (by omega) (by omega) (by omega) (hK _ _ ?_)))
    unfold Stop
    try simp only [Act.put, zzC, zzD, zzE]
    go_wp2
    go_roundw
    case rel => exact ⟨i + 1, o6, o8, C6, C8, _, by omega, by go_num, rfl, rfl, hn_o6, hw_o6, hn_o8, hw_o8, hZ23⟩
    case measure => simp [intOf]; omega
  ·
   obtain rfl : i = n := by omega
   go_wp2_with (refine stop_op rfl (fun K hK => wp_lssi (.tmp 10) (.tmp 11) rfl rfl rfl (r := false) (decide_eq_false (Int.lt_irrefl _)) (hK _ _ ?_)))
   unfold Stop
   try simp only [Act.put, zzC, zzD, zzE]
   go_wp2
   go_ret2
   exact ⟨sa, sb, rfl, ⟨hn_sa, hZ.sq hX (EN.stb _) hw_sa (T := 46) (fun p hp => List.mem_append_right _ (List.mem_append_left _ hp)) (hn_sa ▸ hZ.get 0 (f := Fl 2 (EN (xl k x)) i Ca) rfl)⟩, ⟨hn_sb, hZ.sq hX (ENr.stb _) hw_sb (T := 56) (fun p hp => List.mem_append_right _ (List.mem_append_right _ hp)) (hn_sb ▸ hZ.get 1 (f := Fl 2 (ENr (xl k x)) i Cb) rfl)⟩, hZ.below⟩
/-- A matrix, the document's, yes. -/
def PRd2 (X : Nat → Prop) (m : Nat) (R : Nat → Nat → Int) (w : World) (e : Ending) (w' : World) : Prop := ∃ a b : Sl, e = .returned (.tuple #[a.v, b.v, .bool true]) ∧ Mt m (fun _ => m) R a X w' ∧ Mr m (fun _ => m) R b X w' ∧ Below w.heap.size w w'
open Classical in
set_option maxRecDepth 100000 in
set_option maxHeartbeats 12800000 in
theorem gReadY2 {X0 : Nat → Prop} {w : World} (hX : NX X0 w) (rs : Sl) (u : Nat) {m : Nat} {c : Nat → Nat} {R : Nat → Nat → Int} (hr : Mi m c R rs X0 w) (hu12 : u ≤ 12) (hmu : m ≤ u) (hck : ∀ k, k < m → c k = m) (hR : ∀ i j, i < m → j < c i → -9223372036854775808 ≤ R i j ∧ R i j ≤ 9223372036854775807) : Calls Tryz.prog 9 #[rs.v, .int .i64 ((u : Nat) : Int)] w (PRd2 X0 m R w) := by
 have hZ0 := zs_start hX
 have hZ1 := hZ0.more (f := Mi m c R rs) (Mi.stb _ _ _ _) hr
 clear hZ0
 go_enter Tryz.func9, Tryz.ntmps9
 go_wp2_with fail
 refine ((gSquare hZ1.nx rs u (hZ1.get 0 (f := Mi m c R rs) rfl) hu12).mono (fun _ _ h => by rw [decide_eq_true ⟨hmu, hck⟩] at h; exact h)).mono ?_
 rintro zz W1 ⟨rfl, hB⟩
 have hZ2 := hZ1.later hB
 clear hB
 clear hZ1
 go_wp2_with fail
 refine ((lOf hZ2.nx rs (hZ2.get 0 (f := Mi m c R rs) rfl) (fun _ _ i j hi hj => hR i j hi (by rw [hck i hi]; exact hj))).mono (of_ok (by omega) hck)).mono ?_
 rintro zz W2 ⟨sa, rfl, hi_sa, hB⟩
 have hZ3 := hZ2.later hB
 clear hB
 clear hZ2
 have hZ4 := hZ3.more (f := Mt m (fun _ => m) R sa) (Mt.stb _ _ _ _) hi_sa
 clear hZ3
 clear hi_sa
 go_wp2_with fail
 refine (dOf hZ4.nx rs (hZ4.get 1 (f := Mi m c R rs) rfl) (by omega) (fun i hi => by rw [hck i hi]; omega) hR).mono ?_
 rintro zz W3 ⟨sb, rfl, hi_sb, hB⟩
 have hZ5 := hZ4.later hB
 clear hB
 clear hZ4
 have hZ6 := hZ5.more (f := Mr m c R sb) (Mr.stb _ _ _ _) hi_sb
 clear hZ5
 clear hi_sb
 go_wp2
 exact bodyPost_ret (v := .tuple #[sa.v, sb.v, .bool true]) (by simp [results, Tryz.results9, go_sem]) rfl ⟨sa, sb, rfl, hZ6.out 1 (f := Mt m (fun _ => m) R sa) rfl, (hZ6.out 0 (f := Mr m c R sb) rfl).congr hck (fun _ _ _ _ => rfl), hZ6.below⟩
end Go.Proofs.YtolpfibihialkaaGreatDoor
