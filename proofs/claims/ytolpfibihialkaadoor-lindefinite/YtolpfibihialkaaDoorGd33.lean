/- Parts of the proof. -/
import Derived.Test.YtolpfibihialkaaDoorGd0
import Derived.Test.YtolpfibihialkaaDoorGd29
import Derived.Test.YtolpfibihialkaaDoorGd30
import Derived.Test.YtolpfibihialkaaDoorGd31
import Derived.Test.YtolpfibihialkaaDoorGd32
/- The law LinDefinite of layer 7, walked: one way of it. No statement of the seat is proved here. -/
namespace Go.Proofs.YtolpfibihialkaaDoor
open Go Go.RowKit
open Classical in
set_option maxRecDepth 100000 in
set_option maxHeartbeats 25600000 in
theorem ldf5 {X0 : Nat → Prop} {w : World} (hX : NX X0 w) (ra l : Sl) (ma kl : Nat) (ca : Nat → Nat) (Ra : Nat → Nat → Int) (xl_ : Nat → Int) (hra : Mi ma ca Ra ra X0 w) (hl_ : Li kl xl_ l X0 w) (rga0 : ∀ i j, i < ma → j < ca i → -9223372036854775808 ≤ Ra i j ∧ Ra i j ≤ 9223372036854775807) (rgl0 : ∀ i, i < kl → -9223372036854775808 ≤ xl_ i ∧ xl_ i ≤ 9223372036854775807) (ha : (ma ≤ 6 ∧ ∀ k, k < ma → ca k = ma)) (hs : ¬ (∃ k, k < ma ∧ (xl kl xl_) k ≠ 0)) (ho : ¬ (Sym ma Ra ∧ ∀ k, k < ma → 0 < M.dt (k + 1) Ra)) : Calls Tryd.prog 7 #[ra.v, l.v] w (PVal (.bool true) w) := by
 have rga := Lib.hid rga0
 clear rga0
 have rgl := Lib.hid rgl0
 clear rgl0
 have HS := Lib.hid hs
 clear hs
 have HO := Lib.hid ho
 clear ho
 have ha8 : ma ≤ 6 := ha.1
 have hdb : dtb (6 + ma) ma ≤ 3000 := dtb_le (by omega) (by omega)
 have hZ0 := zs_start hX
 have hZ1 := hZ0.more (f := Li kl xl_ l) (Li.stb _ _ _) hl_
 clear hZ0
 have hZ2 := hZ1.more (f := Mi ma ca Ra ra) (Mi.stb _ _ _ _) hra
 clear hZ1
 go_enter Tryd.func7, Tryd.ntmps7
 go_wp2_with fail
 refine (gAwake hZ2.nx).mono ?_
 rintro zz W1 ⟨rfl, hB⟩
 have hZ3 := hZ2.later hB
 clear hB
 clear hZ2
 go_wp2_with fail
 refine (gReadY hZ3.nx ra 6 (hZ3.get 0 (f := Mi ma ca Ra ra) rfl) (by omega) ha.1 ha.2 rga.out).mono ?_
 rintro zz W2 ⟨s1, s1r, rfl, hi_s1, hB⟩
 have hZ4 := hZ3.later hB
 clear hB
 clear hZ3
 have hZ5 := hZ4.more (f := Mt ma (fun _ => ma) Ra s1) (Mt.stb _ _ _ _) hi_s1
 clear hZ4
 clear hi_s1
 go_wp2_with (refine stop_op rfl (fun K hK => wp_lenq (.tmp 34) 25 39 s1 rfl (by kernel_rfl) rfl (hZ5.get 0 (f := Mt ma (fun _ => ma) Ra s1) rfl).n (hK _ _ ?_)))
 unfold Stop
 try simp only [Act.put, zzC, zzD, zzE]
 go_wp2_with fail
 refine (gList hZ5.nx l ma (hZ5.get 2 (f := Li kl xl_ l) rfl) (by omega) rgl.out).mono ?_
 rintro zz W3 ⟨s2, s2r, rfl, hi_s2, hB⟩
 have hZ6 := hZ5.later hB
 clear hB
 clear hZ5
 have hZ7 := hZ6.more (f := Ls ma (xl kl xl_) s2) (Ls.stb _ _ _) hi_s2
 clear hZ6
 clear hi_s2
 have hZ8 := hZ7.only [Mt ma (fun _ => ma) Ra s1, Ls ma (xl kl xl_) s2] (by simp)
 clear hZ7
 go_wp2
 go_loopw [11, 12] (fun sv iv wr => ∃ (i : Nat) (sb : Bool) (X : Nat → Prop), i ≤ ma ∧ iv = .int .i64 ((i : Nat) : Int) ∧ sv = .bool sb ∧ Som (xl kl xl_) i sb ∧ Zs w wr X0 X [] [Mt ma (fun _ => ma) Ra s1, Ls ma (xl kl xl_) s2]) (fun _ iv _ => ma - (intOf iv).toNat)
 case atStart => exact ⟨0, false, _, by omega, rfl, rfl, som_0, hZ8⟩
 case round =>
  clear hZ8
  obtain ⟨i, sb, X, hi, rfl, rfl, hsm, hZ⟩ := hrel
  by_cases hlt : i < ma
  ·
   cases sb
   ·
    by_cases hz : (xl kl xl_) i = 0
    ·
     have HZ := Lib.hid hz
     clear hz
     go_wp2_with (refine stop_op rfl (fun K hK => wp_lenq (.tmp 40) 39 45 s2 rfl (by kernel_rfl) rfl (hZ.get 1 (f := Ls ma (xl kl xl_) s2) rfl).n (hK _ _ ?_)))
     unfold Stop
     try simp only [Act.put, zzC, zzD, zzE]
     go_wp2_with (refine stop_op rfl (fun K hK => wp_lssi (.tmp 39) (.tmp 41) rfl rfl rfl (r := true) (decide_eq_true (by omega)) (hK _ _ ?_)))
     unfold Stop
     try simp only [Act.put, zzC, zzD, zzE]
     go_wp2_with (refine stop_op rfl (fun K hK => wp_ixs 39 (.tmp 45) (.tmp 46) s2 i 2 45 rfl rfl rfl (by kernel_rfl) sz45 (fun h => ((hZ.get 1 (f := Ls ma (xl kl xl_) s2) rfl).sq.nil h).1) ((hZ.get 1 (f := Ls ma (xl kl xl_) s2) rfl).n ▸ (by omega)) (hK _ _ ?_)))
     unfold Stop
     try simp only [Act.put, zzC, zzD, zzE]
     go_wp2_with (refine stop_op rfl (fun K hK => wp_ldn 45 (.tmp 47) s2 i ma (xl kl xl_) rfl rfl (hZ.get 1 (f := Ls ma (xl kl xl_) s2) rfl) (by omega) ag45 sz45 (fun q3 ez_q3 hi_q3 => hK _ _ ?_)))
     unfold Stop
     try simp only [Act.put, zzC, zzD, zzE]
     have hZ9 := hZ.more (f := q3.is) q3.stb hi_q3
     clear hZ
     clear hi_q3
     go_wp2_with fail
     refine (zSign (hZ9.get 0 (f := q3.is) rfl) ez_q3).mono ?_
     rintro zz W4 ⟨rfl, hB⟩
     have hZ10 := hZ9.later hB
     clear hB
     clear hZ9
     go_wp2_with (refine stop_opw (by kernel_rfl) (fun K hK => wp_neqi (.tmp 52) (.const (.int .i64 0)) 3 3 rfl rfl rfl rfl (r := false) (neq_f HZ.out) (hK _ _ ?_)))
     unfold Stop
     try simp only [Act.put, zzC, zzD, zzE]
     go_wp2_with (refine stop_op rfl (fun K hK => wp_addi (.tmp 43) (.const (.int .i64 1)) rfl rfl rfl (C := ((i + 1 : Nat) : Int)) (by omega) (by omega) (by omega) (hK _ _ ?_)))
     unfold Stop
     try simp only [Act.put, zzC, zzD, zzE]
     have hZ11 := hZ10.only [Mt ma (fun _ => ma) Ra s1, Ls ma (xl kl xl_) s2] (by simp)
     clear hZ10
     go_wp2
     go_roundw
     case rel => exact ⟨i + 1, false, _, by omega, by go_num, rfl, som_z hsm HZ.out, hZ11⟩
     case measure => simp [intOf]; omega
    ·
     have HZ := Lib.hid hz
     clear hz
     go_wp2_with (refine stop_op rfl (fun K hK => wp_lenq (.tmp 40) 39 45 s2 rfl (by kernel_rfl) rfl (hZ.get 1 (f := Ls ma (xl kl xl_) s2) rfl).n (hK _ _ ?_)))
     unfold Stop
     try simp only [Act.put, zzC, zzD, zzE]
     go_wp2_with (refine stop_op rfl (fun K hK => wp_lssi (.tmp 39) (.tmp 41) rfl rfl rfl (r := true) (decide_eq_true (by omega)) (hK _ _ ?_)))
     unfold Stop
     try simp only [Act.put, zzC, zzD, zzE]
     go_wp2_with (refine stop_op rfl (fun K hK => wp_ixs 39 (.tmp 45) (.tmp 46) s2 i 2 45 rfl rfl rfl (by kernel_rfl) sz45 (fun h => ((hZ.get 1 (f := Ls ma (xl kl xl_) s2) rfl).sq.nil h).1) ((hZ.get 1 (f := Ls ma (xl kl xl_) s2) rfl).n ▸ (by omega)) (hK _ _ ?_)))
     unfold Stop
     try simp only [Act.put, zzC, zzD, zzE]
     go_wp2_with (refine stop_op rfl (fun K hK => wp_ldn 45 (.tmp 47) s2 i ma (xl kl xl_) rfl rfl (hZ.get 1 (f := Ls ma (xl kl xl_) s2) rfl) (by omega) ag45 sz45 (fun q4 ez_q4 hi_q4 => hK _ _ ?_)))
     unfold Stop
     try simp only [Act.put, zzC, zzD, zzE]
     have hZ12 := hZ.more (f := q4.is) q4.stb hi_q4
     clear hZ
     clear hi_q4
     go_wp2_with fail
     refine (zSign (hZ12.get 0 (f := q4.is) rfl) ez_q4).mono ?_
     rintro zz W5 ⟨rfl, hB⟩
     have hZ13 := hZ12.later hB
     clear hB
     clear hZ12
     go_wp2_with (refine stop_opw (by kernel_rfl) (fun K hK => wp_neqi (.tmp 52) (.const (.int .i64 0)) 3 3 rfl rfl rfl rfl (r := true) (neq_t HZ.out) (hK _ _ ?_)))
     unfold Stop
     try simp only [Act.put, zzC, zzD, zzE]
     go_wp2_with (refine stop_op rfl (fun K hK => wp_addi (.tmp 43) (.const (.int .i64 1)) rfl rfl rfl (C := ((i + 1 : Nat) : Int)) (by omega) (by omega) (by omega) (hK _ _ ?_)))
     unfold Stop
     try simp only [Act.put, zzC, zzD, zzE]
     have hZ14 := hZ13.only [Mt ma (fun _ => ma) Ra s1, Ls ma (xl kl xl_) s2] (by simp)
     clear hZ13
     go_wp2
     go_roundw
     case rel => exact ⟨i + 1, true, _, by omega, by go_num, rfl, som_n HZ.out, hZ14⟩
     case measure => simp [intOf]; omega
   ·
    go_wp2_with (refine stop_op rfl (fun K hK => wp_lenq (.tmp 40) 39 45 s2 rfl (by kernel_rfl) rfl (hZ.get 1 (f := Ls ma (xl kl xl_) s2) rfl).n (hK _ _ ?_)))
    unfold Stop
    try simp only [Act.put, zzC, zzD, zzE]
    go_wp2_with (refine stop_op rfl (fun K hK => wp_lssi (.tmp 39) (.tmp 41) rfl rfl rfl (r := true) (decide_eq_true (by omega)) (hK _ _ ?_)))
    unfold Stop
    try simp only [Act.put, zzC, zzD, zzE]
    go_wp2_with (refine stop_op rfl (fun K hK => wp_ixs 39 (.tmp 45) (.tmp 46) s2 i 2 45 rfl rfl rfl (by kernel_rfl) sz45 (fun h => ((hZ.get 1 (f := Ls ma (xl kl xl_) s2) rfl).sq.nil h).1) ((hZ.get 1 (f := Ls ma (xl kl xl_) s2) rfl).n ▸ (by omega)) (hK _ _ ?_)))
    unfold Stop
    try simp only [Act.put, zzC, zzD, zzE]
    go_wp2_with (refine stop_op rfl (fun K hK => wp_ldn 45 (.tmp 47) s2 i ma (xl kl xl_) rfl rfl (hZ.get 1 (f := Ls ma (xl kl xl_) s2) rfl) (by omega) ag45 sz45 (fun q5 ez_q5 hi_q5 => hK _ _ ?_)))
    unfold Stop
    try simp only [Act.put, zzC, zzD, zzE]
    have hZ15 := hZ.more (f := q5.is) q5.stb hi_q5
    clear hZ
    clear hi_q5
    go_wp2_with fail
    refine (zSign (hZ15.get 0 (f := q5.is) rfl) ez_q5).mono ?_
    rintro zz W6 ⟨rfl, hB⟩
    have hZ16 := hZ15.later hB
    clear hB
    clear hZ15
    go_wp2_with (refine stop_op rfl (fun K hK => wp_addi (.tmp 43) (.const (.int .i64 1)) rfl rfl rfl (C := ((i + 1 : Nat) : Int)) (by omega) (by omega) (by omega) (hK _ _ ?_)))
    unfold Stop
    try simp only [Act.put, zzC, zzD, zzE]
    have hZ17 := hZ16.only [Mt ma (fun _ => ma) Ra s1, Ls ma (xl kl xl_) s2] (by simp)
    clear hZ16
    go_wp2
    go_roundw
    case rel => exact ⟨i + 1, true, _, by omega, by go_num, rfl, som_t hsm, hZ17⟩
    case measure => simp [intOf]; omega
  ·
   obtain rfl : ma = i := by omega
   obtain rfl : sb = false := som_no hsm HS.out
   go_wp2_with (refine stop_op rfl (fun K hK => wp_lenq (.tmp 40) 39 45 s2 rfl (by kernel_rfl) rfl (hZ.get 1 (f := Ls ma (xl kl xl_) s2) rfl).n (hK _ _ ?_)))
   unfold Stop
   try simp only [Act.put, zzC, zzD, zzE]
   go_wp2_with (refine stop_op rfl (fun K hK => wp_lssi (.tmp 39) (.tmp 41) rfl rfl rfl (r := false) (decide_eq_false (Int.lt_irrefl _)) (hK _ _ ?_)))
   unfold Stop
   try simp only [Act.put, zzC, zzD, zzE]
   go_wp2_with fail
   refine (lTurned hZ.nx s1 (by omega) (hZ.get 0 (f := Mt ma (fun _ => ma) Ra s1) rfl)).mono ?_
   rintro zz W7 ⟨s6, rfl, hi_s6, hB⟩
   have hZ18 := hZ.later hB
   clear hB
   clear hZ
   have hZ19 := hZ18.more (f := Mt ma (fun _ => ma) (fun i j => Ra j i) s6) (Mt.stb _ _ _ _) hi_s6
   clear hZ18
   clear hi_s6
   go_wp2_with fail
   refine (lMul hZ19.nx s6 s1 (e := 2 + 2) (hZ19.get 0 (f := Mt ma (fun _ => ma) (fun i j => Ra j i) s6) rfl) (hZ19.get 1 (f := Mt ma (fun _ => ma) Ra s1) rfl) (fun i k hi hk => ((fun (i j : Nat) (hi : i < ma) (hj : j < ma) => (fun (i k : Nat) (hi : i < ma) (hk : k < ma) => sz_int (rga.out i k hi (by rw [ha.2 i hi]; exact hk)).1 (rga.out i k hi (by rw [ha.2 i hi]; exact hk)).2) j i hj hi) i k hi hk).mono (Nat.le_add_right _ _)) (fun i k hi hk => ((fun (i k : Nat) (hi : i < ma) (hk : k < ma) => sz_int (rga.out i k hi (by rw [ha.2 i hi]; exact hk)).1 (rga.out i k hi (by rw [ha.2 i hi]; exact hk)).2) i k hi hk).mono (Nat.le_add_left _ _)) (by omega) (by omega)).mono ?_
   rintro zz W8 ⟨s7, rfl, hi_s7, hB⟩
   have hZ20 := hZ19.later hB
   clear hB
   clear hZ19
   have hZ21 := hZ20.more (f := Mt ma (fun _ => ma) (M.mulm ma (fun i j => Ra j i) Ra) s7) (Mt.stb _ _ _ _) hi_s7
   clear hZ20
   clear hi_s7
   have hZ22 := hZ21.only [Mt ma (fun _ => ma) Ra s1, Ls ma (xl kl xl_) s2, Mt ma (fun _ => ma) (M.mulm ma (fun i j => Ra j i) Ra) s7] (by simp)
   clear hZ21
   go_wp2
   obtain ⟨wo, rfl⟩ : ∃ wo : World, wo = wr := ⟨_, rfl⟩
   go_wp2
   go_loopw [15, 16] (fun mv jv wr => ∃ (j : Nat) (so : Sl) (Co : Array Value) (X : Nat → Prop), j ≤ ma ∧ jv = .int .i64 ((j : Nat) : Int) ∧ mv = so.v ∧ so.n = j ∧ Wr 1 so Co ∧ Zs w wr X0 X ([] ++ owl so Co 39) [Fl 1 (ER (fun _ => ma) (dfm ma Ra)) j Co, Mt ma (fun _ => ma) Ra s1, Ls ma (xl kl xl_) s2, Mt ma (fun _ => ma) (M.mulm ma (fun i j => Ra j i) Ra) s7]) (fun _ iv _ => ma - (intOf iv).toNat)
   case atStart => exact ⟨0, slz, #[], _, by omega, rfl, rfl, rfl, wr_slz 1, hZ22.more (Fl.stb (ER.stb _ _) _ _) (fl_zero 1 (ER (fun _ => ma) (dfm ma Ra)) #[] _ _)⟩
   case round =>
    clear hZ22
    obtain ⟨j, so, Co, X, hj, rfl, rfl, hn_so, hw_so, hZm⟩ := hrel
    by_cases hlj : j < ma
    ·
     go_wp2_with (refine stop_op rfl (fun K hK => wp_lenq (.tmp 60) 25 39 s7 rfl (by kernel_rfl) rfl (hZm.get 3 (f := Mt ma (fun _ => ma) (M.mulm ma (fun i j => Ra j i) Ra) s7) rfl).n (hK _ _ ?_)))
     unfold Stop
     try simp only [Act.put, zzC, zzD, zzE]
     go_wp2_with (refine stop_op rfl (fun K hK => wp_lssi (.tmp 59) (.tmp 61) rfl rfl rfl (r := true) (decide_eq_true (by omega)) (hK _ _ ?_)))
     unfold Stop
     try simp only [Act.put, zzC, zzD, zzE]
     go_wp2_with (refine stop_op rfl (fun K hK => wp_bs0 ei39 rfl hZm (fun b08 W9 hZ23 => hK _ _ ?_)))
     unfold Stop
     try simp only [Act.put, zzC, zzD, zzE]
     clear hZm
     go_wp2_with (refine stop_op rfl (fun K hK => wp_ixs 25 (.tmp 67) (.tmp 68) s7 j 1 39 rfl rfl rfl (by kernel_rfl) sz39 (fun h => ((hZ23.get 3 (f := Mt ma (fun _ => ma) (M.mulm ma (fun i j => Ra j i) Ra) s7) rfl).sq.nil h).1) ((hZ23.get 3 (f := Mt ma (fun _ => ma) (M.mulm ma (fun i j => Ra j i) Ra) s7) rfl).n ▸ (by omega)) (hK _ _ ?_)))
     unfold Stop
     try simp only [Act.put, zzC, zzD, zzE]
     go_wp2_with (refine stop_op rfl (fun K hK => wp_ldm 39 (.tmp 69) s7 j ma (fun _ => ma) (M.mulm ma (fun i j => Ra j i) Ra) rfl rfl (hZ23.get 3 (f := Mt ma (fun _ => ma) (M.mulm ma (fun i j => Ra j i) Ra) s7) rfl) (by omega) ag39 (fun s9 hi_s9 => hK _ _ ?_)))
     unfold Stop
     try simp only [Act.put, zzC, zzD, zzE]
     have hZ24 := hZ23.more (f := Ls ma (M.mulm ma (fun i j => Ra j i) Ra j) s9) (Ls.stb _ _ _) hi_s9
     clear hZ23
     clear hi_s9
     go_wp2_with (refine stop_op rfl (fun K hK => wp_spread ei39 (.tmp 66) (.tmp 70) rfl b08 rfl (s := s9) rfl (hZ24.get 0 (f := Ls ma (M.mulm ma (fun i j => Ra j i) Ra j) s9) rfl) (by omega) (by omega) hZ24 (fun o10 C10 X25 W10 hn_o10 hw_o10 hZ25 => hK _ _ ?_)))
     unfold Stop
     try simp only [Act.put, zzC, zzD, zzE]
     have hZ26 := hZ25.perm (perm_mid _ _ _)
     clear hZ25
     clear hZ24
     go_wp2_with (refine stop_op rfl (fun K hK => wp_bs1 ei25 (.tmp 71) rfl rfl rfl (hK _ _ ?_)))
     unfold Stop
     try simp only [Act.put, zzC, zzD, zzE]
     have hZ27 := hZ26.later (below_new _ (.cells #[o10.v] 39))
     clear hZ26
     have hZ28y := hZ27.perm ((List.Perm.append_left _ List.perm_append_comm).trans (perm_mid _ _ _))
     go_wp2_with (refine stop_op rfl (fun K hK => wp_app ei25 (.tmp 65) (.tmp 72) rfl (s := so) rfl ⟨W10.heap.size, 0, none⟩ 1 rfl hw_so (by rw [hn_so]; omega) hZ28y [o10.v] rfl (cell_one _ o10.v _) (fun u hu => by simp only [List.mem_cons, List.not_mem_nil, or_false] at hu; subst hu; rfl) (fun o11 C11 X28 W11 hn_o11 hw_o11 ho_C11 hg_C11 hZ28x => hK _ _ ?_)))
     unfold Stop
     try simp only [Act.put, zzC, zzD, zzE]
     clear hZ28y
     rw [hn_so] at hn_o11 ho_C11 hg_C11
     have hZ28 := hZ28x.perm (List.Perm.symm ((List.Perm.append_left _ List.perm_append_comm).trans (perm_mid _ _ _)))
     clear hZ28x
     clear hZ27
     have hZ29 := hZ28.only [Fl 1 (ER (fun _ => ma) (dfm ma Ra)) j Co, Fl 2 (EN (M.mulm ma (fun i j => Ra j i) Ra j)) ma C10, Mt ma (fun _ => ma) Ra s1, Ls ma (xl kl xl_) s2, Mt ma (fun _ => ma) (M.mulm ma (fun i j => Ra j i) Ra) s7] (by simp)
     clear hZ28
     go_wp2
     have hM : Zs w W11.drew X0 X28 ([] ++ (owl o10 C10 45 ++ owl o11 C11 39)) [Fl 1 (ER (fun _ => ma) (dfm ma Ra)) j Co, Fl 2 (EN (M.mulm ma (fun i j => Ra j i) Ra j)) ma C10, Mt ma (fun _ => ma) Ra s1, Ls ma (xl kl xl_) s2, Mt ma (fun _ => ma) (M.mulm ma (fun i j => Ra j i) Ra) s7] ∧ Below W11.heap.size W11 W11.drew := ⟨hZ29.later (Below.refl _ _).drew, (Below.refl _ _).drew⟩
     clear hZ29
     have hVS18 : ∀ k, k ∈ ([veq (o11.v), veq (.int .i64 (((j : Nat) : Int))), veq ((o11.at 1 j)), veq (o10.v), veq (.int .i64 (((j : Nat) : Int))), veq (s7.v), veq (.int .i64 (((j : Nat) : Int))), veq ((s7.at 1 j)), vls ma (M.mulm ma (fun i j => Ra j i) Ra j), veq (.int .i64 (((j : Nat) : Int))), vat ma (M.mulm ma (fun i j => Ra j i) Ra j) j, vnum (M.mulm ma (fun i j => Ra j i) Ra j j), vnum (1), vnum ((M.mulm ma (fun i j => Ra j i) Ra j j) + 1), veq ((o10.at 2 j))] : List VF) → VSt k := by
      intro k hk
      simp only [List.mem_cons, List.not_mem_nil, or_false] at hk
      rcases hk with rfl | rfl | rfl | rfl | rfl | rfl | rfl | rfl | rfl | rfl | rfl | rfl | rfl | rfl | rfl
      ·
       exact veq_st _
      ·
       exact veq_st _
      ·
       exact veq_st _
      ·
       exact veq_st _
      ·
       exact veq_st _
      ·
       exact veq_st _
      ·
       exact veq_st _
      ·
       exact veq_st _
      ·
       exact vls_st _ _
      ·
       exact veq_st _
      ·
       exact vat_st _ _ _
      ·
       exact vnum_st _
      ·
       exact vnum_st _
      ·
       exact vnum_st _
      ·
       exact veq_st _
     refine wp_region_q 15 [some 74, some 75, some 76, some 77, some 78, some 79, some 80, some 81, some 82, some 83, some 84, some 85, some 86, some 87, some 88] (vzL [veq (o11.v), veq (.int .i64 (((j : Nat) : Int))), veq ((o11.at 1 j)), veq (o10.v), veq (.int .i64 (((j : Nat) : Int))), veq (s7.v), veq (.int .i64 (((j : Nat) : Int))), veq ((s7.at 1 j)), vls ma (M.mulm ma (fun i j => Ra j i) Ra j), veq (.int .i64 (((j : Nat) : Int))), vat ma (M.mulm ma (fun i j => Ra j i) Ra j) j, vnum (M.mulm ma (fun i j => Ra j i) Ra j j), vnum (1), vnum ((M.mulm ma (fun i j => Ra j i) Ra j j) + 1), veq ((o10.at 2 j))] X28) (fun W => Zs w W X0 X28 ([] ++ (owl o10 C10 45 ++ owl o11 C11 39)) [Fl 1 (ER (fun _ => ma) (dfm ma Ra)) j Co, Fl 2 (EN (M.mulm ma (fun i j => Ra j i) Ra j)) ma C10, Mt ma (fun _ => ma) Ra s1, Ls ma (xl kl xl_) s2, Mt ma (fun _ => ma) (M.mulm ma (fun i j => Ra j i) Ra) s7] ∧ Below W11.heap.size W11 W) (by kernel_rfl) (by kernel_rfl) (by rfl) (by decide) (by rfl) hM ?_ ?_
     ·
      intro i hl hi LL uu ww aa hLi hLc hJ hd hev hin hold
      clear hM
      obtain ⟨hJ, hJb⟩ := hJ
      obtain rfl | rfl | rfl | rfl | rfl | rfl | rfl | rfl | rfl | rfl | rfl | rfl | rfl | rfl | rfl : i = 0 ∨ i = 1 ∨ i = 2 ∨ i = 3 ∨ i = 4 ∨ i = 5 ∨ i = 6 ∨ i = 7 ∨ i = 8 ∨ i = 9 ∨ i = 10 ∨ i = 11 ∨ i = 12 ∨ i = 13 ∨ i = 14 := by omega
      ·
       exact .inr ⟨rfl, fun K' hK => wp_move (.tmp 15) rfl (eval_tmp ((hev 15 (by decide)).trans rfl)) (hK _ _ ⟨hJ, hJb⟩ rfl vzL_same)⟩
      ·
       exact .inr ⟨rfl, fun K' hK => wp_move (.tmp 16) rfl (eval_tmp ((hev 16 (by decide)).trans rfl)) (hK _ _ ⟨hJ, hJb⟩ rfl vzL_same)⟩
      ·
       exact .inr ⟨rfl, fun K' hK => wp_ixs 25 (.tmp 74) (.tmp 75) o11 j 1 39 rfl (eval_tmp ((hin 0 74 rfl).trans (congrArg some (show uu 0 = o11.v from hd 0 (by decide) (by kernel_rfl))))) (eval_tmp ((hin 1 75 rfl).trans (congrArg some (show uu 1 = .int .i64 (((j : Nat) : Int)) from hd 1 (by decide) (by kernel_rfl))))) (by kernel_rfl) sz39 hw_o11.nil (by rw [hn_o11]; omega) (hK _ _ ⟨hJ, hJb⟩ rfl vzL_same)⟩
      ·
       exact .inr ⟨rfl, fun K' hK => wp_ldown 39 39 (.tmp 76) o11 j C11 rfl (eval_tmp ((hin 2 76 rfl).trans (congrArg some (show uu 2 = (o11.at 1 j) from hd 2 (by decide) (by kernel_rfl))))) hw_o11 (hJ.perm ((List.Perm.append_left _ List.perm_append_comm).trans (perm_mid _ _ _))) (by rw [hn_o11]; omega) (hg_C11 0 (by omega)) ag39 (hK _ _ ⟨hJ, hJb⟩ rfl vzL_same)⟩
      ·
       exact .inr ⟨rfl, fun K' hK => wp_move (.tmp 16) rfl (eval_tmp ((hev 16 (by decide)).trans rfl)) (hK _ _ ⟨hJ, hJb⟩ rfl vzL_same)⟩
      ·
       exact .inr ⟨rfl, fun K' hK => wp_move (.tmp 14) rfl (eval_tmp ((hev 14 (by decide)).trans rfl)) (hK _ _ ⟨hJ, hJb⟩ rfl vzL_same)⟩
      ·
       exact .inr ⟨rfl, fun K' hK => wp_move (.tmp 16) rfl (eval_tmp ((hev 16 (by decide)).trans rfl)) (hK _ _ ⟨hJ, hJb⟩ rfl vzL_same)⟩
      ·
       exact .inr ⟨rfl, fun K' hK => wp_ixs 25 (.tmp 79) (.tmp 80) s7 j 1 39 rfl (eval_tmp ((hin 5 79 rfl).trans (congrArg some (show uu 5 = s7.v from hd 5 (by decide) (by kernel_rfl))))) (eval_tmp ((hin 6 80 rfl).trans (congrArg some (show uu 6 = .int .i64 (((j : Nat) : Int)) from hd 6 (by decide) (by kernel_rfl))))) (by kernel_rfl) sz39 (fun h => ((hJ.get 4 (f := Mt ma (fun _ => ma) (M.mulm ma (fun i j => Ra j i) Ra) s7) rfl).sq.nil h).1) ((hJ.get 4 (f := Mt ma (fun _ => ma) (M.mulm ma (fun i j => Ra j i) Ra) s7) rfl).n ▸ (by omega)) (hK _ _ ⟨hJ, hJb⟩ rfl vzL_same)⟩
      ·
       exact .inr ⟨rfl, fun K' hK => wp_ldm 39 (.tmp 81) s7 j ma (fun _ => ma) (M.mulm ma (fun i j => Ra j i) Ra) rfl (eval_tmp ((hin 7 81 rfl).trans (congrArg some (show uu 7 = (s7.at 1 j) from hd 7 (by decide) (by kernel_rfl))))) (hJ.get 4 (f := Mt ma (fun _ => ma) (M.mulm ma (fun i j => Ra j i) Ra) s7) rfl) (by omega) ag39 (fun s12 hi_s12 => hK _ _ ⟨hJ, hJb⟩ ⟨s12, rfl, hi_s12⟩ vzL_same)⟩
      ·
       exact .inr ⟨rfl, fun K' hK => wp_move (.tmp 16) rfl (eval_tmp ((hev 16 (by decide)).trans rfl)) (hK _ _ ⟨hJ, hJb⟩ rfl vzL_same)⟩
      ·
       obtain ⟨s12, e8, hi_s12⟩ := (show (vls ma (M.mulm ma (fun i j => Ra j i) Ra j)) (uu 8) X28 ww from hd 8 (by decide) (by kernel_rfl))
       replace hJ := hJ.more (f := Ls ma (M.mulm ma (fun i j => Ra j i) Ra j) s12) (Ls.stb _ _ _) hi_s12
       exact .inr ⟨rfl, fun K' hK => wp_ixs 39 (.tmp 82) (.tmp 83) s12 j 2 45 rfl (eval_tmp ((hin 8 82 rfl).trans (congrArg some e8))) (eval_tmp ((hin 9 83 rfl).trans (congrArg some (show uu 9 = .int .i64 (((j : Nat) : Int)) from hd 9 (by decide) (by kernel_rfl))))) (by kernel_rfl) sz45 (fun h => ((hJ.get 0 (f := Ls ma (M.mulm ma (fun i j => Ra j i) Ra j) s12) rfl).sq.nil h).1) ((hJ.get 0 (f := Ls ma (M.mulm ma (fun i j => Ra j i) Ra j) s12) rfl).n ▸ (by omega)) (hK _ _ ⟨(hJ.only [Fl 1 (ER (fun _ => ma) (dfm ma Ra)) j Co, Fl 2 (EN (M.mulm ma (fun i j => Ra j i) Ra j)) ma C10, Mt ma (fun _ => ma) Ra s1, Ls ma (xl kl xl_) s2, Mt ma (fun _ => ma) (M.mulm ma (fun i j => Ra j i) Ra) s7] (by simp)), hJb⟩ ⟨s12, rfl, hi_s12⟩ vzL_same)⟩
      ·
       obtain ⟨s12, e10, hi_s12⟩ := (show (vat ma (M.mulm ma (fun i j => Ra j i) Ra j) j) (uu 10) X28 ww from hd 10 (by decide) (by kernel_rfl))
       replace hJ := hJ.more (f := Ls ma (M.mulm ma (fun i j => Ra j i) Ra j) s12) (Ls.stb _ _ _) hi_s12
       exact .inr ⟨rfl, fun K' hK => wp_ldn 45 (.tmp 84) s12 j ma (M.mulm ma (fun i j => Ra j i) Ra j) rfl (eval_tmp ((hin 10 84 rfl).trans (congrArg some e10))) (hJ.get 0 (f := Ls ma (M.mulm ma (fun i j => Ra j i) Ra j) s12) rfl) (by omega) ag45 sz45 (fun q13 ez_q13 hi_q13 => hK _ _ ⟨(hJ.only [Fl 1 (ER (fun _ => ma) (dfm ma Ra)) j Co, Fl 2 (EN (M.mulm ma (fun i j => Ra j i) Ra j)) ma C10, Mt ma (fun _ => ma) Ra s1, Ls ma (xl kl xl_) s2, Mt ma (fun _ => ma) (M.mulm ma (fun i j => Ra j i) Ra) s7] (by simp)), hJb⟩ ⟨q13, rfl, ez_q13, hi_q13⟩ vzL_same)⟩
      ·
       refine .inr ⟨rfl, fun K' hK => ?_⟩
       refine wp_callz (.func 33) #[.const (.int .i64 1)] #[2] 33 #[] #[.int .i64 1] _ rfl rfl (map1 rfl) rfl (fun _ _ => rfl) (zOf hJ.nx (by omega) (by omega)) ?_
       rintro zz ww2 ⟨q14, rfl, ez_q14, hi_q14, hB⟩
       exact ⟨_, rfl, hK _ _ ⟨hJ.later hB, hJb.trans (hB.mono hJb.size)⟩ ⟨q14, rfl, ez_q14, hi_q14⟩ (vzL_later hVS18 hB)⟩
      ·
       obtain ⟨q13, e11, ez_q13, hi_q13⟩ := (show (vnum (M.mulm ma (fun i j => Ra j i) Ra j j)) (uu 11) X28 ww from hd 11 (by decide) (by kernel_rfl))
       obtain ⟨q14, e12, ez_q14, hi_q14⟩ := (show (vnum (1)) (uu 12) X28 ww from hd 12 (by decide) (by kernel_rfl))
       replace hJ := hJ.more (f := q13.is) q13.stb hi_q13
       replace hJ := hJ.more (f := q14.is) q14.stb hi_q14
       refine .inr ⟨rfl, fun K' hK => ?_⟩
       refine wp_callz (.func 32) #[.tmp 85, .tmp 86] #[45, 45] 32 #[] #[q13.v, q14.v] _ rfl rfl (map2 (eval_tmp ((hin 11 85 rfl).trans (congrArg some e11))) (eval_tmp ((hin 12 86 rfl).trans (congrArg some e12)))) rfl (fun _ _ => rfl) (zAdd hJ.nx (hJ.get 1 (f := q13.is) rfl) (hJ.get 0 (f := q14.is) rfl) ez_q13 ez_q14 ((fun (t : Nat) (ht : t < ma) => (fun (i k : Nat) (hi : i < ma) (hk : k < ma) => sm_sz (fun (t : Nat) (ht : t < ma) => Sz.mul ((fun (i j : Nat) (hi : i < ma) (hj : j < ma) => (fun (i k : Nat) (hi : i < ma) (hk : k < ma) => sz_int (rga.out i k hi (by rw [ha.2 i hi]; exact hk)).1 (rga.out i k hi (by rw [ha.2 i hi]; exact hk)).2) j i hj hi) i t hi ht) ((fun (i k : Nat) (hi : i < ma) (hk : k < ma) => sz_int (rga.out i k hi (by rw [ha.2 i hi]; exact hk)).1 (rga.out i k hi (by rw [ha.2 i hi]; exact hk)).2) t k ht hk))) j t hlj ht) j (by omega)) (sz_int (by omega) (by omega)) (by omega) (by omega)) ?_
       rintro zz ww2 ⟨q15, rfl, ez_q15, hi_q15, hB⟩
       exact ⟨_, rfl, hK _ _ ⟨(hJ.only [Fl 1 (ER (fun _ => ma) (dfm ma Ra)) j Co, Fl 2 (EN (M.mulm ma (fun i j => Ra j i) Ra j)) ma C10, Mt ma (fun _ => ma) Ra s1, Ls ma (xl kl xl_) s2, Mt ma (fun _ => ma) (M.mulm ma (fun i j => Ra j i) Ra) s7] (by simp)).later hB, hJb.trans (hB.mono hJb.size)⟩ ⟨q15, rfl, ez_q15, hi_q15⟩ (vzL_later hVS18 hB)⟩
      ·
       exact .inr ⟨rfl, fun K' hK => wp_ixs 39 (.tmp 77) (.tmp 78) o10 j 2 45 rfl (eval_tmp ((hin 3 77 rfl).trans (congrArg some (show uu 3 = o10.v from hd 3 (by decide) (by kernel_rfl))))) (eval_tmp ((hin 4 78 rfl).trans (congrArg some (show uu 4 = .int .i64 (((j : Nat) : Int)) from hd 4 (by decide) (by kernel_rfl))))) (by kernel_rfl) sz45 hw_o10.nil (by rw [hn_o10]; omega) (hK _ _ ⟨hJ, hJb⟩ rfl vzL_same)⟩
     clear hM
     intro uu W12 hZ30p hd
     obtain ⟨hZ30, hb18⟩ := hZ30p
     have e_0 : uu 0 = o11.v := hd 0 (by decide)
     have e_1 : uu 1 = .int .i64 (((j : Nat) : Int)) := hd 1 (by decide)
     have e_2 : uu 2 = (o11.at 1 j) := hd 2 (by decide)
     have e_3 : uu 3 = o10.v := hd 3 (by decide)
     have e_4 : uu 4 = .int .i64 (((j : Nat) : Int)) := hd 4 (by decide)
     have e_5 : uu 5 = s7.v := hd 5 (by decide)
     have e_6 : uu 6 = .int .i64 (((j : Nat) : Int)) := hd 6 (by decide)
     have e_7 : uu 7 = (s7.at 1 j) := hd 7 (by decide)
     obtain ⟨s12, e_8, hi_s12⟩ := (show (vls ma (M.mulm ma (fun i j => Ra j i) Ra j)) (uu 8) X28 W12 from hd 8 (by decide))
     have e_9 : uu 9 = .int .i64 (((j : Nat) : Int)) := hd 9 (by decide)
     obtain ⟨s12_10, e_10, hi_s12_10⟩ := (show (vat ma (M.mulm ma (fun i j => Ra j i) Ra j) j) (uu 10) X28 W12 from hd 10 (by decide))
     obtain ⟨q13, e_11, ez_q13, hi_q13⟩ := (show (vnum (M.mulm ma (fun i j => Ra j i) Ra j j)) (uu 11) X28 W12 from hd 11 (by decide))
     obtain ⟨q14, e_12, ez_q14, hi_q14⟩ := (show (vnum (1)) (uu 12) X28 W12 from hd 12 (by decide))
     obtain ⟨q15, e_13, ez_q15, hi_q15⟩ := (show (vnum ((M.mulm ma (fun i j => Ra j i) Ra j j) + 1)) (uu 13) X28 W12 from hd 13 (by decide))
     have e_14 : uu 14 = (o10.at 2 j) := hd 14 (by decide)
     clear hd hVS18
     simp only [layS, Act.put, zzC, zzD, zzE, Nat.zero_add, Nat.reduceAdd, List.drop_succ_cons, List.drop_zero, List.drop_nil, e_0, e_1, e_2, e_3, e_4, e_5, e_6, e_7, e_8, e_9, e_10, e_11, e_12, e_13, e_14]
     clear e_0 e_1 e_2 e_3 e_4 e_5 e_6 e_7 e_8 e_9 e_10 e_11 e_12 e_13 e_14
     have hZ31 := hZ30.more (f := Ls ma (M.mulm ma (fun i j => Ra j i) Ra j) s12) (Ls.stb _ _ _) hi_s12
     clear hZ30
     clear hi_s12
     have hZ32 := hZ31.more (f := Ls ma (M.mulm ma (fun i j => Ra j i) Ra j) s12_10) (Ls.stb _ _ _) hi_s12_10
     clear hZ31
     clear hi_s12_10
     have hZ33 := hZ32.more (f := q13.is) q13.stb hi_q13
     clear hZ32
     clear hi_q13
     have hZ34 := hZ33.more (f := q14.is) q14.stb hi_q14
     clear hZ33
     clear hi_q14
     have hZ35 := hZ34.more (f := q15.is) q15.stb hi_q15
     clear hZ34
     clear hi_q15
     have hZ36y := hZ35.perm (perm_mid _ _ _)
     go_wp2_with (refine stopz_put 45 (.tmp 88) (.tmp 87) o10 C10 j [.bool q15.b, .slice q15.a q15.n q15.c] rfl rfl rfl rfl sz45 rfl (by kernel_rfl) hw_o10 (by rw [hn_o10]; omega) hZ36y (fun C16 W13 hw_o10n hg_C16 ho_C16 hZ36x => ?_))
     clear hZ36y hw_o10
     have hw_o10 := hw_o10n
     clear hw_o10n
     have hZ36 := hZ36x.perm (List.Perm.symm (perm_mid _ _ _))
     clear hZ36x
     clear hZ35
     unfold Stop
     try simp only [Act.put, zzC, zzD, zzE]
     have hZ37r : Fl 2 (EN (dfm ma Ra j)) ma C16 X28 W13 := Fl.put (hZ36.get 6 (f := Fl 2 (EN (M.mulm ma (fun i j => Ra j i) Ra j)) ma C10) rfl) (cs := [.bool q15.b, .slice q15.a q15.n q15.c]) rfl hg_C16 ho_C16 ⟨q15, ez_q15.trans (by unfold dfm; rw [if_pos rfl]), hZ36.get 0 (f := q15.is) rfl, rfl⟩ (fun m cs _ hne ⟨p, h1, h2, h3⟩ => ⟨p, h1.trans (by unfold dfm; rw [if_neg hne]), h2, h3⟩)
     obtain ⟨X38, hZ38⟩ := Zs.tell (hZ36.perm (perm_mid _ _ _)) hX hw_o10 hn_o10 hZ37r
     clear hZ36
     clear hZ37r
     have hZ39s : Fl 1 (ER (fun _ => ma) (dfm ma Ra)) (j + 1) C11 X38 W13 := Fl.snoc (C := Co) (hZ38.get 6 (f := Fl 1 (ER (fun _ => ma) (dfm ma Ra)) j Co) rfl) (cs := [o10.v]) rfl ho_C11 hg_C11 ⟨o10, hZ38.get 0 (f := Ls ma (dfm ma Ra j) o10) rfl, rfl⟩
     have hZ39 := (hZ38.more (Fl.stb (ER.stb _ _) _ _) hZ39s).only [Fl 1 (ER (fun _ => ma) (dfm ma Ra)) (j + 1) C11, Mt ma (fun _ => ma) Ra s1, Ls ma (xl kl xl_) s2, Mt ma (fun _ => ma) (M.mulm ma (fun i j => Ra j i) Ra) s7] (by simp)
     clear hZ38 hZ39s
     go_wp2_with (refine stop_op rfl (fun K hK => wp_addi (.tmp 63) (.const (.int .i64 1)) rfl rfl rfl (C := ((j + 1 : Nat) : Int)) (by omega) (by omega) (by omega) (hK _ _ ?_)))
     unfold Stop
     try simp only [Act.put, zzC, zzD, zzE]
     go_wp2
     go_roundw
     case rel => exact ⟨j + 1, o11, C11, _, by omega, by go_num, rfl, hn_o11, hw_o11, hZ39⟩
     case measure => simp [intOf]; omega
    ·
     obtain rfl : ma = j := by omega
     go_wp2_with (refine stop_op rfl (fun K hK => wp_lenq (.tmp 60) 25 39 s7 rfl (by kernel_rfl) rfl (hZm.get 3 (f := Mt ma (fun _ => ma) (M.mulm ma (fun i j => Ra j i) Ra) s7) rfl).n (hK _ _ ?_)))
     unfold Stop
     try simp only [Act.put, zzC, zzD, zzE]
     go_wp2_with (refine stop_op rfl (fun K hK => wp_lssi (.tmp 59) (.tmp 61) rfl rfl rfl (r := false) (decide_eq_false (Int.lt_irrefl _)) (hK _ _ ?_)))
     unfold Stop
     try simp only [Act.put, zzC, zzD, zzE]
     have hZ40f : Mt ma (fun _ => ma) (dfm ma Ra) so X0 wr := ⟨hn_so, hZm.sq hX (ER.stb _ _) hw_so (T := 39) (fun p hp => by first | exact hp | exact List.mem_append_right _ hp) (hn_so ▸ hZm.get 0 (f := Fl 1 (ER (fun _ => ma) (dfm ma Ra)) ma Co) rfl)⟩
     have hZ40 := (hZm.close hX).more (Mt.stb _ _ _ _) hZ40f
     clear hZm hZ40f
     have hZ41 := hZ40.only [Mt ma (fun _ => ma) (dfm ma Ra) so, Mt ma (fun _ => ma) Ra s1, Ls ma (xl kl xl_) s2] (by simp)
     clear hZ40
     go_wp2_with fail
     refine ((lDefinite hZ41.nx so (e := (6 + ma)) (by omega) (by omega) (by omega) (hZ41.get 0 (f := Mt ma (fun _ => ma) (dfm ma Ra) so) rfl) (dfm_sz (fun (i k : Nat) (hi : i < ma) (hk : k < ma) => sz_int (rga.out i k hi (by rw [ha.2 i hi]; exact hk)).1 (rga.out i k hi (by rw [ha.2 i hi]; exact hk)).2))).mono (fun _ _ h => by rw [decide_eq_true ⟨dfm_sym ma Ra, dfm_lead (by omega) (dfm_sz (fun (i k : Nat) (hi : i < ma) (hk : k < ma) => sz_int (rga.out i k hi (by rw [ha.2 i hi]; exact hk)).1 (rga.out i k hi (by rw [ha.2 i hi]; exact hk)).2))⟩] at h; exact h)).mono ?_
     rintro zz W14 ⟨rfl, hB⟩
     have hZ42 := hZ41.later hB
     clear hB
     clear hZ41
     have hZ43 := hZ42.only [Mt ma (fun _ => ma) (dfm ma Ra) so, Mt ma (fun _ => ma) Ra s1, Ls ma (xl kl xl_) s2] (by simp)
     clear hZ42
     go_wp2_with fail
     refine (lQuad hZ43.nx so s2 (e := (6 + ma) + 2) (hZ43.get 0 (f := Mt ma (fun _ => ma) (dfm ma Ra) so) rfl) (hZ43.get 2 (f := Ls ma (xl kl xl_) s2) rfl) (fun i k hi hk => ((dfm_sz (fun (i k : Nat) (hi : i < ma) (hk : k < ma) => sz_int (rga.out i k hi (by rw [ha.2 i hi]; exact hk)).1 (rga.out i k hi (by rw [ha.2 i hi]; exact hk)).2)) i k hi hk).mono (Nat.le_add_right _ _)) (fun k hk => ((fun (i : Nat) (_ : i < ma) => xl_in rgl.out i) k hk).mono (Nat.le_add_left _ _)) (by omega) (by omega)).mono ?_
     rintro zz W15 ⟨q17, rfl, ez_q17, hi_q17, hB⟩
     have hZ44 := hZ43.later hB
     clear hB
     clear hZ43
     have hZ45 := hZ44.more (f := q17.is) q17.stb hi_q17
     clear hZ44
     clear hi_q17
     go_wp2_with fail
     refine (zSign (hZ45.get 0 (f := q17.is) rfl) ez_q17).mono ?_
     rintro zz W16 ⟨rfl, hB⟩
     have hZ46 := hZ45.later hB
     clear hB
     clear hZ45
     have hZ47 := hZ46.only [Mt ma (fun _ => ma) (dfm ma Ra) so, Mt ma (fun _ => ma) Ra s1, Ls ma (xl kl xl_) s2] (by simp)
     clear hZ46
     go_wp2_with fail
     refine (lDet hZ47.nx so (e := (6 + ma)) (by omega) (by omega) (by omega) (hZ47.get 0 (f := Mt ma (fun _ => ma) (dfm ma Ra) so) rfl) (dfm_sz (fun (i k : Nat) (hi : i < ma) (hk : k < ma) => sz_int (rga.out i k hi (by rw [ha.2 i hi]; exact hk)).1 (rga.out i k hi (by rw [ha.2 i hi]; exact hk)).2))).mono ?_
     rintro zz W17 ⟨q18, rfl, ez_q18, hi_q18, hB⟩
     have hZ48 := hZ47.later hB
     clear hB
     clear hZ47
     have hZ49 := hZ48.more (f := q18.is) q18.stb hi_q18
     clear hZ48
     clear hi_q18
     go_wp2_with fail
     refine (zSign (hZ49.get 0 (f := q18.is) rfl) ez_q18).mono ?_
     rintro zz W18 ⟨rfl, hB⟩
     have hZ50 := hZ49.later hB
     clear hB
     clear hZ49
     have hZ51 := hZ50.only [Mt ma (fun _ => ma) (dfm ma Ra) so, Mt ma (fun _ => ma) Ra s1, Ls ma (xl kl xl_) s2] (by simp)
     clear hZ50
     go_wp2_with fail
     refine ((lDefinite hZ51.nx s1 (e := 2) (by omega) (by omega) (by omega) (hZ51.get 1 (f := Mt ma (fun _ => ma) Ra s1) rfl) (fun (i k : Nat) (hi : i < ma) (hk : k < ma) => sz_int (rga.out i k hi (by rw [ha.2 i hi]; exact hk)).1 (rga.out i k hi (by rw [ha.2 i hi]; exact hk)).2)).mono (fun _ _ h => by rw [decide_eq_false HO.out] at h; exact h)).mono ?_
     rintro zz W19 ⟨rfl, hB⟩
     have hZ52 := hZ51.later hB
     clear hB
     clear hZ51
     have hZ53 := hZ52.only [Mt ma (fun _ => ma) (dfm ma Ra) so, Mt ma (fun _ => ma) Ra s1, Ls ma (xl kl xl_) s2] (by simp)
     clear hZ52
     go_wp2_with fail
     refine (lQuad hZ53.nx s1 s2 (e := 2 + 2) (hZ53.get 1 (f := Mt ma (fun _ => ma) Ra s1) rfl) (hZ53.get 2 (f := Ls ma (xl kl xl_) s2) rfl) (fun i k hi hk => ((fun (i k : Nat) (hi : i < ma) (hk : k < ma) => sz_int (rga.out i k hi (by rw [ha.2 i hi]; exact hk)).1 (rga.out i k hi (by rw [ha.2 i hi]; exact hk)).2) i k hi hk).mono (Nat.le_add_right _ _)) (fun k hk => ((fun (i : Nat) (_ : i < ma) => xl_in rgl.out i) k hk).mono (Nat.le_add_left _ _)) (by omega) (by omega)).mono ?_
     rintro zz W20 ⟨q19, rfl, ez_q19, hi_q19, hB⟩
     have hZ54 := hZ53.later hB
     clear hB
     clear hZ53
     have hZ55 := hZ54.more (f := q19.is) q19.stb hi_q19
     clear hZ54
     clear hi_q19
     go_wp2_with fail
     refine (zSign (hZ55.get 0 (f := q19.is) rfl) ez_q19).mono ?_
     rintro zz W21 ⟨rfl, hB⟩
     have hZ56 := hZ55.later hB
     clear hB
     clear hZ55
     have hZ57 := hZ56.only [] (by simp)
     clear hZ56
     go_wp2_with (refine stop_opw (by kernel_rfl) (fun K hK => wp_gtri (.tmp 109) (.const (.int .i64 0)) rfl rfl rfl (r := true) (gtr_t (dfm_det (e := 6 + ma) (by omega) (dfm_sz (fun (i k : Nat) (hi : i < ma) (hk : k < ma) => sz_int (rga.out i k hi (by rw [ha.2 i hi]; exact hk)).1 (rga.out i k hi (by rw [ha.2 i hi]; exact hk)).2)))) (hK _ _ ?_)))
     unfold Stop
     try simp only [Act.put, zzC, zzD, zzE]
     go_wp2_with (refine stop_opw (by kernel_rfl) (fun K hK => wp_gtri (.tmp 113) (.const (.int .i64 0)) rfl rfl rfl (r := false) (gtr_f (Int.le_of_eq (qf_zero (fun i hi => Classical.byContradiction fun h => HS.out ⟨i, hi, h⟩)))) (hK _ _ ?_)))
     unfold Stop
     try simp only [Act.put, zzC, zzD, zzE]
     go_wp2
     go_ret
     exact ⟨rfl, hZ57.below⟩
end Go.Proofs.YtolpfibihialkaaDoor

/- The law LinDefinite of layer 7, walked. No statement of the seat is proved here. -/
namespace Go.Proofs.YtolpfibihialkaaDoor
open Go Go.RowKit
open Classical in
theorem ldfAny {X0 : Nat → Prop} {w : World} (hX : NX X0 w) (ra l : Sl) (ma kl : Nat) (ca : Nat → Nat) (Ra : Nat → Nat → Int) (xl_ : Nat → Int) (hra : Mi ma ca Ra ra X0 w) (hl_ : Li kl xl_ l X0 w) (rga0 : ∀ i j, i < ma → j < ca i → -9223372036854775808 ≤ Ra i j ∧ Ra i j ≤ 9223372036854775807) (rgl0 : ∀ i, i < kl → -9223372036854775808 ≤ xl_ i ∧ xl_ i ≤ 9223372036854775807)  : Calls Tryd.prog 7 #[ra.v, l.v] w (PVal (.bool true) w) := by
 by_cases ha : (ma ≤ 6 ∧ ∀ k, k < ma → ca k = ma)
 ·
  by_cases hs : (∃ k, k < ma ∧ (xl kl xl_) k ≠ 0)
  ·
   by_cases ho : (Sym ma Ra ∧ ∀ k, k < ma → 0 < M.dt (k + 1) Ra)
   ·
    exact ldf2 hX ra l ma kl ca Ra xl_ hra hl_ rga0 rgl0 ha hs ho
   ·
    exact ldf3 hX ra l ma kl ca Ra xl_ hra hl_ rga0 rgl0 ha hs ho
  ·
   by_cases ho : (Sym ma Ra ∧ ∀ k, k < ma → 0 < M.dt (k + 1) Ra)
   ·
    exact ldf4 hX ra l ma kl ca Ra xl_ hra hl_ rga0 rgl0 ha hs ho
   ·
    exact ldf5 hX ra l ma kl ca Ra xl_ hra hl_ rga0 rgl0 ha hs ho
 ·
  exact ldf1 hX ra l ma kl ca Ra xl_ hra hl_ rga0 rgl0 ha
end Go.Proofs.YtolpfibihialkaaDoor

/- What the walk of LinRules leans on. No statement of the seat is proved here. -/
namespace Go.Proofs.YtolpfibihialkaaDoor
open Go Go.RowKit
/-- Row p, so many times row q added to its first j numbers. -/
def mrw (A : Nat → Nat → Int) (p q : Nat) (c : Int) (j t : Nat) : Int := if t < j then A p t + A q t * c else A p t
/-- Row p, so many times row q added to it. -/
def adr (A : Nat → Nat → Int) (p q : Nat) (c : Int) : Nat → Nat → Int := M.rw' A p (fun j => 1 * A p j + c * A q j)
def chg (A : Nat → Nat → Int) (p q : Nat) : Nat → Nat → Int := M.rw' (M.rw' A p (A q)) q (A p)
theorem adr_sz {m p q : Nat} {A : Nat → Nat → Int} {c : Int} (hc : Sz 2 c) (hp : p < m) (hq : q < m) (hA : ∀ i j, i < m → j < m → Sz 2 (A i j)) : ∀ i j, i < m → j < m → Sz 8 (adr A p q c i j) := fun i j hi hj => by
 unfold adr
 by_cases e : i = p
 ·
  subst e
  rw [M.rw_self]
  exact (Sz.add (Sz.mul sz_one (hA _ j hi hj)) (Sz.mul hc (hA q j hq hj))).mono (Nat.le_refl _)
 ·
  rw [M.rw_ne e]
  exact (hA i j hi hj).mono (by omega)
theorem chg_sz {m p q : Nat} {A : Nat → Nat → Int} (hp : p < m) (hq : q < m) (hA : ∀ i j, i < m → j < m → Sz 2 (A i j)) : ∀ i j, i < m → j < m → Sz 2 (chg A p q i j) := fun i j hi hj => by
 unfold chg
 by_cases e : i = q
 ·
  subst e; rw [M.rw_self]; exact hA p j hp hj
 ·
  rw [M.rw_ne e]
  by_cases e1 : i = p
  ·
   subst e1; rw [M.rw_self]; exact hA q j hq hj
  ·
   rw [M.rw_ne e1]; exact hA i j hi hj
theorem adr_dt {m p q : Nat} (A : Nat → Nat → Int) (c : Int) (h : p ≠ q) (hp : p < m) (hq : q < m) : M.dt m (adr A p q c) = M.dt m A := by
 have := (M.dt_alt m).addrow A 1 c h hp hq
 rw [Int.one_mul] at this
 exact this
theorem chg_dt {m p q : Nat} (A : Nat → Nat → Int) (h : p ≠ q) (hp : p < m) (hq : q < m) : M.dt m (chg A p q) = - M.dt m A := (M.dt_alt m).change A h hp hq
section
variable {w W : World} {X0 X : Nat → Prop} {l : List (Nat × Array Value × TypeId)} {fs : List Fa} {n p q : Nat} {A : Nat → Nat → Int} {c : Int}
/-- The matrix whose row p is one's own is told. -/
theorem adr_fl {ro : Sl} {C : Array Value} (hr : Ls n (mrw A p q c n) ro X W) (h : Fl 1 (ERo p ro (fun _ => n) A) n C X W) : Fl 1 (ER (fun _ => n) (adr A p q c)) n C X W := h.congr fun i cs _ hE => by
 by_cases e : i = p
 ·
  have h' : cs = [ro.v] := by simpa only [ERo, if_pos e] using hE
  subst e
  refine ⟨ro, hr.congr fun j hj => ?_, h'⟩
  unfold mrw adr
  rw [if_pos hj, M.rw_self]
  grind
 ·
  have h' : ER (fun _ => n) A X W i cs := by simpa only [ERo, if_neg e] using hE
  obtain ⟨r, h1, h2⟩ := h'
  exact ⟨r, h1.congr fun j _ => (M.rw_ne e j).symm, h2⟩
theorem ero_at {ro : Sl} {C : Array Value} (h : Fl 1 (ERo p ro (fun _ => n) A) n C X W) (hp : p < n) : C[p * 1 + 0]? = some ro.v := by
 obtain ⟨cs, h1, h2, h3⟩ := h p hp
 have h' : cs = [ro.v] := by simpa only [ERo, if_true] using h3
 rw [h2 0 (by omega), h']
 rfl
theorem ero_slz {ro r0 : Sl} {C : Array Value} (h : Fl 1 (ERo p r0 (fun _ => n) A) p C X W) : Fl 1 (ERo p ro (fun _ => n) A) p C X W := h.congr fun i cs hi hE => by
 have e : i ≠ p := by omega
 have h' : ER (fun _ => n) A X W i cs := by simpa only [ERo, if_neg e] using hE
 simpa only [ERo, if_neg e] using h'
theorem ero_self {ro : Sl} {i : Nat} (hi : i = p) : ERo p ro (fun _ => n) A X W i [ro.v] := by simp only [ERo, if_pos hi]
theorem ero_row {ro r : Sl} {i : Nat} (hi : i ≠ p) (h : Ls n (A i) r X W) : ERo p ro (fun _ => n) A X W i [r.v] := by
 have h' : ER (fun _ => n) A X W i [r.v] := ⟨r, h, rfl⟩
 simpa only [ERo, if_neg hi] using h'
end
end Go.Proofs.YtolpfibihialkaaDoor

/- The law LinRules of layer 7, walked: one way of it. No statement of the seat is proved here. -/
namespace Go.Proofs.YtolpfibihialkaaDoor
open Go Go.RowKit
open Classical in
set_option maxRecDepth 100000 in
set_option maxHeartbeats 25600000 in
theorem lru1 {X0 : Nat → Prop} {w : World} (hX : NX X0 w) (ra rb : Sl) (ma mb : Nat) (ca cb : Nat → Nat) (Ra Rb : Nat → Nat → Int) (vi vk tm : Int) (hra : Mi ma ca Ra ra X0 w) (hrb : Mi mb cb Rb rb X0 w) (rga0 : ∀ i j, i < ma → j < ca i → -9223372036854775808 ≤ Ra i j ∧ Ra i j ≤ 9223372036854775807) (rgb0 : ∀ i j, i < mb → j < cb i → -9223372036854775808 ≤ Rb i j ∧ Rb i j ≤ 9223372036854775807) (btm : -9223372036854775808 ≤ tm ∧ tm ≤ 9223372036854775807) (ha : ¬ (ma ≤ 7 ∧ ∀ k, k < ma → ca k = ma)) : Calls Tryd.prog 6 #[ra.v, rb.v, .int .i64 vi, .int .i64 vk, .int .i64 tm] w (PVal (.bool true) w) := by
 have rga := Lib.hid rga0
 clear rga0
 have rgb := Lib.hid rgb0
 clear rgb0
 have hZ0 := zs_start hX
 have hZ1 := hZ0.more (f := Mi mb cb Rb rb) (Mi.stb _ _ _ _) hrb
 clear hZ0
 have hZ2 := hZ1.more (f := Mi ma ca Ra ra) (Mi.stb _ _ _ _) hra
 clear hZ1
 go_enter Tryd.func6, Tryd.ntmps6
 go_wp2_with fail
 refine (gAwake hZ2.nx).mono ?_
 rintro zz W1 ⟨rfl, hB⟩
 have hZ3 := hZ2.later hB
 clear hB
 clear hZ2
 go_wp2_with fail
 refine (gReadN hZ3.nx ra 7 (hZ3.get 0 (f := Mi ma ca Ra ra) rfl) (by omega) ha).mono ?_
 rintro zz W2 ⟨rfl, hB⟩
 have hZ4 := hZ3.later hB
 clear hB
 clear hZ3
 go_wp2_with fail
 refine (gReadD hZ4.nx rb 7 (hZ4.get 1 (f := Mi mb cb Rb rb) rfl) (by omega) rgb.out).mono ?_
 rintro zz W3 ⟨s1, s1r, t1, rfl, hB⟩
 have hZ5 := hZ4.later hB
 clear hB
 clear hZ4
 go_wp2
 go_ret
 exact ⟨rfl, hZ5.below⟩
end Go.Proofs.YtolpfibihialkaaDoor

/- The law LinRules of layer 7, walked: one way of it. No statement of the seat is proved here. -/
namespace Go.Proofs.YtolpfibihialkaaDoor
open Go Go.RowKit
open Classical in
set_option maxRecDepth 100000 in
set_option maxHeartbeats 25600000 in
theorem lru2 {X0 : Nat → Prop} {w : World} (hX : NX X0 w) (ra rb : Sl) (ma mb : Nat) (ca cb : Nat → Nat) (Ra Rb : Nat → Nat → Int) (vi vk tm : Int) (hra : Mi ma ca Ra ra X0 w) (hrb : Mi mb cb Rb rb X0 w) (rga0 : ∀ i j, i < ma → j < ca i → -9223372036854775808 ≤ Ra i j ∧ Ra i j ≤ 9223372036854775807) (rgb0 : ∀ i j, i < mb → j < cb i → -9223372036854775808 ≤ Rb i j ∧ Rb i j ≤ 9223372036854775807) (btm : -9223372036854775808 ≤ tm ∧ tm ≤ 9223372036854775807) (ha : (ma ≤ 7 ∧ ∀ k, k < ma → ca k = ma)) (hb : ¬ (mb ≤ 7 ∧ ∀ k, k < mb → cb k = mb)) : Calls Tryd.prog 6 #[ra.v, rb.v, .int .i64 vi, .int .i64 vk, .int .i64 tm] w (PVal (.bool true) w) := by
 have rga := Lib.hid rga0
 clear rga0
 have rgb := Lib.hid rgb0
 clear rgb0
 have hZ0 := zs_start hX
 have hZ1 := hZ0.more (f := Mi mb cb Rb rb) (Mi.stb _ _ _ _) hrb
 clear hZ0
 have hZ2 := hZ1.more (f := Mi ma ca Ra ra) (Mi.stb _ _ _ _) hra
 clear hZ1
 go_enter Tryd.func6, Tryd.ntmps6
 go_wp2_with fail
 refine (gAwake hZ2.nx).mono ?_
 rintro zz W1 ⟨rfl, hB⟩
 have hZ3 := hZ2.later hB
 clear hB
 clear hZ2
 go_wp2_with fail
 refine (gReadY hZ3.nx ra 7 (hZ3.get 0 (f := Mi ma ca Ra ra) rfl) (by omega) ha.1 ha.2 rga.out).mono ?_
 rintro zz W2 ⟨s1, s1r, rfl, hi_s1, hB⟩
 have hZ4 := hZ3.later hB
 clear hB
 clear hZ3
 have hZ5 := hZ4.more (f := Mt ma (fun _ => ma) Ra s1) (Mt.stb _ _ _ _) hi_s1
 clear hZ4
 clear hi_s1
 go_wp2_with fail
 refine (gReadN hZ5.nx rb 7 (hZ5.get 2 (f := Mi mb cb Rb rb) rfl) (by omega) hb).mono ?_
 rintro zz W3 ⟨rfl, hB⟩
 have hZ6 := hZ5.later hB
 clear hB
 clear hZ5
 go_wp2
 go_ret
 exact ⟨rfl, hZ6.below⟩
end Go.Proofs.YtolpfibihialkaaDoor

/- The law LinRules of layer 7, walked: one way of it. No statement of the seat is proved here. -/
namespace Go.Proofs.YtolpfibihialkaaDoor
open Go Go.RowKit
open Classical in
set_option maxRecDepth 100000 in
set_option maxHeartbeats 25600000 in
theorem lru3 {X0 : Nat → Prop} {w : World} (hX : NX X0 w) (ra rb : Sl) (ma mb : Nat) (ca cb : Nat → Nat) (Ra Rb : Nat → Nat → Int) (vi vk tm : Int) (hra : Mi ma ca Ra ra X0 w) (hrb : Mi mb cb Rb rb X0 w) (rga0 : ∀ i j, i < ma → j < ca i → -9223372036854775808 ≤ Ra i j ∧ Ra i j ≤ 9223372036854775807) (rgb0 : ∀ i j, i < mb → j < cb i → -9223372036854775808 ≤ Rb i j ∧ Rb i j ≤ 9223372036854775807) (btm : -9223372036854775808 ≤ tm ∧ tm ≤ 9223372036854775807) (ha : (ma ≤ 7 ∧ ∀ k, k < ma → ca k = ma)) (hb : (mb ≤ 7 ∧ ∀ k, k < mb → cb k = mb)) (eab : ¬ ma = mb) : Calls Tryd.prog 6 #[ra.v, rb.v, .int .i64 vi, .int .i64 vk, .int .i64 tm] w (PVal (.bool true) w) := by
 have rga := Lib.hid rga0
 clear rga0
 have rgb := Lib.hid rgb0
 clear rgb0
 have hZ0 := zs_start hX
 have hZ1 := hZ0.more (f := Mi mb cb Rb rb) (Mi.stb _ _ _ _) hrb
 clear hZ0
 have hZ2 := hZ1.more (f := Mi ma ca Ra ra) (Mi.stb _ _ _ _) hra
 clear hZ1
 go_enter Tryd.func6, Tryd.ntmps6
 go_wp2_with fail
 refine (gAwake hZ2.nx).mono ?_
 rintro zz W1 ⟨rfl, hB⟩
 have hZ3 := hZ2.later hB
 clear hB
 clear hZ2
 go_wp2_with fail
 refine (gReadY hZ3.nx ra 7 (hZ3.get 0 (f := Mi ma ca Ra ra) rfl) (by omega) ha.1 ha.2 rga.out).mono ?_
 rintro zz W2 ⟨s1, s1r, rfl, hi_s1, hB⟩
 have hZ4 := hZ3.later hB
 clear hB
 clear hZ3
 have hZ5 := hZ4.more (f := Mt ma (fun _ => ma) Ra s1) (Mt.stb _ _ _ _) hi_s1
 clear hZ4
 clear hi_s1
 go_wp2_with fail
 refine (gReadY hZ5.nx rb 7 (hZ5.get 2 (f := Mi mb cb Rb rb) rfl) (by omega) hb.1 hb.2 rgb.out).mono ?_
 rintro zz W3 ⟨s2, s2r, rfl, hi_s2, hB⟩
 have hZ6 := hZ5.later hB
 clear hB
 clear hZ5
 have hZ7 := hZ6.more (f := Mt mb (fun _ => mb) Rb s2) (Mt.stb _ _ _ _) hi_s2
 clear hZ6
 clear hi_s2
 go_wp2_with (refine stop_opw (by kernel_rfl) (fun K hK => wp_lenq (.tmp 47) 25 39 s1 rfl (by kernel_rfl) rfl (hZ7.get 1 (f := Mt ma (fun _ => ma) Ra s1) rfl).n (hK _ _ ?_)))
 unfold Stop
 try simp only [Act.put, zzC, zzD, zzE]
 go_wp2_with (refine stop_opw (by kernel_rfl) (fun K hK => wp_lenq (.tmp 49) 25 39 s2 rfl (by kernel_rfl) rfl (hZ7.get 0 (f := Mt mb (fun _ => mb) Rb s2) rfl).n (hK _ _ ?_)))
 unfold Stop
 try simp only [Act.put, zzC, zzD, zzE]
 go_wp2_with (refine stop_opw (by kernel_rfl) (fun K hK => wp_neqi (.tmp 48) (.tmp 50) 3 3 rfl rfl rfl rfl (r := true) (decide_eq_true (by omega)) (hK _ _ ?_)))
 unfold Stop
 try simp only [Act.put, zzC, zzD, zzE]
 go_wp2
 go_ret
 exact ⟨rfl, hZ7.below⟩
end Go.Proofs.YtolpfibihialkaaDoor
