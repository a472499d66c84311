/- Parts of the proof. -/
import Derived.Test.YtolpfibihialkaaDoorGl0
import Derived.Test.YtolpfibihialkaaDoorGl29
/- The law LinChain of layer 7, walked: one way of it. No statement of the seat is proved here. -/
namespace Go.Proofs.YtolpfibihialkaaDoor
open Go Go.RowKit
open Classical in
set_option maxRecDepth 100000 in
set_option maxHeartbeats 25600000 in
theorem lch6 {X0 : Nat → Prop} {w : World} (hX : NX X0 w) (ra rb rc l m : Sl) (ma mb mc kl km : Nat) (ca cb cc : Nat → Nat) (Ra Rb Rc : Nat → Nat → Int) (xl_ xm_ : Nat → Int) (hra : Mi ma ca Ra ra X0 w) (hrb : Mi mb cb Rb rb X0 w) (hrc : Mi mc cc Rc rc X0 w) (hl_ : Li kl xl_ l X0 w) (hm_ : Li km xm_ m X0 w) (rga0 : ∀ i j, i < ma → j < ca i → -9223372036854775808 ≤ Ra i j ∧ Ra i j ≤ 9223372036854775807) (rgb0 : ∀ i j, i < mb → j < cb i → -9223372036854775808 ≤ Rb i j ∧ Rb i j ≤ 9223372036854775807) (rgc0 : ∀ i j, i < mc → j < cc i → -9223372036854775808 ≤ Rc i j ∧ Rc i j ≤ 9223372036854775807) (rgl0 : ∀ i, i < kl → -9223372036854775808 ≤ xl_ i ∧ xl_ i ≤ 9223372036854775807) (rgm0 : ∀ i, i < km → -9223372036854775808 ≤ xm_ i ∧ xm_ i ≤ 9223372036854775807) (ha : (ma ≤ 6 ∧ ∀ k, k < ma → ca k = ma)) (hb : (mb ≤ 6 ∧ ∀ k, k < mb → cb k = mb)) (hc : (mc ≤ 6 ∧ ∀ k, k < mc → cc k = mc)) (eab : ma = mb) (eac : ma = mc) : Calls Tryd.prog 8 #[ra.v, rb.v, rc.v, l.v, m.v] w (PVal (.bool true) w) := by
 have rga := Lib.hid rga0
 clear rga0
 have rgb := Lib.hid rgb0
 clear rgb0
 have rgc := Lib.hid rgc0
 clear rgc0
 have rgl := Lib.hid rgl0
 clear rgl0
 have rgm := Lib.hid rgm0
 clear rgm0
 have EAB := Lib.hid eab
 have EAC := Lib.hid eac
 clear eab eac
 have hZ0 := zs_start hX
 have hZ1 := hZ0.more (f := Li km xm_ m) (Li.stb _ _ _) hm_
 clear hZ0
 have hZ2 := hZ1.more (f := Li kl xl_ l) (Li.stb _ _ _) hl_
 clear hZ1
 have hZ3 := hZ2.more (f := Mi mc cc Rc rc) (Mi.stb _ _ _ _) hrc
 clear hZ2
 have hZ4 := hZ3.more (f := Mi mb cb Rb rb) (Mi.stb _ _ _ _) hrb
 clear hZ3
 have hZ5 := hZ4.more (f := Mi ma ca Ra ra) (Mi.stb _ _ _ _) hra
 clear hZ4
 go_enter Tryd.func8, Tryd.ntmps8
 go_wp2_with fail
 refine (gAwake hZ5.nx).mono ?_
 rintro zz W1 ⟨rfl, hB⟩
 have hZ6 := hZ5.later hB
 clear hB
 clear hZ5
 go_wp2_with fail
 refine (gReadY hZ6.nx ra 6 (hZ6.get 0 (f := Mi ma ca Ra ra) rfl) (by omega) ha.1 ha.2 rga.out).mono ?_
 rintro zz W2 ⟨s1, s1r, rfl, hi_s1, hB⟩
 have hZ7 := hZ6.later hB
 clear hB
 clear hZ6
 have hZ8 := hZ7.more (f := Mt ma (fun _ => ma) Ra s1) (Mt.stb _ _ _ _) hi_s1
 clear hZ7
 clear hi_s1
 go_wp2_with fail
 refine (gReadY hZ8.nx rb 6 (hZ8.get 2 (f := Mi mb cb Rb rb) rfl) (by omega) hb.1 hb.2 rgb.out).mono ?_
 rintro zz W3 ⟨s2, s2r, rfl, hi_s2, hB⟩
 have hZ9 := hZ8.later hB
 clear hB
 clear hZ8
 have hZ10 := hZ9.more (f := Mt mb (fun _ => mb) Rb s2) (Mt.stb _ _ _ _) hi_s2
 clear hZ9
 clear hi_s2
 go_wp2_with fail
 refine (gReadY hZ10.nx rc 6 (hZ10.get 4 (f := Mi mc cc Rc rc) rfl) (by omega) hc.1 hc.2 rgc.out).mono ?_
 rintro zz W4 ⟨s3, s3r, rfl, hi_s3, hB⟩
 have hZ11 := hZ10.later hB
 clear hB
 clear hZ10
 have hZ12 := hZ11.more (f := Mt mc (fun _ => mc) Rc s3) (Mt.stb _ _ _ _) hi_s3
 clear hZ11
 clear hi_s3
 go_wp2_with (refine stop_opw (by kernel_rfl) (fun K hK => wp_lenq (.tmp 64) 25 39 s1 rfl (by kernel_rfl) rfl (hZ12.get 2 (f := Mt ma (fun _ => ma) Ra s1) rfl).n (hK _ _ ?_)))
 unfold Stop
 try simp only [Act.put, zzC, zzD, zzE]
 go_wp2_with (refine stop_opw (by kernel_rfl) (fun K hK => wp_lenq (.tmp 66) 25 39 s2 rfl (by kernel_rfl) rfl (hZ12.get 1 (f := Mt mb (fun _ => mb) Rb s2) rfl).n (hK _ _ ?_)))
 unfold Stop
 try simp only [Act.put, zzC, zzD, zzE]
 go_wp2_with (refine stop_opw (by kernel_rfl) (fun K hK => wp_neqi (.tmp 65) (.tmp 67) 3 3 rfl rfl rfl rfl (r := false) (decide_eq_false (by have := EAB.out; omega)) (hK _ _ ?_)))
 unfold Stop
 try simp only [Act.put, zzC, zzD, zzE]
 go_wp2_with (refine stop_opw (by kernel_rfl) (fun K hK => wp_lenq (.tmp 71) 25 39 s1 rfl (by kernel_rfl) rfl (hZ12.get 2 (f := Mt ma (fun _ => ma) Ra s1) rfl).n (hK _ _ ?_)))
 unfold Stop
 try simp only [Act.put, zzC, zzD, zzE]
 go_wp2_with (refine stop_opw (by kernel_rfl) (fun K hK => wp_lenq (.tmp 73) 25 39 s3 rfl (by kernel_rfl) rfl (hZ12.get 0 (f := Mt mc (fun _ => mc) Rc s3) rfl).n (hK _ _ ?_)))
 unfold Stop
 try simp only [Act.put, zzC, zzD, zzE]
 go_wp2_with (refine stop_opw (by kernel_rfl) (fun K hK => wp_neqi (.tmp 72) (.tmp 74) 3 3 rfl rfl rfl rfl (r := false) (decide_eq_false (by have := EAC.out; omega)) (hK _ _ ?_)))
 unfold Stop
 try simp only [Act.put, zzC, zzD, zzE]
 have han : ma ≤ 6 := ha.1
 have hZ13 := hZ12.only [Mt ma (fun _ => ma) Ra s1, Mt mb (fun _ => mb) Rb s2, Mt mc (fun _ => mc) Rc s3, Li kl xl_ l, Li km xm_ m] (by simp)
 clear hZ12
 have hZ14 : Zs w W4 X0 X0 [] [Mt ma (fun _ => ma) Ra s1, Mt ma (fun _ => ma) Rb s2, Mt ma (fun _ => ma) Rc s3, Li kl xl_ l, Li km xm_ m] := by
  have h := hZ13
  rw [← EAB.out, ← EAC.out] at h
  exact h
 clear hZ13
 go_wp2_with (refine stop_op rfl (fun K hK => wp_lenq (.tmp 80) 25 39 s1 rfl (by kernel_rfl) rfl (hZ14.get 0 (f := Mt ma (fun _ => ma) Ra s1) rfl).n (hK _ _ ?_)))
 unfold Stop
 try simp only [Act.put, zzC, zzD, zzE]
 go_wp2_with fail
 refine (gList hZ14.nx l ma (hZ14.get 3 (f := Li kl xl_ l) rfl) (by omega) rgl.out).mono ?_
 rintro zz W5 ⟨s4, s4r, rfl, hi_s4, hB⟩
 have hZ15 := hZ14.later hB
 clear hB
 clear hZ14
 have hZ16 := hZ15.more (f := Ls ma (xl kl xl_) s4) (Ls.stb _ _ _) hi_s4
 clear hZ15
 clear hi_s4
 go_wp2_with (refine stop_op rfl (fun K hK => wp_lenq (.tmp 87) 25 39 s1 rfl (by kernel_rfl) rfl (hZ16.get 1 (f := Mt ma (fun _ => ma) Ra s1) rfl).n (hK _ _ ?_)))
 unfold Stop
 try simp only [Act.put, zzC, zzD, zzE]
 go_wp2_with fail
 refine (gList hZ16.nx m ma (hZ16.get 5 (f := Li km xm_ m) rfl) (by omega) rgm.out).mono ?_
 rintro zz W6 ⟨s5, s5r, rfl, hi_s5, hB⟩
 have hZ17 := hZ16.later hB
 clear hB
 clear hZ16
 have hZ18 := hZ17.more (f := Ls ma (xl km xm_) s5) (Ls.stb _ _ _) hi_s5
 clear hZ17
 clear hi_s5
 have hZ19 := hZ18.only [Mt ma (fun _ => ma) Ra s1, Mt ma (fun _ => ma) Rb s2, Mt ma (fun _ => ma) Rc s3, Ls ma (xl kl xl_) s4, Ls ma (xl km xm_) s5] (by simp)
 clear hZ18
 go_wp2
 go_loopw [25, 26] (fun sv iv wr => ∃ (i : Nat) (so : Sl) (Co : Array Value) (X : Nat → Prop), i ≤ ma ∧ iv = .int .i64 ((i : Nat) : Int) ∧ sv = so.v ∧ so.n = i ∧ Wr 2 so Co ∧ Zs w wr X0 X ([] ++ owl so Co 45) [Fl 2 (EN (fun k => xl kl xl_ k + xl km xm_ k)) i Co, Mt ma (fun _ => ma) Ra s1, Mt ma (fun _ => ma) Rb s2, Mt ma (fun _ => ma) Rc s3, Ls ma (xl kl xl_) s4, Ls ma (xl km xm_) s5]) (fun _ iv _ => ma - (intOf iv).toNat)
 case atStart => exact ⟨0, slz, #[], _, by omega, rfl, rfl, rfl, wr_slz 2, hZ19.more (Fl.stb (EN.stb _) _ _) (fl_zero 2 (EN (fun k => xl kl xl_ k + xl km xm_ k)) #[] _ _)⟩
 case round =>
  clear hZ19
  obtain ⟨i, so, Co, X, hi, rfl, rfl, hn_so, hw_so, hZ⟩ := hrel
  by_cases hlt : i < ma
  ·
   go_wp2_with (refine stop_op rfl (fun K hK => wp_lenq (.tmp 93) 25 39 s1 rfl (by kernel_rfl) rfl (hZ.get 1 (f := Mt ma (fun _ => ma) Ra s1) rfl).n (hK _ _ ?_)))
   unfold Stop
   try simp only [Act.put, zzC, zzD, zzE]
   go_wp2_with (refine stop_op rfl (fun K hK => wp_lssi (.tmp 92) (.tmp 94) rfl rfl rfl (r := true) (decide_eq_true (by omega)) (hK _ _ ?_)))
   unfold Stop
   try simp only [Act.put, zzC, zzD, zzE]
   go_wp2
   have hM : Zs w wr.drew X0 X ([] ++ owl so Co 45) [Fl 2 (EN (fun k => xl kl xl_ k + xl km xm_ k)) i Co, Mt ma (fun _ => ma) Ra s1, Mt ma (fun _ => ma) Rb s2, Mt ma (fun _ => ma) Rc s3, Ls ma (xl kl xl_) s4, Ls ma (xl km xm_) s5] ∧ Below wr.heap.size wr wr.drew := ⟨hZ.later (Below.refl _ _).drew, (Below.refl _ _).drew⟩
   clear hZ
   have hVS13 : ∀ k, k ∈ ([veq (so.v), veq (s4.v), veq (.int .i64 (((i : Nat) : Int))), veq ((s4.at 2 i)), vnum (xl kl xl_ i), veq (s5.v), veq (.int .i64 (((i : Nat) : Int))), veq ((s5.at 2 i)), vnum (xl km xm_ i), vnum ((xl kl xl_ i) + (xl km xm_ i)), vbs ((xl kl xl_ i) + (xl km xm_ i)) 45] : List VF) → VSt k := by
    intro k hk
    simp only [List.mem_cons, List.not_mem_nil, or_false] at hk
    rcases hk with rfl | rfl | rfl | rfl | rfl | rfl | rfl | rfl | rfl | rfl | rfl
    ·
     exact veq_st _
    ·
     exact veq_st _
    ·
     exact veq_st _
    ·
     exact veq_st _
    ·
     exact vnum_st _
    ·
     exact veq_st _
    ·
     exact veq_st _
    ·
     exact veq_st _
    ·
     exact vnum_st _
    ·
     exact vnum_st _
    ·
     exact vbs_st _ _
   refine wp_region_q 11 [some 98, some 99, some 100, some 101, some 102, some 103, some 104, some 105, some 106, some 107, some 108] (vzL [veq (so.v), veq (s4.v), veq (.int .i64 (((i : Nat) : Int))), veq ((s4.at 2 i)), vnum (xl kl xl_ i), veq (s5.v), veq (.int .i64 (((i : Nat) : Int))), veq ((s5.at 2 i)), vnum (xl km xm_ i), vnum ((xl kl xl_ i) + (xl km xm_ i)), vbs ((xl kl xl_ i) + (xl km xm_ i)) 45] X) (fun W => Zs w W X0 X ([] ++ owl so Co 45) [Fl 2 (EN (fun k => xl kl xl_ k + xl km xm_ k)) i Co, Mt ma (fun _ => ma) Ra s1, Mt ma (fun _ => ma) Rb s2, Mt ma (fun _ => ma) Rc s3, Ls ma (xl kl xl_) s4, Ls ma (xl km xm_) s5] ∧ Below wr.heap.size wr W) (by kernel_rfl) (by kernel_rfl) (by rfl) (by decide) (by rfl) hM ?_ ?_
   ·
    intro i hl hi LL uu ww aa hLi hLc hJ hd hev hin hold
    clear hM
    obtain ⟨hJ, hJb⟩ := hJ
    obtain rfl | rfl | rfl | rfl | rfl | rfl | rfl | rfl | rfl | rfl | rfl : i = 0 ∨ i = 1 ∨ i = 2 ∨ i = 3 ∨ i = 4 ∨ i = 5 ∨ i = 6 ∨ i = 7 ∨ i = 8 ∨ i = 9 ∨ i = 10 := by omega
    ·
     exact .inr ⟨rfl, fun K' hK => wp_move (.tmp 25) rfl (eval_tmp ((hev 25 (by decide)).trans rfl)) (hK _ _ ⟨hJ, hJb⟩ rfl vzL_same)⟩
    ·
     exact .inr ⟨rfl, fun K' hK => wp_move (.tmp 21) rfl (eval_tmp ((hev 21 (by decide)).trans rfl)) (hK _ _ ⟨hJ, hJb⟩ rfl vzL_same)⟩
    ·
     exact .inr ⟨rfl, fun K' hK => wp_move (.tmp 26) rfl (eval_tmp ((hev 26 (by decide)).trans rfl)) (hK _ _ ⟨hJ, hJb⟩ rfl vzL_same)⟩
    ·
     exact .inr ⟨rfl, fun K' hK => wp_ixs 39 (.tmp 99) (.tmp 100) s4 i 2 45 rfl (eval_tmp ((hin 1 99 rfl).trans (congrArg some (show uu 1 = s4.v from hd 1 (by decide) (by kernel_rfl))))) (eval_tmp ((hin 2 100 rfl).trans (congrArg some (show uu 2 = .int .i64 (((i : Nat) : Int)) from hd 2 (by decide) (by kernel_rfl))))) (by kernel_rfl) sz45 (fun h => ((hJ.get 4 (f := Ls ma (xl kl xl_) s4) rfl).sq.nil h).1) ((hJ.get 4 (f := Ls ma (xl kl xl_) s4) rfl).n ▸ (by omega)) (hK _ _ ⟨hJ, hJb⟩ rfl vzL_same)⟩
    ·
     exact .inr ⟨rfl, fun K' hK => wp_ldn 45 (.tmp 101) s4 i ma (xl kl xl_) rfl (eval_tmp ((hin 3 101 rfl).trans (congrArg some (show uu 3 = (s4.at 2 i) from hd 3 (by decide) (by kernel_rfl))))) (hJ.get 4 (f := Ls ma (xl kl xl_) s4) rfl) (by omega) ag45 sz45 (fun q6 ez_q6 hi_q6 => hK _ _ ⟨hJ, hJb⟩ ⟨q6, rfl, ez_q6, hi_q6⟩ vzL_same)⟩
    ·
     exact .inr ⟨rfl, fun K' hK => wp_move (.tmp 23) rfl (eval_tmp ((hev 23 (by decide)).trans rfl)) (hK _ _ ⟨hJ, hJb⟩ rfl vzL_same)⟩
    ·
     exact .inr ⟨rfl, fun K' hK => wp_move (.tmp 26) rfl (eval_tmp ((hev 26 (by decide)).trans rfl)) (hK _ _ ⟨hJ, hJb⟩ rfl vzL_same)⟩
    ·
     exact .inr ⟨rfl, fun K' hK => wp_ixs 39 (.tmp 103) (.tmp 104) s5 i 2 45 rfl (eval_tmp ((hin 5 103 rfl).trans (congrArg some (show uu 5 = s5.v from hd 5 (by decide) (by kernel_rfl))))) (eval_tmp ((hin 6 104 rfl).trans (congrArg some (show uu 6 = .int .i64 (((i : Nat) : Int)) from hd 6 (by decide) (by kernel_rfl))))) (by kernel_rfl) sz45 (fun h => ((hJ.get 5 (f := Ls ma (xl km xm_) s5) rfl).sq.nil h).1) ((hJ.get 5 (f := Ls ma (xl km xm_) s5) rfl).n ▸ (by omega)) (hK _ _ ⟨hJ, hJb⟩ rfl vzL_same)⟩
    ·
     exact .inr ⟨rfl, fun K' hK => wp_ldn 45 (.tmp 105) s5 i ma (xl km xm_) rfl (eval_tmp ((hin 7 105 rfl).trans (congrArg some (show uu 7 = (s5.at 2 i) from hd 7 (by decide) (by kernel_rfl))))) (hJ.get 5 (f := Ls ma (xl km xm_) s5) rfl) (by omega) ag45 sz45 (fun q7 ez_q7 hi_q7 => hK _ _ ⟨hJ, hJb⟩ ⟨q7, rfl, ez_q7, hi_q7⟩ vzL_same)⟩
    ·
     obtain ⟨q6, e4, ez_q6, hi_q6⟩ := (show (vnum (xl kl xl_ i)) (uu 4) X ww from hd 4 (by decide) (by kernel_rfl))
     obtain ⟨q7, e8, ez_q7, hi_q7⟩ := (show (vnum (xl km xm_ i)) (uu 8) X ww from hd 8 (by decide) (by kernel_rfl))
     replace hJ := hJ.more (f := q6.is) q6.stb hi_q6
     replace hJ := hJ.more (f := q7.is) q7.stb hi_q7
     refine .inr ⟨rfl, fun K' hK => ?_⟩
     refine wp_callz (.func 32) #[.tmp 102, .tmp 106] #[45, 45] 32 #[] #[q6.v, q7.v] _ rfl rfl (map2 (eval_tmp ((hin 4 102 rfl).trans (congrArg some e4))) (eval_tmp ((hin 8 106 rfl).trans (congrArg some e8)))) rfl (fun _ _ => rfl) (zAdd hJ.nx (hJ.get 1 (f := q6.is) rfl) (hJ.get 0 (f := q7.is) rfl) ez_q6 ez_q7 ((fun (i : Nat) (_ : i < ma) => xl_in rgl.out i) i (by omega)) ((fun (i : Nat) (_ : i < ma) => xl_in rgm.out i) i (by omega)) (by omega) (by omega)) ?_
     rintro zz ww2 ⟨q8, rfl, ez_q8, hi_q8, hB⟩
     exact ⟨_, rfl, hK _ _ ⟨(hJ.only [Fl 2 (EN (fun k => xl kl xl_ k + xl km xm_ k)) i Co, Mt ma (fun _ => ma) Ra s1, Mt ma (fun _ => ma) Rb s2, Mt ma (fun _ => ma) Rc s3, Ls ma (xl kl xl_) s4, Ls ma (xl km xm_) s5] (by simp)).later hB, hJb.trans (hB.mono hJb.size)⟩ ⟨q8, rfl, ez_q8, hi_q8⟩ (vzL_later hVS13 hB)⟩
    ·
     obtain ⟨q8, e9, ez_q8, hi_q8⟩ := (show (vnum ((xl kl xl_ i) + (xl km xm_ i))) (uu 9) X ww from hd 9 (by decide) (by kernel_rfl))
     replace hJ := hJ.more (f := q8.is) q8.stb hi_q8
     exact .inr ⟨rfl, fun K' hK => wp_bs2 ei39 (.tmp 107) rfl (eval_tmp ((hin 9 107 rfl).trans (congrArg some e9))) (hK _ _ ⟨(hJ.only [Fl 2 (EN (fun k => xl kl xl_ k + xl km xm_ k)) i Co, Mt ma (fun _ => ma) Ra s1, Mt ma (fun _ => ma) Rb s2, Mt ma (fun _ => ma) Rc s3, Ls ma (xl kl xl_) s4, Ls ma (xl km xm_) s5] (by simp)).later (below_new _ _), hJb.alloc (by have := hJb.size; omega) _⟩ ⟨ww.heap.size, q8, rfl, ez_q8, q8.stb _ _ _ _ (Ext.below _ (below_new _ _)) hi_q8, heap_new ww _⟩ (vzL_later hVS13 (below_new _ _)))⟩
   clear hM
   intro uu W7 hZ20p hd
   obtain ⟨hZ20, hb13⟩ := hZ20p
   have e_0 : uu 0 = so.v := hd 0 (by decide)
   have e_1 : uu 1 = s4.v := hd 1 (by decide)
   have e_2 : uu 2 = .int .i64 (((i : Nat) : Int)) := hd 2 (by decide)
   have e_3 : uu 3 = (s4.at 2 i) := hd 3 (by decide)
   obtain ⟨q6, e_4, ez_q6, hi_q6⟩ := (show (vnum (xl kl xl_ i)) (uu 4) X W7 from hd 4 (by decide))
   have e_5 : uu 5 = s5.v := hd 5 (by decide)
   have e_6 : uu 6 = .int .i64 (((i : Nat) : Int)) := hd 6 (by decide)
   have e_7 : uu 7 = (s5.at 2 i) := hd 7 (by decide)
   obtain ⟨q7, e_8, ez_q7, hi_q7⟩ := (show (vnum (xl km xm_ i)) (uu 8) X W7 from hd 8 (by decide))
   obtain ⟨q8, e_9, ez_q8, hi_q8⟩ := (show (vnum ((xl kl xl_ i) + (xl km xm_ i))) (uu 9) X W7 from hd 9 (by decide))
   obtain ⟨bb10, q8_10, e_10, ez_q8_10, hi_q8_10, hbs10⟩ := (show (vbs ((xl kl xl_ i) + (xl km xm_ i)) 45) (uu 10) X W7 from hd 10 (by decide))
   clear hd hVS13
   simp only [layS, Act.put, zzC, zzD, zzE, Nat.zero_add, Nat.reduceAdd, List.drop_succ_cons, List.drop_zero, List.drop_nil, e_0, e_1, e_2, e_3, e_4, e_5, e_6, e_7, e_8, e_9, e_10]
   clear e_0 e_1 e_2 e_3 e_4 e_5 e_6 e_7 e_8 e_9 e_10
   have hZ21 := hZ20.more (f := q6.is) q6.stb hi_q6
   clear hZ20
   clear hi_q6
   have hZ22 := hZ21.more (f := q7.is) q7.stb hi_q7
   clear hZ21
   clear hi_q7
   have hZ23 := hZ22.more (f := q8.is) q8.stb hi_q8
   clear hZ22
   clear hi_q8
   have hZ24 := hZ23.more (f := q8_10.is) q8_10.stb hi_q8_10
   clear hZ23
   clear hi_q8_10
   have hZ25y := hZ24.perm List.perm_append_comm
   go_wp2_with (refine stop_op rfl (fun K hK => wp_app ei39 (.tmp 98) (.tmp 108) rfl (s := so) rfl ⟨bb10, 0, none⟩ 1 rfl hw_so (by rw [hn_so]; omega) hZ25y [.bool q8_10.b, .slice q8_10.a q8_10.n q8_10.c] rfl (cl_news hbs10) (fun u hu => by simp only [List.mem_cons, List.not_mem_nil, or_false] at hu; rcases hu with rfl | rfl <;> rfl) (fun o9 C9 X25 W8 hn_o9 hw_o9 ho_C9 hg_C9 hZ25x => hK _ _ ?_)))
   unfold Stop
   try simp only [Act.put, zzC, zzD, zzE]
   clear hZ25y
   rw [hn_so] at hn_o9 ho_C9 hg_C9
   have hZ25 := hZ25x.perm List.perm_append_comm
   clear hZ25x
   clear hZ24
   have hZ26s : Fl 2 (EN (fun k => xl kl xl_ k + xl km xm_ k)) (i + 1) C9 X25 W8 := Fl.snoc (C := Co) (hZ25.get 4 (f := Fl 2 (EN (fun k => xl kl xl_ k + xl km xm_ k)) i Co) rfl) rfl ho_C9 hg_C9 ⟨q8_10, ez_q8_10, hZ25.get 0 (f := q8_10.is) rfl, rfl⟩
   have hZ26 := (hZ25.more (Fl.stb (EN.stb _) _ _) hZ26s).only [Fl 2 (EN (fun k => xl kl xl_ k + xl km xm_ k)) (i + 1) C9, Mt ma (fun _ => ma) Ra s1, Mt ma (fun _ => ma) Rb s2, Mt ma (fun _ => ma) Rc s3, Ls ma (xl kl xl_) s4, Ls ma (xl km xm_) s5] (by simp)
   clear hZ25 hZ26s
   go_wp2_with (refine stop_op rfl (fun K hK => wp_addi (.tmp 96) (.const (.int .i64 1)) rfl rfl rfl (C := ((i + 1 : Nat) : Int)) (by omega) (by omega) (by omega) (hK _ _ ?_)))
   unfold Stop
   try simp only [Act.put, zzC, zzD, zzE]
   go_wp2
   go_roundw
   case rel => exact ⟨i + 1, o9, C9, _, by omega, by go_num, rfl, hn_o9, hw_o9, hZ26⟩
   case measure => simp [intOf]; omega
  ·
   obtain rfl : ma = i := by omega
   go_wp2_with (refine stop_op rfl (fun K hK => wp_lenq (.tmp 93) 25 39 s1 rfl (by kernel_rfl) rfl (hZ.get 1 (f := Mt ma (fun _ => ma) Ra s1) rfl).n (hK _ _ ?_)))
   unfold Stop
   try simp only [Act.put, zzC, zzD, zzE]
   go_wp2_with (refine stop_op rfl (fun K hK => wp_lssi (.tmp 92) (.tmp 94) rfl rfl rfl (r := false) (decide_eq_false (Int.lt_irrefl _)) (hK _ _ ?_)))
   unfold Stop
   try simp only [Act.put, zzC, zzD, zzE]
   have hZ28 := hZ.freeze hX (EN.stb (fun k => xl kl xl_ k + xl km xm_ k)) hw_so (hn_so ▸ hZ.get 0 (f := Fl 2 (EN (fun k => xl kl xl_ k + xl km xm_ k)) ma Co) rfl)
   obtain ⟨XF, hZ27⟩ := hZ28
   have hZ27b := hZ27.of_sq hn_so
   clear hZ27
   have hZ29 := hZ27b.only [Ls ma (fun k => xl kl xl_ k + xl km xm_ k) so, Mt ma (fun _ => ma) Ra s1, Mt ma (fun _ => ma) Rb s2, Mt ma (fun _ => ma) Rc s3, Ls ma (xl kl xl_) s4, Ls ma (xl km xm_) s5] (by simp)
   clear hZ27b
   skip
   go_wp2_with fail
   refine (lMul hZ29.nx s1 s2 (e := 2 + 2) (hZ29.get 1 (f := Mt ma (fun _ => ma) Ra s1) rfl) (hZ29.get 2 (f := Mt ma (fun _ => ma) Rb s2) rfl) (fun i k hi hk => ((fun (i k : Nat) (hi : i < ma) (hk : k < ma) => sz_int (rga.out i k hi (by rw [ha.2 i hi]; exact hk)).1 (rga.out i k hi (by rw [ha.2 i hi]; exact hk)).2) i k hi hk).mono (Nat.le_add_right _ _)) (fun i k hi hk => ((fun (i k : Nat) (hi : i < ma) (hk : k < ma) => sz_int (rgb.out i k (by have := EAB.out; have := EAC.out; omega) (by rw [hb.2 i (by have := EAB.out; have := EAC.out; omega)]; have := EAB.out; have := EAC.out; omega)).1 (rgb.out i k (by have := EAB.out; have := EAC.out; omega) (by rw [hb.2 i (by have := EAB.out; have := EAC.out; omega)]; have := EAB.out; have := EAC.out; omega)).2) i k hi hk).mono (Nat.le_add_left _ _)) (by omega) (by omega)).mono ?_
   rintro zz W9 ⟨s10, rfl, hi_s10, hB⟩
   have hZ30 := hZ29.later hB
   clear hB
   clear hZ29
   have hZ31 := hZ30.more (f := Mt ma (fun _ => ma) (M.mulm ma Ra Rb) s10) (Mt.stb _ _ _ _) hi_s10
   clear hZ30
   clear hi_s10
   go_wp2_with fail
   refine (lMul hZ31.nx s10 s3 (e := (2 + 2 + ma) + 2) (hZ31.get 0 (f := Mt ma (fun _ => ma) (M.mulm ma Ra Rb) s10) rfl) (hZ31.get 4 (f := Mt ma (fun _ => ma) Rc s3) rfl) (fun i k hi hk => ((fun (i k : Nat) (hi : i < ma) (hk : k < ma) => sm_sz (fun (t : Nat) (ht : t < ma) => Sz.mul ((fun (i k : Nat) (hi : i < ma) (hk : k < ma) => sz_int (rga.out i k hi (by rw [ha.2 i hi]; exact hk)).1 (rga.out i k hi (by rw [ha.2 i hi]; exact hk)).2) i t hi ht) ((fun (i k : Nat) (hi : i < ma) (hk : k < ma) => sz_int (rgb.out i k (by have := EAB.out; have := EAC.out; omega) (by rw [hb.2 i (by have := EAB.out; have := EAC.out; omega)]; have := EAB.out; have := EAC.out; omega)).1 (rgb.out i k (by have := EAB.out; have := EAC.out; omega) (by rw [hb.2 i (by have := EAB.out; have := EAC.out; omega)]; have := EAB.out; have := EAC.out; omega)).2) t k ht hk))) i k hi hk).mono (Nat.le_add_right _ _)) (fun i k hi hk => ((fun (i k : Nat) (hi : i < ma) (hk : k < ma) => sz_int (rgc.out i k (by have := EAB.out; have := EAC.out; omega) (by rw [hc.2 i (by have := EAB.out; have := EAC.out; omega)]; have := EAB.out; have := EAC.out; omega)).1 (rgc.out i k (by have := EAB.out; have := EAC.out; omega) (by rw [hc.2 i (by have := EAB.out; have := EAC.out; omega)]; have := EAB.out; have := EAC.out; omega)).2) i k hi hk).mono (Nat.le_add_left _ _)) (by omega) (by omega)).mono ?_
   rintro zz W10 ⟨s11, rfl, hi_s11, hB⟩
   have hZ32 := hZ31.later hB
   clear hB
   clear hZ31
   have hZ33 := hZ32.more (f := Mt ma (fun _ => ma) (M.mulm ma (M.mulm ma Ra Rb) Rc) s11) (Mt.stb _ _ _ _) hi_s11
   clear hZ32
   clear hi_s11
   go_wp2_with fail
   refine (gWhole hZ33.nx s11 (hZ33.get 0 (f := Mt ma (fun _ => ma) (M.mulm ma (M.mulm ma Ra Rb) Rc) s11) rfl) (fun i _ => by omega) (fun (i k : Nat) (hi : i < ma) (hk : k < ma) => sm_sz (fun (t : Nat) (ht : t < ma) => Sz.mul ((fun (i k : Nat) (hi : i < ma) (hk : k < ma) => sm_sz (fun (t : Nat) (ht : t < ma) => Sz.mul ((fun (i k : Nat) (hi : i < ma) (hk : k < ma) => sz_int (rga.out i k hi (by rw [ha.2 i hi]; exact hk)).1 (rga.out i k hi (by rw [ha.2 i hi]; exact hk)).2) i t hi ht) ((fun (i k : Nat) (hi : i < ma) (hk : k < ma) => sz_int (rgb.out i k (by have := EAB.out; have := EAC.out; omega) (by rw [hb.2 i (by have := EAB.out; have := EAC.out; omega)]; have := EAB.out; have := EAC.out; omega)).1 (rgb.out i k (by have := EAB.out; have := EAC.out; omega) (by rw [hb.2 i (by have := EAB.out; have := EAC.out; omega)]; have := EAB.out; have := EAC.out; omega)).2) t k ht hk))) i t hi ht) ((fun (i k : Nat) (hi : i < ma) (hk : k < ma) => sz_int (rgc.out i k (by have := EAB.out; have := EAC.out; omega) (by rw [hc.2 i (by have := EAB.out; have := EAC.out; omega)]; have := EAB.out; have := EAC.out; omega)).1 (rgc.out i k (by have := EAB.out; have := EAC.out; omega) (by rw [hc.2 i (by have := EAB.out; have := EAC.out; omega)]; have := EAB.out; have := EAC.out; omega)).2) t k ht hk))) (by omega) (by omega)).mono ?_
   rintro zz W11 ⟨rfl, hB⟩
   have hZ34 := hZ33.later hB
   clear hB
   clear hZ33
   go_wp2_with fail
   refine (lMul hZ34.nx s2 s3 (e := 2 + 2) (hZ34.get 4 (f := Mt ma (fun _ => ma) Rb s2) rfl) (hZ34.get 5 (f := Mt ma (fun _ => ma) Rc s3) rfl) (fun i k hi hk => ((fun (i k : Nat) (hi : i < ma) (hk : k < ma) => sz_int (rgb.out i k (by have := EAB.out; have := EAC.out; omega) (by rw [hb.2 i (by have := EAB.out; have := EAC.out; omega)]; have := EAB.out; have := EAC.out; omega)).1 (rgb.out i k (by have := EAB.out; have := EAC.out; omega) (by rw [hb.2 i (by have := EAB.out; have := EAC.out; omega)]; have := EAB.out; have := EAC.out; omega)).2) i k hi hk).mono (Nat.le_add_right _ _)) (fun i k hi hk => ((fun (i k : Nat) (hi : i < ma) (hk : k < ma) => sz_int (rgc.out i k (by have := EAB.out; have := EAC.out; omega) (by rw [hc.2 i (by have := EAB.out; have := EAC.out; omega)]; have := EAB.out; have := EAC.out; omega)).1 (rgc.out i k (by have := EAB.out; have := EAC.out; omega) (by rw [hc.2 i (by have := EAB.out; have := EAC.out; omega)]; have := EAB.out; have := EAC.out; omega)).2) i k hi hk).mono (Nat.le_add_left _ _)) (by omega) (by omega)).mono ?_
   rintro zz W12 ⟨s12, rfl, hi_s12, hB⟩
   have hZ35 := hZ34.later hB
   clear hB
   clear hZ34
   have hZ36 := hZ35.more (f := Mt ma (fun _ => ma) (M.mulm ma Rb Rc) s12) (Mt.stb _ _ _ _) hi_s12
   clear hZ35
   clear hi_s12
   go_wp2_with fail
   refine (lMul hZ36.nx s1 s12 (e := 2 + (2 + 2 + ma)) (hZ36.get 4 (f := Mt ma (fun _ => ma) Ra s1) rfl) (hZ36.get 0 (f := Mt ma (fun _ => ma) (M.mulm ma Rb Rc) s12) rfl) (fun i k hi hk => ((fun (i k : Nat) (hi : i < ma) (hk : k < ma) => sz_int (rga.out i k hi (by rw [ha.2 i hi]; exact hk)).1 (rga.out i k hi (by rw [ha.2 i hi]; exact hk)).2) i k hi hk).mono (Nat.le_add_right _ _)) (fun i k hi hk => ((fun (i k : Nat) (hi : i < ma) (hk : k < ma) => sm_sz (fun (t : Nat) (ht : t < ma) => Sz.mul ((fun (i k : Nat) (hi : i < ma) (hk : k < ma) => sz_int (rgb.out i k (by have := EAB.out; have := EAC.out; omega) (by rw [hb.2 i (by have := EAB.out; have := EAC.out; omega)]; have := EAB.out; have := EAC.out; omega)).1 (rgb.out i k (by have := EAB.out; have := EAC.out; omega) (by rw [hb.2 i (by have := EAB.out; have := EAC.out; omega)]; have := EAB.out; have := EAC.out; omega)).2) i t hi ht) ((fun (i k : Nat) (hi : i < ma) (hk : k < ma) => sz_int (rgc.out i k (by have := EAB.out; have := EAC.out; omega) (by rw [hc.2 i (by have := EAB.out; have := EAC.out; omega)]; have := EAB.out; have := EAC.out; omega)).1 (rgc.out i k (by have := EAB.out; have := EAC.out; omega) (by rw [hc.2 i (by have := EAB.out; have := EAC.out; omega)]; have := EAB.out; have := EAC.out; omega)).2) t k ht hk))) i k hi hk).mono (Nat.le_add_left _ _)) (by omega) (by omega)).mono ?_
   rintro zz W13 ⟨s13, rfl, hi_s13, hB⟩
   have hZ37 := hZ36.later hB
   clear hB
   clear hZ36
   have hZ38 := hZ37.more (f := Mt ma (fun _ => ma) (M.mulm ma Ra (M.mulm ma Rb Rc)) s13) (Mt.stb _ _ _ _) hi_s13
   clear hZ37
   clear hi_s13
   go_wp2_with fail
   refine (gWhole hZ38.nx s13 (hZ38.get 0 (f := Mt ma (fun _ => ma) (M.mulm ma Ra (M.mulm ma Rb Rc)) s13) rfl) (fun i _ => by omega) (fun (i k : Nat) (hi : i < ma) (hk : k < ma) => sm_sz (fun (t : Nat) (ht : t < ma) => Sz.mul ((fun (i k : Nat) (hi : i < ma) (hk : k < ma) => sz_int (rga.out i k hi (by rw [ha.2 i hi]; exact hk)).1 (rga.out i k hi (by rw [ha.2 i hi]; exact hk)).2) i t hi ht) ((fun (i k : Nat) (hi : i < ma) (hk : k < ma) => sm_sz (fun (t : Nat) (ht : t < ma) => Sz.mul ((fun (i k : Nat) (hi : i < ma) (hk : k < ma) => sz_int (rgb.out i k (by have := EAB.out; have := EAC.out; omega) (by rw [hb.2 i (by have := EAB.out; have := EAC.out; omega)]; have := EAB.out; have := EAC.out; omega)).1 (rgb.out i k (by have := EAB.out; have := EAC.out; omega) (by rw [hb.2 i (by have := EAB.out; have := EAC.out; omega)]; have := EAB.out; have := EAC.out; omega)).2) i t hi ht) ((fun (i k : Nat) (hi : i < ma) (hk : k < ma) => sz_int (rgc.out i k (by have := EAB.out; have := EAC.out; omega) (by rw [hc.2 i (by have := EAB.out; have := EAC.out; omega)]; have := EAB.out; have := EAC.out; omega)).1 (rgc.out i k (by have := EAB.out; have := EAC.out; omega) (by rw [hc.2 i (by have := EAB.out; have := EAC.out; omega)]; have := EAB.out; have := EAC.out; omega)).2) t k ht hk))) t k ht hk))) (by omega) (by omega)).mono ?_
   rintro zz W14 ⟨rfl, hB⟩
   have hZ39 := hZ38.later hB
   clear hB
   clear hZ38
   go_wp2_with (refine stop_op rfl (fun K hK => wp_seql (.tmp 115) (.tmp 121) 9 9 rfl rfl rfl rfl (r := true) (decide_eq_true (whL_congr (fun _ _ => rfl) (fun p q _ _ => M.mulm_assoc ma Ra Rb Rc p q))) (hK _ _ ?_)))
   unfold Stop
   try simp only [Act.put, zzC, zzD, zzE]
   have hZ40 := hZ39.only [Ls ma (fun k => xl kl xl_ k + xl km xm_ k) so, Mt ma (fun _ => ma) Ra s1, Mt ma (fun _ => ma) Rb s2, Mt ma (fun _ => ma) Rc s3, Ls ma (xl kl xl_) s4, Ls ma (xl km xm_) s5] (by simp)
   clear hZ39
   go_wp2_with fail
   refine (lMul hZ40.nx s1 s2 (e := 2 + 2) (hZ40.get 1 (f := Mt ma (fun _ => ma) Ra s1) rfl) (hZ40.get 2 (f := Mt ma (fun _ => ma) Rb s2) rfl) (fun i k hi hk => ((fun (i k : Nat) (hi : i < ma) (hk : k < ma) => sz_int (rga.out i k hi (by rw [ha.2 i hi]; exact hk)).1 (rga.out i k hi (by rw [ha.2 i hi]; exact hk)).2) i k hi hk).mono (Nat.le_add_right _ _)) (fun i k hi hk => ((fun (i k : Nat) (hi : i < ma) (hk : k < ma) => sz_int (rgb.out i k (by have := EAB.out; have := EAC.out; omega) (by rw [hb.2 i (by have := EAB.out; have := EAC.out; omega)]; have := EAB.out; have := EAC.out; omega)).1 (rgb.out i k (by have := EAB.out; have := EAC.out; omega) (by rw [hb.2 i (by have := EAB.out; have := EAC.out; omega)]; have := EAB.out; have := EAC.out; omega)).2) i k hi hk).mono (Nat.le_add_left _ _)) (by omega) (by omega)).mono ?_
   rintro zz W15 ⟨s14, rfl, hi_s14, hB⟩
   have hZ41 := hZ40.later hB
   clear hB
   clear hZ40
   have hZ42 := hZ41.more (f := Mt ma (fun _ => ma) (M.mulm ma Ra Rb) s14) (Mt.stb _ _ _ _) hi_s14
   clear hZ41
   clear hi_s14
   go_wp2_with fail
   refine (lApply hZ42.nx s14 s4 (e := (2 + 2 + ma) + 2) (hZ42.get 0 (f := Mt ma (fun _ => ma) (M.mulm ma Ra Rb) s14) rfl) (hZ42.get 5 (f := Ls ma (xl kl xl_) s4) rfl) (fun i k hi hk => ((fun (i k : Nat) (hi : i < ma) (hk : k < ma) => sm_sz (fun (t : Nat) (ht : t < ma) => Sz.mul ((fun (i k : Nat) (hi : i < ma) (hk : k < ma) => sz_int (rga.out i k hi (by rw [ha.2 i hi]; exact hk)).1 (rga.out i k hi (by rw [ha.2 i hi]; exact hk)).2) i t hi ht) ((fun (i k : Nat) (hi : i < ma) (hk : k < ma) => sz_int (rgb.out i k (by have := EAB.out; have := EAC.out; omega) (by rw [hb.2 i (by have := EAB.out; have := EAC.out; omega)]; have := EAB.out; have := EAC.out; omega)).1 (rgb.out i k (by have := EAB.out; have := EAC.out; omega) (by rw [hb.2 i (by have := EAB.out; have := EAC.out; omega)]; have := EAB.out; have := EAC.out; omega)).2) t k ht hk))) i k hi hk).mono (Nat.le_add_right _ _)) (fun k hk => ((fun (i : Nat) (_ : i < ma) => xl_in rgl.out i) k hk).mono (Nat.le_add_left _ _)) (by omega) (by omega)).mono ?_
   rintro zz W16 ⟨s15, rfl, hi_s15, hB⟩
   have hZ43 := hZ42.later hB
   clear hB
   clear hZ42
   have hZ44 := hZ43.more (f := Ls ma (M.mulv ma (M.mulm ma Ra Rb) (xl kl xl_)) s15) (Ls.stb _ _ _) hi_s15
   clear hZ43
   clear hi_s15
   go_wp2_with fail
   refine (gText hZ44.nx s15 (hZ44.get 0 (f := Ls ma (M.mulv ma (M.mulm ma Ra Rb) (xl kl xl_)) s15) rfl) (fun (i : Nat) (hi : i < ma) => sm_sz (fun (t : Nat) (ht : t < ma) => Sz.mul ((fun (i k : Nat) (hi : i < ma) (hk : k < ma) => sm_sz (fun (t : Nat) (ht : t < ma) => Sz.mul ((fun (i k : Nat) (hi : i < ma) (hk : k < ma) => sz_int (rga.out i k hi (by rw [ha.2 i hi]; exact hk)).1 (rga.out i k hi (by rw [ha.2 i hi]; exact hk)).2) i t hi ht) ((fun (i k : Nat) (hi : i < ma) (hk : k < ma) => sz_int (rgb.out i k (by have := EAB.out; have := EAC.out; omega) (by rw [hb.2 i (by have := EAB.out; have := EAC.out; omega)]; have := EAB.out; have := EAC.out; omega)).1 (rgb.out i k (by have := EAB.out; have := EAC.out; omega) (by rw [hb.2 i (by have := EAB.out; have := EAC.out; omega)]; have := EAB.out; have := EAC.out; omega)).2) t k ht hk))) i t hi ht) ((fun (i : Nat) (_ : i < ma) => xl_in rgl.out i) t ht))) (by omega) (by omega)).mono ?_
   rintro zz W17 ⟨rfl, hB⟩
   have hZ45 := hZ44.later hB
   clear hB
   clear hZ44
   go_wp2_with fail
   refine (lApply hZ45.nx s2 s4 (e := 2 + 2) (hZ45.get 4 (f := Mt ma (fun _ => ma) Rb s2) rfl) (hZ45.get 6 (f := Ls ma (xl kl xl_) s4) rfl) (fun i k hi hk => ((fun (i k : Nat) (hi : i < ma) (hk : k < ma) => sz_int (rgb.out i k (by have := EAB.out; have := EAC.out; omega) (by rw [hb.2 i (by have := EAB.out; have := EAC.out; omega)]; have := EAB.out; have := EAC.out; omega)).1 (rgb.out i k (by have := EAB.out; have := EAC.out; omega) (by rw [hb.2 i (by have := EAB.out; have := EAC.out; omega)]; have := EAB.out; have := EAC.out; omega)).2) i k hi hk).mono (Nat.le_add_right _ _)) (fun k hk => ((fun (i : Nat) (_ : i < ma) => xl_in rgl.out i) k hk).mono (Nat.le_add_left _ _)) (by omega) (by omega)).mono ?_
   rintro zz W18 ⟨s16, rfl, hi_s16, hB⟩
   have hZ46 := hZ45.later hB
   clear hB
   clear hZ45
   have hZ47 := hZ46.more (f := Ls ma (M.mulv ma Rb (xl kl xl_)) s16) (Ls.stb _ _ _) hi_s16
   clear hZ46
   clear hi_s16
   go_wp2_with fail
   refine (lApply hZ47.nx s1 s16 (e := 2 + (2 + 2 + ma)) (hZ47.get 4 (f := Mt ma (fun _ => ma) Ra s1) rfl) (hZ47.get 0 (f := Ls ma (M.mulv ma Rb (xl kl xl_)) s16) rfl) (fun i k hi hk => ((fun (i k : Nat) (hi : i < ma) (hk : k < ma) => sz_int (rga.out i k hi (by rw [ha.2 i hi]; exact hk)).1 (rga.out i k hi (by rw [ha.2 i hi]; exact hk)).2) i k hi hk).mono (Nat.le_add_right _ _)) (fun k hk => ((fun (i : Nat) (hi : i < ma) => sm_sz (fun (t : Nat) (ht : t < ma) => Sz.mul ((fun (i k : Nat) (hi : i < ma) (hk : k < ma) => sz_int (rgb.out i k (by have := EAB.out; have := EAC.out; omega) (by rw [hb.2 i (by have := EAB.out; have := EAC.out; omega)]; have := EAB.out; have := EAC.out; omega)).1 (rgb.out i k (by have := EAB.out; have := EAC.out; omega) (by rw [hb.2 i (by have := EAB.out; have := EAC.out; omega)]; have := EAB.out; have := EAC.out; omega)).2) i t hi ht) ((fun (i : Nat) (_ : i < ma) => xl_in rgl.out i) t ht))) k hk).mono (Nat.le_add_left _ _)) (by omega) (by omega)).mono ?_
   rintro zz W19 ⟨s17, rfl, hi_s17, hB⟩
   have hZ48 := hZ47.later hB
   clear hB
   clear hZ47
   have hZ49 := hZ48.more (f := Ls ma (M.mulv ma Ra (M.mulv ma Rb (xl kl xl_))) s17) (Ls.stb _ _ _) hi_s17
   clear hZ48
   clear hi_s17
   go_wp2_with fail
   refine (gText hZ49.nx s17 (hZ49.get 0 (f := Ls ma (M.mulv ma Ra (M.mulv ma Rb (xl kl xl_))) s17) rfl) (fun (i : Nat) (hi : i < ma) => sm_sz (fun (t : Nat) (ht : t < ma) => Sz.mul ((fun (i k : Nat) (hi : i < ma) (hk : k < ma) => sz_int (rga.out i k hi (by rw [ha.2 i hi]; exact hk)).1 (rga.out i k hi (by rw [ha.2 i hi]; exact hk)).2) i t hi ht) ((fun (i : Nat) (hi : i < ma) => sm_sz (fun (t : Nat) (ht : t < ma) => Sz.mul ((fun (i k : Nat) (hi : i < ma) (hk : k < ma) => sz_int (rgb.out i k (by have := EAB.out; have := EAC.out; omega) (by rw [hb.2 i (by have := EAB.out; have := EAC.out; omega)]; have := EAB.out; have := EAC.out; omega)).1 (rgb.out i k (by have := EAB.out; have := EAC.out; omega) (by rw [hb.2 i (by have := EAB.out; have := EAC.out; omega)]; have := EAB.out; have := EAC.out; omega)).2) i t hi ht) ((fun (i : Nat) (_ : i < ma) => xl_in rgl.out i) t ht))) t ht))) (by omega) (by omega)).mono ?_
   rintro zz W20 ⟨rfl, hB⟩
   have hZ50 := hZ49.later hB
   clear hB
   clear hZ49
   go_wp2_with (refine stop_op rfl (fun K hK => wp_seql (.tmp 128) (.tmp 134) 9 9 rfl rfl rfl rfl (r := true) (decide_eq_true (txL_congr (fun p _ => M.mulv_mulm ma Ra Rb (xl kl xl_) p))) (hK _ _ ?_)))
   unfold Stop
   try simp only [Act.put, zzC, zzD, zzE]
   have hZ51 := hZ50.only [Ls ma (fun k => xl kl xl_ k + xl km xm_ k) so, Mt ma (fun _ => ma) Ra s1, Mt ma (fun _ => ma) Rb s2, Mt ma (fun _ => ma) Rc s3, Ls ma (xl kl xl_) s4, Ls ma (xl km xm_) s5] (by simp)
   clear hZ50
   go_wp2_with fail
   refine (lApply hZ51.nx s1 s4 (e := 2 + 2) (hZ51.get 1 (f := Mt ma (fun _ => ma) Ra s1) rfl) (hZ51.get 4 (f := Ls ma (xl kl xl_) s4) rfl) (fun i k hi hk => ((fun (i k : Nat) (hi : i < ma) (hk : k < ma) => sz_int (rga.out i k hi (by rw [ha.2 i hi]; exact hk)).1 (rga.out i k hi (by rw [ha.2 i hi]; exact hk)).2) i k hi hk).mono (Nat.le_add_right _ _)) (fun k hk => ((fun (i : Nat) (_ : i < ma) => xl_in rgl.out i) k hk).mono (Nat.le_add_left _ _)) (by omega) (by omega)).mono ?_
   rintro zz W21 ⟨s18, rfl, hi_s18, hB⟩
   have hZ52 := hZ51.later hB
   clear hB
   clear hZ51
   have hZ53 := hZ52.more (f := Ls ma (M.mulv ma Ra (xl kl xl_)) s18) (Ls.stb _ _ _) hi_s18
   clear hZ52
   clear hi_s18
   go_wp2_with fail
   refine (lApply hZ53.nx s1 s5 (e := 2 + 2) (hZ53.get 2 (f := Mt ma (fun _ => ma) Ra s1) rfl) (hZ53.get 6 (f := Ls ma (xl km xm_) s5) rfl) (fun i k hi hk => ((fun (i k : Nat) (hi : i < ma) (hk : k < ma) => sz_int (rga.out i k hi (by rw [ha.2 i hi]; exact hk)).1 (rga.out i k hi (by rw [ha.2 i hi]; exact hk)).2) i k hi hk).mono (Nat.le_add_right _ _)) (fun k hk => ((fun (i : Nat) (_ : i < ma) => xl_in rgm.out i) k hk).mono (Nat.le_add_left _ _)) (by omega) (by omega)).mono ?_
   rintro zz W22 ⟨s19, rfl, hi_s19, hB⟩
   have hZ54 := hZ53.later hB
   clear hB
   clear hZ53
   have hZ55 := hZ54.more (f := Ls ma (M.mulv ma Ra (xl km xm_)) s19) (Ls.stb _ _ _) hi_s19
   clear hZ54
   clear hi_s19
   go_wp2_with fail
   refine (lApply hZ55.nx s1 so (e := 2 + 3) (hZ55.get 3 (f := Mt ma (fun _ => ma) Ra s1) rfl) (hZ55.get 2 (f := Ls ma (fun k => xl kl xl_ k + xl km xm_ k) so) rfl) (fun i k hi hk => ((fun (i k : Nat) (hi : i < ma) (hk : k < ma) => sz_int (rga.out i k hi (by rw [ha.2 i hi]; exact hk)).1 (rga.out i k hi (by rw [ha.2 i hi]; exact hk)).2) i k hi hk).mono (Nat.le_add_right _ _)) (fun k hk => ((fun (k : Nat) (_ : k < ma) => Sz.plus (xl_in rgl.out k) (xl_in rgm.out k)) k hk).mono (Nat.le_add_left _ _)) (by omega) (by omega)).mono ?_
   rintro zz W23 ⟨s20, rfl, hi_s20, hB⟩
   have hZ56 := hZ55.later hB
   clear hB
   clear hZ55
   have hZ57 := hZ56.more (f := Ls ma (M.mulv ma Ra (fun k => xl kl xl_ k + xl km xm_ k)) s20) (Ls.stb _ _ _) hi_s20
   clear hZ56
   clear hi_s20
   have hZ58 := hZ57.only [Ls ma (M.mulv ma Ra (xl kl xl_)) s18, Ls ma (M.mulv ma Ra (xl km xm_)) s19, Ls ma (M.mulv ma Ra (fun k => xl kl xl_ k + xl km xm_ k)) s20, Mt ma (fun _ => ma) Ra s1] (by simp)
   clear hZ57
   go_wp2
   obtain ⟨wo, rfl⟩ : ∃ wo : World, wo = wr := ⟨_, rfl⟩
   go_wp2
   go_loopw [32] (fun jv wr => ∃ (j : Nat) (X : Nat → Prop), j ≤ ma ∧ jv = .int .i64 ((j : Nat) : Int) ∧ Zs w wr X0 X [] [Ls ma (M.mulv ma Ra (xl kl xl_)) s18, Ls ma (M.mulv ma Ra (xl km xm_)) s19, Ls ma (M.mulv ma Ra (fun k => xl kl xl_ k + xl km xm_ k)) s20, Mt ma (fun _ => ma) Ra s1]) (fun iv _ => ma - (intOf iv).toNat)
   case atStart => exact ⟨0, _, by omega, rfl, hZ58⟩
   case round =>
    clear hZ58
    obtain ⟨j, Xj, hj, rfl, hZj⟩ := hrel
    by_cases hlj : j < ma
    ·
     go_wp2_with (refine stop_op rfl (fun K hK => wp_lenq (.tmp 146) 25 39 s1 rfl (by kernel_rfl) rfl (hZj.get 3 (f := Mt ma (fun _ => ma) Ra s1) rfl).n (hK _ _ ?_)))
     unfold Stop
     try simp only [Act.put, zzC, zzD, zzE]
     go_wp2_with (refine stop_op rfl (fun K hK => wp_lssi (.tmp 145) (.tmp 147) rfl rfl rfl (r := true) (decide_eq_true (by omega)) (hK _ _ ?_)))
     unfold Stop
     try simp only [Act.put, zzC, zzD, zzE]
     go_wp2
     have hM : Zs w wr.drew X0 Xj [] [Ls ma (M.mulv ma Ra (xl kl xl_)) s18, Ls ma (M.mulv ma Ra (xl km xm_)) s19, Ls ma (M.mulv ma Ra (fun k => xl kl xl_ k + xl km xm_ k)) s20, Mt ma (fun _ => ma) Ra s1] ∧ Below wr.heap.size wr wr.drew := ⟨hZj.later (Below.refl _ _).drew, (Below.refl _ _).drew⟩
     clear hZj
     have hVS22 : ∀ k, k ∈ ([veq (s18.v), veq (.int .i64 (((j : Nat) : Int))), veq ((s18.at 2 j)), vnum (M.mulv ma Ra (xl kl xl_) j), veq (s19.v), veq (.int .i64 (((j : Nat) : Int))), veq ((s19.at 2 j)), vnum (M.mulv ma Ra (xl km xm_) j), vnum ((M.mulv ma Ra (xl kl xl_) j) + (M.mulv ma Ra (xl km xm_) j)), veq (s20.v), veq (.int .i64 (((j : Nat) : Int))), veq ((s20.at 2 j)), vnum (M.mulv ma Ra (fun k => xl kl xl_ k + xl km xm_ k) j), veq (.int .i64 ((cmpI ((M.mulv ma Ra (xl kl xl_) j) + (M.mulv ma Ra (xl km xm_) j)) (M.mulv ma Ra (fun k => xl kl xl_ k + xl km xm_ k) j)))), veq (.int .i64 ((cmpI ((M.mulv ma Ra (xl kl xl_) j) + (M.mulv ma Ra (xl km xm_) j)) (M.mulv ma Ra (fun k => xl kl xl_ k + xl km xm_ k) j))))] : List VF) → VSt k := by
      intro k hk
      simp only [List.mem_cons, List.not_mem_nil, or_false] at hk
      rcases hk with rfl | rfl | rfl | rfl | rfl | rfl | rfl | rfl | rfl | rfl | rfl | rfl | rfl | rfl | rfl
      ·
       exact veq_st _
      ·
       exact veq_st _
      ·
       exact veq_st _
      ·
       exact vnum_st _
      ·
       exact veq_st _
      ·
       exact veq_st _
      ·
       exact veq_st _
      ·
       exact vnum_st _
      ·
       exact vnum_st _
      ·
       exact veq_st _
      ·
       exact veq_st _
      ·
       exact veq_st _
      ·
       exact vnum_st _
      ·
       exact veq_st _
      ·
       exact veq_st _
     refine wp_region_q 15 [some 151, some 152, some 153, some 154, some 155, some 156, some 157, some 158, some 159, some 160, some 161, some 162, some 163, some 164, some 33] (vzL [veq (s18.v), veq (.int .i64 (((j : Nat) : Int))), veq ((s18.at 2 j)), vnum (M.mulv ma Ra (xl kl xl_) j), veq (s19.v), veq (.int .i64 (((j : Nat) : Int))), veq ((s19.at 2 j)), vnum (M.mulv ma Ra (xl km xm_) j), vnum ((M.mulv ma Ra (xl kl xl_) j) + (M.mulv ma Ra (xl km xm_) j)), veq (s20.v), veq (.int .i64 (((j : Nat) : Int))), veq ((s20.at 2 j)), vnum (M.mulv ma Ra (fun k => xl kl xl_ k + xl km xm_ k) j), veq (.int .i64 ((cmpI ((M.mulv ma Ra (xl kl xl_) j) + (M.mulv ma Ra (xl km xm_) j)) (M.mulv ma Ra (fun k => xl kl xl_ k + xl km xm_ k) j)))), veq (.int .i64 ((cmpI ((M.mulv ma Ra (xl kl xl_) j) + (M.mulv ma Ra (xl km xm_) j)) (M.mulv ma Ra (fun k => xl kl xl_ k + xl km xm_ k) j))))] Xj) (fun W => Zs w W X0 Xj [] [Ls ma (M.mulv ma Ra (xl kl xl_)) s18, Ls ma (M.mulv ma Ra (xl km xm_)) s19, Ls ma (M.mulv ma Ra (fun k => xl kl xl_ k + xl km xm_ k)) s20, Mt ma (fun _ => ma) Ra s1] ∧ Below wr.heap.size wr W) (by kernel_rfl) (by kernel_rfl) (by rfl) (by decide) (by rfl) hM ?_ ?_
     ·
      intro i hl hi LL uu ww aa hLi hLc hJ hd hev hin hold
      clear hM
      obtain ⟨hJ, hJb⟩ := hJ
      obtain rfl | rfl | rfl | rfl | rfl | rfl | rfl | rfl | rfl | rfl | rfl | rfl | rfl | rfl | rfl : i = 0 ∨ i = 1 ∨ i = 2 ∨ i = 3 ∨ i = 4 ∨ i = 5 ∨ i = 6 ∨ i = 7 ∨ i = 8 ∨ i = 9 ∨ i = 10 ∨ i = 11 ∨ i = 12 ∨ i = 13 ∨ i = 14 := by omega
      ·
       exact .inr ⟨rfl, fun K' hK => wp_move (.tmp 29) rfl (eval_tmp ((hev 29 (by decide)).trans rfl)) (hK _ _ ⟨hJ, hJb⟩ rfl vzL_same)⟩
      ·
       exact .inr ⟨rfl, fun K' hK => wp_move (.tmp 32) rfl (eval_tmp ((hev 32 (by decide)).trans rfl)) (hK _ _ ⟨hJ, hJb⟩ rfl vzL_same)⟩
      ·
       exact .inr ⟨rfl, fun K' hK => wp_ixs 39 (.tmp 151) (.tmp 152) s18 j 2 45 rfl (eval_tmp ((hin 0 151 rfl).trans (congrArg some (show uu 0 = s18.v from hd 0 (by decide) (by kernel_rfl))))) (eval_tmp ((hin 1 152 rfl).trans (congrArg some (show uu 1 = .int .i64 (((j : Nat) : Int)) from hd 1 (by decide) (by kernel_rfl))))) (by kernel_rfl) sz45 (fun h => ((hJ.get 0 (f := Ls ma (M.mulv ma Ra (xl kl xl_)) s18) rfl).sq.nil h).1) ((hJ.get 0 (f := Ls ma (M.mulv ma Ra (xl kl xl_)) s18) rfl).n ▸ (by omega)) (hK _ _ ⟨hJ, hJb⟩ rfl vzL_same)⟩
      ·
       exact .inr ⟨rfl, fun K' hK => wp_ldn 45 (.tmp 153) s18 j ma (M.mulv ma Ra (xl kl xl_)) rfl (eval_tmp ((hin 2 153 rfl).trans (congrArg some (show uu 2 = (s18.at 2 j) from hd 2 (by decide) (by kernel_rfl))))) (hJ.get 0 (f := Ls ma (M.mulv ma Ra (xl kl xl_)) s18) rfl) (by omega) ag45 sz45 (fun q21 ez_q21 hi_q21 => hK _ _ ⟨hJ, hJb⟩ ⟨q21, rfl, ez_q21, hi_q21⟩ vzL_same)⟩
      ·
       exact .inr ⟨rfl, fun K' hK => wp_move (.tmp 30) rfl (eval_tmp ((hev 30 (by decide)).trans rfl)) (hK _ _ ⟨hJ, hJb⟩ rfl vzL_same)⟩
      ·
       exact .inr ⟨rfl, fun K' hK => wp_move (.tmp 32) rfl (eval_tmp ((hev 32 (by decide)).trans rfl)) (hK _ _ ⟨hJ, hJb⟩ rfl vzL_same)⟩
      ·
       exact .inr ⟨rfl, fun K' hK => wp_ixs 39 (.tmp 155) (.tmp 156) s19 j 2 45 rfl (eval_tmp ((hin 4 155 rfl).trans (congrArg some (show uu 4 = s19.v from hd 4 (by decide) (by kernel_rfl))))) (eval_tmp ((hin 5 156 rfl).trans (congrArg some (show uu 5 = .int .i64 (((j : Nat) : Int)) from hd 5 (by decide) (by kernel_rfl))))) (by kernel_rfl) sz45 (fun h => ((hJ.get 1 (f := Ls ma (M.mulv ma Ra (xl km xm_)) s19) rfl).sq.nil h).1) ((hJ.get 1 (f := Ls ma (M.mulv ma Ra (xl km xm_)) s19) rfl).n ▸ (by omega)) (hK _ _ ⟨hJ, hJb⟩ rfl vzL_same)⟩
      ·
       exact .inr ⟨rfl, fun K' hK => wp_ldn 45 (.tmp 157) s19 j ma (M.mulv ma Ra (xl km xm_)) rfl (eval_tmp ((hin 6 157 rfl).trans (congrArg some (show uu 6 = (s19.at 2 j) from hd 6 (by decide) (by kernel_rfl))))) (hJ.get 1 (f := Ls ma (M.mulv ma Ra (xl km xm_)) s19) rfl) (by omega) ag45 sz45 (fun q22 ez_q22 hi_q22 => hK _ _ ⟨hJ, hJb⟩ ⟨q22, rfl, ez_q22, hi_q22⟩ vzL_same)⟩
      ·
       obtain ⟨q21, e3, ez_q21, hi_q21⟩ := (show (vnum (M.mulv ma Ra (xl kl xl_) j)) (uu 3) Xj ww from hd 3 (by decide) (by kernel_rfl))
       obtain ⟨q22, e7, ez_q22, hi_q22⟩ := (show (vnum (M.mulv ma Ra (xl km xm_) j)) (uu 7) Xj ww from hd 7 (by decide) (by kernel_rfl))
       replace hJ := hJ.more (f := q21.is) q21.stb hi_q21
       replace hJ := hJ.more (f := q22.is) q22.stb hi_q22
       refine .inr ⟨rfl, fun K' hK => ?_⟩
       refine wp_callz (.func 32) #[.tmp 154, .tmp 158] #[45, 45] 32 #[] #[q21.v, q22.v] _ rfl rfl (map2 (eval_tmp ((hin 3 154 rfl).trans (congrArg some e3))) (eval_tmp ((hin 7 158 rfl).trans (congrArg some e7)))) rfl (fun _ _ => rfl) (zAdd hJ.nx (hJ.get 1 (f := q21.is) rfl) (hJ.get 0 (f := q22.is) rfl) ez_q21 ez_q22 ((fun (i : Nat) (hi : i < ma) => sm_sz (fun (t : Nat) (ht : t < ma) => Sz.mul ((fun (i k : Nat) (hi : i < ma) (hk : k < ma) => sz_int (rga.out i k hi (by rw [ha.2 i hi]; exact hk)).1 (rga.out i k hi (by rw [ha.2 i hi]; exact hk)).2) i t hi ht) ((fun (i : Nat) (_ : i < ma) => xl_in rgl.out i) t ht))) j (by omega)) ((fun (i : Nat) (hi : i < ma) => sm_sz (fun (t : Nat) (ht : t < ma) => Sz.mul ((fun (i k : Nat) (hi : i < ma) (hk : k < ma) => sz_int (rga.out i k hi (by rw [ha.2 i hi]; exact hk)).1 (rga.out i k hi (by rw [ha.2 i hi]; exact hk)).2) i t hi ht) ((fun (i : Nat) (_ : i < ma) => xl_in rgm.out i) t ht))) j (by omega)) (by omega) (by omega)) ?_
       rintro zz ww2 ⟨q23, rfl, ez_q23, hi_q23, hB⟩
       exact ⟨_, rfl, hK _ _ ⟨(hJ.only [Ls ma (M.mulv ma Ra (xl kl xl_)) s18, Ls ma (M.mulv ma Ra (xl km xm_)) s19, Ls ma (M.mulv ma Ra (fun k => xl kl xl_ k + xl km xm_ k)) s20, Mt ma (fun _ => ma) Ra s1] (by simp)).later hB, hJb.trans (hB.mono hJb.size)⟩ ⟨q23, rfl, ez_q23, hi_q23⟩ (vzL_later hVS22 hB)⟩
      ·
       exact .inr ⟨rfl, fun K' hK => wp_move (.tmp 31) rfl (eval_tmp ((hev 31 (by decide)).trans rfl)) (hK _ _ ⟨hJ, hJb⟩ rfl vzL_same)⟩
      ·
       exact .inr ⟨rfl, fun K' hK => wp_move (.tmp 32) rfl (eval_tmp ((hev 32 (by decide)).trans rfl)) (hK _ _ ⟨hJ, hJb⟩ rfl vzL_same)⟩
      ·
       exact .inr ⟨rfl, fun K' hK => wp_ixs 39 (.tmp 160) (.tmp 161) s20 j 2 45 rfl (eval_tmp ((hin 9 160 rfl).trans (congrArg some (show uu 9 = s20.v from hd 9 (by decide) (by kernel_rfl))))) (eval_tmp ((hin 10 161 rfl).trans (congrArg some (show uu 10 = .int .i64 (((j : Nat) : Int)) from hd 10 (by decide) (by kernel_rfl))))) (by kernel_rfl) sz45 (fun h => ((hJ.get 2 (f := Ls ma (M.mulv ma Ra (fun k => xl kl xl_ k + xl km xm_ k)) s20) rfl).sq.nil h).1) ((hJ.get 2 (f := Ls ma (M.mulv ma Ra (fun k => xl kl xl_ k + xl km xm_ k)) s20) rfl).n ▸ (by omega)) (hK _ _ ⟨hJ, hJb⟩ rfl vzL_same)⟩
      ·
       exact .inr ⟨rfl, fun K' hK => wp_ldn 45 (.tmp 162) s20 j ma (M.mulv ma Ra (fun k => xl kl xl_ k + xl km xm_ k)) rfl (eval_tmp ((hin 11 162 rfl).trans (congrArg some (show uu 11 = (s20.at 2 j) from hd 11 (by decide) (by kernel_rfl))))) (hJ.get 2 (f := Ls ma (M.mulv ma Ra (fun k => xl kl xl_ k + xl km xm_ k)) s20) rfl) (by omega) ag45 sz45 (fun q24 ez_q24 hi_q24 => hK _ _ ⟨hJ, hJb⟩ ⟨q24, rfl, ez_q24, hi_q24⟩ vzL_same)⟩
      ·
       obtain ⟨q23, e8, ez_q23, hi_q23⟩ := (show (vnum ((M.mulv ma Ra (xl kl xl_) j) + (M.mulv ma Ra (xl km xm_) j))) (uu 8) Xj ww from hd 8 (by decide) (by kernel_rfl))
       obtain ⟨q24, e12, ez_q24, hi_q24⟩ := (show (vnum (M.mulv ma Ra (fun k => xl kl xl_ k + xl km xm_ k) j)) (uu 12) Xj ww from hd 12 (by decide) (by kernel_rfl))
       replace hJ := hJ.more (f := q23.is) q23.stb hi_q23
       replace hJ := hJ.more (f := q24.is) q24.stb hi_q24
       refine .inr ⟨rfl, fun K' hK => ?_⟩
       refine wp_callz (.func 28) #[.tmp 159, .tmp 163] #[45, 45] 28 #[] #[q23.v, q24.v] _ rfl rfl (map2 (eval_tmp ((hin 8 159 rfl).trans (congrArg some e8))) (eval_tmp ((hin 12 163 rfl).trans (congrArg some e12)))) rfl (fun _ _ => rfl) (zCmp (hJ.get 1 (f := q23.is) rfl) (hJ.get 0 (f := q24.is) rfl) ez_q23 ez_q24) ?_
       rintro zz ww2 ⟨rfl, hB⟩
       exact ⟨_, rfl, hK _ _ ⟨(hJ.only [Ls ma (M.mulv ma Ra (xl kl xl_)) s18, Ls ma (M.mulv ma Ra (xl km xm_)) s19, Ls ma (M.mulv ma Ra (fun k => xl kl xl_ k + xl km xm_ k)) s20, Mt ma (fun _ => ma) Ra s1] (by simp)).later hB, hJb.trans (hB.mono hJb.size)⟩ rfl (vzL_later hVS22 hB)⟩
      ·
       exact .inr ⟨rfl, fun K' hK => wp_asgn (.tmp 164) rfl (eval_tmp ((hin 13 164 rfl).trans (congrArg some (show uu 13 = .int .i64 ((cmpI ((M.mulv ma Ra (xl kl xl_) j) + (M.mulv ma Ra (xl km xm_) j)) (M.mulv ma Ra (fun k => xl kl xl_ k + xl km xm_ k) j))) from hd 13 (by decide) (by kernel_rfl))))) (hK _ _ ⟨hJ, hJb⟩ rfl vzL_same)⟩
     clear hM
     intro uu W24 hZ59p hd
     obtain ⟨hZ59, hb22⟩ := hZ59p
     have e_0 : uu 0 = s18.v := hd 0 (by decide)
     have e_1 : uu 1 = .int .i64 (((j : Nat) : Int)) := hd 1 (by decide)
     have e_2 : uu 2 = (s18.at 2 j) := hd 2 (by decide)
     obtain ⟨q21, e_3, ez_q21, hi_q21⟩ := (show (vnum (M.mulv ma Ra (xl kl xl_) j)) (uu 3) Xj W24 from hd 3 (by decide))
     have e_4 : uu 4 = s19.v := hd 4 (by decide)
     have e_5 : uu 5 = .int .i64 (((j : Nat) : Int)) := hd 5 (by decide)
     have e_6 : uu 6 = (s19.at 2 j) := hd 6 (by decide)
     obtain ⟨q22, e_7, ez_q22, hi_q22⟩ := (show (vnum (M.mulv ma Ra (xl km xm_) j)) (uu 7) Xj W24 from hd 7 (by decide))
     obtain ⟨q23, e_8, ez_q23, hi_q23⟩ := (show (vnum ((M.mulv ma Ra (xl kl xl_) j) + (M.mulv ma Ra (xl km xm_) j))) (uu 8) Xj W24 from hd 8 (by decide))
     have e_9 : uu 9 = s20.v := hd 9 (by decide)
     have e_10 : uu 10 = .int .i64 (((j : Nat) : Int)) := hd 10 (by decide)
     have e_11 : uu 11 = (s20.at 2 j) := hd 11 (by decide)
     obtain ⟨q24, e_12, ez_q24, hi_q24⟩ := (show (vnum (M.mulv ma Ra (fun k => xl kl xl_ k + xl km xm_ k) j)) (uu 12) Xj W24 from hd 12 (by decide))
     have e_13 : uu 13 = .int .i64 ((cmpI ((M.mulv ma Ra (xl kl xl_) j) + (M.mulv ma Ra (xl km xm_) j)) (M.mulv ma Ra (fun k => xl kl xl_ k + xl km xm_ k) j))) := hd 13 (by decide)
     have e_14 : uu 14 = .int .i64 ((cmpI ((M.mulv ma Ra (xl kl xl_) j) + (M.mulv ma Ra (xl km xm_) j)) (M.mulv ma Ra (fun k => xl kl xl_ k + xl km xm_ k) j))) := hd 14 (by decide)
     clear hd hVS22
     simp only [layS, Act.put, zzC, zzD, zzE, Nat.zero_add, Nat.reduceAdd, List.drop_succ_cons, List.drop_zero, List.drop_nil, e_0, e_1, e_2, e_3, e_4, e_5, e_6, e_7, e_8, e_9, e_10, e_11, e_12, e_13, e_14]
     clear e_0 e_1 e_2 e_3 e_4 e_5 e_6 e_7 e_8 e_9 e_10 e_11 e_12 e_13 e_14
     have hZ60 := hZ59.more (f := q21.is) q21.stb hi_q21
     clear hZ59
     clear hi_q21
     have hZ61 := hZ60.more (f := q22.is) q22.stb hi_q22
     clear hZ60
     clear hi_q22
     have hZ62 := hZ61.more (f := q23.is) q23.stb hi_q23
     clear hZ61
     clear hi_q23
     have hZ63 := hZ62.more (f := q24.is) q24.stb hi_q24
     clear hZ62
     clear hi_q24
     go_wp2_with (refine stop_op rfl (fun K hK => wp_neqi (.tmp 165) (.const (.int .i64 0)) 3 3 rfl rfl rfl rfl (r := false) (decide_eq_false (by rw [cmpI_ne]; exact fun h => h (M.mulv_add ma Ra (xl kl xl_) (xl km xm_) j).symm)) (hK _ _ ?_)))
     unfold Stop
     try simp only [Act.put, zzC, zzD, zzE]
     have hZ64 := hZ63.only [Ls ma (M.mulv ma Ra (xl kl xl_)) s18, Ls ma (M.mulv ma Ra (xl km xm_)) s19, Ls ma (M.mulv ma Ra (fun k => xl kl xl_ k + xl km xm_ k)) s20, Mt ma (fun _ => ma) Ra s1] (by simp)
     clear hZ63
     go_wp2_with (refine stop_op rfl (fun K hK => wp_addi (.tmp 149) (.const (.int .i64 1)) rfl rfl rfl (C := ((j + 1 : Nat) : Int)) (by omega) (by omega) (by omega) (hK _ _ ?_)))
     unfold Stop
     try simp only [Act.put, zzC, zzD, zzE]
     go_wp2
     go_roundw
     case rel => exact ⟨j + 1, _, by omega, by go_num, hZ64⟩
     case measure => simp [intOf]; omega
    ·
     obtain rfl : ma = j := by omega
     go_wp2_with (refine stop_op rfl (fun K hK => wp_lenq (.tmp 146) 25 39 s1 rfl (by kernel_rfl) rfl (hZj.get 3 (f := Mt ma (fun _ => ma) Ra s1) rfl).n (hK _ _ ?_)))
     unfold Stop
     try simp only [Act.put, zzC, zzD, zzE]
     go_wp2_with (refine stop_op rfl (fun K hK => wp_lssi (.tmp 145) (.tmp 147) rfl rfl rfl (r := false) (decide_eq_false (Int.lt_irrefl _)) (hK _ _ ?_)))
     unfold Stop
     try simp only [Act.put, zzC, zzD, zzE]
     go_wp2
     go_ret
     exact ⟨rfl, hZj.below⟩
end Go.Proofs.YtolpfibihialkaaDoor

/- The law LinChain of layer 7, walked, whatever it is given. -/
namespace Go.Proofs.YtolpfibihialkaaDoor
open Go Go.RowKit
theorem lchAny {X0 : Nat → Prop} {w : World} (hX : NX X0 w) (ra rb rc l m : Sl) (ma mb mc kl km : Nat) (ca cb cc : Nat → Nat) (Ra Rb Rc : Nat → Nat → Int) (xl_ xm_ : Nat → Int) (hra : Mi ma ca Ra ra X0 w) (hrb : Mi mb cb Rb rb X0 w) (hrc : Mi mc cc Rc rc X0 w) (hl_ : Li kl xl_ l X0 w) (hm_ : Li km xm_ m X0 w) (r1 : ∀ i j, i < ma → j < ca i → -9223372036854775808 ≤ Ra i j ∧ Ra i j ≤ 9223372036854775807) (r2 : ∀ i j, i < mb → j < cb i → -9223372036854775808 ≤ Rb i j ∧ Rb i j ≤ 9223372036854775807) (r3 : ∀ i j, i < mc → j < cc i → -9223372036854775808 ≤ Rc i j ∧ Rc i j ≤ 9223372036854775807) (r4 : ∀ i, i < kl → -9223372036854775808 ≤ xl_ i ∧ xl_ i ≤ 9223372036854775807) (r5 : ∀ i, i < km → -9223372036854775808 ≤ xm_ i ∧ xm_ i ≤ 9223372036854775807) : Calls Tryd.prog 8 #[ra.v, rb.v, rc.v, l.v, m.v] w (PVal (.bool true) w) := by
 by_cases ha : ma ≤ 6 ∧ ∀ k, k < ma → ca k = ma
 ·
  by_cases hb : mb ≤ 6 ∧ ∀ k, k < mb → cb k = mb
  ·
   by_cases hc : mc ≤ 6 ∧ ∀ k, k < mc → cc k = mc
   ·
    by_cases eab : ma = mb
    ·
     by_cases eac : ma = mc
     ·
      exact lch6 hX ra rb rc l m ma mb mc kl km ca cb cc Ra Rb Rc xl_ xm_ hra hrb hrc hl_ hm_ r1 r2 r3 r4 r5 ha hb hc eab eac
     ·
      exact lch5 hX ra rb rc l m ma mb mc kl km ca cb cc Ra Rb Rc xl_ xm_ hra hrb hrc hl_ hm_ r1 r2 r3 r4 r5 ha hb hc eab eac
    ·
     exact lch4 hX ra rb rc l m ma mb mc kl km ca cb cc Ra Rb Rc xl_ xm_ hra hrb hrc hl_ hm_ r1 r2 r3 r4 r5 ha hb hc eab
   ·
    exact lch3 hX ra rb rc l m ma mb mc kl km ca cb cc Ra Rb Rc xl_ xm_ hra hrb hrc hl_ hm_ r1 r2 r3 r4 r5 ha hb hc
  ·
   exact lch2 hX ra rb rc l m ma mb mc kl km ca cb cc Ra Rb Rc xl_ xm_ hra hrb hrc hl_ hm_ r1 r2 r3 r4 r5 ha hb
 ·
  exact lch1 hX ra rb rc l m ma mb mc kl km ca cb cc Ra Rb Rc xl_ xm_ hra hrb hrc hl_ hm_ r1 r2 r3 r4 r5 ha
end Go.Proofs.YtolpfibihialkaaDoor
