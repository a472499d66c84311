/- Parts of the proof. -/
import Derived.Test.YtjclllindbfmhaaGreatDoorHw0
import Derived.Test.YtjclllindbfmhaaGreatDoorHw36
import Derived.Test.YtjclllindbfmhaaGreatDoorHw37
import Derived.Test.YtjclllindbfmhaaGreatDoorHw34
import Derived.Test.YtjclllindbfmhaaGreatDoorHw33
import Derived.Test.YtjclllindbfmhaaGreatDoorHw29
import Derived.Test.YtjclllindbfmhaaGreatDoorHw35
import Derived.Test.YtjclllindbfmhaaGreatDoorHw26
import Derived.Test.YtjclllindbfmhaaGreatDoorHw31
import Derived.Test.YtjclllindbfmhaaGreatDoorHw28
import Derived.Test.YtjclllindbfmhaaGreatDoorHw27
import Derived.Test.YtjclllindbfmhaaGreatDoorHw22
/- The laws' awake of layer 8. No statement of the seat is proved here. -/
namespace Go.Proofs.YtjclllindbfmhaaGreatDoor
open Go Go.RowKit
open Classical in
set_option maxRecDepth 100000 in
set_option maxHeartbeats 12800000 in
theorem uAwake {X0 : Nat → Prop} {w : World} (hX : NX X0 w) : Calls Tryz.prog 9 #[] w (PVal (.bool true) w) := by
 have hZ0 := zs_start hX
 go_enter Tryz.func9, Tryz.ntmps9
 go_wp2_with (refine stopz_bi2 ei23 (.const (.int .i64 2)) (.const (.int .i64 1)) rfl rfl rfl rfl hZ0 (fun s1 W1 hZ1 => ?_))
 clear hZ0
 unfold Stop
 try simp only [Act.put, zzC, zzD, zzE]
 go_wp2_with (refine stopz_bi2 ei23 (.const (.int .i64 1)) (.const (.int .i64 3)) rfl rfl rfl rfl hZ1 (fun s2 W2 hZ2 => ?_))
 clear hZ1
 unfold Stop
 try simp only [Act.put, zzC, zzD, zzE]
 go_wp2_with (refine stopz_bm2 ei22 (.tmp 26) (.tmp 27) rfl rfl rfl rfl hZ2 (hZ2.get 1 (f := Li 2 (l2 2 1) s1) rfl) (hZ2.get 0 (f := Li 2 (l2 1 3) s2) rfl) (fun s3 W3 hZ3 => ?_))
 clear hZ2
 unfold Stop
 try simp only [Act.put, zzC, zzD, zzE]
 go_wp2_with (refine stopz_bi2 ei23 (.const (.int .i64 1)) (.const (.int .i64 2)) rfl rfl rfl rfl hZ3 (fun s4 W4 hZ4 => ?_))
 clear hZ3
 unfold Stop
 try simp only [Act.put, zzC, zzD, zzE]
 go_wp2_with fail
 refine (uOfY hZ4.nx s3 s4 (R := eP) (x := eq_) (hZ4.get 1 (f := Mi 2 (fun _ => 2) (m2 (l2 2 1) (l2 1 3)) s3) rfl) (hZ4.get 0 (f := Li 2 (l2 1 2) s4) rfl) (fun i j _ _ => eP_in i j) ⟨by omega, fun _ _ => rfl⟩ e_sym (fun i _ => eq_in i) (by omega)).mono ?_
 rintro zz W5 ⟨pf, sf, cf, rfl, hi_pf, hi_sf, ez_cf, hi_cf, hB⟩
 have hZ5 := hZ4.later hB
 clear hB
 clear hZ4
 have hZ6 := hZ5.more (f := Mt 2 (fun _ => 2) eP pf) (Mt.stb _ _ _ _) hi_pf
 clear hZ5
 clear hi_pf
 have hZ7 := hZ6.more (f := Ls 2 eq_ sf) (Ls.stb _ _ _) hi_sf
 clear hZ6
 clear hi_sf
 have hZ8 := hZ7.more (f := cf.is) cf.stb hi_cf
 clear hZ7
 clear hi_cf
 go_wp2_with (refine stopz_alloc 32 #[.slice none 0 0, .slice none 0 0, .bool false, .slice none 0 0] (.agg #[.slice none 0 0, .slice none 0 0, .bool false, .slice none 0 0]) rfl rfl zv32 rfl hZ8 (fun bk1 X9 W6 hZ9 => ?_))
 clear hZ8
 unfold Stop
 try simp only [Act.put, zzC, zzD, zzE]
 go_wp2_with (refine stopz_store 32 (.tmp 1) (.tmp 31) 0 bk1 0 #[.slice none 0 0, .slice none 0 0, .bool false, .slice none 0 0] 32 4 [pf.v, sf.v, .bool cf.b, .slice cf.a cf.n cf.c] #[pf.v, sf.v, .bool cf.b, .slice cf.a cf.n cf.c] [(bk1, #[pf.v, sf.v, .bool cf.b, .slice cf.a cf.n cf.c], 32)] rfl rfl rfl rfl sz32 hZ9 rfl rfl (zzF (by kernel_rfl)) (by kernel_rfl) (by kernel_rfl) (by kernel_rfl) (fun W7 hZ10 => ?_))
 clear hZ9
 unfold Stop
 try simp only [Act.put, zzC, zzD, zzE]
 go_wp2_with (refine stop_opw (by kernel_rfl) (fun K hK => wp_fda (v := .pointer (some ⟨bk1, 0, none⟩)) 32 (.tmp 1) 0 rfl rfl (fun _ => by kernel_rfl) (hK _ _ ?_)))
 unfold Stop
 try simp only [Act.put, zzC, zzD, zzE]
 go_wp2_with (refine stop_opw (by kernel_rfl) (fun K hK => wp_load1 (v := pf.v) 26 (.tmp 36) rfl bk1 0 #[pf.v, sf.v, .bool cf.b, .slice cf.a cf.n cf.c] 32 (hZ10.es.at' _ (zzG (i := 0) rfl)) rfl ag26 (by kernel_rfl) (hK _ _ ?_)))
 unfold Stop
 try simp only [Act.put, zzC, zzD, zzE]
 go_wp2_with (refine stop_opw (by kernel_rfl) (fun K hK => wp_lenq (.tmp 37) 26 27 pf rfl (by kernel_rfl) rfl (hZ10.get 2 (f := Mt 2 (fun _ => 2) eP pf) rfl).n (hK _ _ ?_)))
 unfold Stop
 try simp only [Act.put, zzC, zzD, zzE]
 go_wp2_with (refine stop_opw (by kernel_rfl) (fun K hK => wp_neqi (.tmp 38) (.const (.int .i64 2)) 3 3 rfl rfl rfl rfl (r := false) (decide_eq_false (by decide)) (hK _ _ ?_)))
 unfold Stop
 try simp only [Act.put, zzC, zzD, zzE]
 go_wp2_with (refine stop_opw (by kernel_rfl) (fun K hK => wp_fda (v := .pointer (some ⟨bk1, 1, none⟩)) 32 (.tmp 1) 1 rfl rfl (fun _ => by kernel_rfl) (hK _ _ ?_)))
 unfold Stop
 try simp only [Act.put, zzC, zzD, zzE]
 go_wp2_with (refine stop_opw (by kernel_rfl) (fun K hK => wp_load1 (v := sf.v) 27 (.tmp 42) rfl bk1 1 #[pf.v, sf.v, .bool cf.b, .slice cf.a cf.n cf.c] 32 (hZ10.es.at' _ (zzG (i := 0) rfl)) rfl ag27 (by kernel_rfl) (hK _ _ ?_)))
 unfold Stop
 try simp only [Act.put, zzC, zzD, zzE]
 go_wp2_with (refine stop_opw (by kernel_rfl) (fun K hK => wp_lenq (.tmp 43) 27 30 sf rfl (by kernel_rfl) rfl (hZ10.get 1 (f := Ls 2 eq_ sf) rfl).n (hK _ _ ?_)))
 unfold Stop
 try simp only [Act.put, zzC, zzD, zzE]
 go_wp2_with (refine stop_opw (by kernel_rfl) (fun K hK => wp_neqi (.tmp 44) (.const (.int .i64 2)) 3 3 rfl rfl rfl rfl (r := false) (decide_eq_false (by decide)) (hK _ _ ?_)))
 unfold Stop
 try simp only [Act.put, zzC, zzD, zzE]
 go_wp2_with (refine stopz_bi2 ei23 (.const (.int .i64 1)) (.const (.int .i64 1)) rfl rfl rfl rfl hZ10 (fun s5 W8 hZ11 => ?_))
 clear hZ10
 unfold Stop
 try simp only [Act.put, zzC, zzD, zzE]
 go_wp2_with fail
 refine (uList hZ11.nx s5 2 (hZ11.get 0 (f := Li 2 (l2 1 1) s5) rfl) (by omega) (fun i _ => l2_in (by decide) (by decide) i)).mono ?_
 rintro zz W9 ⟨s7, d7, rfl, hi_s7, hi_d7, hB⟩
 have hZ12 := hZ11.later hB
 clear hB
 clear hZ11
 have hZ13 := hZ12.more (f := Ls 2 (xl 2 (l2 1 1)) s7) (Ls.stb _ _ _) hi_s7
 clear hZ12
 clear hi_s7
 go_wp2_with fail
 refine (uList hZ13.nx slz 2 (li_nil (fun _ => 0) _ _) (by omega) (fun i hi => absurd hi (Nat.not_lt_zero i))).mono ?_
 rintro zz W10 ⟨s9, d9, rfl, hi_s9, hi_d9, hB⟩
 have hZ14 := hZ13.later hB
 clear hB
 clear hZ13
 have hZ15 := hZ14.more (f := Ls 2 (xl 0 (fun _ => 0)) s9) (Ls.stb _ _ _) hi_s9
 clear hZ14
 clear hi_s9
 go_wp2_with (refine stop_op rfl (fun K hK => wp_bi1 ei23 (.const (.int .i64 1)) rfl rfl hZ15 (fun s10 W11 hZ16 => hK _ _ ?_)))
 unfold Stop
 try simp only [Act.put, zzC, zzD, zzE]
 clear hZ15
 go_wp2_with fail
 refine (uList hZ16.nx s10 1 (hZ16.get 0 (f := Li 1 (l1 1) s10) rfl) (by omega) l1_in).mono ?_
 rintro zz W12 ⟨s12, d12, rfl, hi_s12, hi_d12, hB⟩
 have hZ17 := hZ16.later hB
 clear hB
 clear hZ16
 have hZ18 := hZ17.more (f := Ls 1 (xl 1 (l1 1)) s12) (Ls.stb _ _ _) hi_s12
 clear hZ17
 clear hi_s12
 go_wp2_with (refine stop_op rfl (fun K hK => wp_load 32 (.tmp 1) rfl bk1 0 4 #[pf.v, sf.v, .bool cf.b, .slice cf.a cf.n cf.c] #[pf.v, sf.v, .bool cf.b, .slice cf.a cf.n cf.c] 32 (hZ18.es.at' _ (zzG (i := 0) rfl)) rfl ag32 sz32 (zzF (by kernel_rfl)) (by kernel_rfl) (hK _ _ ?_)))
 unfold Stop
 try simp only [Act.put, zzC, zzD, zzE]
 go_wp2_with fail
 refine (uValue hZ18.nx pf sf cf (e := 2) s7 (hZ18.get 7 (f := Mt 2 (fun _ => 2) eP pf) rfl) (hZ18.get 6 (f := Ls 2 eq_ sf) rfl) (hZ18.get 5 (f := cf.is) rfl) ez_cf (hZ18.get 3 (f := Ls 2 (xl 2 (l2 1 1)) s7) rfl) (fun i j _ _ => eP_sz i j) (fun i _ => eq_sz i) e_4 (fun i _ => xl_in (fun i _ => l2_in (by decide) (by decide) i) i) (by omega) (by omega)).mono ?_
 rintro zz W13 ⟨q13, rfl, ez_q13, hi_q13, hB⟩
 have hZ19 := hZ18.later hB
 clear hB
 clear hZ18
 have hZ20 := hZ19.more (f := q13.is) q13.stb hi_q13
 clear hZ19
 clear hi_q13
 go_wp2_with fail
 refine ((zStr (hZ20.get 0 (f := q13.is) rfl) ez_q13 (vq_sz (fun i j _ _ => eP_sz i j) (fun i _ => eq_sz i) e_4 (fun i _ => xl_in (fun i _ => l2_in (by decide) (by decide) i) i)) (by first | omega | exact Nat.le_trans (dtb_le (by omega) (by omega)) (by omega))).mono (fun _ _ h => ptxt_dec h)).mono ?_
 rintro zz W14 ⟨rfl, hB⟩
 have hZ21 := hZ20.later hB
 clear hB
 clear hZ20
 go_wp2_with (refine stop_op rfl (fun K hK => wp_load 32 (.tmp 1) rfl bk1 0 4 #[pf.v, sf.v, .bool cf.b, .slice cf.a cf.n cf.c] #[pf.v, sf.v, .bool cf.b, .slice cf.a cf.n cf.c] 32 (hZ21.es.at' _ (zzG (i := 0) rfl)) rfl ag32 sz32 (zzF (by kernel_rfl)) (by kernel_rfl) (hK _ _ ?_)))
 unfold Stop
 try simp only [Act.put, zzC, zzD, zzE]
 go_wp2_with fail
 refine (uSlope hZ21.nx pf sf cf (e := 2) s9 (hZ21.get 8 (f := Mt 2 (fun _ => 2) eP pf) rfl) (hZ21.get 7 (f := Ls 2 eq_ sf) rfl) (hZ21.get 6 (f := cf.is) rfl) ez_cf (hZ21.get 3 (f := Ls 2 (xl 0 (fun _ => 0)) s9) rfl) (fun i j _ _ => eP_sz i j) (fun i _ => eq_sz i) e_4 (fun i _ => xl_in (fun i hi => absurd hi (Nat.not_lt_zero i)) i) (by omega) (by omega)).mono ?_
 rintro zz W15 ⟨sl, rfl, hi_sl, hB⟩
 have hZ22 := hZ21.later hB
 clear hB
 clear hZ21
 have hZ23 := hZ22.more (f := Ls 2 (fun i => M.mulv 2 eP (xl 0 (fun _ => 0)) i - eq_ i) sl) (Ls.stb _ _ _) hi_sl
 clear hZ22
 clear hi_sl
 go_wp2_with (refine stop_op rfl (fun K hK => wp_load 32 (.tmp 1) rfl bk1 0 4 #[pf.v, sf.v, .bool cf.b, .slice cf.a cf.n cf.c] #[pf.v, sf.v, .bool cf.b, .slice cf.a cf.n cf.c] 32 (hZ23.es.at' _ (zzG (i := 0) rfl)) rfl ag32 sz32 (zzF (by kernel_rfl)) (by kernel_rfl) (hK _ _ ?_)))
 unfold Stop
 try simp only [Act.put, zzC, zzD, zzE]
 go_wp2_with fail
 refine (uLeastY hZ23.nx pf sf cf (e := 2) (hZ23.get 9 (f := Mt 2 (fun _ => 2) eP pf) rfl) (hZ23.get 8 (f := Ls 2 eq_ sf) rfl) (hZ23.get 7 (f := cf.is) rfl) ez_cf (fun i j _ _ => eP_sz i j) (fun i _ => eq_sz i) e_4 (by omega) (by omega) (by omega) a_def (by rw [a_det]; decide)).mono ?_
 rintro zz W16 ⟨sn, dn, tn, rfl, hi_sn, ez_dn, hi_dn, ez_tn, hi_tn, hB⟩
 have hZ24 := hZ23.later hB
 clear hB
 clear hZ23
 have hZ25 := hZ24.more (f := Ls 2 (crx 2 eP eq_) sn) (Ls.stb _ _ _) hi_sn
 clear hZ24
 clear hi_sn
 have hZ26 := hZ25.more (f := dn.is) dn.stb hi_dn
 clear hZ25
 clear hi_dn
 have hZ27 := hZ26.more (f := tn.is) tn.stb hi_tn
 clear hZ26
 clear hi_tn
 go_wp2_with (refine stopz_alloc 30 #[.bool false, .slice none 0 0] (.agg #[.bool false, .slice none 0 0]) rfl rfl zv30 rfl hZ27 (fun bk2 X28 W17 hZ28 => ?_))
 clear hZ27
 unfold Stop
 try simp only [Act.put, zzC, zzD, zzE]
 go_wp2_with (refine stopz_alloc 30 #[.bool false, .slice none 0 0] (.agg #[.bool false, .slice none 0 0]) rfl rfl zv30 rfl hZ28 (fun bk3 X29 W18 hZ29 => ?_))
 clear hZ28
 unfold Stop
 try simp only [Act.put, zzC, zzD, zzE]
 go_wp2_with (refine stopz_store 30 (.tmp 12) (.tmp 72) 1 bk2 0 #[.bool false, .slice none 0 0] 30 2 [.bool dn.b, .slice dn.a dn.n dn.c] #[.bool dn.b, .slice dn.a dn.n dn.c] [(bk3, #[.bool false, .slice none 0 0], 30), (bk2, #[.bool dn.b, .slice dn.a dn.n dn.c], 30), (bk1, #[pf.v, sf.v, .bool cf.b, .slice cf.a cf.n cf.c], 32)] rfl rfl rfl rfl sz30 hZ29 rfl rfl (zzF (by kernel_rfl)) (by kernel_rfl) (by kernel_rfl) (by kernel_rfl) (fun W19 hZ30 => ?_))
 clear hZ29
 unfold Stop
 try simp only [Act.put, zzC, zzD, zzE]
 go_wp2_with (refine stopz_store 30 (.tmp 13) (.tmp 73) 0 bk3 0 #[.bool false, .slice none 0 0] 30 2 [.bool tn.b, .slice tn.a tn.n tn.c] #[.bool tn.b, .slice tn.a tn.n tn.c] [(bk3, #[.bool tn.b, .slice tn.a tn.n tn.c], 30), (bk2, #[.bool dn.b, .slice dn.a dn.n dn.c], 30), (bk1, #[pf.v, sf.v, .bool cf.b, .slice cf.a cf.n cf.c], 32)] rfl rfl rfl rfl sz30 hZ30 rfl rfl (zzF (by kernel_rfl)) (by kernel_rfl) (by kernel_rfl) (by kernel_rfl) (fun W20 hZ31 => ?_))
 clear hZ30
 unfold Stop
 try simp only [Act.put, zzC, zzD, zzE]
 go_wp2_with (refine stop_op rfl (fun K hK => wp_load 30 (.tmp 12) rfl bk2 0 2 #[.bool dn.b, .slice dn.a dn.n dn.c] #[.bool dn.b, .slice dn.a dn.n dn.c] 30 (hZ31.es.at' _ (zzG (i := 1) rfl)) rfl ag30 sz30 (zzF (by kernel_rfl)) (by kernel_rfl) (hK _ _ ?_)))
 unfold Stop
 try simp only [Act.put, zzC, zzD, zzE]
 go_wp2_with fail
 refine ((zStr (hZ31.get 1 (f := dn.is) rfl) ez_dn (dt_sz (fun i j _ _ => eP_sz i j)) (by first | omega | exact Nat.le_trans (dtb_le (by omega) (by omega)) (by omega))).mono (fun _ _ h => ptxt_dec h)).mono ?_
 rintro zz W21 ⟨rfl, hB⟩
 have hZ32 := hZ31.later hB
 clear hB
 clear hZ31
 go_wp2_with (refine stop_op rfl (fun K hK => wp_load 30 (.tmp 13) rfl bk3 0 2 #[.bool tn.b, .slice tn.a tn.n tn.c] #[.bool tn.b, .slice tn.a tn.n tn.c] 30 (hZ32.es.at' _ (zzG (i := 0) rfl)) rfl ag30 sz30 (zzF (by kernel_rfl)) (by kernel_rfl) (hK _ _ ?_)))
 unfold Stop
 try simp only [Act.put, zzC, zzD, zzE]
 go_wp2_with fail
 refine ((zStr (hZ32.get 0 (f := tn.is) rfl) ez_tn e_top_sz (by first | omega | exact Nat.le_trans (dtb_le (by omega) (by omega)) (by omega))).mono (fun _ _ h => ptxt_dec h)).mono ?_
 rintro zz W22 ⟨rfl, hB⟩
 have hZ33 := hZ32.later hB
 clear hB
 clear hZ32
 go_wp2_with (refine stop_op rfl (fun K hK => wp_load 32 (.tmp 1) rfl bk1 0 4 #[pf.v, sf.v, .bool cf.b, .slice cf.a cf.n cf.c] #[pf.v, sf.v, .bool cf.b, .slice cf.a cf.n cf.c] 32 (hZ33.es.at' _ (zzG (i := 2) rfl)) rfl ag32 sz32 (zzF (by kernel_rfl)) (by kernel_rfl) (hK _ _ ?_)))
 unfold Stop
 try simp only [Act.put, zzC, zzD, zzE]
 go_wp2_with fail
 refine (uWithY hZ33.nx pf sf s12 cf (k := 1) (r := 1) (e := 2) (hZ33.get 12 (f := Mt 2 (fun _ => 2) eP pf) rfl) (hZ33.get 11 (f := Ls 2 eq_ sf) rfl) (hZ33.get 10 (f := cf.is) rfl) ez_cf (hZ33.get 5 (f := Ls 1 (xl 1 (l1 1)) s12) rfl) (fun i j _ _ => eP_sz i j) (fun i _ => eq_sz i) e_4 (fun i _ => xl_in l1_in i) e_sym (by omega) (by omega)).mono ?_
 rintro zz W23 ⟨pw, sw, cw, rfl, hi_pw, hi_sw, ez_cw, hi_cw, hB⟩
 have hZ34 := hZ33.later hB
 clear hB
 clear hZ33
 have hZ35 := hZ34.more (f := Mt 1 (fun _ => 1) eP pw) (Mt.stb _ _ _ _) hi_pw
 clear hZ34
 clear hi_pw
 have hZ36 := hZ35.more (f := Ls 1 (wq 1 1 eP eq_ (xl 1 (l1 1))) sw) (Ls.stb _ _ _) hi_sw
 clear hZ35
 clear hi_sw
 have hZ37 := hZ36.more (f := cw.is) cw.stb hi_cw
 clear hZ36
 clear hi_cw
 go_wp2_with (refine stopz_alloc 32 #[.slice none 0 0, .slice none 0 0, .bool false, .slice none 0 0] (.agg #[.slice none 0 0, .slice none 0 0, .bool false, .slice none 0 0]) rfl rfl zv32 rfl hZ37 (fun bk4 X38 W24 hZ38 => ?_))
 clear hZ37
 unfold Stop
 try simp only [Act.put, zzC, zzD, zzE]
 go_wp2_with (refine stopz_store 32 (.tmp 17) (.tmp 83) 0 bk4 0 #[.slice none 0 0, .slice none 0 0, .bool false, .slice none 0 0] 32 4 [pw.v, sw.v, .bool cw.b, .slice cw.a cw.n cw.c] #[pw.v, sw.v, .bool cw.b, .slice cw.a cw.n cw.c] [(bk4, #[pw.v, sw.v, .bool cw.b, .slice cw.a cw.n cw.c], 32), (bk3, #[.bool tn.b, .slice tn.a tn.n tn.c], 30), (bk2, #[.bool dn.b, .slice dn.a dn.n dn.c], 30), (bk1, #[pf.v, sf.v, .bool cf.b, .slice cf.a cf.n cf.c], 32)] rfl rfl rfl rfl sz32 hZ38 rfl rfl (zzF (by kernel_rfl)) (by kernel_rfl) (by kernel_rfl) (by kernel_rfl) (fun W25 hZ39 => ?_))
 clear hZ38
 unfold Stop
 try simp only [Act.put, zzC, zzD, zzE]
 go_wp2_with (refine stop_op rfl (fun K hK => wp_load 32 (.tmp 1) rfl bk1 0 4 #[pf.v, sf.v, .bool cf.b, .slice cf.a cf.n cf.c] #[pf.v, sf.v, .bool cf.b, .slice cf.a cf.n cf.c] 32 (hZ39.es.at' _ (zzG (i := 3) rfl)) rfl ag32 sz32 (zzF (by kernel_rfl)) (by kernel_rfl) (hK _ _ ?_)))
 unfold Stop
 try simp only [Act.put, zzC, zzD, zzE]
 go_wp2_with fail
 refine (uWoY hZ39.nx pf sf cf (k := 1) (r := 1) (e := 2) (hZ39.get 15 (f := Mt 2 (fun _ => 2) eP pf) rfl) (hZ39.get 14 (f := Ls 2 eq_ sf) rfl) (hZ39.get 13 (f := cf.is) rfl) ez_cf (fun i j _ _ => eP_sz i j) (fun i _ => eq_sz i) e_4 e_sym (by omega) (by omega) (by omega) (by omega) e_def1 (by rw [dt_1]; decide)).mono ?_
 rintro zz W26 ⟨po, so, co, dw, rfl, hi_po, hi_so, ez_co, hi_co, ez_dw, hi_dw, hB⟩
 have hZ40 := hZ39.later hB
 clear hB
 clear hZ39
 have hZ41 := hZ40.more (f := Mt 1 (fun _ => 1) (lp 1 eP) po) (Mt.stb _ _ _ _) hi_po
 clear hZ40
 clear hi_po
 have hZ42 := hZ41.more (f := Ls 1 (lq 1 eP eq_) so) (Ls.stb _ _ _) hi_so
 clear hZ41
 clear hi_so
 have hZ43 := hZ42.more (f := co.is) co.stb hi_co
 clear hZ42
 clear hi_co
 have hZ44 := hZ43.more (f := dw.is) dw.stb hi_dw
 clear hZ43
 clear hi_dw
 go_wp2_with (refine stopz_alloc 32 #[.slice none 0 0, .slice none 0 0, .bool false, .slice none 0 0] (.agg #[.slice none 0 0, .slice none 0 0, .bool false, .slice none 0 0]) rfl rfl zv32 rfl hZ44 (fun bk5 X45 W27 hZ45 => ?_))
 clear hZ44
 unfold Stop
 try simp only [Act.put, zzC, zzD, zzE]
 go_wp2_with (refine stopz_alloc 30 #[.bool false, .slice none 0 0] (.agg #[.bool false, .slice none 0 0]) rfl rfl zv30 rfl hZ45 (fun bk6 X46 W28 hZ46 => ?_))
 clear hZ45
 unfold Stop
 try simp only [Act.put, zzC, zzD, zzE]
 go_wp2_with (refine stopz_store 32 (.tmp 19) (.tmp 88) 1 bk5 0 #[.slice none 0 0, .slice none 0 0, .bool false, .slice none 0 0] 32 4 [po.v, so.v, .bool co.b, .slice co.a co.n co.c] #[po.v, so.v, .bool co.b, .slice co.a co.n co.c] [(bk6, #[.bool false, .slice none 0 0], 30), (bk5, #[po.v, so.v, .bool co.b, .slice co.a co.n co.c], 32), (bk4, #[pw.v, sw.v, .bool cw.b, .slice cw.a cw.n cw.c], 32), (bk3, #[.bool tn.b, .slice tn.a tn.n tn.c], 30), (bk2, #[.bool dn.b, .slice dn.a dn.n dn.c], 30), (bk1, #[pf.v, sf.v, .bool cf.b, .slice cf.a cf.n cf.c], 32)] rfl rfl rfl rfl sz32 hZ46 rfl rfl (zzF (by kernel_rfl)) (by kernel_rfl) (by kernel_rfl) (by kernel_rfl) (fun W29 hZ47 => ?_))
 clear hZ46
 unfold Stop
 try simp only [Act.put, zzC, zzD, zzE]
 go_wp2_with (refine stopz_store 30 (.tmp 20) (.tmp 89) 0 bk6 0 #[.bool false, .slice none 0 0] 30 2 [.bool dw.b, .slice dw.a dw.n dw.c] #[.bool dw.b, .slice dw.a dw.n dw.c] [(bk6, #[.bool dw.b, .slice dw.a dw.n dw.c], 30), (bk5, #[po.v, so.v, .bool co.b, .slice co.a co.n co.c], 32), (bk4, #[pw.v, sw.v, .bool cw.b, .slice cw.a cw.n cw.c], 32), (bk3, #[.bool tn.b, .slice tn.a tn.n tn.c], 30), (bk2, #[.bool dn.b, .slice dn.a dn.n dn.c], 30), (bk1, #[pf.v, sf.v, .bool cf.b, .slice cf.a cf.n cf.c], 32)] rfl rfl rfl rfl sz30 hZ47 rfl rfl (zzF (by kernel_rfl)) (by kernel_rfl) (by kernel_rfl) (by kernel_rfl) (fun W30 hZ48 => ?_))
 clear hZ47
 unfold Stop
 try simp only [Act.put, zzC, zzD, zzE]
 go_wp2_with (refine stop_op rfl (fun K hK => wp_load 30 (.tmp 20) rfl bk6 0 2 #[.bool dw.b, .slice dw.a dw.n dw.c] #[.bool dw.b, .slice dw.a dw.n dw.c] 30 (hZ48.es.at' _ (zzG (i := 0) rfl)) rfl ag30 sz30 (zzF (by kernel_rfl)) (by kernel_rfl) (hK _ _ ?_)))
 unfold Stop
 try simp only [Act.put, zzC, zzD, zzE]
 go_wp2_with fail
 refine ((zStr (hZ48.get 0 (f := dw.is) rfl) ez_dw (dt_sz (fun i j _ _ => eP_sz i j)) (by first | omega | exact Nat.le_trans (dtb_le (by omega) (by omega)) (by omega))).mono (fun _ _ h => ptxt_dec h)).mono ?_
 rintro zz W31 ⟨rfl, hB⟩
 have hZ49 := hZ48.later hB
 clear hB
 clear hZ48
 go_wp2_with (refine stopz_bi2 ei23 (.const (.int .i64 1)) (.const (.int .i64 2)) rfl rfl rfl rfl hZ49 (fun s14 W32 hZ50 => ?_))
 clear hZ49
 unfold Stop
 try simp only [Act.put, zzC, zzD, zzE]
 go_wp2_with (refine stopz_bi2 ei23 (.const (.int .i64 3)) (.const (.int .i64 1)) rfl rfl rfl rfl hZ50 (fun s15 W33 hZ51 => ?_))
 clear hZ50
 unfold Stop
 try simp only [Act.put, zzC, zzD, zzE]
 go_wp2_with (refine stopz_bm2 ei22 (.tmp 94) (.tmp 95) rfl rfl rfl rfl hZ51 (hZ51.get 1 (f := Li 2 (l2 1 2) s14) rfl) (hZ51.get 0 (f := Li 2 (l2 3 1) s15) rfl) (fun s16 W34 hZ52 => ?_))
 clear hZ51
 unfold Stop
 try simp only [Act.put, zzC, zzD, zzE]
 go_wp2_with (refine stopz_bi2 ei23 (.const (.int .i64 1)) (.const (.int .i64 2)) rfl rfl rfl rfl hZ52 (fun s17 W35 hZ53 => ?_))
 clear hZ52
 unfold Stop
 try simp only [Act.put, zzC, zzD, zzE]
 go_wp2_with fail
 refine (uOfArg3 hZ53.nx s16 s17 (hZ53.get 1 (f := Mi 2 (fun _ => 2) (m2 (l2 1 2) (l2 3 1)) s16) rfl) (hZ53.get 0 (f := Li 2 (l2 1 2) s17) rfl) (fun i j _ _ => m2_in (by decide) (by decide) (by decide) (by decide) i j) ⟨by omega, fun _ _ => rfl⟩ e_nosym).mono ?_
 rintro zz W36 ⟨rfl, hB⟩
 have hZ54 := hZ53.later hB
 clear hB
 clear hZ53
 go_wp2_with (refine stopz_alloc 32 #[.slice none 0 0, .slice none 0 0, .bool false, .slice none 0 0] (.agg #[.slice none 0 0, .slice none 0 0, .bool false, .slice none 0 0]) rfl rfl zv32 rfl hZ54 (fun bk7 X55 W37 hZ55 => ?_))
 clear hZ54
 unfold Stop
 try simp only [Act.put, zzC, zzD, zzE]
 go_wp2_with (refine stopz_store 32 (.tmp 23) (.tmp 99) 0 bk7 0 #[.slice none 0 0, .slice none 0 0, .bool false, .slice none 0 0] 32 4 [.slice none 0 0, .slice none 0 0, .bool false, .slice none 0 0] #[.slice none 0 0, .slice none 0 0, .bool false, .slice none 0 0] [(bk7, #[.slice none 0 0, .slice none 0 0, .bool false, .slice none 0 0], 32), (bk6, #[.bool dw.b, .slice dw.a dw.n dw.c], 30), (bk5, #[po.v, so.v, .bool co.b, .slice co.a co.n co.c], 32), (bk4, #[pw.v, sw.v, .bool cw.b, .slice cw.a cw.n cw.c], 32), (bk3, #[.bool tn.b, .slice tn.a tn.n tn.c], 30), (bk2, #[.bool dn.b, .slice dn.a dn.n dn.c], 30), (bk1, #[pf.v, sf.v, .bool cf.b, .slice cf.a cf.n cf.c], 32)] rfl rfl rfl rfl sz32 hZ55 rfl rfl (zzF (by kernel_rfl)) (by kernel_rfl) (by kernel_rfl) (by kernel_rfl) (fun W38 hZ56 => ?_))
 clear hZ55
 unfold Stop
 try simp only [Act.put, zzC, zzD, zzE]
 go_wp2_with (refine stop_op rfl (fun K hK => wp_seql (.tmp 101) (.const (.string ⟨([53]).toArray⟩)) 9 9 rfl rfl rfl rfl (r := true) (decide_eq_true e_val) (hK _ _ ?_)))
 unfold Stop
 try simp only [Act.put, zzC, zzD, zzE]
 go_wp2_with fail
 refine (tText hZ56.nx sl (hZ56.get 14 (f := Ls 2 (fun i => M.mulv 2 eP (xl 0 (fun _ => 0)) i - eq_ i) sl) rfl) (e_slope_sz (fun _ => 0)) (by omega) (by first | omega | exact Nat.le_trans (dtb_le (by omega) (by omega)) (by omega))).mono ?_
 rintro zz W39 ⟨rfl, hB⟩
 have hZ57 := hZ56.later hB
 clear hB
 clear hZ56
 go_wp2_with (refine stop_opw (by kernel_rfl) (fun K hK => wp_seql (.tmp 105) (.const (.string ⟨([45, 49, 32, 45, 50, 32]).toArray⟩)) 9 9 rfl rfl rfl rfl (r := true) (decide_eq_true (e_slope _)) (hK _ _ ?_)))
 unfold Stop
 try simp only [Act.put, zzC, zzD, zzE]
 go_wp2_with fail
 refine (tText hZ57.nx sn (hZ57.get 13 (f := Ls 2 (crx 2 eP eq_) sn) rfl) (fun j _ => crx_sz (fun i j _ _ => eP_sz i j) (fun i _ => eq_sz i) j) (by omega) (by first | omega | exact Nat.le_trans (dtb_le (by omega) (by omega)) (by omega))).mono ?_
 rintro zz W40 ⟨rfl, hB⟩
 have hZ58 := hZ57.later hB
 clear hB
 clear hZ57
 go_wp2_with (refine stop_opw (by kernel_rfl) (fun K hK => wp_seql (.tmp 110) (.const (.string ⟨([49, 32, 51, 32]).toArray⟩)) 9 9 rfl rfl rfl rfl (r := true) (decide_eq_true e_num) (hK _ _ ?_)))
 unfold Stop
 try simp only [Act.put, zzC, zzD, zzE]
 go_wp2_with (refine stop_opw (by kernel_rfl) (fun K hK => wp_seql (.tmp 114) (.const (.string ⟨([53]).toArray⟩)) 9 9 rfl rfl rfl rfl (r := true) (decide_eq_true e_den) (hK _ _ ?_)))
 unfold Stop
 try simp only [Act.put, zzC, zzD, zzE]
 go_wp2_with (refine stop_opw (by kernel_rfl) (fun K hK => wp_seql (.tmp 118) (.const (.string ⟨([49, 51]).toArray⟩)) 9 9 rfl rfl rfl rfl (r := true) (decide_eq_true e_top) (hK _ _ ?_)))
 unfold Stop
 try simp only [Act.put, zzC, zzD, zzE]
 go_wp2_with (refine stop_opw (by kernel_rfl) (fun K hK => wp_load 32 (.tmp 17) rfl bk4 0 4 #[pw.v, sw.v, .bool cw.b, .slice cw.a cw.n cw.c] #[pw.v, sw.v, .bool cw.b, .slice cw.a cw.n cw.c] 32 (hZ58.es.at' _ (zzG (i := 3) rfl)) rfl ag32 sz32 (zzF (by kernel_rfl)) (by kernel_rfl) (hK _ _ ?_)))
 unfold Stop
 try simp only [Act.put, zzC, zzD, zzE]
 go_wp2_with fail
 refine (tWhole hZ58.nx pw sw cw (e := 2) (hZ58.get 10 (f := Mt 1 (fun _ => 1) eP pw) rfl) (hZ58.get 9 (f := Ls 1 (wq 1 1 eP eq_ (xl 1 (l1 1))) sw) rfl) (hZ58.get 8 (f := cw.is) rfl) ez_cw (fun i j _ _ => eP_sz i j) e_wq_sz e_wc_sz (by omega) (by omega)).mono ?_
 rintro zz W41 ⟨rfl, hB⟩
 have hZ59 := hZ58.later hB
 clear hB
 clear hZ58
 go_wp2_with (refine stop_opw (by kernel_rfl) (fun K hK => wp_seql (.tmp 131) (.const (.string ⟨([50, 32, 59, 48, 32, 59, 51]).toArray⟩)) 9 9 rfl rfl rfl rfl (r := true) (decide_eq_true e_with) (hK _ _ ?_)))
 unfold Stop
 try simp only [Act.put, zzC, zzD, zzE]
 go_wp2_with (refine stop_opw (by kernel_rfl) (fun K hK => wp_seql (.tmp 139) (.const (.string ⟨([50]).toArray⟩)) 9 9 rfl rfl rfl rfl (r := true) (decide_eq_true e_scale) (hK _ _ ?_)))
 unfold Stop
 try simp only [Act.put, zzC, zzD, zzE]
 go_wp2_with (refine stop_opw (by kernel_rfl) (fun K hK => wp_load 32 (.tmp 19) rfl bk5 0 4 #[po.v, so.v, .bool co.b, .slice co.a co.n co.c] #[po.v, so.v, .bool co.b, .slice co.a co.n co.c] 32 (hZ59.es.at' _ (zzG (i := 2) rfl)) rfl ag32 sz32 (zzF (by kernel_rfl)) (by kernel_rfl) (hK _ _ ?_)))
 unfold Stop
 try simp only [Act.put, zzC, zzD, zzE]
 go_wp2_with fail
 refine (tWhole hZ59.nx po so co (e := 30) (hZ59.get 7 (f := Mt 1 (fun _ => 1) (lp 1 eP) po) rfl) (hZ59.get 6 (f := Ls 1 (lq 1 eP eq_) so) rfl) (hZ59.get 5 (f := co.is) rfl) ez_co e_lp_sz e_lq_sz e_lc_sz (by omega) (by omega)).mono ?_
 rintro zz W42 ⟨rfl, hB⟩
 have hZ60 := hZ59.later hB
 clear hB
 clear hZ59
 go_wp2_with (refine stop_opw (by kernel_rfl) (fun K hK => wp_seql (.tmp 144) (.const (.string ⟨([53, 32, 59, 51, 32, 59, 55]).toArray⟩)) 9 9 rfl rfl rfl rfl (r := true) (decide_eq_true e_wo) (hK _ _ ?_)))
 unfold Stop
 try simp only [Act.put, zzC, zzD, zzE]
 go_wp2
 go_ret
 exact ⟨rfl, hZ60.below⟩
end Go.Proofs.YtjclllindbfmhaaGreatDoor

/- The laws' helper mirror, walked. No statement of the seat is proved here. -/
namespace Go.Proofs.YtjclllindbfmhaaGreatDoor
open Go Go.RowKit
theorem fl_ei {n : Nat} {f g : Nat → Int} {C : Array Value} {X : Nat → Prop} {W : World} (h : Fl 1 (EI f) n C X W) (e : ∀ i, i < n → f i = g i) : Fl 1 (EI g) n C X W := h.congr fun i cs hi hc => by
 have h' : cs = [.int .i64 (f i)] := hc
 rw [e i hi] at h'
 exact h'
/-- One number of one row is written. -/
theorem Rw.put1 {m : Nat} {n i j : Nat} {r : Nat → Sl} {D : Nat → Array Value} {f g : Nat → Nat → Int} {v : Int} {C : Array Value} {X : Nat → Prop} {W : World} (h : Rw 1 (fun x => EI (f x)) m (fun _ => n) r D X W) (hi : i < m) (hw : Wr 1 (r i) C) (hg : ∀ q, q < 1 → C[j * 1 + q]? = [Value.int .i64 v][q]?) (ho : ∀ q, (q < j * 1 ∨ j * 1 + 1 ≤ q) → C[q]? = (D i)[q]?) (hv : g i j = v) (he : ∀ x y, ¬ (x = i ∧ y = j) → g x y = f x y) : Rw 1 (fun x => EI (g x)) m (fun _ => n) r (upf D i C) X W := fun x hx => by
 by_cases e : x = i
 ·
  subst e
  rw [upf_self]
  refine ⟨(h x hx).1, hw, Fl.put (h x hx).2.2 (cs := [.int .i64 v]) rfl hg ho (by show [Value.int .i64 v] = [.int .i64 (g x j)]; rw [hv]) fun q cs _ hne hc => ?_⟩
  have h' : cs = [.int .i64 (f x q)] := hc
  show cs = [.int .i64 (g x q)]
  rw [h', he x q (fun h => hne h.2)]
 ·
  rw [upf_ne _ _ e]
  exact ⟨(h x hx).1, (h x hx).2.1, fl_ei (h x hx).2.2 fun q _ => (he x q (fun h => e h.1)).symm⟩
theorem Mi.congr {m : Nat} {c c' : Nat → Nat} {B B' : Nat → Nat → Int} {s : Sl} {X : Nat → Prop} {W : World} (h : Mi m c B s X W) (ec : ∀ i, i < m → c i = c' i) (e : ∀ i j, i < m → j < c i → B i j = B' i j) : Mi m c' B' s X W :=
 ⟨h.n, h.sq.congr fun i _ hi ⟨r, h1, h2⟩ => ⟨r, ⟨h1.n.trans (ec i (h.n ▸ hi)), h1.sq.congr fun j cs hj hc => by
  have h' : cs = [.int .i64 (B i j)] := hc
  rw [e i j (h.n ▸ hi) (h1.n ▸ hj)] at h'
  exact h'⟩, h2⟩⟩
end Go.Proofs.YtjclllindbfmhaaGreatDoor

/- The document's Of of layer 8, walked. No statement of the seat is proved here. -/
namespace Go.Proofs.YtjclllindbfmhaaGreatDoor
open Go Go.RowKit
/-- A function of the document's is handed back. -/
def PUXr (X : Nat → Prop) (n : Nat) (P : Nat → Nat → Int) (q : Nat → Int) (C : Int) (w : World) (e : Ending) (w' : World) : Prop := ∃ (p s : Sl) (c : NL), e = .returned (.agg #[p.v, s.v, .bool c.b, .slice c.a c.n c.c]) ∧ Mr n (fun _ => n) P p X w' ∧ Lr n q s X w' ∧ c.z = C ∧ c.ir X w' ∧ Below w.heap.size w w'
theorem bmap2 {a : Act} {i j : Nat} {x y : Operand} {u v : Value} (h1 : a.eval x = u) (h2 : a.eval y = v) : #[(i, x), (j, y)].map (fun (i, x) => (i, a.eval x)) = #[(i, u), (j, v)] := by simp [h1, h2]
set_option maxRecDepth 100000 in
set_option maxHeartbeats 12800000 in
theorem dOf8 {X0 : Nat → Prop} {w : World} (hX : NX X0 w) (rs ls : Sl) {m : Nat} {R : Nat → Nat → Int} {x : Nat → Int} {cc : Int} (hr : Mi m (fun _ => m) R rs X0 w) (hl : Li m x ls X0 w) (hm : m ≤ 100) (hR : ∀ i j, i < m → j < m → -9223372036854775808 ≤ R i j ∧ R i j ≤ 9223372036854775807) (hx : ∀ i, i < m → -9223372036854775808 ≤ x i ∧ x i ≤ 9223372036854775807) (hcc : -9223372036854775808 ≤ cc ∧ cc ≤ 9223372036854775807) : Calls Tryz.prog 13 #[rs.v, ls.v, .int .i64 cc] w (PUXr X0 m R x cc w) := by
 have hZ0 := zs_start hX
 have hZ1 := hZ0.more (f := Li m x ls) (Li.stb _ _ _) hl
 clear hZ0
 have hZ2 := hZ1.more (f := Mi m (fun _ => m) R rs) (Mi.stb _ _ _ _) hr
 clear hZ1
 go_enter Tryz.func13, Tryz.ntmps13
 go_wp2_with (refine stopz_alloc 45 #[.slice none 0 0, .slice none 0 0, .bool false, .slice none 0 0] (.agg #[.slice none 0 0, .slice none 0 0, .bool false, .slice none 0 0]) rfl rfl zv45 rfl hZ2 (fun bk1 X3 W1 hZ3 => ?_))
 clear hZ2
 unfold Stop
 try simp only [Act.put, zzC, zzD, zzE]
 go_wp2_with fail
 refine (dOf hZ3.nx rs (hZ3.get 0 (f := Mi m (fun _ => m) R rs) rfl) (by omega) (fun i hi => by omega) hR).mono ?_
 rintro zz W2 ⟨sb, rfl, hi_sb, hB⟩
 have hZ4 := hZ3.later hB
 clear hB
 clear hZ3
 have hZ5 := hZ4.more (f := Mr m (fun _ => m) R sb) (Mr.stb _ _ _ _) hi_sb
 clear hZ4
 clear hi_sb
 go_wp2_with fail
 refine (zOfr hZ5.nx hcc.1 hcc.2).mono ?_
 rintro zz W3 ⟨d2, rfl, ez_d2, hi_d2, hB⟩
 have hZ6 := hZ5.later hB
 clear hB
 clear hZ5
 have hZ7 := hZ6.more (f := d2.ir) d2.stbr hi_d2
 clear hZ6
 clear hi_d2
 go_wp2_with (refine stop_op rfl (fun K hK => wp_bld (v := .agg #[sb.v, .slice none 0 0, .bool d2.b, .slice d2.a d2.n d2.c]) 45 #[(0, .tmp 10), (2, .tmp 12)] rfl (bmap2 (u := sb.v) (v := d2.v) rfl rfl) (fun _ => by kernel_rfl) (hK _ _ ?_)))
 unfold Stop
 try simp only [Act.put, zzC, zzD, zzE]
 go_wp2_with (refine stopz_alloc 45 #[.slice none 0 0, .slice none 0 0, .bool false, .slice none 0 0] (.agg #[.slice none 0 0, .slice none 0 0, .bool false, .slice none 0 0]) rfl rfl zv45 rfl hZ7 (fun bk2 X8 W4 hZ8 => ?_))
 clear hZ7
 unfold Stop
 try simp only [Act.put, zzC, zzD, zzE]
 go_wp2_with (refine stopz_store 45 (.tmp 7) (.tmp 13) 0 bk2 0 #[.slice none 0 0, .slice none 0 0, .bool false, .slice none 0 0] 45 4 [sb.v, .slice none 0 0, .bool d2.b, .slice d2.a d2.n d2.c] #[sb.v, .slice none 0 0, .bool d2.b, .slice d2.a d2.n d2.c] [(bk2, #[sb.v, .slice none 0 0, .bool d2.b, .slice d2.a d2.n d2.c], 45), (bk1, #[.slice none 0 0, .slice none 0 0, .bool false, .slice none 0 0], 45)] rfl rfl rfl rfl sz45 hZ8 rfl rfl (zzF (by kernel_rfl)) (by kernel_rfl) (by kernel_rfl) (by kernel_rfl) (fun W5 hZ9 => ?_))
 clear hZ8
 unfold Stop
 try simp only [Act.put, zzC, zzD, zzE]
 have hZ10 := hZ9.only [d2.ir, Mr m (fun _ => m) R sb, Li m x ls] (by simp)
 clear hZ9
 go_wp2
 go_loopw [8] (fun iv wr => ∃ (i : Nat) (so : Sl) (Co : Array Value) (X : Nat → Prop), i ≤ m ∧ iv = .int .i64 ((i : Nat) : Int) ∧ so.n = i ∧ Wr 2 so Co ∧ Zs w wr X0 X ([(bk2, #[sb.v, so.v, .bool d2.b, .slice d2.a d2.n d2.c], 45), (bk1, #[.slice none 0 0, .slice none 0 0, .bool false, .slice none 0 0], 45)] ++ owl so Co 43) [Fl 2 (ENr x) i Co, d2.ir, Mr m (fun _ => m) R sb, Li m x ls]) (fun iv _ => m - (intOf iv).toNat)
 case atStart => exact ⟨0, slz, #[], _, by omega, rfl, rfl, wr_slz 2, by simpa [owl, slz, Sl.v] using (hZ10.more (f := Fl 2 (ENr x) 0 #[]) (Fl.stb (ENr.stb _) _ _) (fl_zero 2 (ENr x) #[] _ _))⟩
 case round =>
  clear hZ10
  obtain ⟨i, so, Co, X, hi, rfl, hn_so, hw_so, hZ⟩ := hrel
  by_cases hlt : i < m
  ·
   go_wp2_with (refine stop_op rfl (fun K hK => wp_lenq (.tmp 15) 23 2 ls rfl (by kernel_rfl) rfl (hZ.get 3 (f := Li m x ls) rfl).n (hK _ _ ?_)))
   unfold Stop
   try simp only [Act.put, zzC, zzD, zzE]
   go_wp2_with (refine stop_op rfl (fun K hK => wp_lssi (.tmp 14) (.tmp 16) rfl rfl rfl (r := true) (decide_eq_true (by omega)) (hK _ _ ?_)))
   unfold Stop
   try simp only [Act.put, zzC, zzD, zzE]
   go_wp2
   obtain ⟨XR5, hZ11⟩ : ∃ Xr, Zs w wr X0 Xr ([(bk2, #[sb.v, so.v, .bool d2.b, .slice d2.a d2.n d2.c], 45), (bk1, #[.slice none 0 0, .slice none 0 0, .bool false, .slice none 0 0], 45)] ++ owl so Co 43) [Fl 2 (ENr x) i Co, d2.ir, Mr m (fun _ => m) R sb, Li m x ls] := ⟨_, hZ⟩
   clear hZ
   have hVS5 : ∀ kq, kq ∈ ([veq (.pointer (some ⟨bk2, 1, none⟩)), veq (so.v), veq (ls.v), veq (.int .i64 (((i : Nat) : Int))), veq ((ls.at 1 i)), veq (.int .i64 (x i)), vnumr (x i), vlsr 1 (fun _ => x i)] : List VF) → VSt kq := by
    intro kq hkq
    simp only [List.mem_cons, List.not_mem_nil, or_false] at hkq
    rcases hkq with rfl | rfl | rfl | rfl | rfl | rfl | rfl | rfl
    ·
     exact (veq_se _).st
    ·
     exact (veq_se _).st
    ·
     exact (veq_se _).st
    ·
     exact (veq_se _).st
    ·
     exact (veq_se _).st
    ·
     exact (veq_se _).st
    ·
     exact (vnum_ser _).st
    ·
     exact (vls_ser _ _).st
   refine wp_region_s 8 [some 20, some 21, some 22, some 23, some 24, some 25, some 26, some 27] [veq (.pointer (some ⟨bk2, 1, none⟩)), veq (so.v), veq (ls.v), veq (.int .i64 (((i : Nat) : Int))), veq ((ls.at 1 i)), veq (.int .i64 (x i)), vnumr (x i), vlsr 1 (fun _ => x i)] (fun _ _ X1 l1 => XR5 = X1 ∧ ([(bk2, #[sb.v, so.v, .bool d2.b, .slice d2.a d2.n d2.c], 45), (bk1, #[.slice none 0 0, .slice none 0 0, .bool false, .slice none 0 0], 45)] ++ owl so Co 43) = l1) [Fl 2 (ENr x) i Co, d2.ir, Mr m (fun _ => m) R sb, Li m x ls] (by kernel_rfl) (by kernel_rfl) (by rfl) (by decide) (by rfl) (fun _ => ⟨XR5, _, ⟨rfl, rfl⟩, hZ11.later (Below.refl _ _).drew⟩) ?_ ?_
   ·
    intro iq hlq hiq LL uu ww aa X1 l1 hLi hLc hR hJ hd hall hev hin hold
    clear hZ11
    obtain rfl | rfl | rfl | rfl | rfl | rfl | rfl | rfl : iq = 0 ∨ iq = 1 ∨ iq = 2 ∨ iq = 3 ∨ iq = 4 ∨ iq = 5 ∨ iq = 6 ∨ iq = 7 := by omega
    ·
     refine opS_z hJ (fun _ => hR) ?_
     obtain ⟨eX, el⟩ := hR
     subst eX
     subst el
     exact .inr ⟨rfl, fun K' hK => wp_fda (v := .pointer (some ⟨bk2, 1, none⟩)) 45 (.tmp 7) 1 rfl (eval_tmp ((hev 7 (by decide)).trans rfl)) (fun _ => by kernel_rfl) (hK _ _ hJ rfl vzL_same)⟩
    ·
     refine opS_z hJ (fun _ => hR) ?_
     obtain ⟨eX, el⟩ := hR
     subst eX
     subst el
     exact .inr ⟨rfl, fun K' hK => wp_load1 (v := so.v) 40 (.tmp 20) rfl bk2 1 #[sb.v, so.v, .bool d2.b, .slice d2.a d2.n d2.c] 45 (hJ.es.at' _ (zzG (i := 0) rfl)) (eval_tmp ((hin 0 20 rfl).trans (congrArg some (show uu 0 = .pointer (some ⟨bk2, 1, none⟩) from (hd 0 (by decide) (by kernel_rfl)).2)))) ag40 (by kernel_rfl) (hK _ _ hJ rfl vzL_same)⟩
    ·
     refine opS_z hJ (fun _ => hR) ?_
     obtain ⟨eX, el⟩ := hR
     subst eX
     subst el
     exact .inr ⟨rfl, fun K' hK => wp_move (.tmp 1) rfl (eval_tmp ((hev 1 (by decide)).trans rfl)) (hK _ _ hJ rfl vzL_same)⟩
    ·
     refine opS_z hJ (fun _ => hR) ?_
     obtain ⟨eX, el⟩ := hR
     subst eX
     subst el
     exact .inr ⟨rfl, fun K' hK => wp_move (.tmp 8) rfl (eval_tmp ((hev 8 (by decide)).trans rfl)) (hK _ _ hJ rfl vzL_same)⟩
    ·
     refine opS_z hJ (fun _ => hR) ?_
     obtain ⟨eX, el⟩ := hR
     subst eX
     subst el
     exact .inr ⟨rfl, fun K' hK => wp_ixs 23 (.tmp 22) (.tmp 23) ls i 1 2 rfl (eval_tmp ((hin 2 22 rfl).trans (congrArg some (show uu 2 = ls.v from (hd 2 (by decide) (by kernel_rfl)).2)))) (eval_tmp ((hin 3 23 rfl).trans (congrArg some (show uu 3 = .int .i64 (((i : Nat) : Int)) from (hd 3 (by decide) (by kernel_rfl)).2)))) (by kernel_rfl) sz2 (fun h => ((hJ.get 3 (f := Li m x ls) rfl).sq.nil h).1) ((hJ.get 3 (f := Li m x ls) rfl).n ▸ (by omega)) (hK _ _ hJ rfl vzL_same)⟩
    ·
     refine opS_z hJ (fun _ => hR) ?_
     obtain ⟨eX, el⟩ := hR
     subst eX
     subst el
     exact .inr ⟨rfl, fun K' hK => wp_ldi 2 (.tmp 24) ls i m x rfl (eval_tmp ((hin 4 24 rfl).trans (congrArg some (show uu 4 = (ls.at 1 i) from (hd 4 (by decide) (by kernel_rfl)).2)))) (hJ.get 3 (f := Li m x ls) rfl) (by omega) ag2 (hK _ _ hJ rfl vzL_same)⟩
    ·
     refine opS_z hJ (fun _ => hR) ?_
     obtain ⟨eX, el⟩ := hR
     subst eX
     subst el
     refine .inr ⟨rfl, fun K' hK => ?_⟩
     refine wp_callz (.func 45) #[.tmp 25] #[2] 45 #[] #[.int .i64 (x i)] _ rfl rfl (map1 (eval_tmp ((hin 5 25 rfl).trans (congrArg some (show uu 5 = .int .i64 (x i) from (hd 5 (by decide) (by kernel_rfl)).2))))) rfl (fun _ _ => rfl) (zOfr hJ.nx (hx i hlt).1 (hx i hlt).2) ?_
     rintro zz ww2 ⟨d3, rfl, ez_d3, hi_d3, hB⟩
     exact ⟨_, rfl, hK _ _ (hJ.later hB) ⟨d3, rfl, ez_d3, hi_d3⟩ (vzL_later hVS5 hB)⟩
    ·
     refine opS_z hJ (fun _ => hR) ?_
     obtain ⟨eX, el⟩ := hR
     subst eX
     subst el
     obtain ⟨d3, e6, ez_d3, hi_d3⟩ := (show (vnumr (x i)) (uu 6) XR5 ww from (hd 6 (by decide) (by kernel_rfl)).2)
     replace hJ := hJ.more (f := d3.ir) d3.stbr hi_d3
     exact .inr ⟨rfl, fun K' hK => wp_bsnr ei40 (.tmp 26) d3 rfl (eval_tmp ((hin 6 26 rfl).trans (congrArg some e6))) hJ hi_d3 (fun s4 ww2 hB hzb => hK _ _ (hzb.only [Fl 2 (ENr x) i Co, d2.ir, Mr m (fun _ => m) R sb, Li m x ls] (by simp)) ⟨s4, rfl, (hzb.get 0 (f := Lr 1 (fun _ => d3.z) s4) rfl).congr (fun _ _ => ez_d3)⟩ (vzL_later hVS5 hB))⟩
   clear hZ11
   intro LL uu W6 X1 l1 hLL hR hZ12 hd
   obtain ⟨eX, el⟩ := hR
   subst eX
   subst el
   have e_0 : uu 0 = .pointer (some ⟨bk2, 1, none⟩) := hd 0 (by decide)
   have e_1 : uu 1 = so.v := hd 1 (by decide)
   have e_2 : uu 2 = ls.v := hd 2 (by decide)
   have e_3 : uu 3 = .int .i64 (((i : Nat) : Int)) := hd 3 (by decide)
   have e_4 : uu 4 = (ls.at 1 i) := hd 4 (by decide)
   have e_5 : uu 5 = .int .i64 (x i) := hd 5 (by decide)
   obtain ⟨d3, e_6, ez_d3, hi_d3⟩ := (show (vnumr (x i)) (uu 6) XR5 W6 from hd 6 (by decide))
   obtain ⟨s4, e_7, hi_s4⟩ := (show (vlsr 1 (fun _ => x i)) (uu 7) XR5 W6 from hd 7 (by decide))
   clear hd hVS5
   simp only [layS, Act.put, zzC, zzD, zzE, Nat.zero_add, Nat.reduceAdd, List.drop_succ_cons, List.drop_zero, List.drop_nil, e_0, e_1, e_2, e_3, e_4, e_5, e_6, e_7]
   clear e_0 e_1 e_2 e_3 e_4 e_5 e_6 e_7
   have hZ13 := hZ12.more (f := d3.ir) d3.stbr hi_d3
   clear hZ12
   clear hi_d3
   have hZ14 := hZ13.more (f := Lr 1 (fun _ => x i) s4) (Lr.stb _ _ _) hi_s4
   clear hZ13
   clear hi_s4
   obtain ⟨qa5, q5, ea5, ez_q5, hi_q5, hca5⟩ := Lr.one (hZ14.get 0 (f := Lr 1 (fun _ => x i) s4) rfl)
   have EA5 := Lib.hid ea5
   clear ea5
   have hZ15w := hZ14.more (f := q5.ir) q5.stbr hi_q5
   have hZ15y := hZ15w.perm List.perm_append_comm
   clear hZ15w hi_q5
   go_wp2_with (refine stop_op rfl (fun K hK => wp_app ei40 (.tmp 21) (.tmp 27) rfl (s := so) rfl qa5 s4.c EA5.out hw_so (by rw [hn_so]; omega) hZ15y [.bool q5.b, .slice q5.a q5.n q5.c] rfl hca5 (fun u hu => by simp only [List.mem_cons, List.not_mem_nil, or_false] at hu; rcases hu with rfl | rfl <;> rfl) (fun o5 C5 X15 W7 hn_o5 hw_o5 ho_C5 hg_C5 hZ15x => hK _ _ ?_)))
   unfold Stop
   try simp only [Act.put, zzC, zzD, zzE]
   clear hZ15y hca5 EA5
   rw [hn_so] at hn_o5 ho_C5 hg_C5
   have hZ15 := hZ15x.perm List.perm_append_comm
   clear hZ15x
   clear hZ14
   go_wp2_with (refine stop_op rfl (fun K hK => wp_fda (v := .pointer (some ⟨bk2, 1, none⟩)) 45 (.tmp 7) 1 rfl rfl (fun _ => by kernel_rfl) (hK _ _ ?_)))
   unfold Stop
   try simp only [Act.put, zzC, zzD, zzE]
   go_wp2_with (refine stopz_store 40 (.tmp 29) (.tmp 28) 0 bk2 1 #[sb.v, so.v, .bool d2.b, .slice d2.a d2.n d2.c] 45 1 [o5.v] #[sb.v, o5.v, .bool d2.b, .slice d2.a d2.n d2.c] ([(bk2, #[sb.v, o5.v, .bool d2.b, .slice d2.a d2.n d2.c], 45), (bk1, #[.slice none 0 0, .slice none 0 0, .bool false, .slice none 0 0], 45)] ++ owl o5 C5 43) rfl rfl rfl rfl sz40 hZ15 rfl rfl (zzF (by kernel_rfl)) (by kernel_rfl) (by kernel_rfl) (by kernel_rfl) (fun W8 hZ16 => ?_))
   clear hZ15
   unfold Stop
   try simp only [Act.put, zzC, zzD, zzE]
   have hZ17s : Fl 2 (ENr x) (i + 1) C5 X15 W8 := Fl.snoc (C := Co) (hZ16.get 3 (f := Fl 2 (ENr x) i Co) rfl) (cs := [.bool q5.b, .slice q5.a q5.n q5.c]) rfl ho_C5 hg_C5 ⟨q5, ez_q5.trans (by rfl), (hZ16.get 0 (f := q5.ir) rfl), rfl⟩
   have hZ17 := (hZ16.more (Fl.stb (ENr.stb _) _ _) hZ17s).only [Fl 2 (ENr x) (i + 1) C5, d2.ir, Mr m (fun _ => m) R sb, Li m x ls] (by simp)
   clear hZ16 hZ17s
   go_wp2_with (refine stop_op rfl (fun K hK => wp_addi (.tmp 18) (.const (.int .i64 1)) rfl rfl rfl (C := ((i + 1 : Nat) : Int)) (by omega) (by omega) (by omega) (hK _ _ ?_)))
   unfold Stop
   try simp only [Act.put, zzC, zzD, zzE]
   go_wp2
   go_roundw
   case rel => exact ⟨i + 1, o5, C5, _, by omega, by go_num, hn_o5, hw_o5, hZ17⟩
   case measure => simp [intOf]; omega
  ·
   obtain rfl : m = i := by omega
   go_wp2_with (refine stop_op rfl (fun K hK => wp_lenq (.tmp 15) 23 2 ls rfl (by kernel_rfl) rfl (hZ.get 3 (f := Li m x ls) rfl).n (hK _ _ ?_)))
   unfold Stop
   try simp only [Act.put, zzC, zzD, zzE]
   go_wp2_with (refine stop_op rfl (fun K hK => wp_lssi (.tmp 14) (.tmp 16) rfl rfl rfl (r := false) (decide_eq_false (Int.lt_irrefl _)) (hK _ _ ?_)))
   unfold Stop
   try simp only [Act.put, zzC, zzD, zzE]
   go_wp2_with (refine stop_op rfl (fun K hK => wp_load 45 (.tmp 7) rfl bk2 0 4 #[sb.v, so.v, .bool d2.b, .slice d2.a d2.n d2.c] #[sb.v, so.v, .bool d2.b, .slice d2.a d2.n d2.c] 45 (hZ.es.at' _ (zzG (i := 0) rfl)) rfl ag45 sz45 (zzF (by kernel_rfl)) (by kernel_rfl) (hK _ _ ?_)))
   unfold Stop
   try simp only [Act.put, zzC, zzD, zzE]
   go_wp2_with (refine stopz_store 45 (.tmp 6) (.tmp 30) 1 bk1 0 #[.slice none 0 0, .slice none 0 0, .bool false, .slice none 0 0] 45 4 [sb.v, so.v, .bool d2.b, .slice d2.a d2.n d2.c] #[sb.v, so.v, .bool d2.b, .slice d2.a d2.n d2.c] ([(bk2, #[sb.v, so.v, .bool d2.b, .slice d2.a d2.n d2.c], 45), (bk1, #[sb.v, so.v, .bool d2.b, .slice d2.a d2.n d2.c], 45)] ++ owl so Co 43) rfl rfl rfl rfl sz45 hZ rfl rfl (zzF (by kernel_rfl)) (by kernel_rfl) (by kernel_rfl) (by kernel_rfl) (fun W9 hZ18 => ?_))
   clear hZ
   unfold Stop
   try simp only [Act.put, zzC, zzD, zzE]
   go_wp2
   exact bodyPost_ret (v := .agg #[sb.v, so.v, .bool d2.b, .slice d2.a d2.n d2.c]) (results_cell 1 Tryz.results13 hZ18.es rfl ag45 sz45 (zzF (by kernel_rfl)) rfl (by kernel_rfl)) rfl ⟨sb, so, d2, rfl, (hZ18.out 2 (f := Mr m (fun _ => m) R sb) rfl), ⟨hn_so, hZ18.sq hX (ENr.stb _) hw_so (T := 43) (fun p hp => List.mem_append_right _ hp) (hn_so ▸ hZ18.get 0 (f := Fl 2 (ENr x) m Co) rfl)⟩, ez_d2, (hZ18.out 1 (f := d2.ir) rfl), hZ18.below⟩
end Go.Proofs.YtjclllindbfmhaaGreatDoor

/- What the laws of layer 8 come to. No statement of the seat is proved here. -/
namespace Go.Proofs.YtjclllindbfmhaaGreatDoor
open Go Go.RowKit
theorem Ls.cast {m m' : Nat} {x : Nat → Int} {s : Sl} {X : Nat → Prop} {W : World} (e : m = m') (h : Ls m x s X W) : Ls m' x s X W := e ▸ h
section
variable {k r : Nat} {P : Nat → Nat → Int} {q : Nat → Int} {C : Int}
end
section
variable {a b r : Nat} {P : Nat → Nat → Int} {q : Nat → Int} {C : Int}
end
end Go.Proofs.YtjclllindbfmhaaGreatDoor

/- What the walk of QuadMakes leans on. No statement of the seat is proved here. -/
namespace Go.Proofs.YtjclllindbfmhaaGreatDoor
open Go Go.RowKit
section
variable {Q : Exit → Act → World → Prop} {a : Act} {W : World} {o : Oper} {next : Act → World → Prop} {A B : Int}
theorem wp_eqlL (x y : Operand) (ho : o.op = .binOp .eql 2 x y 2) (hx : a.eval x = .int .i64 A) (hy : a.eval y = .int .i64 B) {r : Bool} (hr : decide (A = B) = r) (k : next (a.put o.dst (.bool r)) W) : o.wp Tryz.prog a W next Q := by
 subst hr
 refine wp_run ?_ k
 unfold execOp
 rw [ho]
 simp only [hx, hy]
 simp [go_sem]
 rfl
end
end Go.Proofs.YtjclllindbfmhaaGreatDoor

/- The law QuadMakes of layer 8, walked. No statement of the seat is proved here. -/
namespace Go.Proofs.YtjclllindbfmhaaGreatDoor
open Go Go.RowKit
theorem uOfBad {X0 : Nat → Prop} {w : World} (hX : NX X0 w) (ra qa : Sl) (m kx : Nat) (c : Nat → Nat) (R : Nat → Nat → Int) (x : Nat → Int) (cc : Int) (hra : Mi m c R ra X0 w) (hqa : Li kx x qa X0 w) (rgR0 : ∀ i j, i < m → j < c i → -9223372036854775808 ≤ R i j ∧ R i j ≤ 9223372036854775807) (rgx0 : ∀ i, i < kx → -9223372036854775808 ≤ x i ∧ x i ≤ 9223372036854775807) (hcc : -9223372036854775808 ≤ cc ∧ cc ≤ 9223372036854775807) (hm : m ≤ 12) (hb : ¬ (m = kx ∧ (∀ k, k < m → c k = m) ∧ Sym m R)) : Calls Tryz.prog 10 #[ra.v, qa.v, .int .i64 cc] w (PVal (.tuple #[.agg #[.slice none 0 0, .slice none 0 0, .bool false, .slice none 0 0], .int .i64 1]) w) := by
 by_cases h1 : ∀ k, k < m → c k = m
 ·
  by_cases h2 : m = kx
  ·
   subst h2
   exact uOfArg3 hX ra qa hra hqa rgR0 ⟨hm, h1⟩ fun h => hb ⟨rfl, h1, h⟩
  ·
   exact uOfArg2 hX ra qa hra hqa rgR0 ⟨hm, h1⟩ (fun h => h2 h.symm)
 ·
  exact uOfArg hX ra qa hra hqa rgR0 hm h1
open Classical in
set_option maxRecDepth 100000 in
set_option maxHeartbeats 25600000 in
theorem umk1 {X0 : Nat → Prop} {w : World} (hX : NX X0 w) (ra qa : Sl) (m kx : Nat) (c : Nat → Nat) (R : Nat → Nat → Int) (x : Nat → Int) (cc : Int) (hra : Mi m c R ra X0 w) (hqa : Li kx x qa X0 w) (rgR0 : ∀ i j, i < m → j < c i → -9223372036854775808 ≤ R i j ∧ R i j ≤ 9223372036854775807) (rgx0 : ∀ i, i < kx → -9223372036854775808 ≤ x i ∧ x i ≤ 9223372036854775807) (hcc : -9223372036854775808 ≤ cc ∧ cc ≤ 9223372036854775807) (hm : ¬ m ≤ 12) : Calls Tryz.prog 3 #[ra.v, qa.v, .int .i64 cc] w (PVal (.bool true) w) := by
 have rgR := Lib.hid rgR0
 clear rgR0
 have rgx := Lib.hid rgx0
 clear rgx0
 have hZ0 := zs_start hX
 have hZ1 := hZ0.more (f := Li kx x qa) (Li.stb _ _ _) hqa
 clear hZ0
 have hZ2 := hZ1.more (f := Mi m c R ra) (Mi.stb _ _ _ _) hra
 clear hZ1
 go_enter Tryz.func3, Tryz.ntmps3
 go_wp2_with fail
 refine (uAwake hZ2.nx).mono ?_
 rintro zz W1 ⟨rfl, hB⟩
 have hZ3 := hZ2.later hB
 clear hB
 clear hZ2
 go_wp2_with fail
 refine (uOfLong hZ3.nx ra qa (hZ3.get 0 (f := Mi m c R ra) rfl) (hZ3.get 1 (f := Li kx x qa) rfl) rgR.out hm).mono ?_
 rintro zz W2 ⟨rfl, hB⟩
 have hZ4 := hZ3.later hB
 clear hB
 clear hZ3
 go_wp2_with (refine stopz_alloc 32 #[.slice none 0 0, .slice none 0 0, .bool false, .slice none 0 0] (.agg #[.slice none 0 0, .slice none 0 0, .bool false, .slice none 0 0]) rfl rfl zv32 rfl hZ4 (fun bk1 X5 W3 hZ5 => ?_))
 clear hZ4
 unfold Stop
 try simp only [Act.put, zzC, zzD, zzE]
 go_wp2_with (refine stopz_store 32 (.tmp 8) (.tmp 20) 0 bk1 0 #[.slice none 0 0, .slice none 0 0, .bool false, .slice none 0 0] 32 4 [.slice none 0 0, .slice none 0 0, .bool false, .slice none 0 0] #[.slice none 0 0, .slice none 0 0, .bool false, .slice none 0 0] [(bk1, #[.slice none 0 0, .slice none 0 0, .bool false, .slice none 0 0], 32)] rfl rfl rfl rfl sz32 hZ5 rfl rfl (zzF (by kernel_rfl)) (by kernel_rfl) (by kernel_rfl) (by kernel_rfl) (fun W4 hZ6 => ?_))
 clear hZ5
 unfold Stop
 try simp only [Act.put, zzC, zzD, zzE]
 go_wp2_with (refine stop_op rfl (fun K hK => wp_lenq (.tmp 22) 22 23 ra rfl (by kernel_rfl) rfl (hZ6.get 0 (f := Mi m c R ra) rfl).n (hK _ _ ?_)))
 unfold Stop
 try simp only [Act.put, zzC, zzD, zzE]
 go_wp2_with (refine stop_op rfl (fun K hK => wp_gtri (.tmp 23) (.const (.int .i64 12)) rfl rfl rfl (r := true) (decide_eq_true (by omega)) (hK _ _ ?_)))
 unfold Stop
 try simp only [Act.put, zzC, zzD, zzE]
 go_wp2_with (refine stop_opw (by kernel_rfl) (fun K hK => wp_fda (v := .pointer (some ⟨bk1, 0, none⟩)) 32 (.tmp 8) 0 rfl rfl (fun _ => by kernel_rfl) (hK _ _ ?_)))
 unfold Stop
 try simp only [Act.put, zzC, zzD, zzE]
 go_wp2_with (refine stop_opw (by kernel_rfl) (fun K hK => wp_load1 (v := .slice none 0 0) 26 (.tmp 31) rfl bk1 0 #[.slice none 0 0, .slice none 0 0, .bool false, .slice none 0 0] 32 (hZ6.es.at' _ (zzG (i := 0) rfl)) rfl ag26 (by kernel_rfl) (hK _ _ ?_)))
 unfold Stop
 try simp only [Act.put, zzC, zzD, zzE]
 go_wp2_with (refine stop_opw (by kernel_rfl) (fun K hK => wp_lenq (.tmp 32) 26 27 slz rfl (by kernel_rfl) rfl (n := 0) rfl (hK _ _ ?_)))
 unfold Stop
 try simp only [Act.put, zzC, zzD, zzE]
 go_wp2_with (refine stop_opw (by kernel_rfl) (fun K hK => wp_eqli (.tmp 33) (.const (.int .i64 0)) 3 3 rfl rfl rfl rfl (r := true) (decide_eq_true rfl) (hK _ _ ?_)))
 unfold Stop
 try simp only [Act.put, zzC, zzD, zzE]
 go_wp2
 go_ret
 exact ⟨rfl, hZ6.below⟩
end Go.Proofs.YtjclllindbfmhaaGreatDoor
