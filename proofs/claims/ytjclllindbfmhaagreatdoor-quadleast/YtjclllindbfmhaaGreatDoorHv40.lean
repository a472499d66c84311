/- Parts of the proof. -/
import Derived.Test.YtjclllindbfmhaaGreatDoorHv0
import Derived.Test.YtjclllindbfmhaaGreatDoorHv37
import Derived.Test.YtjclllindbfmhaaGreatDoorHv39
/- The law QuadLeast of layer 8, walked. No statement of the seat is proved here. -/
namespace Go.Proofs.YtjclllindbfmhaaGreatDoor
open Go Go.RowKit
/-- What is added up to the least value, times the divisor's square. -/
noncomputable def Th (n : Nat) (P : Nat → Nat → Int) (q : Nat → Int) (i : Nat) : Int := Qf n P (crx n P q) - M.sm i (fun j => 2 * q j * crx n P q j * M.dt n P)
theorem th_step {n : Nat} {P : Nat → Nat → Int} {q : Nat → Int} (i : Nat) : Th n P q i - 2 * q i * crx n P q i * M.dt n P = Th n P q (i + 1) := by
 show Qf n P (crx n P q) - M.sm i (fun j => 2 * q j * crx n P q j * M.dt n P) - 2 * q i * crx n P q i * M.dt n P = Qf n P (crx n P q) - (M.sm i (fun j => 2 * q j * crx n P q j * M.dt n P) + 2 * q i * crx n P q i * M.dt n P)
 omega
theorem th_sz {n i : Nat} {P : Nat → Nat → Int} {q : Nat → Int} (hn : n ≤ 8) (hi : i ≤ n) (bP : ∀ i j, i < n → j < n → Sz 2 (P i j)) (bq : ∀ i, i < n → Sz 2 (q i)) : Sz 7000 (Th n P q i) := by
 have hd : dtb 2 n ≤ 3000 := dtb_le (by omega) (by omega)
 have px : ∀ i, i < n → Sz (dtb 2 n) (crx n P q i) := fun i _ => crx_sz bP bq i
 have h1 : Sz (dtb 2 n + (2 + dtb 2 n + n) + n) (Qf n P (crx n P q)) := sm_sz (fun (i : Nat) (hi : i < n) => Sz.mul (px i hi) (sm_sz (fun (t : Nat) (ht : t < n) => Sz.mul (bP i t hi ht) (px t ht))))
 have h2 : Sz (2 + 2 + dtb 2 n + dtb 2 n + i) (M.sm i (fun j => 2 * q j * crx n P q j * M.dt n P)) := sm_sz fun j hj => Sz.mul (Sz.mul (Sz.mul (sz_int (by decide) (by decide)) (bq j (by omega))) (px j (by omega))) (dt_sz bP)
 exact ((h1.mono (show _ ≤ 6100 by omega)).minus (h2.mono (show _ ≤ 6100 by omega))).mono (by omega)
open Classical in
set_option maxRecDepth 100000 in
set_option maxHeartbeats 25600000 in
theorem ule2 {X0 : Nat → Prop} {w : World} (hX : NX X0 w) (ra qa la : Sl) (m kx kl : Nat) (c : Nat → Nat) (R : Nat → Nat → Int) (x : Nat → Int) (cc : Int) (xl_ : Nat → Int) (hra : Mi m c R ra X0 w) (hqa : Li kx x qa X0 w) (hla : Li kl xl_ la X0 w) (rgR0 : ∀ i j, i < m → j < c i → -9223372036854775808 ≤ R i j ∧ R i j ≤ 9223372036854775807) (rgx0 : ∀ i, i < kx → -9223372036854775808 ≤ x i ∧ x i ≤ 9223372036854775807) (hcc : -9223372036854775808 ≤ cc ∧ cc ≤ 9223372036854775807) (rgl0 : ∀ i, i < kl → -9223372036854775808 ≤ xl_ i ∧ xl_ i ≤ 9223372036854775807) (n : Nat) (hnm : n ≤ m) (hmin : (((m : Nat) : Int) ≤ ((8 : Nat) : Int) ∧ ((n : Nat) : Int) = ((m : Nat) : Int)) ∨ (((8 : Nat) : Int) < ((m : Nat) : Int) ∧ ((n : Nat) : Int) = ((8 : Nat) : Int))) (hnu : n ≤ 8) (ho : (Sym n (mir c R) ∧ ∀ i, i < n → 0 < M.dt (i + 1) (mir c R))) : Calls Tryz.prog 6 #[ra.v, qa.v, .int .i64 cc, la.v] w (PVal (.bool true) w) := by
 have rgR := Lib.hid rgR0
 clear rgR0
 have rgx := Lib.hid rgx0
 clear rgx0
 have rgl := Lib.hid rgl0
 clear rgl0
 have BPm : ∀ i j, i < n → j < n → Sz 2 (mir c R i j) := (fun (i j : Nat) hi hj => sz_int (mir_in rgR.out (Nat.lt_of_lt_of_le hi hnm) (Nat.lt_of_lt_of_le hj hnm)).1 (mir_in rgR.out (Nat.lt_of_lt_of_le hi hnm) (Nat.lt_of_lt_of_le hj hnm)).2)
 have BQm : ∀ i, i < n → Sz 2 (xl kx x i) := fun i _ => xl_in rgx.out i
 have BCm : Sz 2 cc := sz_int hcc.1 hcc.2
 have BXm : ∀ i, Sz 2 (xl kl xl_ i) := fun i => xl_in rgl.out i
 have hZ0 := zs_start hX
 have hZ1 := hZ0.more (f := Li kl xl_ la) (Li.stb _ _ _) hla
 clear hZ0
 have hZ2 := hZ1.more (f := Li kx x qa) (Li.stb _ _ _) hqa
 clear hZ1
 have hZ3 := hZ2.more (f := Mi m c R ra) (Mi.stb _ _ _ _) hra
 clear hZ2
 go_enter Tryz.func6, Tryz.ntmps6
 have HO := Lib.hid ho
 clear ho
 have hdb : dtb 2 n ≤ 3000 := dtb_le (by omega) (by omega)
 have hlb : lpb 2 n ≤ 150 := lpb_le (by omega)
 go_wp2_with fail
 refine (uAwake hZ3.nx).mono ?_
 rintro zz W1 ⟨rfl, hB⟩
 have hZ4 := hZ3.later hB
 clear hB
 clear hZ3
 go_wp2_with fail
 refine (uRead hZ4.nx ra qa 8 n (hZ4.get 0 (f := Mi m c R ra) rfl) (hZ4.get 1 (f := Li kx x qa) rfl) rgR.out rgx.out hcc (by omega) hnm hmin).mono ?_
 rintro zz W2 ⟨pf, sf, cf, pd, sd, cd, rfl, hi_pf, hi_sf, ez_cf, hi_cf, hi_pd, hi_sd, ez_cd, hi_cd, hB⟩
 have hZ5 := hZ4.later hB
 clear hB
 clear hZ4
 have hZ6 := hZ5.more (f := Mt n (fun _ => n) (mir c R) pf) (Mt.stb _ _ _ _) hi_pf
 clear hZ5
 clear hi_pf
 have hZ7 := hZ6.more (f := Ls n (xl kx x) sf) (Ls.stb _ _ _) hi_sf
 clear hZ6
 clear hi_sf
 have hZ8 := hZ7.more (f := cf.is) cf.stb hi_cf
 clear hZ7
 clear hi_cf
 have hZ9 := hZ8.more (f := Mr n (fun _ => n) (mir c R) pd) (Mr.stb _ _ _ _) hi_pd
 clear hZ8
 clear hi_pd
 have hZ10 := hZ9.more (f := Lr n (xl kx x) sd) (Lr.stb _ _ _) hi_sd
 clear hZ9
 clear hi_sd
 have hZ11 := hZ10.more (f := cd.ir) cd.stbr hi_cd
 clear hZ10
 clear hi_cd
 go_wp2_with (refine stopz_alloc 32 #[.slice none 0 0, .slice none 0 0, .bool false, .slice none 0 0] (.agg #[.slice none 0 0, .slice none 0 0, .bool false, .slice none 0 0]) rfl rfl zv32 rfl hZ11 (fun bk1 X12 W3 hZ12 => ?_))
 clear hZ11
 unfold Stop
 try simp only [Act.put, zzC, zzD, zzE]
 go_wp2_with (refine stopz_alloc 45 #[.slice none 0 0, .slice none 0 0, .bool false, .slice none 0 0] (.agg #[.slice none 0 0, .slice none 0 0, .bool false, .slice none 0 0]) rfl rfl zv45 rfl hZ12 (fun bk2 X13 W4 hZ13 => ?_))
 clear hZ12
 unfold Stop
 try simp only [Act.put, zzC, zzD, zzE]
 go_wp2_with (refine stopz_store 32 (.tmp 10) (.tmp 34) 1 bk1 0 #[.slice none 0 0, .slice none 0 0, .bool false, .slice none 0 0] 32 4 [pf.v, sf.v, .bool cf.b, .slice cf.a cf.n cf.c] #[pf.v, sf.v, .bool cf.b, .slice cf.a cf.n cf.c] [(bk2, #[.slice none 0 0, .slice none 0 0, .bool false, .slice none 0 0], 45), (bk1, #[pf.v, sf.v, .bool cf.b, .slice cf.a cf.n cf.c], 32)] rfl rfl rfl rfl sz32 hZ13 rfl rfl (zzF (by kernel_rfl)) (by kernel_rfl) (by kernel_rfl) (by kernel_rfl) (fun W5 hZ14 => ?_))
 clear hZ13
 unfold Stop
 try simp only [Act.put, zzC, zzD, zzE]
 go_wp2_with (refine stopz_store 45 (.tmp 11) (.tmp 35) 0 bk2 0 #[.slice none 0 0, .slice none 0 0, .bool false, .slice none 0 0] 45 4 [pd.v, sd.v, .bool cd.b, .slice cd.a cd.n cd.c] #[pd.v, sd.v, .bool cd.b, .slice cd.a cd.n cd.c] [(bk2, #[pd.v, sd.v, .bool cd.b, .slice cd.a cd.n cd.c], 45), (bk1, #[pf.v, sf.v, .bool cf.b, .slice cf.a cf.n cf.c], 32)] rfl rfl rfl rfl sz45 hZ14 rfl rfl (zzF (by kernel_rfl)) (by kernel_rfl) (by kernel_rfl) (by kernel_rfl) (fun W6 hZ15 => ?_))
 clear hZ14
 unfold Stop
 try simp only [Act.put, zzC, zzD, zzE]
 go_wp2_with (refine stop_op rfl (fun K hK => wp_load 32 (.tmp 10) rfl bk1 0 4 #[pf.v, sf.v, .bool cf.b, .slice cf.a cf.n cf.c] #[pf.v, sf.v, .bool cf.b, .slice cf.a cf.n cf.c] 32 (hZ15.es.at' _ (zzG (i := 1) rfl)) rfl ag32 sz32 (zzF (by kernel_rfl)) (by kernel_rfl) (hK _ _ ?_)))
 unfold Stop
 try simp only [Act.put, zzC, zzD, zzE]
 go_wp2_with fail
 refine (uLeastY hZ15.nx pf sf cf (e := 2) (hZ15.get 5 (f := Mt n (fun _ => n) (mir c R) pf) rfl) (hZ15.get 4 (f := Ls n (xl kx x) sf) rfl) (hZ15.get 3 (f := cf.is) rfl) ez_cf BPm BQm BCm (by omega) (by omega) (by omega) HO.out (Int.ne_of_gt (dt_pos HO.out))).mono ?_
 rintro zz W7 ⟨sn, dn, tn, rfl, hi_sn, ez_dn, hi_dn, ez_tn, hi_tn, hB⟩
 have hZ16 := hZ15.later hB
 clear hB
 clear hZ15
 have hZ17 := hZ16.more (f := Ls n (crx n (mir c R) (xl kx x)) sn) (Ls.stb _ _ _) hi_sn
 clear hZ16
 clear hi_sn
 have hZ18 := hZ17.more (f := dn.is) dn.stb hi_dn
 clear hZ17
 clear hi_dn
 have hZ19 := hZ18.more (f := tn.is) tn.stb hi_tn
 clear hZ18
 clear hi_tn
 go_wp2_with (refine stopz_alloc 30 #[.bool false, .slice none 0 0] (.agg #[.bool false, .slice none 0 0]) rfl rfl zv30 rfl hZ19 (fun bk3 X20 W8 hZ20 => ?_))
 clear hZ19
 unfold Stop
 try simp only [Act.put, zzC, zzD, zzE]
 go_wp2_with (refine stopz_alloc 30 #[.bool false, .slice none 0 0] (.agg #[.bool false, .slice none 0 0]) rfl rfl zv30 rfl hZ20 (fun bk4 X21 W9 hZ21 => ?_))
 clear hZ20
 unfold Stop
 try simp only [Act.put, zzC, zzD, zzE]
 go_wp2_with (refine stopz_store 30 (.tmp 14) (.tmp 44) 1 bk3 0 #[.bool false, .slice none 0 0] 30 2 [.bool dn.b, .slice dn.a dn.n dn.c] #[.bool dn.b, .slice dn.a dn.n dn.c] [(bk4, #[.bool false, .slice none 0 0], 30), (bk3, #[.bool dn.b, .slice dn.a dn.n dn.c], 30), (bk2, #[pd.v, sd.v, .bool cd.b, .slice cd.a cd.n cd.c], 45), (bk1, #[pf.v, sf.v, .bool cf.b, .slice cf.a cf.n cf.c], 32)] rfl rfl rfl rfl sz30 hZ21 rfl rfl (zzF (by kernel_rfl)) (by kernel_rfl) (by kernel_rfl) (by kernel_rfl) (fun W10 hZ22 => ?_))
 clear hZ21
 unfold Stop
 try simp only [Act.put, zzC, zzD, zzE]
 go_wp2_with (refine stopz_store 30 (.tmp 15) (.tmp 45) 0 bk4 0 #[.bool false, .slice none 0 0] 30 2 [.bool tn.b, .slice tn.a tn.n tn.c] #[.bool tn.b, .slice tn.a tn.n tn.c] [(bk4, #[.bool tn.b, .slice tn.a tn.n tn.c], 30), (bk3, #[.bool dn.b, .slice dn.a dn.n dn.c], 30), (bk2, #[pd.v, sd.v, .bool cd.b, .slice cd.a cd.n cd.c], 45), (bk1, #[pf.v, sf.v, .bool cf.b, .slice cf.a cf.n cf.c], 32)] rfl rfl rfl rfl sz30 hZ22 rfl rfl (zzF (by kernel_rfl)) (by kernel_rfl) (by kernel_rfl) (by kernel_rfl) (fun W11 hZ23 => ?_))
 clear hZ22
 unfold Stop
 try simp only [Act.put, zzC, zzD, zzE]
 go_wp2_with (refine stop_op rfl (fun K hK => wp_fda (v := .pointer (some ⟨bk1, 0, none⟩)) 32 (.tmp 10) 0 rfl rfl (fun _ => by kernel_rfl) (hK _ _ ?_)))
 unfold Stop
 try simp only [Act.put, zzC, zzD, zzE]
 go_wp2_with (refine stop_op rfl (fun K hK => wp_load1 (v := pf.v) 26 (.tmp 47) rfl bk1 0 #[pf.v, sf.v, .bool cf.b, .slice cf.a cf.n cf.c] 32 (hZ23.es.at' _ (zzG (i := 3) rfl)) rfl ag26 (by kernel_rfl) (hK _ _ ?_)))
 unfold Stop
 try simp only [Act.put, zzC, zzD, zzE]
 go_wp2_with fail
 refine ((lDefinite hZ23.nx pf (e := 2) (by omega) (by omega) (by omega) (hZ23.get 8 (f := Mt n (fun _ => n) (mir c R) pf) rfl) BPm).mono (fun _ _ h => by rw [decide_eq_true HO.out] at h; exact h)).mono ?_
 rintro zz W12 ⟨rfl, hB⟩
 have hZ24 := hZ23.later hB
 clear hB
 clear hZ23
 go_wp2_with (refine stop_opw (by kernel_rfl) (fun K hK => wp_lenq (.tmp 60) 27 30 sn rfl (by kernel_rfl) rfl (hZ24.get 2 (f := Ls n (crx n (mir c R) (xl kx x)) sn) rfl).n (hK _ _ ?_)))
 unfold Stop
 try simp only [Act.put, zzC, zzD, zzE]
 go_wp2_with (refine stop_opw (by kernel_rfl) (fun K hK => wp_fda (v := .pointer (some ⟨bk1, 0, none⟩)) 32 (.tmp 10) 0 rfl rfl (fun _ => by kernel_rfl) (hK _ _ ?_)))
 unfold Stop
 try simp only [Act.put, zzC, zzD, zzE]
 go_wp2_with (refine stop_opw (by kernel_rfl) (fun K hK => wp_load1 (v := pf.v) 26 (.tmp 62) rfl bk1 0 #[pf.v, sf.v, .bool cf.b, .slice cf.a cf.n cf.c] 32 (hZ24.es.at' _ (zzG (i := 3) rfl)) rfl ag26 (by kernel_rfl) (hK _ _ ?_)))
 unfold Stop
 try simp only [Act.put, zzC, zzD, zzE]
 go_wp2_with (refine stop_opw (by kernel_rfl) (fun K hK => wp_lenq (.tmp 63) 26 27 pf rfl (by kernel_rfl) rfl (hZ24.get 8 (f := Mt n (fun _ => n) (mir c R) pf) rfl).n (hK _ _ ?_)))
 unfold Stop
 try simp only [Act.put, zzC, zzD, zzE]
 go_wp2_with (refine stop_opw (by kernel_rfl) (fun K hK => wp_neqi (.tmp 61) (.tmp 64) 3 3 rfl rfl rfl rfl (r := false) (decide_eq_false (by simp)) (hK _ _ ?_)))
 unfold Stop
 try simp only [Act.put, zzC, zzD, zzE]
 go_wp2_with (refine stop_op rfl (fun K hK => wp_fda (v := .pointer (some ⟨bk1, 0, none⟩)) 32 (.tmp 10) 0 rfl rfl (fun _ => by kernel_rfl) (hK _ _ ?_)))
 unfold Stop
 try simp only [Act.put, zzC, zzD, zzE]
 go_wp2_with (refine stop_op rfl (fun K hK => wp_load1 (v := pf.v) 26 (.tmp 69) rfl bk1 0 #[pf.v, sf.v, .bool cf.b, .slice cf.a cf.n cf.c] 32 (hZ24.es.at' _ (zzG (i := 3) rfl)) rfl ag26 (by kernel_rfl) (hK _ _ ?_)))
 unfold Stop
 try simp only [Act.put, zzC, zzD, zzE]
 go_wp2_with (refine stop_op rfl (fun K hK => wp_lenq (.tmp 70) 26 27 pf rfl (by kernel_rfl) rfl (hZ24.get 8 (f := Mt n (fun _ => n) (mir c R) pf) rfl).n (hK _ _ ?_)))
 unfold Stop
 try simp only [Act.put, zzC, zzD, zzE]
 go_wp2_with fail
 refine (uList hZ24.nx la n (hZ24.get 11 (f := Li kl xl_ la) rfl) (by omega) rgl.out).mono ?_
 rintro zz W13 ⟨s2, d2, rfl, hi_s2, hi_d2, hB⟩
 have hZ25 := hZ24.later hB
 clear hB
 clear hZ24
 have hZ26 := hZ25.more (f := Ls n (xl kl xl_) s2) (Ls.stb _ _ _) hi_s2
 clear hZ25
 clear hi_s2
 have hZ27 := hZ26.more (f := Lr n (xl kl xl_) d2) (Lr.stb _ _ _) hi_d2
 clear hZ26
 clear hi_d2
 go_wp2
 obtain ⟨XR12, hZ28⟩ : ∃ Xr, Zs w W13 X0 Xr [(bk4, #[.bool tn.b, .slice tn.a tn.n tn.c], 30), (bk3, #[.bool dn.b, .slice dn.a dn.n dn.c], 30), (bk2, #[pd.v, sd.v, .bool cd.b, .slice cd.a cd.n cd.c], 45), (bk1, #[pf.v, sf.v, .bool cf.b, .slice cf.a cf.n cf.c], 32)] [Lr n (xl kl xl_) d2, Ls n (xl kl xl_) s2, tn.is, dn.is, Ls n (crx n (mir c R) (xl kx x)) sn, cd.ir, Lr n (xl kx x) sd, Mr n (fun _ => n) (mir c R) pd, cf.is, Ls n (xl kx x) sf, Mt n (fun _ => n) (mir c R) pf, Mi m c R ra, Li kx x qa, Li kl xl_ la] := ⟨_, hZ27⟩
 clear hZ27
 have hVS12 : ∀ kq, kq ∈ ([veq (.agg #[pf.v, sf.v, .bool cf.b, .slice cf.a cf.n cf.c]), veq (s2.v), vnum (Vq n (mir c R) (xl kx x) cc (xl kl xl_)), veq (dn.v), vnum ((Vq n (mir c R) (xl kx x) cc (xl kl xl_)) * (M.dt n (mir c R))), veq (tn.v), veq (.int .i64 ((cmpI ((Vq n (mir c R) (xl kx x) cc (xl kl xl_)) * (M.dt n (mir c R))) (topq n (mir c R) (xl kx x) (cc)))))] : List VF) → VSt kq := by
  intro kq hkq
  simp only [List.mem_cons, List.not_mem_nil, or_false] at hkq
  rcases hkq with rfl | rfl | rfl | rfl | rfl | rfl | rfl
  ·
   exact (veq_se _).st
  ·
   exact (veq_se _).st
  ·
   exact (vnum_se _).st
  ·
   exact (veq_se _).st
  ·
   exact (vnum_se _).st
  ·
   exact (veq_se _).st
  ·
   exact (veq_se _).st
 refine wp_region_s 7 [some 75, some 76, some 77, some 78, some 79, some 80, some 81] [veq (.agg #[pf.v, sf.v, .bool cf.b, .slice cf.a cf.n cf.c]), veq (s2.v), vnum (Vq n (mir c R) (xl kx x) cc (xl kl xl_)), veq (dn.v), vnum ((Vq n (mir c R) (xl kx x) cc (xl kl xl_)) * (M.dt n (mir c R))), veq (tn.v), veq (.int .i64 ((cmpI ((Vq n (mir c R) (xl kx x) cc (xl kl xl_)) * (M.dt n (mir c R))) (topq n (mir c R) (xl kx x) (cc)))))] (fun _ _ X1 l1 => XR12 = X1 ∧ [(bk4, #[.bool tn.b, .slice tn.a tn.n tn.c], 30), (bk3, #[.bool dn.b, .slice dn.a dn.n dn.c], 30), (bk2, #[pd.v, sd.v, .bool cd.b, .slice cd.a cd.n cd.c], 45), (bk1, #[pf.v, sf.v, .bool cf.b, .slice cf.a cf.n cf.c], 32)] = l1) [Lr n (xl kl xl_) d2, Ls n (xl kl xl_) s2, tn.is, dn.is, Ls n (crx n (mir c R) (xl kx x)) sn, cd.ir, Lr n (xl kx x) sd, Mr n (fun _ => n) (mir c R) pd, cf.is, Ls n (xl kx x) sf, Mt n (fun _ => n) (mir c R) pf, Mi m c R ra, Li kx x qa, Li kl xl_ la] (by kernel_rfl) (by kernel_rfl) (by rfl) (by decide) (by rfl) (fun _ => ⟨XR12, _, ⟨rfl, rfl⟩, hZ28.later (Below.refl _ _).drew⟩) ?_ ?_
 ·
  intro iq hlq hiq LL uu ww aa X1 l1 hLi hLc hR hJ hd hall hev hin hold
  clear hZ28
  obtain rfl | rfl | rfl | rfl | rfl | rfl | rfl : iq = 0 ∨ iq = 1 ∨ iq = 2 ∨ iq = 3 ∨ iq = 4 ∨ iq = 5 ∨ iq = 6 := by omega
  ·
   refine opS_z hJ (fun _ => hR) ?_
   obtain ⟨eX, el⟩ := hR
   subst eX
   subst el
   exact .inr ⟨rfl, fun K' hK => wp_load 32 (.tmp 10) rfl bk1 0 4 #[pf.v, sf.v, .bool cf.b, .slice cf.a cf.n cf.c] #[pf.v, sf.v, .bool cf.b, .slice cf.a cf.n cf.c] 32 (hJ.es.at' _ (zzG (i := 3) rfl)) (eval_tmp ((hev 10 (by decide)).trans rfl)) ag32 sz32 (zzF (by kernel_rfl)) (by kernel_rfl) (hK _ _ hJ rfl vzL_same)⟩
  ·
   refine opS_z hJ (fun _ => hR) ?_
   obtain ⟨eX, el⟩ := hR
   subst eX
   subst el
   exact .inr ⟨rfl, fun K' hK => wp_move (.tmp 18) rfl (eval_tmp ((hev 18 (by decide)).trans rfl)) (hK _ _ hJ rfl vzL_same)⟩
  ·
   refine opS_z hJ (fun _ => hR) ?_
   obtain ⟨eX, el⟩ := hR
   subst eX
   subst el
   refine .inr ⟨rfl, fun K' hK => ?_⟩
   refine wp_callz (.func 16) #[.tmp 75, .tmp 76] #[32, 27] 16 #[] #[.agg #[pf.v, sf.v, .bool cf.b, .slice cf.a cf.n cf.c], s2.v] _ rfl rfl (map2 (eval_tmp ((hin 0 75 rfl).trans (congrArg some (show uu 0 = .agg #[pf.v, sf.v, .bool cf.b, .slice cf.a cf.n cf.c] from (hd 0 (by decide) (by kernel_rfl)).2)))) (eval_tmp ((hin 1 76 rfl).trans (congrArg some (show uu 1 = s2.v from (hd 1 (by decide) (by kernel_rfl)).2))))) rfl (fun _ _ => rfl) (uValue hJ.nx pf sf cf (e := (2 + 2)) s2 (hJ.get 10 (f := Mt n (fun _ => n) (mir c R) pf) rfl) (hJ.get 9 (f := Ls n (xl kx x) sf) rfl) (hJ.get 8 (f := cf.is) rfl) ez_cf (hJ.get 1 (f := Ls n (xl kl xl_) s2) rfl) (fun (i j : Nat) hi hj => (BPm i j hi hj).mono (by omega)) (fun (i : Nat) hi => (BQm i hi).mono (by omega)) (BCm.mono (by omega)) (fun (i : Nat) hi => ((fun (i : Nat) _ => BXm i) i hi).mono (by omega)) (by omega) (by omega)) ?_
   rintro zz ww2 ⟨q3, rfl, ez_q3, hi_q3, hB⟩
   exact ⟨_, rfl, hK _ _ (hJ.later hB) ⟨q3, rfl, ez_q3, hi_q3⟩ (vzL_later hVS12 hB)⟩
  ·
   refine opS_z hJ (fun _ => hR) ?_
   obtain ⟨eX, el⟩ := hR
   subst eX
   subst el
   exact .inr ⟨rfl, fun K' hK => wp_load 30 (.tmp 14) rfl bk3 0 2 #[.bool dn.b, .slice dn.a dn.n dn.c] #[.bool dn.b, .slice dn.a dn.n dn.c] 30 (hJ.es.at' _ (zzG (i := 1) rfl)) (eval_tmp ((hev 14 (by decide)).trans rfl)) ag30 sz30 (zzF (by kernel_rfl)) (by kernel_rfl) (hK _ _ hJ rfl vzL_same)⟩
  ·
   refine opS_z hJ (fun _ => hR) ?_
   obtain ⟨eX, el⟩ := hR
   subst eX
   subst el
   obtain ⟨q3, e2, ez_q3, hi_q3⟩ := (show (vnum (Vq n (mir c R) (xl kx x) cc (xl kl xl_))) (uu 2) XR12 ww from (hd 2 (by decide) (by kernel_rfl)).2)
   replace hJ := hJ.more (f := q3.is) q3.stb hi_q3
   refine .inr ⟨rfl, fun K' hK => ?_⟩
   refine wp_callz (.func 32) #[.tmp 77, .tmp 78] #[30, 30] 32 #[] #[q3.v, dn.v] _ rfl rfl (map2 (eval_tmp ((hin 2 77 rfl).trans (congrArg some e2))) (eval_tmp ((hin 3 78 rfl).trans (congrArg some (show uu 3 = dn.v from (hd 3 (by decide) (by kernel_rfl)).2))))) rfl (fun _ _ => rfl) (zMul hJ.nx (hJ.get 0 (f := q3.is) rfl) (hJ.get 4 (f := dn.is) rfl) ez_q3 ez_dn (vq_sz (e := (2 + 2)) (fun (i j : Nat) hi hj => (BPm i j hi hj).mono (by omega)) (fun (i : Nat) hi => (BQm i hi).mono (by omega)) (BCm.mono (by omega)) (fun (i : Nat) hi => ((fun (i : Nat) _ => BXm i) i hi).mono (by omega))) (dt_sz BPm) (by omega) (by omega)) ?_
   rintro zz ww2 ⟨q4, rfl, ez_q4, hi_q4, hB⟩
   exact ⟨_, rfl, hK _ _ ((hJ.only [Lr n (xl kl xl_) d2, Ls n (xl kl xl_) s2, tn.is, dn.is, Ls n (crx n (mir c R) (xl kx x)) sn, cd.ir, Lr n (xl kx x) sd, Mr n (fun _ => n) (mir c R) pd, cf.is, Ls n (xl kx x) sf, Mt n (fun _ => n) (mir c R) pf, Mi m c R ra, Li kx x qa, Li kl xl_ la] (by simp)).later hB) ⟨q4, rfl, ez_q4, hi_q4⟩ (vzL_later hVS12 hB)⟩
  ·
   refine opS_z hJ (fun _ => hR) ?_
   obtain ⟨eX, el⟩ := hR
   subst eX
   subst el
   exact .inr ⟨rfl, fun K' hK => wp_load 30 (.tmp 15) rfl bk4 0 2 #[.bool tn.b, .slice tn.a tn.n tn.c] #[.bool tn.b, .slice tn.a tn.n tn.c] 30 (hJ.es.at' _ (zzG (i := 0) rfl)) (eval_tmp ((hev 15 (by decide)).trans rfl)) ag30 sz30 (zzF (by kernel_rfl)) (by kernel_rfl) (hK _ _ hJ rfl vzL_same)⟩
  ·
   refine opS_z hJ (fun _ => hR) ?_
   obtain ⟨eX, el⟩ := hR
   subst eX
   subst el
   obtain ⟨q4, e4, ez_q4, hi_q4⟩ := (show (vnum ((Vq n (mir c R) (xl kx x) cc (xl kl xl_)) * (M.dt n (mir c R)))) (uu 4) XR12 ww from (hd 4 (by decide) (by kernel_rfl)).2)
   replace hJ := hJ.more (f := q4.is) q4.stb hi_q4
   refine .inr ⟨rfl, fun K' hK => ?_⟩
   refine wp_callz (.func 33) #[.tmp 79, .tmp 80] #[30, 30] 33 #[] #[q4.v, tn.v] _ rfl rfl (map2 (eval_tmp ((hin 4 79 rfl).trans (congrArg some e4))) (eval_tmp ((hin 5 80 rfl).trans (congrArg some (show uu 5 = tn.v from (hd 5 (by decide) (by kernel_rfl)).2))))) rfl (fun _ _ => rfl) (zCmp (hJ.get 0 (f := q4.is) rfl) (hJ.get 3 (f := tn.is) rfl) ez_q4 ez_tn) ?_
   rintro zz ww2 ⟨rfl, hB⟩
   exact ⟨_, rfl, hK _ _ ((hJ.only [Lr n (xl kl xl_) d2, Ls n (xl kl xl_) s2, tn.is, dn.is, Ls n (crx n (mir c R) (xl kx x)) sn, cd.ir, Lr n (xl kx x) sd, Mr n (fun _ => n) (mir c R) pd, cf.is, Ls n (xl kx x) sf, Mt n (fun _ => n) (mir c R) pf, Mi m c R ra, Li kx x qa, Li kl xl_ la] (by simp)).later hB) rfl (vzL_later hVS12 hB)⟩
 clear hZ28
 intro LL uu W14 X1 l1 hLL hR hZ29 hd
 obtain ⟨eX, el⟩ := hR
 subst eX
 subst el
 have e_0 : uu 0 = .agg #[pf.v, sf.v, .bool cf.b, .slice cf.a cf.n cf.c] := hd 0 (by decide)
 have e_1 : uu 1 = s2.v := hd 1 (by decide)
 obtain ⟨q3, e_2, ez_q3, hi_q3⟩ := (show (vnum (Vq n (mir c R) (xl kx x) cc (xl kl xl_))) (uu 2) XR12 W14 from hd 2 (by decide))
 have e_3 : uu 3 = dn.v := hd 3 (by decide)
 obtain ⟨q4, e_4, ez_q4, hi_q4⟩ := (show (vnum ((Vq n (mir c R) (xl kx x) cc (xl kl xl_)) * (M.dt n (mir c R)))) (uu 4) XR12 W14 from hd 4 (by decide))
 have e_5 : uu 5 = tn.v := hd 5 (by decide)
 have e_6 : uu 6 = .int .i64 ((cmpI ((Vq n (mir c R) (xl kx x) cc (xl kl xl_)) * (M.dt n (mir c R))) (topq n (mir c R) (xl kx x) (cc)))) := hd 6 (by decide)
 clear hd hVS12
 simp only [layS, Act.put, zzC, zzD, zzE, Nat.zero_add, Nat.reduceAdd, List.drop_succ_cons, List.drop_zero, List.drop_nil, e_0, e_1, e_2, e_3, e_4, e_5, e_6]
 clear e_0 e_1 e_2 e_3 e_4 e_5 e_6
 have hZ30 := hZ29.more (f := q3.is) q3.stb hi_q3
 clear hZ29
 clear hi_q3
 have hZ31 := hZ30.more (f := q4.is) q4.stb hi_q4
 clear hZ30
 clear hi_q4
 go_wp2_with (refine stop_op rfl (fun K hK => wp_fda (v := .pointer (some ⟨bk1, 0, none⟩)) 32 (.tmp 10) 0 rfl rfl (fun _ => by kernel_rfl) (hK _ _ ?_)))
 unfold Stop
 try simp only [Act.put, zzC, zzD, zzE]
 go_wp2_with (refine stop_op rfl (fun K hK => wp_load1 (v := pf.v) 26 (.tmp 82) rfl bk1 0 #[pf.v, sf.v, .bool cf.b, .slice cf.a cf.n cf.c] 32 (hZ31.es.at' _ (zzG (i := 3) rfl)) rfl ag26 (by kernel_rfl) (hK _ _ ?_)))
 unfold Stop
 try simp only [Act.put, zzC, zzD, zzE]
 go_wp2_with fail
 refine (lApply hZ31.nx pf sn (e := 2 + (dtb 2 n)) (hZ31.get 12 (f := Mt n (fun _ => n) (mir c R) pf) rfl) (hZ31.get 6 (f := Ls n (crx n (mir c R) (xl kx x)) sn) rfl) (fun i k hi hk => (BPm i k hi hk).mono (Nat.le_add_right _ _)) (fun k hk => ((fun (j : Nat) _ => crx_sz BPm BQm j) k hk).mono (Nat.le_add_left _ _)) (by omega) (by omega)).mono ?_
 rintro zz W15 ⟨s6, rfl, hi_s6, hB⟩
 have hZ32 := hZ31.later hB
 clear hB
 clear hZ31
 have hZ33 := hZ32.more (f := Ls n (M.mulv n (mir c R) (crx n (mir c R) (xl kx x))) s6) (Ls.stb _ _ _) hi_s6
 clear hZ32
 clear hi_s6
 have hZ34 := hZ33.only [Ls n (M.mulv n (mir c R) (crx n (mir c R) (xl kx x))) s6, tn.is, dn.is, Ls n (crx n (mir c R) (xl kx x)) sn, cf.is, Ls n (xl kx x) sf, Mt n (fun _ => n) (mir c R) pf] (by simp)
 clear hZ33
 go_wp2
 go_loopw [22] (fun iv wr => ∃ (i : Nat) (X : Nat → Prop), i ≤ n ∧ iv = .int .i64 ((i : Nat) : Int) ∧ Zs w wr X0 X [(bk4, #[.bool tn.b, .slice tn.a tn.n tn.c], 30), (bk3, #[.bool dn.b, .slice dn.a dn.n dn.c], 30), (bk2, #[pd.v, sd.v, .bool cd.b, .slice cd.a cd.n cd.c], 45), (bk1, #[pf.v, sf.v, .bool cf.b, .slice cf.a cf.n cf.c], 32)] [Ls n (M.mulv n (mir c R) (crx n (mir c R) (xl kx x))) s6, tn.is, dn.is, Ls n (crx n (mir c R) (xl kx x)) sn, cf.is, Ls n (xl kx x) sf, Mt n (fun _ => n) (mir c R) pf]) (fun iv _ => n - (intOf iv).toNat)
 case atStart => exact ⟨0, _, by omega, rfl, hZ34⟩
 case round =>
  clear hZ34
  obtain ⟨i, X, hi, rfl, hZ⟩ := hrel
  by_cases hlt : i < n
  ·
   go_wp2_with (refine stop_op rfl (fun K hK => wp_lenq (.tmp 87) 27 30 s6 rfl (by kernel_rfl) rfl (hZ.get 0 (f := Ls n (M.mulv n (mir c R) (crx n (mir c R) (xl kx x))) s6) rfl).n (hK _ _ ?_)))
   unfold Stop
   try simp only [Act.put, zzC, zzD, zzE]
   go_wp2_with (refine stop_op rfl (fun K hK => wp_lssi (.tmp 86) (.tmp 88) rfl rfl rfl (r := true) (decide_eq_true (by omega)) (hK _ _ ?_)))
   unfold Stop
   try simp only [Act.put, zzC, zzD, zzE]
   go_wp2
   obtain ⟨XR17, hZ35⟩ : ∃ Xr, Zs w wr X0 Xr [(bk4, #[.bool tn.b, .slice tn.a tn.n tn.c], 30), (bk3, #[.bool dn.b, .slice dn.a dn.n dn.c], 30), (bk2, #[pd.v, sd.v, .bool cd.b, .slice cd.a cd.n cd.c], 45), (bk1, #[pf.v, sf.v, .bool cf.b, .slice cf.a cf.n cf.c], 32)] [Ls n (M.mulv n (mir c R) (crx n (mir c R) (xl kx x))) s6, tn.is, dn.is, Ls n (crx n (mir c R) (xl kx x)) sn, cf.is, Ls n (xl kx x) sf, Mt n (fun _ => n) (mir c R) pf] := ⟨_, hZ⟩
   clear hZ
   have hVS17 : ∀ kq, kq ∈ ([veq (s6.v), veq (.int .i64 (((i : Nat) : Int))), veq ((s6.at 2 i)), vnum ((M.mulv n (mir c R) (crx n (mir c R) (xl kx x))) i), veq (.pointer (some ⟨bk1, 1, none⟩)), veq (sf.v), veq (.int .i64 (((i : Nat) : Int))), veq ((sf.at 2 i)), vnum (xl kx x i), veq (dn.v), vnum ((xl kx x i) * (M.dt n (mir c R))), veq (.int .i64 ((cmpI ((M.mulv n (mir c R) (crx n (mir c R) (xl kx x))) i) ((xl kx x i) * (M.dt n (mir c R))))))] : List VF) → VSt kq := by
    intro kq hkq
    simp only [List.mem_cons, List.not_mem_nil, or_false] at hkq
    rcases hkq with rfl | rfl | rfl | rfl | rfl | rfl | rfl | rfl | rfl | rfl | rfl | rfl
    ·
     exact (veq_se _).st
    ·
     exact (veq_se _).st
    ·
     exact (veq_se _).st
    ·
     exact (vnum_se _).st
    ·
     exact (veq_se _).st
    ·
     exact (veq_se _).st
    ·
     exact (veq_se _).st
    ·
     exact (veq_se _).st
    ·
     exact (vnum_se _).st
    ·
     exact (veq_se _).st
    ·
     exact (vnum_se _).st
    ·
     exact (veq_se _).st
   refine wp_region_s 12 [some 92, some 93, some 94, some 95, some 96, some 97, some 98, some 99, some 100, some 101, some 102, some 103] [veq (s6.v), veq (.int .i64 (((i : Nat) : Int))), veq ((s6.at 2 i)), vnum ((M.mulv n (mir c R) (crx n (mir c R) (xl kx x))) i), veq (.pointer (some ⟨bk1, 1, none⟩)), veq (sf.v), veq (.int .i64 (((i : Nat) : Int))), veq ((sf.at 2 i)), vnum (xl kx x i), veq (dn.v), vnum ((xl kx x i) * (M.dt n (mir c R))), veq (.int .i64 ((cmpI ((M.mulv n (mir c R) (crx n (mir c R) (xl kx x))) i) ((xl kx x i) * (M.dt n (mir c R))))))] (fun _ _ X1 l1 => XR17 = X1 ∧ [(bk4, #[.bool tn.b, .slice tn.a tn.n tn.c], 30), (bk3, #[.bool dn.b, .slice dn.a dn.n dn.c], 30), (bk2, #[pd.v, sd.v, .bool cd.b, .slice cd.a cd.n cd.c], 45), (bk1, #[pf.v, sf.v, .bool cf.b, .slice cf.a cf.n cf.c], 32)] = l1) [Ls n (M.mulv n (mir c R) (crx n (mir c R) (xl kx x))) s6, tn.is, dn.is, Ls n (crx n (mir c R) (xl kx x)) sn, cf.is, Ls n (xl kx x) sf, Mt n (fun _ => n) (mir c R) pf] (by kernel_rfl) (by kernel_rfl) (by rfl) (by decide) (by rfl) (fun _ => ⟨XR17, _, ⟨rfl, rfl⟩, hZ35.later (Below.refl _ _).drew⟩) ?_ ?_
   ·
    intro iq hlq hiq LL uu ww aa X1 l1 hLi hLc hR hJ hd hall hev hin hold
    clear hZ35
    obtain rfl | rfl | rfl | rfl | rfl | rfl | rfl | rfl | rfl | rfl | rfl | rfl : iq = 0 ∨ iq = 1 ∨ iq = 2 ∨ iq = 3 ∨ iq = 4 ∨ iq = 5 ∨ iq = 6 ∨ iq = 7 ∨ iq = 8 ∨ iq = 9 ∨ iq = 10 ∨ iq = 11 := by omega
    ·
     refine opS_z hJ (fun _ => hR) ?_
     obtain ⟨eX, el⟩ := hR
     subst eX
     subst el
     exact .inr ⟨rfl, fun K' hK => wp_move (.tmp 21) rfl (eval_tmp ((hev 21 (by decide)).trans rfl)) (hK _ _ hJ rfl vzL_same)⟩
    ·
     refine opS_z hJ (fun _ => hR) ?_
     obtain ⟨eX, el⟩ := hR
     subst eX
     subst el
     exact .inr ⟨rfl, fun K' hK => wp_move (.tmp 22) rfl (eval_tmp ((hev 22 (by decide)).trans rfl)) (hK _ _ hJ rfl vzL_same)⟩
    ·
     refine opS_z hJ (fun _ => hR) ?_
     obtain ⟨eX, el⟩ := hR
     subst eX
     subst el
     exact .inr ⟨rfl, fun K' hK => wp_ixs 27 (.tmp 92) (.tmp 93) s6 i 2 30 rfl (eval_tmp ((hin 0 92 rfl).trans (congrArg some (show uu 0 = s6.v from (hd 0 (by decide) (by kernel_rfl)).2)))) (eval_tmp ((hin 1 93 rfl).trans (congrArg some (show uu 1 = .int .i64 (((i : Nat) : Int)) from (hd 1 (by decide) (by kernel_rfl)).2)))) (by kernel_rfl) sz30 (fun h => ((hJ.get 0 (f := Ls n (M.mulv n (mir c R) (crx n (mir c R) (xl kx x))) s6) rfl).sq.nil h).1) ((hJ.get 0 (f := Ls n (M.mulv n (mir c R) (crx n (mir c R) (xl kx x))) s6) rfl).n ▸ (by omega)) (hK _ _ hJ rfl vzL_same)⟩
    ·
     refine opS_z hJ (fun _ => hR) ?_
     obtain ⟨eX, el⟩ := hR
     subst eX
     subst el
     exact .inr ⟨rfl, fun K' hK => wp_ldn 30 (.tmp 94) s6 i n (M.mulv n (mir c R) (crx n (mir c R) (xl kx x))) rfl (eval_tmp ((hin 2 94 rfl).trans (congrArg some (show uu 2 = (s6.at 2 i) from (hd 2 (by decide) (by kernel_rfl)).2)))) (hJ.get 0 (f := Ls n (M.mulv n (mir c R) (crx n (mir c R) (xl kx x))) s6) rfl) (by omega) ag30 sz30 (fun q7 ez_q7 hi_q7 => hK _ _ hJ ⟨q7, rfl, ez_q7, hi_q7⟩ vzL_same)⟩
    ·
     refine opS_z hJ (fun _ => hR) ?_
     obtain ⟨eX, el⟩ := hR
     subst eX
     subst el
     exact .inr ⟨rfl, fun K' hK => wp_fda (v := .pointer (some ⟨bk1, 1, none⟩)) 32 (.tmp 10) 1 rfl (eval_tmp ((hev 10 (by decide)).trans rfl)) (fun _ => by kernel_rfl) (hK _ _ hJ rfl vzL_same)⟩
    ·
     refine opS_z hJ (fun _ => hR) ?_
     obtain ⟨eX, el⟩ := hR
     subst eX
     subst el
     exact .inr ⟨rfl, fun K' hK => wp_load1 (v := sf.v) 27 (.tmp 96) rfl bk1 1 #[pf.v, sf.v, .bool cf.b, .slice cf.a cf.n cf.c] 32 (hJ.es.at' _ (zzG (i := 3) rfl)) (eval_tmp ((hin 4 96 rfl).trans (congrArg some (show uu 4 = .pointer (some ⟨bk1, 1, none⟩) from (hd 4 (by decide) (by kernel_rfl)).2)))) ag27 (by kernel_rfl) (hK _ _ hJ rfl vzL_same)⟩
    ·
     refine opS_z hJ (fun _ => hR) ?_
     obtain ⟨eX, el⟩ := hR
     subst eX
     subst el
     exact .inr ⟨rfl, fun K' hK => wp_move (.tmp 22) rfl (eval_tmp ((hev 22 (by decide)).trans rfl)) (hK _ _ hJ rfl vzL_same)⟩
    ·
     refine opS_z hJ (fun _ => hR) ?_
     obtain ⟨eX, el⟩ := hR
     subst eX
     subst el
     exact .inr ⟨rfl, fun K' hK => wp_ixs 27 (.tmp 97) (.tmp 98) sf i 2 30 rfl (eval_tmp ((hin 5 97 rfl).trans (congrArg some (show uu 5 = sf.v from (hd 5 (by decide) (by kernel_rfl)).2)))) (eval_tmp ((hin 6 98 rfl).trans (congrArg some (show uu 6 = .int .i64 (((i : Nat) : Int)) from (hd 6 (by decide) (by kernel_rfl)).2)))) (by kernel_rfl) sz30 (fun h => ((hJ.get 5 (f := Ls n (xl kx x) sf) rfl).sq.nil h).1) ((hJ.get 5 (f := Ls n (xl kx x) sf) rfl).n ▸ (by omega)) (hK _ _ hJ rfl vzL_same)⟩
    ·
     refine opS_z hJ (fun _ => hR) ?_
     obtain ⟨eX, el⟩ := hR
     subst eX
     subst el
     exact .inr ⟨rfl, fun K' hK => wp_ldn 30 (.tmp 99) sf i n (xl kx x) rfl (eval_tmp ((hin 7 99 rfl).trans (congrArg some (show uu 7 = (sf.at 2 i) from (hd 7 (by decide) (by kernel_rfl)).2)))) (hJ.get 5 (f := Ls n (xl kx x) sf) rfl) (by omega) ag30 sz30 (fun q8 ez_q8 hi_q8 => hK _ _ hJ ⟨q8, rfl, ez_q8, hi_q8⟩ vzL_same)⟩
    ·
     refine opS_z hJ (fun _ => hR) ?_
     obtain ⟨eX, el⟩ := hR
     subst eX
     subst el
     exact .inr ⟨rfl, fun K' hK => wp_load 30 (.tmp 14) rfl bk3 0 2 #[.bool dn.b, .slice dn.a dn.n dn.c] #[.bool dn.b, .slice dn.a dn.n dn.c] 30 (hJ.es.at' _ (zzG (i := 1) rfl)) (eval_tmp ((hev 14 (by decide)).trans rfl)) ag30 sz30 (zzF (by kernel_rfl)) (by kernel_rfl) (hK _ _ hJ rfl vzL_same)⟩
    ·
     refine opS_z hJ (fun _ => hR) ?_
     obtain ⟨eX, el⟩ := hR
     subst eX
     subst el
     obtain ⟨q8, e8, ez_q8, hi_q8⟩ := (show (vnum (xl kx x i)) (uu 8) XR17 ww from (hd 8 (by decide) (by kernel_rfl)).2)
     replace hJ := hJ.more (f := q8.is) q8.stb hi_q8
     refine .inr ⟨rfl, fun K' hK => ?_⟩
     refine wp_callz (.func 32) #[.tmp 100, .tmp 101] #[30, 30] 32 #[] #[q8.v, dn.v] _ rfl rfl (map2 (eval_tmp ((hin 8 100 rfl).trans (congrArg some e8))) (eval_tmp ((hin 9 101 rfl).trans (congrArg some (show uu 9 = dn.v from (hd 9 (by decide) (by kernel_rfl)).2))))) rfl (fun _ _ => rfl) (zMul hJ.nx (hJ.get 0 (f := q8.is) rfl) (hJ.get 3 (f := dn.is) rfl) ez_q8 ez_dn (BQm i (by omega)) (dt_sz BPm) (by omega) (by omega)) ?_
     rintro zz ww2 ⟨q9, rfl, ez_q9, hi_q9, hB⟩
     exact ⟨_, rfl, hK _ _ ((hJ.only [Ls n (M.mulv n (mir c R) (crx n (mir c R) (xl kx x))) s6, tn.is, dn.is, Ls n (crx n (mir c R) (xl kx x)) sn, cf.is, Ls n (xl kx x) sf, Mt n (fun _ => n) (mir c R) pf] (by simp)).later hB) ⟨q9, rfl, ez_q9, hi_q9⟩ (vzL_later hVS17 hB)⟩
    ·
     refine opS_z hJ (fun _ => hR) ?_
     obtain ⟨eX, el⟩ := hR
     subst eX
     subst el
     obtain ⟨q7, e3, ez_q7, hi_q7⟩ := (show (vnum ((M.mulv n (mir c R) (crx n (mir c R) (xl kx x))) i)) (uu 3) XR17 ww from (hd 3 (by decide) (by kernel_rfl)).2)
     obtain ⟨q9, e10, ez_q9, hi_q9⟩ := (show (vnum ((xl kx x i) * (M.dt n (mir c R)))) (uu 10) XR17 ww from (hd 10 (by decide) (by kernel_rfl)).2)
     replace hJ := hJ.more (f := q7.is) q7.stb hi_q7
     replace hJ := hJ.more (f := q9.is) q9.stb hi_q9
     refine .inr ⟨rfl, fun K' hK => ?_⟩
     refine wp_callz (.func 33) #[.tmp 95, .tmp 102] #[30, 30] 33 #[] #[q7.v, q9.v] _ rfl rfl (map2 (eval_tmp ((hin 3 95 rfl).trans (congrArg some e3))) (eval_tmp ((hin 10 102 rfl).trans (congrArg some e10)))) rfl (fun _ _ => rfl) (zCmp (hJ.get 1 (f := q7.is) rfl) (hJ.get 0 (f := q9.is) rfl) ez_q7 ez_q9) ?_
     rintro zz ww2 ⟨rfl, hB⟩
     exact ⟨_, rfl, hK _ _ ((hJ.only [Ls n (M.mulv n (mir c R) (crx n (mir c R) (xl kx x))) s6, tn.is, dn.is, Ls n (crx n (mir c R) (xl kx x)) sn, cf.is, Ls n (xl kx x) sf, Mt n (fun _ => n) (mir c R) pf] (by simp)).later hB) rfl (vzL_later hVS17 hB)⟩
   clear hZ35
   intro LL uu W16 X1 l1 hLL hR hZ36 hd
   obtain ⟨eX, el⟩ := hR
   subst eX
   subst el
   have e_0 : uu 0 = s6.v := hd 0 (by decide)
   have e_1 : uu 1 = .int .i64 (((i : Nat) : Int)) := hd 1 (by decide)
   have e_2 : uu 2 = (s6.at 2 i) := hd 2 (by decide)
   obtain ⟨q7, e_3, ez_q7, hi_q7⟩ := (show (vnum ((M.mulv n (mir c R) (crx n (mir c R) (xl kx x))) i)) (uu 3) XR17 W16 from hd 3 (by decide))
   have e_4 : uu 4 = .pointer (some ⟨bk1, 1, none⟩) := hd 4 (by decide)
   have e_5 : uu 5 = sf.v := hd 5 (by decide)
   have e_6 : uu 6 = .int .i64 (((i : Nat) : Int)) := hd 6 (by decide)
   have e_7 : uu 7 = (sf.at 2 i) := hd 7 (by decide)
   obtain ⟨q8, e_8, ez_q8, hi_q8⟩ := (show (vnum (xl kx x i)) (uu 8) XR17 W16 from hd 8 (by decide))
   have e_9 : uu 9 = dn.v := hd 9 (by decide)
   obtain ⟨q9, e_10, ez_q9, hi_q9⟩ := (show (vnum ((xl kx x i) * (M.dt n (mir c R)))) (uu 10) XR17 W16 from hd 10 (by decide))
   have e_11 : uu 11 = .int .i64 ((cmpI ((M.mulv n (mir c R) (crx n (mir c R) (xl kx x))) i) ((xl kx x i) * (M.dt n (mir c R))))) := hd 11 (by decide)
   clear hd hVS17
   simp only [layS, Act.put, zzC, zzD, zzE, Nat.zero_add, Nat.reduceAdd, List.drop_succ_cons, List.drop_zero, List.drop_nil, e_0, e_1, e_2, e_3, e_4, e_5, e_6, e_7, e_8, e_9, e_10, e_11]
   clear e_0 e_1 e_2 e_3 e_4 e_5 e_6 e_7 e_8 e_9 e_10 e_11
   have hZ37 := hZ36.more (f := q7.is) q7.stb hi_q7
   clear hZ36
   clear hi_q7
   have hZ38 := hZ37.more (f := q8.is) q8.stb hi_q8
   clear hZ37
   clear hi_q8
   have hZ39 := hZ38.more (f := q9.is) q9.stb hi_q9
   clear hZ38
   clear hi_q9
   go_wp2_with (refine stop_op rfl (fun K hK => wp_neqi (.tmp 104) (.const (.int .i64 0)) 3 3 rfl rfl rfl rfl (r := false) (decide_eq_false (by rw [cmpI_ne]; exact fun h => h ((crx_solves (mir c R) (xl kx x) hlt).trans (Int.mul_comm _ _)))) (hK _ _ ?_)))
   unfold Stop
   try simp only [Act.put, zzC, zzD, zzE]
   have hZ40 := hZ39.only [Ls n (M.mulv n (mir c R) (crx n (mir c R) (xl kx x))) s6, tn.is, dn.is, Ls n (crx n (mir c R) (xl kx x)) sn, cf.is, Ls n (xl kx x) sf, Mt n (fun _ => n) (mir c R) pf] (by simp)
   clear hZ39
   go_wp2_with (refine stop_op rfl (fun K hK => wp_addi (.tmp 90) (.const (.int .i64 1)) rfl rfl rfl (C := ((i + 1 : Nat) : Int)) (by omega) (by omega) (by omega) (hK _ _ ?_)))
   unfold Stop
   try simp only [Act.put, zzC, zzD, zzE]
   go_wp2
   go_roundw
   case rel => exact ⟨i + 1, _, by omega, by go_num, hZ40⟩
   case measure => simp [intOf]; omega
  ·
   obtain rfl : n = i := by omega
   go_wp2_with (refine stop_op rfl (fun K hK => wp_lenq (.tmp 87) 27 30 s6 rfl (by kernel_rfl) rfl (hZ.get 0 (f := Ls n (M.mulv n (mir c R) (crx n (mir c R) (xl kx x))) s6) rfl).n (hK _ _ ?_)))
   unfold Stop
   try simp only [Act.put, zzC, zzD, zzE]
   go_wp2_with (refine stop_op rfl (fun K hK => wp_lssi (.tmp 86) (.tmp 88) rfl rfl rfl (r := false) (decide_eq_false (Int.lt_irrefl _)) (hK _ _ ?_)))
   unfold Stop
   try simp only [Act.put, zzC, zzD, zzE]
   go_wp2_with (refine stop_op rfl (fun K hK => wp_load 30 (.tmp 14) rfl bk3 0 2 #[.bool dn.b, .slice dn.a dn.n dn.c] #[.bool dn.b, .slice dn.a dn.n dn.c] 30 (hZ.es.at' _ (zzG (i := 1) rfl)) rfl ag30 sz30 (zzF (by kernel_rfl)) (by kernel_rfl) (hK _ _ ?_)))
   unfold Stop
   try simp only [Act.put, zzC, zzD, zzE]
   go_wp2_with fail
   refine (zSign (hZ.get 2 (f := dn.is) rfl) ez_dn).mono ?_
   rintro zz W17 ⟨rfl, hB⟩
   have hZ41 := hZ.later hB
   clear hB
   clear hZ
   go_wp2_with (refine stop_op rfl (fun K hK => wp_fda (v := .pointer (some ⟨bk1, 0, none⟩)) 32 (.tmp 10) 0 rfl rfl (fun _ => by kernel_rfl) (hK _ _ ?_)))
   unfold Stop
   try simp only [Act.put, zzC, zzD, zzE]
   go_wp2_with (refine stop_op rfl (fun K hK => wp_load1 (v := pf.v) 26 (.tmp 108) rfl bk1 0 #[pf.v, sf.v, .bool cf.b, .slice cf.a cf.n cf.c] 32 (hZ41.es.at' _ (zzG (i := 3) rfl)) rfl ag26 (by kernel_rfl) (hK _ _ ?_)))
   unfold Stop
   try simp only [Act.put, zzC, zzD, zzE]
   go_wp2_with fail
   refine (lQuad hZ41.nx pf sn (e := 2 + (dtb 2 n)) (hZ41.get 6 (f := Mt n (fun _ => n) (mir c R) pf) rfl) (hZ41.get 3 (f := Ls n (crx n (mir c R) (xl kx x)) sn) rfl) (fun i k hi hk => (BPm i k hi hk).mono (Nat.le_add_right _ _)) (fun k hk => ((fun (j : Nat) _ => crx_sz BPm BQm j) k hk).mono (Nat.le_add_left _ _)) (by omega) (by omega)).mono ?_
   rintro zz W18 ⟨q10, rfl, ez_q10, hi_q10, hB⟩
   have hZ42 := hZ41.later hB
   clear hB
   clear hZ41
   have hZ43 := hZ42.more (f := q10.is) q10.stb hi_q10
   clear hZ42
   clear hi_q10
   go_wp2_with (refine stopz_alloc 30 #[.bool false, .slice none 0 0] (.agg #[.bool false, .slice none 0 0]) rfl rfl zv30 rfl hZ43 (fun bk5 X44 W19 hZ44 => ?_))
   clear hZ43
   unfold Stop
   try simp only [Act.put, zzC, zzD, zzE]
   go_wp2_with (refine stopz_store 30 (.tmp 25) (.tmp 111) 0 bk5 0 #[.bool false, .slice none 0 0] 30 2 [.bool q10.b, .slice q10.a q10.n q10.c] #[.bool q10.b, .slice q10.a q10.n q10.c] [(bk5, #[.bool q10.b, .slice q10.a q10.n q10.c], 30), (bk4, #[.bool tn.b, .slice tn.a tn.n tn.c], 30), (bk3, #[.bool dn.b, .slice dn.a dn.n dn.c], 30), (bk2, #[pd.v, sd.v, .bool cd.b, .slice cd.a cd.n cd.c], 45), (bk1, #[pf.v, sf.v, .bool cf.b, .slice cf.a cf.n cf.c], 32)] rfl rfl rfl rfl sz30 hZ44 rfl rfl (zzF (by kernel_rfl)) (by kernel_rfl) (by kernel_rfl) (by kernel_rfl) (fun W20 hZ45 => ?_))
   clear hZ44
   unfold Stop
   try simp only [Act.put, zzC, zzD, zzE]
   have hZ46 := hZ45.only [q10.is, tn.is, dn.is, Ls n (crx n (mir c R) (xl kx x)) sn, cf.is, Ls n (xl kx x) sf, Mt n (fun _ => n) (mir c R) pf] (by simp)
   clear hZ45
   go_wp2
   obtain ⟨wo, rfl⟩ : ∃ wo : World, wo = wr := ⟨_, rfl⟩
   go_wp2
   go_loopw [26] (fun iv wr => ∃ (i : Nat) (tq : NL) (X : Nat → Prop), i ≤ n ∧ iv = .int .i64 ((i : Nat) : Int) ∧ tq.z = Th n (mir c R) (xl kx x) i ∧ Zs w wr X0 X [(bk5, #[.bool tq.b, .slice tq.a tq.n tq.c], 30), (bk4, #[.bool tn.b, .slice tn.a tn.n tn.c], 30), (bk3, #[.bool dn.b, .slice dn.a dn.n dn.c], 30), (bk2, #[pd.v, sd.v, .bool cd.b, .slice cd.a cd.n cd.c], 45), (bk1, #[pf.v, sf.v, .bool cf.b, .slice cf.a cf.n cf.c], 32)] [tq.is, tn.is, dn.is, Ls n (crx n (mir c R) (xl kx x)) sn, cf.is, Ls n (xl kx x) sf, Mt n (fun _ => n) (mir c R) pf]) (fun iv _ => n - (intOf iv).toNat)
   case atStart => exact ⟨0, q10, _, by omega, rfl, ez_q10.trans (Int.sub_zero _).symm, hZ46⟩
   case round =>
    clear hZ46
    obtain ⟨i, tq, X, hi2, rfl, ez_tq, hZ2⟩ := hrel
    by_cases hlt2 : i < n
    ·
     go_wp2_with (refine stop_op rfl (fun K hK => wp_lenq (.tmp 113) 27 30 sn rfl (by kernel_rfl) rfl (hZ2.get 3 (f := Ls n (crx n (mir c R) (xl kx x)) sn) rfl).n (hK _ _ ?_)))
     unfold Stop
     try simp only [Act.put, zzC, zzD, zzE]
     go_wp2_with (refine stop_op rfl (fun K hK => wp_lssi (.tmp 112) (.tmp 114) rfl rfl rfl (r := true) (decide_eq_true (by omega)) (hK _ _ ?_)))
     unfold Stop
     try simp only [Act.put, zzC, zzD, zzE]
     go_wp2
     obtain ⟨XR25, hZ47⟩ : ∃ Xr, Zs w wr X0 Xr [(bk5, #[.bool tq.b, .slice tq.a tq.n tq.c], 30), (bk4, #[.bool tn.b, .slice tn.a tn.n tn.c], 30), (bk3, #[.bool dn.b, .slice dn.a dn.n dn.c], 30), (bk2, #[pd.v, sd.v, .bool cd.b, .slice cd.a cd.n cd.c], 45), (bk1, #[pf.v, sf.v, .bool cf.b, .slice cf.a cf.n cf.c], 32)] [tq.is, tn.is, dn.is, Ls n (crx n (mir c R) (xl kx x)) sn, cf.is, Ls n (xl kx x) sf, Mt n (fun _ => n) (mir c R) pf] := ⟨_, hZ2⟩
     clear hZ2
     have hVS25 : ∀ kq, kq ∈ ([veq (tq.v), vnum (2), veq (.pointer (some ⟨bk1, 1, none⟩)), veq (sf.v), veq (.int .i64 (((i : Nat) : Int))), veq ((sf.at 2 i)), vnum (xl kx x i), vnum (2 * (xl kx x i)), veq (sn.v), veq (.int .i64 (((i : Nat) : Int))), veq ((sn.at 2 i)), vnum (crx n (mir c R) (xl kx x) i), vnum ((2 * (xl kx x i)) * (crx n (mir c R) (xl kx x) i)), veq (dn.v), vnum (((2 * (xl kx x i)) * (crx n (mir c R) (xl kx x) i)) * (M.dt n (mir c R))), vnum ((Th n (mir c R) (xl kx x) i) - (((2 * (xl kx x i)) * (crx n (mir c R) (xl kx x) i)) * (M.dt n (mir c R))))] : List VF) → VSt kq := by
      intro kq hkq
      simp only [List.mem_cons, List.not_mem_nil, or_false] at hkq
      rcases hkq with rfl | rfl | rfl | rfl | rfl | rfl | rfl | rfl | rfl | rfl | rfl | rfl | rfl | rfl | rfl | rfl
      ·
       exact (veq_se _).st
      ·
       exact (vnum_se _).st
      ·
       exact (veq_se _).st
      ·
       exact (veq_se _).st
      ·
       exact (veq_se _).st
      ·
       exact (veq_se _).st
      ·
       exact (vnum_se _).st
      ·
       exact (vnum_se _).st
      ·
       exact (veq_se _).st
      ·
       exact (veq_se _).st
      ·
       exact (veq_se _).st
      ·
       exact (vnum_se _).st
      ·
       exact (vnum_se _).st
      ·
       exact (veq_se _).st
      ·
       exact (vnum_se _).st
      ·
       exact (vnum_se _).st
     refine wp_region_s 16 [some 118, some 119, some 120, some 121, some 122, some 123, some 124, some 125, some 126, some 127, some 128, some 129, some 130, some 131, some 132, some 133] [veq (tq.v), vnum (2), veq (.pointer (some ⟨bk1, 1, none⟩)), veq (sf.v), veq (.int .i64 (((i : Nat) : Int))), veq ((sf.at 2 i)), vnum (xl kx x i), vnum (2 * (xl kx x i)), veq (sn.v), veq (.int .i64 (((i : Nat) : Int))), veq ((sn.at 2 i)), vnum (crx n (mir c R) (xl kx x) i), vnum ((2 * (xl kx x i)) * (crx n (mir c R) (xl kx x) i)), veq (dn.v), vnum (((2 * (xl kx x i)) * (crx n (mir c R) (xl kx x) i)) * (M.dt n (mir c R))), vnum ((Th n (mir c R) (xl kx x) i) - (((2 * (xl kx x i)) * (crx n (mir c R) (xl kx x) i)) * (M.dt n (mir c R))))] (fun _ _ X1 l1 => XR25 = X1 ∧ [(bk5, #[.bool tq.b, .slice tq.a tq.n tq.c], 30), (bk4, #[.bool tn.b, .slice tn.a tn.n tn.c], 30), (bk3, #[.bool dn.b, .slice dn.a dn.n dn.c], 30), (bk2, #[pd.v, sd.v, .bool cd.b, .slice cd.a cd.n cd.c], 45), (bk1, #[pf.v, sf.v, .bool cf.b, .slice cf.a cf.n cf.c], 32)] = l1) [tq.is, tn.is, dn.is, Ls n (crx n (mir c R) (xl kx x)) sn, cf.is, Ls n (xl kx x) sf, Mt n (fun _ => n) (mir c R) pf] (by kernel_rfl) (by kernel_rfl) (by rfl) (by decide) (by rfl) (fun _ => ⟨XR25, _, ⟨rfl, rfl⟩, hZ47.later (Below.refl _ _).drew⟩) ?_ ?_
     ·
      intro iq hlq hiq LL uu ww aa X1 l1 hLi hLc hR hJ hd hall hev hin hold
      clear hZ47
      obtain rfl | rfl | rfl | rfl | rfl | rfl | rfl | rfl | rfl | rfl | rfl | rfl | rfl | rfl | rfl | rfl : iq = 0 ∨ iq = 1 ∨ iq = 2 ∨ iq = 3 ∨ iq = 4 ∨ iq = 5 ∨ iq = 6 ∨ iq = 7 ∨ iq = 8 ∨ iq = 9 ∨ iq = 10 ∨ iq = 11 ∨ iq = 12 ∨ iq = 13 ∨ iq = 14 ∨ iq = 15 := by omega
      ·
       refine opS_z hJ (fun _ => hR) ?_
       obtain ⟨eX, el⟩ := hR
       subst eX
       subst el
       exact .inr ⟨rfl, fun K' hK => wp_load 30 (.tmp 25) rfl bk5 0 2 #[.bool tq.b, .slice tq.a tq.n tq.c] #[.bool tq.b, .slice tq.a tq.n tq.c] 30 (hJ.es.at' _ (zzG (i := 0) rfl)) (eval_tmp ((hev 25 (by decide)).trans rfl)) ag30 sz30 (zzF (by kernel_rfl)) (by kernel_rfl) (hK _ _ hJ rfl vzL_same)⟩
      ·
       refine opS_z hJ (fun _ => hR) ?_
       obtain ⟨eX, el⟩ := hR
       subst eX
       subst el
       refine .inr ⟨rfl, fun K' hK => ?_⟩
       refine wp_callz (.func 38) #[.const (.int .i64 2)] #[2] 38 #[] #[.int .i64 2] _ rfl rfl (map1 rfl) rfl (fun _ _ => rfl) (zOf hJ.nx (by decide) (by decide)) ?_
       rintro zz ww2 ⟨q11, rfl, ez_q11, hi_q11, hB⟩
       exact ⟨_, rfl, hK _ _ (hJ.later hB) ⟨q11, rfl, ez_q11, hi_q11⟩ (vzL_later hVS25 hB)⟩
      ·
       refine opS_z hJ (fun _ => hR) ?_
       obtain ⟨eX, el⟩ := hR
       subst eX
       subst el
       exact .inr ⟨rfl, fun K' hK => wp_fda (v := .pointer (some ⟨bk1, 1, none⟩)) 32 (.tmp 10) 1 rfl (eval_tmp ((hev 10 (by decide)).trans rfl)) (fun _ => by kernel_rfl) (hK _ _ hJ rfl vzL_same)⟩
      ·
       refine opS_z hJ (fun _ => hR) ?_
       obtain ⟨eX, el⟩ := hR
       subst eX
       subst el
       exact .inr ⟨rfl, fun K' hK => wp_load1 (v := sf.v) 27 (.tmp 120) rfl bk1 1 #[pf.v, sf.v, .bool cf.b, .slice cf.a cf.n cf.c] 32 (hJ.es.at' _ (zzG (i := 4) rfl)) (eval_tmp ((hin 2 120 rfl).trans (congrArg some (show uu 2 = .pointer (some ⟨bk1, 1, none⟩) from (hd 2 (by decide) (by kernel_rfl)).2)))) ag27 (by kernel_rfl) (hK _ _ hJ rfl vzL_same)⟩
      ·
       refine opS_z hJ (fun _ => hR) ?_
       obtain ⟨eX, el⟩ := hR
       subst eX
       subst el
       exact .inr ⟨rfl, fun K' hK => wp_move (.tmp 26) rfl (eval_tmp ((hev 26 (by decide)).trans rfl)) (hK _ _ hJ rfl vzL_same)⟩
      ·
       refine opS_z hJ (fun _ => hR) ?_
       obtain ⟨eX, el⟩ := hR
       subst eX
       subst el
       exact .inr ⟨rfl, fun K' hK => wp_ixs 27 (.tmp 121) (.tmp 122) sf i 2 30 rfl (eval_tmp ((hin 3 121 rfl).trans (congrArg some (show uu 3 = sf.v from (hd 3 (by decide) (by kernel_rfl)).2)))) (eval_tmp ((hin 4 122 rfl).trans (congrArg some (show uu 4 = .int .i64 (((i : Nat) : Int)) from (hd 4 (by decide) (by kernel_rfl)).2)))) (by kernel_rfl) sz30 (fun h => ((hJ.get 5 (f := Ls n (xl kx x) sf) rfl).sq.nil h).1) ((hJ.get 5 (f := Ls n (xl kx x) sf) rfl).n ▸ (by omega)) (hK _ _ hJ rfl vzL_same)⟩
      ·
       refine opS_z hJ (fun _ => hR) ?_
       obtain ⟨eX, el⟩ := hR
       subst eX
       subst el
       exact .inr ⟨rfl, fun K' hK => wp_ldn 30 (.tmp 123) sf i n (xl kx x) rfl (eval_tmp ((hin 5 123 rfl).trans (congrArg some (show uu 5 = (sf.at 2 i) from (hd 5 (by decide) (by kernel_rfl)).2)))) (hJ.get 5 (f := Ls n (xl kx x) sf) rfl) (by omega) ag30 sz30 (fun q12 ez_q12 hi_q12 => hK _ _ hJ ⟨q12, rfl, ez_q12, hi_q12⟩ vzL_same)⟩
      ·
       refine opS_z hJ (fun _ => hR) ?_
       obtain ⟨eX, el⟩ := hR
       subst eX
       subst el
       obtain ⟨q11, e1, ez_q11, hi_q11⟩ := (show (vnum (2)) (uu 1) XR25 ww from (hd 1 (by decide) (by kernel_rfl)).2)
       obtain ⟨q12, e6, ez_q12, hi_q12⟩ := (show (vnum (xl kx x i)) (uu 6) XR25 ww from (hd 6 (by decide) (by kernel_rfl)).2)
       replace hJ := hJ.more (f := q11.is) q11.stb hi_q11
       replace hJ := hJ.more (f := q12.is) q12.stb hi_q12
       refine .inr ⟨rfl, fun K' hK => ?_⟩
       refine wp_callz (.func 32) #[.tmp 119, .tmp 124] #[30, 30] 32 #[] #[q11.v, q12.v] _ rfl rfl (map2 (eval_tmp ((hin 1 119 rfl).trans (congrArg some e1))) (eval_tmp ((hin 6 124 rfl).trans (congrArg some e6)))) rfl (fun _ _ => rfl) (zMul hJ.nx (hJ.get 1 (f := q11.is) rfl) (hJ.get 0 (f := q12.is) rfl) ez_q11 ez_q12 (sz_int (by decide) (by decide)) (BQm i (by omega)) (by omega) (by omega)) ?_
       rintro zz ww2 ⟨q13, rfl, ez_q13, hi_q13, hB⟩
       exact ⟨_, rfl, hK _ _ ((hJ.only [tq.is, tn.is, dn.is, Ls n (crx n (mir c R) (xl kx x)) sn, cf.is, Ls n (xl kx x) sf, Mt n (fun _ => n) (mir c R) pf] (by simp)).later hB) ⟨q13, rfl, ez_q13, hi_q13⟩ (vzL_later hVS25 hB)⟩
      ·
       refine opS_z hJ (fun _ => hR) ?_
       obtain ⟨eX, el⟩ := hR
       subst eX
       subst el
       exact .inr ⟨rfl, fun K' hK => wp_move (.tmp 13) rfl (eval_tmp ((hev 13 (by decide)).trans rfl)) (hK _ _ hJ rfl vzL_same)⟩
      ·
       refine opS_z hJ (fun _ => hR) ?_
       obtain ⟨eX, el⟩ := hR
       subst eX
       subst el
       exact .inr ⟨rfl, fun K' hK => wp_move (.tmp 26) rfl (eval_tmp ((hev 26 (by decide)).trans rfl)) (hK _ _ hJ rfl vzL_same)⟩
      ·
       refine opS_z hJ (fun _ => hR) ?_
       obtain ⟨eX, el⟩ := hR
       subst eX
       subst el
       exact .inr ⟨rfl, fun K' hK => wp_ixs 27 (.tmp 126) (.tmp 127) sn i 2 30 rfl (eval_tmp ((hin 8 126 rfl).trans (congrArg some (show uu 8 = sn.v from (hd 8 (by decide) (by kernel_rfl)).2)))) (eval_tmp ((hin 9 127 rfl).trans (congrArg some (show uu 9 = .int .i64 (((i : Nat) : Int)) from (hd 9 (by decide) (by kernel_rfl)).2)))) (by kernel_rfl) sz30 (fun h => ((hJ.get 3 (f := Ls n (crx n (mir c R) (xl kx x)) sn) rfl).sq.nil h).1) ((hJ.get 3 (f := Ls n (crx n (mir c R) (xl kx x)) sn) rfl).n ▸ (by omega)) (hK _ _ hJ rfl vzL_same)⟩
      ·
       refine opS_z hJ (fun _ => hR) ?_
       obtain ⟨eX, el⟩ := hR
       subst eX
       subst el
       exact .inr ⟨rfl, fun K' hK => wp_ldn 30 (.tmp 128) sn i n (crx n (mir c R) (xl kx x)) rfl (eval_tmp ((hin 10 128 rfl).trans (congrArg some (show uu 10 = (sn.at 2 i) from (hd 10 (by decide) (by kernel_rfl)).2)))) (hJ.get 3 (f := Ls n (crx n (mir c R) (xl kx x)) sn) rfl) (by omega) ag30 sz30 (fun q14 ez_q14 hi_q14 => hK _ _ hJ ⟨q14, rfl, ez_q14, hi_q14⟩ vzL_same)⟩
      ·
       refine opS_z hJ (fun _ => hR) ?_
       obtain ⟨eX, el⟩ := hR
       subst eX
       subst el
       obtain ⟨q13, e7, ez_q13, hi_q13⟩ := (show (vnum (2 * (xl kx x i))) (uu 7) XR25 ww from (hd 7 (by decide) (by kernel_rfl)).2)
       obtain ⟨q14, e11, ez_q14, hi_q14⟩ := (show (vnum (crx n (mir c R) (xl kx x) i)) (uu 11) XR25 ww from (hd 11 (by decide) (by kernel_rfl)).2)
       replace hJ := hJ.more (f := q13.is) q13.stb hi_q13
       replace hJ := hJ.more (f := q14.is) q14.stb hi_q14
       refine .inr ⟨rfl, fun K' hK => ?_⟩
       refine wp_callz (.func 32) #[.tmp 125, .tmp 129] #[30, 30] 32 #[] #[q13.v, q14.v] _ rfl rfl (map2 (eval_tmp ((hin 7 125 rfl).trans (congrArg some e7))) (eval_tmp ((hin 11 129 rfl).trans (congrArg some e11)))) rfl (fun _ _ => rfl) (zMul hJ.nx (hJ.get 1 (f := q13.is) rfl) (hJ.get 0 (f := q14.is) rfl) ez_q13 ez_q14 (Sz.mul (sz_int (by decide) (by decide)) (BQm i (by omega))) ((fun (j : Nat) _ => crx_sz BPm BQm j) i (by omega)) (by omega) (by omega)) ?_
       rintro zz ww2 ⟨q15, rfl, ez_q15, hi_q15, hB⟩
       exact ⟨_, rfl, hK _ _ ((hJ.only [tq.is, tn.is, dn.is, Ls n (crx n (mir c R) (xl kx x)) sn, cf.is, Ls n (xl kx x) sf, Mt n (fun _ => n) (mir c R) pf] (by simp)).later hB) ⟨q15, rfl, ez_q15, hi_q15⟩ (vzL_later hVS25 hB)⟩
      ·
       refine opS_z hJ (fun _ => hR) ?_
       obtain ⟨eX, el⟩ := hR
       subst eX
       subst el
       exact .inr ⟨rfl, fun K' hK => wp_load 30 (.tmp 14) rfl bk3 0 2 #[.bool dn.b, .slice dn.a dn.n dn.c] #[.bool dn.b, .slice dn.a dn.n dn.c] 30 (hJ.es.at' _ (zzG (i := 2) rfl)) (eval_tmp ((hev 14 (by decide)).trans rfl)) ag30 sz30 (zzF (by kernel_rfl)) (by kernel_rfl) (hK _ _ hJ rfl vzL_same)⟩
      ·
       refine opS_z hJ (fun _ => hR) ?_
       obtain ⟨eX, el⟩ := hR
       subst eX
       subst el
       obtain ⟨q15, e12, ez_q15, hi_q15⟩ := (show (vnum ((2 * (xl kx x i)) * (crx n (mir c R) (xl kx x) i))) (uu 12) XR25 ww from (hd 12 (by decide) (by kernel_rfl)).2)
       replace hJ := hJ.more (f := q15.is) q15.stb hi_q15
       refine .inr ⟨rfl, fun K' hK => ?_⟩
       refine wp_callz (.func 32) #[.tmp 130, .tmp 131] #[30, 30] 32 #[] #[q15.v, dn.v] _ rfl rfl (map2 (eval_tmp ((hin 12 130 rfl).trans (congrArg some e12))) (eval_tmp ((hin 13 131 rfl).trans (congrArg some (show uu 13 = dn.v from (hd 13 (by decide) (by kernel_rfl)).2))))) rfl (fun _ _ => rfl) (zMul hJ.nx (hJ.get 0 (f := q15.is) rfl) (hJ.get 3 (f := dn.is) rfl) ez_q15 ez_dn (Sz.mul (Sz.mul (sz_int (by decide) (by decide)) (BQm i (by omega))) ((fun (j : Nat) _ => crx_sz BPm BQm j) i (by omega))) (dt_sz BPm) (by omega) (by omega)) ?_
       rintro zz ww2 ⟨q16, rfl, ez_q16, hi_q16, hB⟩
       exact ⟨_, rfl, hK _ _ ((hJ.only [tq.is, tn.is, dn.is, Ls n (crx n (mir c R) (xl kx x)) sn, cf.is, Ls n (xl kx x) sf, Mt n (fun _ => n) (mir c R) pf] (by simp)).later hB) ⟨q16, rfl, ez_q16, hi_q16⟩ (vzL_later hVS25 hB)⟩
      ·
       refine opS_z hJ (fun _ => hR) ?_
       obtain ⟨eX, el⟩ := hR
       subst eX
       subst el
       obtain ⟨q16, e14, ez_q16, hi_q16⟩ := (show (vnum (((2 * (xl kx x i)) * (crx n (mir c R) (xl kx x) i)) * (M.dt n (mir c R)))) (uu 14) XR25 ww from (hd 14 (by decide) (by kernel_rfl)).2)
       replace hJ := hJ.more (f := q16.is) q16.stb hi_q16
       refine .inr ⟨rfl, fun K' hK => ?_⟩
       refine wp_callz (.func 37) #[.tmp 118, .tmp 132] #[30, 30] 37 #[] #[tq.v, q16.v] _ rfl rfl (map2 (eval_tmp ((hin 0 118 rfl).trans (congrArg some (show uu 0 = tq.v from (hd 0 (by decide) (by kernel_rfl)).2)))) (eval_tmp ((hin 14 132 rfl).trans (congrArg some e14)))) rfl (fun _ _ => rfl) (zSub hJ.nx (hJ.get 1 (f := tq.is) rfl) (hJ.get 0 (f := q16.is) rfl) ez_tq ez_q16 (th_sz (by omega) (by omega) BPm BQm) (Sz.mul (Sz.mul (Sz.mul (sz_int (by decide) (by decide)) (BQm i (by omega))) ((fun (j : Nat) _ => crx_sz BPm BQm j) i (by omega))) (dt_sz BPm)) (by omega) (by omega)) ?_
       rintro zz ww2 ⟨q17, rfl, ez_q17, hi_q17, hB⟩
       exact ⟨_, rfl, hK _ _ ((hJ.only [tq.is, tn.is, dn.is, Ls n (crx n (mir c R) (xl kx x)) sn, cf.is, Ls n (xl kx x) sf, Mt n (fun _ => n) (mir c R) pf] (by simp)).later hB) ⟨q17, rfl, ez_q17, hi_q17⟩ (vzL_later hVS25 hB)⟩
     clear hZ47
     intro LL uu W21 X1 l1 hLL hR hZ48 hd
     obtain ⟨eX, el⟩ := hR
     subst eX
     subst el
     have e_0 : uu 0 = tq.v := hd 0 (by decide)
     obtain ⟨q11, e_1, ez_q11, hi_q11⟩ := (show (vnum (2)) (uu 1) XR25 W21 from hd 1 (by decide))
     have e_2 : uu 2 = .pointer (some ⟨bk1, 1, none⟩) := hd 2 (by decide)
     have e_3 : uu 3 = sf.v := hd 3 (by decide)
     have e_4 : uu 4 = .int .i64 (((i : Nat) : Int)) := hd 4 (by decide)
     have e_5 : uu 5 = (sf.at 2 i) := hd 5 (by decide)
     obtain ⟨q12, e_6, ez_q12, hi_q12⟩ := (show (vnum (xl kx x i)) (uu 6) XR25 W21 from hd 6 (by decide))
     obtain ⟨q13, e_7, ez_q13, hi_q13⟩ := (show (vnum (2 * (xl kx x i))) (uu 7) XR25 W21 from hd 7 (by decide))
     have e_8 : uu 8 = sn.v := hd 8 (by decide)
     have e_9 : uu 9 = .int .i64 (((i : Nat) : Int)) := hd 9 (by decide)
     have e_10 : uu 10 = (sn.at 2 i) := hd 10 (by decide)
     obtain ⟨q14, e_11, ez_q14, hi_q14⟩ := (show (vnum (crx n (mir c R) (xl kx x) i)) (uu 11) XR25 W21 from hd 11 (by decide))
     obtain ⟨q15, e_12, ez_q15, hi_q15⟩ := (show (vnum ((2 * (xl kx x i)) * (crx n (mir c R) (xl kx x) i))) (uu 12) XR25 W21 from hd 12 (by decide))
     have e_13 : uu 13 = dn.v := hd 13 (by decide)
     obtain ⟨q16, e_14, ez_q16, hi_q16⟩ := (show (vnum (((2 * (xl kx x i)) * (crx n (mir c R) (xl kx x) i)) * (M.dt n (mir c R)))) (uu 14) XR25 W21 from hd 14 (by decide))
     obtain ⟨q17, e_15, ez_q17, hi_q17⟩ := (show (vnum ((Th n (mir c R) (xl kx x) i) - (((2 * (xl kx x i)) * (crx n (mir c R) (xl kx x) i)) * (M.dt n (mir c R))))) (uu 15) XR25 W21 from hd 15 (by decide))
     clear hd hVS25
     simp only [layS, Act.put, zzC, zzD, zzE, Nat.zero_add, Nat.reduceAdd, List.drop_succ_cons, List.drop_zero, List.drop_nil, e_0, e_1, e_2, e_3, e_4, e_5, e_6, e_7, e_8, e_9, e_10, e_11, e_12, e_13, e_14, e_15]
     clear e_0 e_1 e_2 e_3 e_4 e_5 e_6 e_7 e_8 e_9 e_10 e_11 e_12 e_13 e_14 e_15
     have hZ49 := hZ48.more (f := q11.is) q11.stb hi_q11
     clear hZ48
     clear hi_q11
     have hZ50 := hZ49.more (f := q12.is) q12.stb hi_q12
     clear hZ49
     clear hi_q12
     have hZ51 := hZ50.more (f := q13.is) q13.stb hi_q13
     clear hZ50
     clear hi_q13
     have hZ52 := hZ51.more (f := q14.is) q14.stb hi_q14
     clear hZ51
     clear hi_q14
     have hZ53 := hZ52.more (f := q15.is) q15.stb hi_q15
     clear hZ52
     clear hi_q15
     have hZ54 := hZ53.more (f := q16.is) q16.stb hi_q16
     clear hZ53
     clear hi_q16
     have hZ55 := hZ54.more (f := q17.is) q17.stb hi_q17
     clear hZ54
     clear hi_q17
     go_wp2_with (refine stopz_store 30 (.tmp 25) (.tmp 133) 0 bk5 0 #[.bool tq.b, .slice tq.a tq.n tq.c] 30 2 [.bool q17.b, .slice q17.a q17.n q17.c] #[.bool q17.b, .slice q17.a q17.n q17.c] [(bk5, #[.bool q17.b, .slice q17.a q17.n q17.c], 30), (bk4, #[.bool tn.b, .slice tn.a tn.n tn.c], 30), (bk3, #[.bool dn.b, .slice dn.a dn.n dn.c], 30), (bk2, #[pd.v, sd.v, .bool cd.b, .slice cd.a cd.n cd.c], 45), (bk1, #[pf.v, sf.v, .bool cf.b, .slice cf.a cf.n cf.c], 32)] rfl rfl rfl rfl sz30 hZ55 rfl rfl (zzF (by kernel_rfl)) (by kernel_rfl) (by kernel_rfl) (by kernel_rfl) (fun W22 hZ56 => ?_))
     clear hZ55
     unfold Stop
     try simp only [Act.put, zzC, zzD, zzE]
     have hZ57 := hZ56.only [q17.is, tn.is, dn.is, Ls n (crx n (mir c R) (xl kx x)) sn, cf.is, Ls n (xl kx x) sf, Mt n (fun _ => n) (mir c R) pf] (by simp)
     clear hZ56
     go_wp2_with (refine stop_op rfl (fun K hK => wp_addi (.tmp 116) (.const (.int .i64 1)) rfl rfl rfl (C := ((i + 1 : Nat) : Int)) (by omega) (by omega) (by omega) (hK _ _ ?_)))
     unfold Stop
     try simp only [Act.put, zzC, zzD, zzE]
     go_wp2
     go_roundw
     case rel => exact ⟨i + 1, q17, _, by omega, by go_num, ez_q17.trans (th_step i), hZ57⟩
     case measure => simp [intOf]; omega
    ·
     obtain rfl : n = i := by omega
     go_wp2_with (refine stop_op rfl (fun K hK => wp_lenq (.tmp 113) 27 30 sn rfl (by kernel_rfl) rfl (hZ2.get 3 (f := Ls n (crx n (mir c R) (xl kx x)) sn) rfl).n (hK _ _ ?_)))
     unfold Stop
     try simp only [Act.put, zzC, zzD, zzE]
     go_wp2_with (refine stop_op rfl (fun K hK => wp_lssi (.tmp 112) (.tmp 114) rfl rfl rfl (r := false) (decide_eq_false (Int.lt_irrefl _)) (hK _ _ ?_)))
     unfold Stop
     try simp only [Act.put, zzC, zzD, zzE]
     go_wp2
     obtain ⟨XR26, hZ58⟩ : ∃ Xr, Zs w wr X0 Xr [(bk5, #[.bool tq.b, .slice tq.a tq.n tq.c], 30), (bk4, #[.bool tn.b, .slice tn.a tn.n tn.c], 30), (bk3, #[.bool dn.b, .slice dn.a dn.n dn.c], 30), (bk2, #[pd.v, sd.v, .bool cd.b, .slice cd.a cd.n cd.c], 45), (bk1, #[pf.v, sf.v, .bool cf.b, .slice cf.a cf.n cf.c], 32)] [tq.is, tn.is, dn.is, Ls n (crx n (mir c R) (xl kx x)) sn, cf.is, Ls n (xl kx x) sf, Mt n (fun _ => n) (mir c R) pf] := ⟨_, hZ2⟩
     clear hZ2
     have hVS26 : ∀ kq, kq ∈ ([veq (tq.v), veq (.pointer (some ⟨bk1, 2, none⟩)), veq (cf.v), veq (dn.v), vnum (cc * (M.dt n (mir c R))), veq (dn.v), vnum ((cc * (M.dt n (mir c R))) * (M.dt n (mir c R)))] : List VF) → VSt kq := by
      intro kq hkq
      simp only [List.mem_cons, List.not_mem_nil, or_false] at hkq
      rcases hkq with rfl | rfl | rfl | rfl | rfl | rfl | rfl
      ·
       exact (veq_se _).st
      ·
       exact (veq_se _).st
      ·
       exact (veq_se _).st
      ·
       exact (veq_se _).st
      ·
       exact (vnum_se _).st
      ·
       exact (veq_se _).st
      ·
       exact (vnum_se _).st
     refine wp_region_s 7 [some 134, some 135, some 136, some 137, some 138, some 139, some 140] [veq (tq.v), veq (.pointer (some ⟨bk1, 2, none⟩)), veq (cf.v), veq (dn.v), vnum (cc * (M.dt n (mir c R))), veq (dn.v), vnum ((cc * (M.dt n (mir c R))) * (M.dt n (mir c R)))] (fun _ _ X1 l1 => XR26 = X1 ∧ [(bk5, #[.bool tq.b, .slice tq.a tq.n tq.c], 30), (bk4, #[.bool tn.b, .slice tn.a tn.n tn.c], 30), (bk3, #[.bool dn.b, .slice dn.a dn.n dn.c], 30), (bk2, #[pd.v, sd.v, .bool cd.b, .slice cd.a cd.n cd.c], 45), (bk1, #[pf.v, sf.v, .bool cf.b, .slice cf.a cf.n cf.c], 32)] = l1) [tq.is, tn.is, dn.is, Ls n (crx n (mir c R) (xl kx x)) sn, cf.is, Ls n (xl kx x) sf, Mt n (fun _ => n) (mir c R) pf] (by kernel_rfl) (by kernel_rfl) (by rfl) (by decide) (by rfl) (fun _ => ⟨XR26, _, ⟨rfl, rfl⟩, hZ58.later (Below.refl _ _).drew⟩) ?_ ?_
     ·
      intro iq hlq hiq LL uu ww aa X1 l1 hLi hLc hR hJ hd hall hev hin hold
      clear hZ58
      obtain rfl | rfl | rfl | rfl | rfl | rfl | rfl : iq = 0 ∨ iq = 1 ∨ iq = 2 ∨ iq = 3 ∨ iq = 4 ∨ iq = 5 ∨ iq = 6 := by omega
      ·
       refine opS_z hJ (fun _ => hR) ?_
       obtain ⟨eX, el⟩ := hR
       subst eX
       subst el
       exact .inr ⟨rfl, fun K' hK => wp_load 30 (.tmp 25) rfl bk5 0 2 #[.bool tq.b, .slice tq.a tq.n tq.c] #[.bool tq.b, .slice tq.a tq.n tq.c] 30 (hJ.es.at' _ (zzG (i := 0) rfl)) (eval_tmp ((hev 25 (by decide)).trans rfl)) ag30 sz30 (zzF (by kernel_rfl)) (by kernel_rfl) (hK _ _ hJ rfl vzL_same)⟩
      ·
       refine opS_z hJ (fun _ => hR) ?_
       obtain ⟨eX, el⟩ := hR
       subst eX
       subst el
       exact .inr ⟨rfl, fun K' hK => wp_fda (v := .pointer (some ⟨bk1, 2, none⟩)) 32 (.tmp 10) 2 rfl (eval_tmp ((hev 10 (by decide)).trans rfl)) (fun _ => by kernel_rfl) (hK _ _ hJ rfl vzL_same)⟩
      ·
       refine opS_z hJ (fun _ => hR) ?_
       obtain ⟨eX, el⟩ := hR
       subst eX
       subst el
       exact .inr ⟨rfl, fun K' hK => wp_load 30 (.tmp 135) rfl bk1 2 2 #[pf.v, sf.v, .bool cf.b, .slice cf.a cf.n cf.c] #[.bool cf.b, .slice cf.a cf.n cf.c] 32 (hJ.es.at' _ (zzG (i := 4) rfl)) (eval_tmp ((hin 1 135 rfl).trans (congrArg some (show uu 1 = .pointer (some ⟨bk1, 2, none⟩) from (hd 1 (by decide) (by kernel_rfl)).2)))) ag30 sz30 (zzF (by kernel_rfl)) (by kernel_rfl) (hK _ _ hJ rfl vzL_same)⟩
      ·
       refine opS_z hJ (fun _ => hR) ?_
       obtain ⟨eX, el⟩ := hR
       subst eX
       subst el
       exact .inr ⟨rfl, fun K' hK => wp_load 30 (.tmp 14) rfl bk3 0 2 #[.bool dn.b, .slice dn.a dn.n dn.c] #[.bool dn.b, .slice dn.a dn.n dn.c] 30 (hJ.es.at' _ (zzG (i := 2) rfl)) (eval_tmp ((hev 14 (by decide)).trans rfl)) ag30 sz30 (zzF (by kernel_rfl)) (by kernel_rfl) (hK _ _ hJ rfl vzL_same)⟩
      ·
       refine opS_z hJ (fun _ => hR) ?_
       obtain ⟨eX, el⟩ := hR
       subst eX
       subst el
       refine .inr ⟨rfl, fun K' hK => ?_⟩
       refine wp_callz (.func 32) #[.tmp 136, .tmp 137] #[30, 30] 32 #[] #[cf.v, dn.v] _ rfl rfl (map2 (eval_tmp ((hin 2 136 rfl).trans (congrArg some (show uu 2 = cf.v from (hd 2 (by decide) (by kernel_rfl)).2)))) (eval_tmp ((hin 3 137 rfl).trans (congrArg some (show uu 3 = dn.v from (hd 3 (by decide) (by kernel_rfl)).2))))) rfl (fun _ _ => rfl) (zMul hJ.nx (hJ.get 4 (f := cf.is) rfl) (hJ.get 2 (f := dn.is) rfl) ez_cf ez_dn BCm (dt_sz BPm) (by omega) (by omega)) ?_
       rintro zz ww2 ⟨q18, rfl, ez_q18, hi_q18, hB⟩
       exact ⟨_, rfl, hK _ _ (hJ.later hB) ⟨q18, rfl, ez_q18, hi_q18⟩ (vzL_later hVS26 hB)⟩
      ·
       refine opS_z hJ (fun _ => hR) ?_
       obtain ⟨eX, el⟩ := hR
       subst eX
       subst el
       exact .inr ⟨rfl, fun K' hK => wp_load 30 (.tmp 14) rfl bk3 0 2 #[.bool dn.b, .slice dn.a dn.n dn.c] #[.bool dn.b, .slice dn.a dn.n dn.c] 30 (hJ.es.at' _ (zzG (i := 2) rfl)) (eval_tmp ((hev 14 (by decide)).trans rfl)) ag30 sz30 (zzF (by kernel_rfl)) (by kernel_rfl) (hK _ _ hJ rfl vzL_same)⟩
      ·
       refine opS_z hJ (fun _ => hR) ?_
       obtain ⟨eX, el⟩ := hR
       subst eX
       subst el
       obtain ⟨q18, e4, ez_q18, hi_q18⟩ := (show (vnum (cc * (M.dt n (mir c R)))) (uu 4) XR26 ww from (hd 4 (by decide) (by kernel_rfl)).2)
       replace hJ := hJ.more (f := q18.is) q18.stb hi_q18
       refine .inr ⟨rfl, fun K' hK => ?_⟩
       refine wp_callz (.func 32) #[.tmp 138, .tmp 139] #[30, 30] 32 #[] #[q18.v, dn.v] _ rfl rfl (map2 (eval_tmp ((hin 4 138 rfl).trans (congrArg some e4))) (eval_tmp ((hin 5 139 rfl).trans (congrArg some (show uu 5 = dn.v from (hd 5 (by decide) (by kernel_rfl)).2))))) rfl (fun _ _ => rfl) (zMul hJ.nx (hJ.get 0 (f := q18.is) rfl) (hJ.get 3 (f := dn.is) rfl) ez_q18 ez_dn (Sz.mul BCm (dt_sz BPm)) (dt_sz BPm) (by omega) (by omega)) ?_
       rintro zz ww2 ⟨q19, rfl, ez_q19, hi_q19, hB⟩
       exact ⟨_, rfl, hK _ _ ((hJ.only [tq.is, tn.is, dn.is, Ls n (crx n (mir c R) (xl kx x)) sn, cf.is, Ls n (xl kx x) sf, Mt n (fun _ => n) (mir c R) pf] (by simp)).later hB) ⟨q19, rfl, ez_q19, hi_q19⟩ (vzL_later hVS26 hB)⟩
     clear hZ58
     intro LL uu W23 X1 l1 hLL hR hZ59 hd
     obtain ⟨eX, el⟩ := hR
     subst eX
     subst el
     have e_0 : uu 0 = tq.v := hd 0 (by decide)
     have e_1 : uu 1 = .pointer (some ⟨bk1, 2, none⟩) := hd 1 (by decide)
     have e_2 : uu 2 = cf.v := hd 2 (by decide)
     have e_3 : uu 3 = dn.v := hd 3 (by decide)
     obtain ⟨q18, e_4, ez_q18, hi_q18⟩ := (show (vnum (cc * (M.dt n (mir c R)))) (uu 4) XR26 W23 from hd 4 (by decide))
     have e_5 : uu 5 = dn.v := hd 5 (by decide)
     obtain ⟨q19, e_6, ez_q19, hi_q19⟩ := (show (vnum ((cc * (M.dt n (mir c R))) * (M.dt n (mir c R)))) (uu 6) XR26 W23 from hd 6 (by decide))
     clear hd hVS26
     simp only [layS, Act.put, zzC, zzD, zzE, Nat.zero_add, Nat.reduceAdd, List.drop_succ_cons, List.drop_zero, List.drop_nil, e_0, e_1, e_2, e_3, e_4, e_5, e_6]
     clear e_0 e_1 e_2 e_3 e_4 e_5 e_6
     have hZ60 := hZ59.more (f := q18.is) q18.stb hi_q18
     clear hZ59
     clear hi_q18
     have hZ61 := hZ60.more (f := q19.is) q19.stb hi_q19
     clear hZ60
     clear hi_q19
     go_wp2_with fail
     refine (zAdd hZ61.nx (hZ61.get 2 (f := tq.is) rfl) (hZ61.get 0 (f := q19.is) rfl) ez_tq ez_q19 (th_sz (by omega) (by omega) BPm BQm) (Sz.mul (Sz.mul BCm (dt_sz BPm)) (dt_sz BPm)) (by omega) (by omega)).mono ?_
     rintro zz W24 ⟨q20, rfl, ez_q20, hi_q20, hB⟩
     have hZ62 := hZ61.later hB
     clear hB
     clear hZ61
     have hZ63 := hZ62.more (f := q20.is) q20.stb hi_q20
     clear hZ62
     clear hi_q20
     go_wp2_with (refine stopz_store 30 (.tmp 25) (.tmp 141) 0 bk5 0 #[.bool tq.b, .slice tq.a tq.n tq.c] 30 2 [.bool q20.b, .slice q20.a q20.n q20.c] #[.bool q20.b, .slice q20.a q20.n q20.c] [(bk5, #[.bool q20.b, .slice q20.a q20.n q20.c], 30), (bk4, #[.bool tn.b, .slice tn.a tn.n tn.c], 30), (bk3, #[.bool dn.b, .slice dn.a dn.n dn.c], 30), (bk2, #[pd.v, sd.v, .bool cd.b, .slice cd.a cd.n cd.c], 45), (bk1, #[pf.v, sf.v, .bool cf.b, .slice cf.a cf.n cf.c], 32)] rfl rfl rfl rfl sz30 hZ63 rfl rfl (zzF (by kernel_rfl)) (by kernel_rfl) (by kernel_rfl) (by kernel_rfl) (fun W25 hZ64 => ?_))
     clear hZ63
     unfold Stop
     try simp only [Act.put, zzC, zzD, zzE]
     go_wp2
     obtain ⟨XR27, hZ65⟩ : ∃ Xr, Zs w W25 X0 Xr [(bk5, #[.bool q20.b, .slice q20.a q20.n q20.c], 30), (bk4, #[.bool tn.b, .slice tn.a tn.n tn.c], 30), (bk3, #[.bool dn.b, .slice dn.a dn.n dn.c], 30), (bk2, #[pd.v, sd.v, .bool cd.b, .slice cd.a cd.n cd.c], 45), (bk1, #[pf.v, sf.v, .bool cf.b, .slice cf.a cf.n cf.c], 32)] [q20.is, q19.is, q18.is, tq.is, tn.is, dn.is, Ls n (crx n (mir c R) (xl kx x)) sn, cf.is, Ls n (xl kx x) sf, Mt n (fun _ => n) (mir c R) pf] := ⟨_, hZ64⟩
     clear hZ64
     have hVS27 : ∀ kq, kq ∈ ([veq (q20.v), veq (tn.v), veq (dn.v), vnum ((topq n (mir c R) (xl kx x) (cc)) * (M.dt n (mir c R)))] : List VF) → VSt kq := by
      intro kq hkq
      simp only [List.mem_cons, List.not_mem_nil, or_false] at hkq
      rcases hkq with rfl | rfl | rfl | rfl
      ·
       exact (veq_se _).st
      ·
       exact (veq_se _).st
      ·
       exact (veq_se _).st
      ·
       exact (vnum_se _).st
     refine wp_region_s 4 [some 142, some 143, some 144, some 145] [veq (q20.v), veq (tn.v), veq (dn.v), vnum ((topq n (mir c R) (xl kx x) (cc)) * (M.dt n (mir c R)))] (fun _ _ X1 l1 => XR27 = X1 ∧ [(bk5, #[.bool q20.b, .slice q20.a q20.n q20.c], 30), (bk4, #[.bool tn.b, .slice tn.a tn.n tn.c], 30), (bk3, #[.bool dn.b, .slice dn.a dn.n dn.c], 30), (bk2, #[pd.v, sd.v, .bool cd.b, .slice cd.a cd.n cd.c], 45), (bk1, #[pf.v, sf.v, .bool cf.b, .slice cf.a cf.n cf.c], 32)] = l1) [q20.is, q19.is, q18.is, tq.is, tn.is, dn.is, Ls n (crx n (mir c R) (xl kx x)) sn, cf.is, Ls n (xl kx x) sf, Mt n (fun _ => n) (mir c R) pf] (by kernel_rfl) (by kernel_rfl) (by rfl) (by decide) (by rfl) (fun _ => ⟨XR27, _, ⟨rfl, rfl⟩, hZ65.later (Below.refl _ _).drew⟩) ?_ ?_
     ·
      intro iq hlq hiq LL uu ww aa X1 l1 hLi hLc hR hJ hd hall hev hin hold
      clear hZ65
      obtain rfl | rfl | rfl | rfl : iq = 0 ∨ iq = 1 ∨ iq = 2 ∨ iq = 3 := by omega
      ·
       refine opS_z hJ (fun _ => hR) ?_
       obtain ⟨eX, el⟩ := hR
       subst eX
       subst el
       exact .inr ⟨rfl, fun K' hK => wp_load 30 (.tmp 25) rfl bk5 0 2 #[.bool q20.b, .slice q20.a q20.n q20.c] #[.bool q20.b, .slice q20.a q20.n q20.c] 30 (hJ.es.at' _ (zzG (i := 0) rfl)) (eval_tmp ((hev 25 (by decide)).trans rfl)) ag30 sz30 (zzF (by kernel_rfl)) (by kernel_rfl) (hK _ _ hJ rfl vzL_same)⟩
      ·
       refine opS_z hJ (fun _ => hR) ?_
       obtain ⟨eX, el⟩ := hR
       subst eX
       subst el
       exact .inr ⟨rfl, fun K' hK => wp_load 30 (.tmp 15) rfl bk4 0 2 #[.bool tn.b, .slice tn.a tn.n tn.c] #[.bool tn.b, .slice tn.a tn.n tn.c] 30 (hJ.es.at' _ (zzG (i := 1) rfl)) (eval_tmp ((hev 15 (by decide)).trans rfl)) ag30 sz30 (zzF (by kernel_rfl)) (by kernel_rfl) (hK _ _ hJ rfl vzL_same)⟩
      ·
       refine opS_z hJ (fun _ => hR) ?_
       obtain ⟨eX, el⟩ := hR
       subst eX
       subst el
       exact .inr ⟨rfl, fun K' hK => wp_load 30 (.tmp 14) rfl bk3 0 2 #[.bool dn.b, .slice dn.a dn.n dn.c] #[.bool dn.b, .slice dn.a dn.n dn.c] 30 (hJ.es.at' _ (zzG (i := 2) rfl)) (eval_tmp ((hev 14 (by decide)).trans rfl)) ag30 sz30 (zzF (by kernel_rfl)) (by kernel_rfl) (hK _ _ hJ rfl vzL_same)⟩
      ·
       refine opS_z hJ (fun _ => hR) ?_
       obtain ⟨eX, el⟩ := hR
       subst eX
       subst el
       refine .inr ⟨rfl, fun K' hK => ?_⟩
       refine wp_callz (.func 32) #[.tmp 143, .tmp 144] #[30, 30] 32 #[] #[tn.v, dn.v] _ rfl rfl (map2 (eval_tmp ((hin 1 143 rfl).trans (congrArg some (show uu 1 = tn.v from (hd 1 (by decide) (by kernel_rfl)).2)))) (eval_tmp ((hin 2 144 rfl).trans (congrArg some (show uu 2 = dn.v from (hd 2 (by decide) (by kernel_rfl)).2))))) rfl (fun _ _ => rfl) (zMul hJ.nx (hJ.get 4 (f := tn.is) rfl) (hJ.get 5 (f := dn.is) rfl) ez_tn ez_dn (lc_sz (k := n) BPm BQm BCm) (dt_sz BPm) (by omega) (by omega)) ?_
       rintro zz ww2 ⟨q21, rfl, ez_q21, hi_q21, hB⟩
       exact ⟨_, rfl, hK _ _ (hJ.later hB) ⟨q21, rfl, ez_q21, hi_q21⟩ (vzL_later hVS27 hB)⟩
     clear hZ65
     intro LL uu W26 X1 l1 hLL hR hZ66 hd
     obtain ⟨eX, el⟩ := hR
     subst eX
     subst el
     have e_0 : uu 0 = q20.v := hd 0 (by decide)
     have e_1 : uu 1 = tn.v := hd 1 (by decide)
     have e_2 : uu 2 = dn.v := hd 2 (by decide)
     obtain ⟨q21, e_3, ez_q21, hi_q21⟩ := (show (vnum ((topq n (mir c R) (xl kx x) (cc)) * (M.dt n (mir c R)))) (uu 3) XR27 W26 from hd 3 (by decide))
     clear hd hVS27
     simp only [layS, Act.put, zzC, zzD, zzE, Nat.zero_add, Nat.reduceAdd, List.drop_succ_cons, List.drop_zero, List.drop_nil, e_0, e_1, e_2, e_3]
     clear e_0 e_1 e_2 e_3
     have hZ67 := hZ66.more (f := q21.is) q21.stb hi_q21
     clear hZ66
     clear hi_q21
     go_wp2_with fail
     refine (zCmp (hZ67.get 1 (f := q20.is) rfl) (hZ67.get 0 (f := q21.is) rfl) ez_q20 ez_q21).mono ?_
     rintro zz W27 ⟨rfl, hB⟩
     have hZ68 := hZ67.later hB
     clear hB
     clear hZ67
     have hZ69 := hZ68.only [] (by simp)
     clear hZ68
     go_wp2_with (refine stop_opw (by kernel_rfl) (fun K hK => wp_gtri (.tmp 149) (.const (.int .i64 0)) rfl rfl rfl (r := true) (gtr_t (dt_pos HO.out)) (hK _ _ ?_)))
     unfold Stop
     try simp only [Act.put, zzC, zzD, zzE]
     go_wp2_with (refine stop_opw (by kernel_rfl) (fun K hK => wp_geqi (.tmp 153) (.const (.int .i64 0)) rfl rfl rfl (r := true) (cge_t (least_le HO.out.1 (def_pd (e := 2) (by omega) BPm HO.out) (dt_pos HO.out) (xl kl xl_))) (hK _ _ ?_)))
     unfold Stop
     try simp only [Act.put, zzC, zzD, zzE]
     go_wp2_with (refine stop_opw (by kernel_rfl) (fun K hK => wp_eqli (.tmp 157) (.const (.int .i64 0)) 3 3 rfl rfl rfl rfl (r := true) (ceq_t least_there) (hK _ _ ?_)))
     unfold Stop
     try simp only [Act.put, zzC, zzD, zzE]
     go_wp2
     go_ret
     exact ⟨rfl, hZ69.below⟩
end Go.Proofs.YtjclllindbfmhaaGreatDoor
