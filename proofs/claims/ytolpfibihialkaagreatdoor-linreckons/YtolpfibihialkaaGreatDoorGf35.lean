/- Parts of the proof. -/
import Derived.Test.YtolpfibihialkaaGreatDoorGf0
import Derived.Test.YtolpfibihialkaaGreatDoorGf30
import Derived.Test.YtolpfibihialkaaGreatDoorGf31
import Derived.Test.YtolpfibihialkaaGreatDoorGf29
import Derived.Test.YtolpfibihialkaaGreatDoorGf32
import Derived.Test.YtolpfibihialkaaGreatDoorGf24
import Derived.Test.YtolpfibihialkaaGreatDoorGf34
/- The law LinReckons of layer 7, walked: one way of it. No statement of the seat is proved here. -/
namespace Go.Proofs.YtolpfibihialkaaGreatDoor
open Go Go.RowKit
open Classical in
set_option maxRecDepth 100000 in
set_option maxHeartbeats 25600000 in
theorem lrk5 {X0 : Nat → Prop} {w : World} (hX : NX X0 w) (ra rb l : Sl) (ma mb kl : Nat) (ca cb : Nat → Nat) (Ra Rb : Nat → Nat → Int) (xl_ : Nat → Int) (hra : Mi ma ca Ra ra X0 w) (hrb : Mi mb cb Rb rb X0 w) (hl_ : Li kl xl_ l X0 w) (rga0 : ∀ i j, i < ma → j < ca i → -9223372036854775808 ≤ Ra i j ∧ Ra i j ≤ 9223372036854775807) (rgb0 : ∀ i j, i < mb → j < cb i → -9223372036854775808 ≤ Rb i j ∧ Rb i j ≤ 9223372036854775807) (rgl0 : ∀ i, i < kl → -9223372036854775808 ≤ xl_ i ∧ xl_ i ≤ 9223372036854775807) (ha : (ma ≤ 5 ∧ ∀ k, k < ma → ca k = ma)) (hb : (mb ≤ 5 ∧ ∀ k, k < mb → cb k = mb)) (eab : ma = mb) (ho : ¬ (Sym ma Ra ∧ ∀ k, k < ma → 0 < M.dt (k + 1) Ra)) : Calls Tryz.prog 4 #[ra.v, rb.v, l.v] w (PVal (.bool true) w) := by
 have rga := Lib.hid rga0
 clear rga0
 have rgb := Lib.hid rgb0
 clear rgb0
 have rgl := Lib.hid rgl0
 clear rgl0
 have EAB := Lib.hid eab
 clear eab
 have HO := Lib.hid ho
 clear ho
 have ha5 : ma ≤ 5 := ha.1
 have hZ0 := zs_start hX
 have hZ1 := hZ0.more (f := Li kl xl_ l) (Li.stb _ _ _) hl_
 clear hZ0
 have hZ2 := hZ1.more (f := Mi mb cb Rb rb) (Mi.stb _ _ _ _) hrb
 clear hZ1
 have hZ3 := hZ2.more (f := Mi ma ca Ra ra) (Mi.stb _ _ _ _) hra
 clear hZ2
 go_enter Tryz.func4, Tryz.ntmps4
 go_wp2_with fail
 refine (gAwake hZ3.nx).mono ?_
 rintro zz W1 ⟨rfl, hB⟩
 have hZ4 := hZ3.later hB
 clear hB
 clear hZ3
 go_wp2_with fail
 refine (gReadY2 hZ4.nx ra 5 (hZ4.get 0 (f := Mi ma ca Ra ra) rfl) (by omega) ha.1 ha.2 rga.out).mono ?_
 rintro zz W2 ⟨s1, d1, rfl, hi_s1, hi_d1, hB⟩
 have hZ5 := hZ4.later hB
 clear hB
 clear hZ4
 have hZ6 := hZ5.more (f := Mt ma (fun _ => ma) Ra s1) (Mt.stb _ _ _ _) hi_s1
 clear hZ5
 clear hi_s1
 have hZ7 := hZ6.more (f := Mr ma (fun _ => ma) Ra d1) (Mr.stb _ _ _ _) hi_d1
 clear hZ6
 clear hi_d1
 go_wp2_with fail
 refine (gReadY2 hZ7.nx rb 5 (hZ7.get 3 (f := Mi mb cb Rb rb) rfl) (by omega) hb.1 hb.2 rgb.out).mono ?_
 rintro zz W3 ⟨s2, d2, rfl, hi_s2, hi_d2, hB⟩
 have hZ8 := hZ7.later hB
 clear hB
 clear hZ7
 have hZ9 := hZ8.more (f := Mt mb (fun _ => mb) Rb s2) (Mt.stb _ _ _ _) hi_s2
 clear hZ8
 clear hi_s2
 have hZ10 := hZ9.more (f := Mr mb (fun _ => mb) Rb d2) (Mr.stb _ _ _ _) hi_d2
 clear hZ9
 clear hi_d2
 go_wp2_with (refine stop_opw (by kernel_rfl) (fun K hK => wp_lenq (.tmp 41) 30 35 s1 rfl (by kernel_rfl) rfl (hZ10.get 3 (f := Mt ma (fun _ => ma) Ra s1) rfl).n (hK _ _ ?_)))
 unfold Stop
 try simp only [Act.put, zzC, zzD, zzE]
 go_wp2_with (refine stop_opw (by kernel_rfl) (fun K hK => wp_lenq (.tmp 43) 30 35 s2 rfl (by kernel_rfl) rfl (hZ10.get 1 (f := Mt mb (fun _ => mb) Rb s2) rfl).n (hK _ _ ?_)))
 unfold Stop
 try simp only [Act.put, zzC, zzD, zzE]
 go_wp2_with (refine stop_opw (by kernel_rfl) (fun K hK => wp_neqi (.tmp 42) (.tmp 44) 3 3 rfl rfl rfl rfl (r := false) (decide_eq_false (by have := EAB.out; omega)) (hK _ _ ?_)))
 unfold Stop
 try simp only [Act.put, zzC, zzD, zzE]
 have hZ11 := hZ10.only [Mt ma (fun _ => ma) Ra s1, Mr ma (fun _ => ma) Ra d1, Mt mb (fun _ => mb) Rb s2, Mr mb (fun _ => mb) Rb d2, Li kl xl_ l] (by simp)
 clear hZ10
 have hZ12 : Zs w W3 X0 X0 [] [Mt ma (fun _ => ma) Ra s1, Mr ma (fun _ => ma) Ra d1, Mt ma (fun _ => ma) Rb s2, Mr ma (fun _ => ma) Rb d2, Li kl xl_ l] := by
  have h := hZ11
  rw [← EAB.out] at h
  exact h
 clear hZ11
 go_wp2_with (refine stop_op rfl (fun K hK => wp_lenq (.tmp 50) 30 35 s1 rfl (by kernel_rfl) rfl (hZ12.get 0 (f := Mt ma (fun _ => ma) Ra s1) rfl).n (hK _ _ ?_)))
 unfold Stop
 try simp only [Act.put, zzC, zzD, zzE]
 go_wp2_with fail
 refine (gList2 hZ12.nx l ma (hZ12.get 4 (f := Li kl xl_ l) rfl) (by omega) rgl.out).mono ?_
 rintro zz W4 ⟨s3, d3, rfl, hi_s3, hi_d3, hB⟩
 have hZ13 := hZ12.later hB
 clear hB
 clear hZ12
 have hZ14 := hZ13.more (f := Ls ma (xl kl xl_) s3) (Ls.stb _ _ _) hi_s3
 clear hZ13
 clear hi_s3
 have hZ15 := hZ14.more (f := Lr ma (xl kl xl_) d3) (Lr.stb _ _ _) hi_d3
 clear hZ14
 clear hi_d3
 have hZ16 := hZ15.only [Mt ma (fun _ => ma) Ra s1, Mr ma (fun _ => ma) Ra d1, Mt ma (fun _ => ma) Rb s2, Mr ma (fun _ => ma) Rb d2, Ls ma (xl kl xl_) s3, Lr ma (xl kl xl_) d3] (by simp)
 clear hZ15
 go_wp2_with fail
 refine (lMul hZ16.nx s1 s2 (e := 2 + 2) (hZ16.get 0 (f := Mt ma (fun _ => ma) Ra s1) rfl) (hZ16.get 2 (f := Mt ma (fun _ => ma) Rb s2) rfl) (fun i k hi hk => ((fun (i k : Nat) (hi : i < ma) (hk : k < ma) => sz_int (rga.out i k (by have := EAB.out; omega) (by rw [ha.2 i (by have := EAB.out; omega)]; have := EAB.out; omega)).1 (rga.out i k (by have := EAB.out; omega) (by rw [ha.2 i (by have := EAB.out; omega)]; have := EAB.out; omega)).2) i k hi hk).mono (Nat.le_add_right _ _)) (fun i k hi hk => ((fun (i k : Nat) (hi : i < ma) (hk : k < ma) => sz_int (rgb.out i k (by have := EAB.out; omega) (by rw [hb.2 i (by have := EAB.out; omega)]; have := EAB.out; omega)).1 (rgb.out i k (by have := EAB.out; omega) (by rw [hb.2 i (by have := EAB.out; omega)]; have := EAB.out; omega)).2) i k hi hk).mono (Nat.le_add_left _ _)) (by omega) (by omega)).mono ?_
 rintro zz W5 ⟨s4, rfl, hi_s4, hB⟩
 have hZ17 := hZ16.later hB
 clear hB
 clear hZ16
 have hZ18 := hZ17.more (f := Mt ma (fun _ => ma) (M.mulm ma Ra Rb) s4) (Mt.stb _ _ _ _) hi_s4
 clear hZ17
 clear hi_s4
 go_wp2_with fail
 refine (gWhole hZ18.nx s4 (hZ18.get 0 (f := Mt ma (fun _ => ma) (M.mulm ma Ra Rb) s4) rfl) (fun i _ => by omega) (fun (i k : Nat) (hi : i < ma) (hk : k < ma) => sm_sz (fun (t : Nat) (ht : t < ma) => Sz.mul ((fun (i k : Nat) (hi : i < ma) (hk : k < ma) => sz_int (rga.out i k (by have := EAB.out; omega) (by rw [ha.2 i (by have := EAB.out; omega)]; have := EAB.out; omega)).1 (rga.out i k (by have := EAB.out; omega) (by rw [ha.2 i (by have := EAB.out; omega)]; have := EAB.out; omega)).2) i t hi ht) ((fun (i k : Nat) (hi : i < ma) (hk : k < ma) => sz_int (rgb.out i k (by have := EAB.out; omega) (by rw [hb.2 i (by have := EAB.out; omega)]; have := EAB.out; omega)).1 (rgb.out i k (by have := EAB.out; omega) (by rw [hb.2 i (by have := EAB.out; omega)]; have := EAB.out; omega)).2) t k ht hk))) (by omega) (by omega)).mono ?_
 rintro zz W6 ⟨rfl, hB⟩
 have hZ19 := hZ18.later hB
 clear hB
 clear hZ18
 have hZ20 := hZ19.only [Mt ma (fun _ => ma) Ra s1, Mr ma (fun _ => ma) Ra d1, Mt ma (fun _ => ma) Rb s2, Mr ma (fun _ => ma) Rb d2, Ls ma (xl kl xl_) s3, Lr ma (xl kl xl_) d3] (by simp)
 clear hZ19
 go_wp2_with fail
 refine (lTurned hZ20.nx s1 (by omega) (hZ20.get 0 (f := Mt ma (fun _ => ma) Ra s1) rfl)).mono ?_
 rintro zz W7 ⟨s5, rfl, hi_s5, hB⟩
 have hZ21 := hZ20.later hB
 clear hB
 clear hZ20
 have hZ22 := hZ21.more (f := Mt ma (fun _ => ma) (fun i j => Ra j i) s5) (Mt.stb _ _ _ _) hi_s5
 clear hZ21
 clear hi_s5
 go_wp2_with fail
 refine (gWhole hZ22.nx s5 (hZ22.get 0 (f := Mt ma (fun _ => ma) (fun i j => Ra j i) s5) rfl) (fun i _ => by omega) (fun (i j : Nat) (hi : i < ma) (hj : j < ma) => (fun (i k : Nat) (hi : i < ma) (hk : k < ma) => sz_int (rga.out i k (by have := EAB.out; omega) (by rw [ha.2 i (by have := EAB.out; omega)]; have := EAB.out; omega)).1 (rga.out i k (by have := EAB.out; omega) (by rw [ha.2 i (by have := EAB.out; omega)]; have := EAB.out; omega)).2) j i hj hi) (by omega) (by omega)).mono ?_
 rintro zz W8 ⟨rfl, hB⟩
 have hZ23 := hZ22.later hB
 clear hB
 clear hZ22
 have hZ24 := hZ23.only [Mt ma (fun _ => ma) Ra s1, Mr ma (fun _ => ma) Ra d1, Mt ma (fun _ => ma) Rb s2, Mr ma (fun _ => ma) Rb d2, Ls ma (xl kl xl_) s3, Lr ma (xl kl xl_) d3] (by simp)
 clear hZ23
 go_wp2_with fail
 refine (lApply hZ24.nx s1 s3 (e := 2 + 2) (hZ24.get 0 (f := Mt ma (fun _ => ma) Ra s1) rfl) (hZ24.get 4 (f := Ls ma (xl kl xl_) s3) rfl) (fun i k hi hk => ((fun (i k : Nat) (hi : i < ma) (hk : k < ma) => sz_int (rga.out i k (by have := EAB.out; omega) (by rw [ha.2 i (by have := EAB.out; omega)]; have := EAB.out; omega)).1 (rga.out i k (by have := EAB.out; omega) (by rw [ha.2 i (by have := EAB.out; omega)]; have := EAB.out; omega)).2) i k hi hk).mono (Nat.le_add_right _ _)) (fun k hk => ((fun (i : Nat) (_ : i < ma) => xl_in rgl.out i) k hk).mono (Nat.le_add_left _ _)) (by omega) (by omega)).mono ?_
 rintro zz W9 ⟨s6, rfl, hi_s6, hB⟩
 have hZ25 := hZ24.later hB
 clear hB
 clear hZ24
 have hZ26 := hZ25.more (f := Ls ma (M.mulv ma Ra (xl kl xl_)) s6) (Ls.stb _ _ _) hi_s6
 clear hZ25
 clear hi_s6
 go_wp2_with fail
 refine (gText hZ26.nx s6 (hZ26.get 0 (f := Ls ma (M.mulv ma Ra (xl kl xl_)) s6) rfl) (fun (i : Nat) (hi : i < ma) => sm_sz (fun (t : Nat) (ht : t < ma) => Sz.mul ((fun (i k : Nat) (hi : i < ma) (hk : k < ma) => sz_int (rga.out i k (by have := EAB.out; omega) (by rw [ha.2 i (by have := EAB.out; omega)]; have := EAB.out; omega)).1 (rga.out i k (by have := EAB.out; omega) (by rw [ha.2 i (by have := EAB.out; omega)]; have := EAB.out; omega)).2) i t hi ht) ((fun (i : Nat) (_ : i < ma) => xl_in rgl.out i) t ht))) (by omega) (by omega)).mono ?_
 rintro zz W10 ⟨rfl, hB⟩
 have hZ27 := hZ26.later hB
 clear hB
 clear hZ26
 have hZ28 := hZ27.only [Mt ma (fun _ => ma) Ra s1, Mr ma (fun _ => ma) Ra d1, Mt ma (fun _ => ma) Rb s2, Mr ma (fun _ => ma) Rb d2, Ls ma (xl kl xl_) s3, Lr ma (xl kl xl_) d3] (by simp)
 clear hZ27
 go_wp2_with fail
 refine (lQuad hZ28.nx s1 s3 (e := 2 + 2) (hZ28.get 0 (f := Mt ma (fun _ => ma) Ra s1) rfl) (hZ28.get 4 (f := Ls ma (xl kl xl_) s3) rfl) (fun i k hi hk => ((fun (i k : Nat) (hi : i < ma) (hk : k < ma) => sz_int (rga.out i k (by have := EAB.out; omega) (by rw [ha.2 i (by have := EAB.out; omega)]; have := EAB.out; omega)).1 (rga.out i k (by have := EAB.out; omega) (by rw [ha.2 i (by have := EAB.out; omega)]; have := EAB.out; omega)).2) i k hi hk).mono (Nat.le_add_right _ _)) (fun k hk => ((fun (i : Nat) (_ : i < ma) => xl_in rgl.out i) k hk).mono (Nat.le_add_left _ _)) (by omega) (by omega)).mono ?_
 rintro zz W11 ⟨q7, rfl, ez_q7, hi_q7, hB⟩
 have hZ29 := hZ28.later hB
 clear hB
 clear hZ28
 have hZ30 := hZ29.more (f := q7.is) q7.stb hi_q7
 clear hZ29
 clear hi_q7
 go_wp2_with fail
 refine ((zStr (hZ30.get 0 (f := q7.is) rfl) ez_q7 (show Sz (2 + (2 + 2 + ma) + ma) (Qf ma Ra (xl kl xl_)) from sm_sz (fun (i : Nat) (hi : i < ma) => Sz.mul ((fun (i : Nat) (_ : i < ma) => xl_in rgl.out i) i hi) (sm_sz (fun (t : Nat) (ht : t < ma) => Sz.mul ((fun (i k : Nat) (hi : i < ma) (hk : k < ma) => sz_int (rga.out i k (by have := EAB.out; omega) (by rw [ha.2 i (by have := EAB.out; omega)]; have := EAB.out; omega)).1 (rga.out i k (by have := EAB.out; omega) (by rw [ha.2 i (by have := EAB.out; omega)]; have := EAB.out; omega)).2) i t hi ht) ((fun (i : Nat) (_ : i < ma) => xl_in rgl.out i) t ht))))) (by omega)).mono (fun _ _ h => ptxt_dec h)).mono ?_
 rintro zz W12 ⟨rfl, hB⟩
 have hZ31 := hZ30.later hB
 clear hB
 clear hZ30
 have hZ32 := hZ31.only [Mt ma (fun _ => ma) Ra s1, Mr ma (fun _ => ma) Ra d1, Mt ma (fun _ => ma) Rb s2, Mr ma (fun _ => ma) Rb d2, Ls ma (xl kl xl_) s3, Lr ma (xl kl xl_) d3] (by simp)
 clear hZ31
 go_wp2_with fail
 refine ((lDefinite hZ32.nx s1 (e := 2) (by omega) (by omega) (by omega) (hZ32.get 0 (f := Mt ma (fun _ => ma) Ra s1) rfl) (fun (i k : Nat) (hi : i < ma) (hk : k < ma) => sz_int (rga.out i k (by have := EAB.out; omega) (by rw [ha.2 i (by have := EAB.out; omega)]; have := EAB.out; omega)).1 (rga.out i k (by have := EAB.out; omega) (by rw [ha.2 i (by have := EAB.out; omega)]; have := EAB.out; omega)).2)).mono (fun _ _ h => by rw [decide_eq_false HO.out] at h; exact h)).mono ?_
 rintro zz W13 ⟨rfl, hB⟩
 have hZ33 := hZ32.later hB
 clear hB
 clear hZ32
 have hZ34 := hZ33.only [Mt ma (fun _ => ma) Ra s1, Mr ma (fun _ => ma) Ra d1, Mt ma (fun _ => ma) Rb s2, Mr ma (fun _ => ma) Rb d2, Ls ma (xl kl xl_) s3, Lr ma (xl kl xl_) d3] (by simp)
 clear hZ33
 go_wp2_with fail
 refine (dMul hZ34.nx d1 d2 (e := 2 + 2) (hZ34.get 1 (f := Mr ma (fun _ => ma) Ra d1) rfl) (hZ34.get 3 (f := Mr ma (fun _ => ma) Rb d2) rfl) (fun i k hi hk => ((fun (i k : Nat) (hi : i < ma) (hk : k < ma) => sz_int (rga.out i k (by have := EAB.out; omega) (by rw [ha.2 i (by have := EAB.out; omega)]; have := EAB.out; omega)).1 (rga.out i k (by have := EAB.out; omega) (by rw [ha.2 i (by have := EAB.out; omega)]; have := EAB.out; omega)).2) i k hi hk).mono (Nat.le_add_right _ _)) (fun i k hi hk => ((fun (i k : Nat) (hi : i < ma) (hk : k < ma) => sz_int (rgb.out i k (by have := EAB.out; omega) (by rw [hb.2 i (by have := EAB.out; omega)]; have := EAB.out; omega)).1 (rgb.out i k (by have := EAB.out; omega) (by rw [hb.2 i (by have := EAB.out; omega)]; have := EAB.out; omega)).2) i k hi hk).mono (Nat.le_add_left _ _)) (by omega) (by omega)).mono ?_
 rintro zz W14 ⟨d8, rfl, hi_d8, hB⟩
 have hZ35 := hZ34.later hB
 clear hB
 clear hZ34
 have hZ36 := hZ35.more (f := Mr ma (fun _ => ma) (M.mulm ma Ra Rb) d8) (Mr.stb _ _ _ _) hi_d8
 clear hZ35
 clear hi_d8
 go_wp2_with fail
 refine (gWholes hZ36.nx d8 (hZ36.get 0 (f := Mr ma (fun _ => ma) (M.mulm ma Ra Rb) d8) rfl) (fun i _ => by omega) (fun (i k : Nat) (hi : i < ma) (hk : k < ma) => sm_sz (fun (t : Nat) (ht : t < ma) => Sz.mul ((fun (i k : Nat) (hi : i < ma) (hk : k < ma) => sz_int (rga.out i k (by have := EAB.out; omega) (by rw [ha.2 i (by have := EAB.out; omega)]; have := EAB.out; omega)).1 (rga.out i k (by have := EAB.out; omega) (by rw [ha.2 i (by have := EAB.out; omega)]; have := EAB.out; omega)).2) i t hi ht) ((fun (i k : Nat) (hi : i < ma) (hk : k < ma) => sz_int (rgb.out i k (by have := EAB.out; omega) (by rw [hb.2 i (by have := EAB.out; omega)]; have := EAB.out; omega)).1 (rgb.out i k (by have := EAB.out; omega) (by rw [hb.2 i (by have := EAB.out; omega)]; have := EAB.out; omega)).2) t k ht hk))) (by omega) (by omega)).mono ?_
 rintro zz W15 ⟨rfl, hB⟩
 have hZ37 := hZ36.later hB
 clear hB
 clear hZ36
 go_wp2_with (refine stop_opw (by kernel_rfl) (fun K hK => wp_seql (.tmp 74) (.tmp 78) 9 9 rfl rfl rfl rfl (r := true) (decide_eq_true rfl) (hK _ _ ?_)))
 unfold Stop
 try simp only [Act.put, zzC, zzD, zzE]
 go_wp2_with fail
 refine (dTurned hZ37.nx d1 (hZ37.get 2 (f := Mr ma (fun _ => ma) Ra d1) rfl) (by omega)).mono ?_
 rintro zz W16 ⟨d9, rfl, hi_d9, hB⟩
 have hZ38 := hZ37.later hB
 clear hB
 clear hZ37
 have hZ39 := hZ38.more (f := Mr ma (fun _ => ma) (fun i j => Ra j i) d9) (Mr.stb _ _ _ _) hi_d9
 clear hZ38
 clear hi_d9
 go_wp2_with fail
 refine (gWholes hZ39.nx d9 (hZ39.get 0 (f := Mr ma (fun _ => ma) (fun i j => Ra j i) d9) rfl) (fun i _ => by omega) (fun (i j : Nat) (hi : i < ma) (hj : j < ma) => (fun (i k : Nat) (hi : i < ma) (hk : k < ma) => sz_int (rga.out i k (by have := EAB.out; omega) (by rw [ha.2 i (by have := EAB.out; omega)]; have := EAB.out; omega)).1 (rga.out i k (by have := EAB.out; omega) (by rw [ha.2 i (by have := EAB.out; omega)]; have := EAB.out; omega)).2) j i hj hi) (by omega) (by omega)).mono ?_
 rintro zz W17 ⟨rfl, hB⟩
 have hZ40 := hZ39.later hB
 clear hB
 clear hZ39
 go_wp2_with (refine stop_opw (by kernel_rfl) (fun K hK => wp_seql (.tmp 82) (.tmp 85) 9 9 rfl rfl rfl rfl (r := true) (decide_eq_true rfl) (hK _ _ ?_)))
 unfold Stop
 try simp only [Act.put, zzC, zzD, zzE]
 go_wp2_with fail
 refine (dApply hZ40.nx d1 d3 (e := 2 + 2) (hZ40.get 3 (f := Mr ma (fun _ => ma) Ra d1) rfl) (hZ40.get 7 (f := Lr ma (xl kl xl_) d3) rfl) (fun i k hi hk => ((fun (i k : Nat) (hi : i < ma) (hk : k < ma) => sz_int (rga.out i k (by have := EAB.out; omega) (by rw [ha.2 i (by have := EAB.out; omega)]; have := EAB.out; omega)).1 (rga.out i k (by have := EAB.out; omega) (by rw [ha.2 i (by have := EAB.out; omega)]; have := EAB.out; omega)).2) i k hi hk).mono (Nat.le_add_right _ _)) (fun k hk => ((fun (i : Nat) (_ : i < ma) => xl_in rgl.out i) k hk).mono (Nat.le_add_left _ _)) (by omega) (by omega)).mono ?_
 rintro zz W18 ⟨d10, rfl, hi_d10, hB⟩
 have hZ41 := hZ40.later hB
 clear hB
 clear hZ40
 have hZ42 := hZ41.more (f := Lr ma (M.mulv ma Ra (xl kl xl_)) d10) (Lr.stb _ _ _) hi_d10
 clear hZ41
 clear hi_d10
 go_wp2_with fail
 refine (gTexts hZ42.nx d10 (hZ42.get 0 (f := Lr ma (M.mulv ma Ra (xl kl xl_)) d10) rfl) (fun (i : Nat) (hi : i < ma) => sm_sz (fun (t : Nat) (ht : t < ma) => Sz.mul ((fun (i k : Nat) (hi : i < ma) (hk : k < ma) => sz_int (rga.out i k (by have := EAB.out; omega) (by rw [ha.2 i (by have := EAB.out; omega)]; have := EAB.out; omega)).1 (rga.out i k (by have := EAB.out; omega) (by rw [ha.2 i (by have := EAB.out; omega)]; have := EAB.out; omega)).2) i t hi ht) ((fun (i : Nat) (_ : i < ma) => xl_in rgl.out i) t ht))) (by omega) (by omega)).mono ?_
 rintro zz W19 ⟨rfl, hB⟩
 have hZ43 := hZ42.later hB
 clear hB
 clear hZ42
 go_wp2_with (refine stop_opw (by kernel_rfl) (fun K hK => wp_seql (.tmp 89) (.tmp 93) 9 9 rfl rfl rfl rfl (r := true) (decide_eq_true rfl) (hK _ _ ?_)))
 unfold Stop
 try simp only [Act.put, zzC, zzD, zzE]
 go_wp2_with fail
 refine (dQuad hZ43.nx d1 d3 (e := 2 + 2) (hZ43.get 4 (f := Mr ma (fun _ => ma) Ra d1) rfl) (hZ43.get 8 (f := Lr ma (xl kl xl_) d3) rfl) (fun i k hi hk => ((fun (i k : Nat) (hi : i < ma) (hk : k < ma) => sz_int (rga.out i k (by have := EAB.out; omega) (by rw [ha.2 i (by have := EAB.out; omega)]; have := EAB.out; omega)).1 (rga.out i k (by have := EAB.out; omega) (by rw [ha.2 i (by have := EAB.out; omega)]; have := EAB.out; omega)).2) i k hi hk).mono (Nat.le_add_right _ _)) (fun k hk => ((fun (i : Nat) (_ : i < ma) => xl_in rgl.out i) k hk).mono (Nat.le_add_left _ _)) (by omega) (by omega)).mono ?_
 rintro zz W20 ⟨d11, rfl, ez_d11, hi_d11, hB⟩
 have hZ44 := hZ43.later hB
 clear hB
 clear hZ43
 have hZ45 := hZ44.more (f := d11.ir) d11.stbr hi_d11
 clear hZ44
 clear hi_d11
 go_wp2_with fail
 refine ((zStrr (hZ45.get 0 (f := d11.ir) rfl) ez_d11 (show Sz (2 + (2 + 2 + ma) + ma) (Qf ma Ra (xl kl xl_)) from sm_sz (fun (i : Nat) (hi : i < ma) => Sz.mul ((fun (i : Nat) (_ : i < ma) => xl_in rgl.out i) i hi) (sm_sz (fun (t : Nat) (ht : t < ma) => Sz.mul ((fun (i k : Nat) (hi : i < ma) (hk : k < ma) => sz_int (rga.out i k (by have := EAB.out; omega) (by rw [ha.2 i (by have := EAB.out; omega)]; have := EAB.out; omega)).1 (rga.out i k (by have := EAB.out; omega) (by rw [ha.2 i (by have := EAB.out; omega)]; have := EAB.out; omega)).2) i t hi ht) ((fun (i : Nat) (_ : i < ma) => xl_in rgl.out i) t ht))))) (by omega)).mono (fun _ _ h => ptxt_dec h)).mono ?_
 rintro zz W21 ⟨rfl, hB⟩
 have hZ46 := hZ45.later hB
 clear hB
 clear hZ45
 go_wp2_with (refine stop_opw (by kernel_rfl) (fun K hK => wp_seql (.tmp 97) (.tmp 101) 9 9 rfl rfl rfl rfl (r := true) (decide_eq_true rfl) (hK _ _ ?_)))
 unfold Stop
 try simp only [Act.put, zzC, zzD, zzE]
 go_wp2_with fail
 refine ((dDefinite hZ46.nx d1 (e := 2) (by omega) (by omega) (by omega) (hZ46.get 5 (f := Mr ma (fun _ => ma) Ra d1) rfl) (fun (i k : Nat) (hi : i < ma) (hk : k < ma) => sz_int (rga.out i k (by have := EAB.out; omega) (by rw [ha.2 i (by have := EAB.out; omega)]; have := EAB.out; omega)).1 (rga.out i k (by have := EAB.out; omega) (by rw [ha.2 i (by have := EAB.out; omega)]; have := EAB.out; omega)).2)).mono (fun _ _ h => by rw [decide_eq_false HO.out] at h; exact h)).mono ?_
 rintro zz W22 ⟨rfl, hB⟩
 have hZ47 := hZ46.later hB
 clear hB
 clear hZ46
 go_wp2
 go_ret
 exact ⟨rfl, hZ47.below⟩
end Go.Proofs.YtolpfibihialkaaGreatDoor

/- The law LinReckons of layer 7, walked. No statement of the seat is proved here. -/
namespace Go.Proofs.YtolpfibihialkaaGreatDoor
open Go Go.RowKit
open Classical in
theorem lrkAny {X0 : Nat → Prop} {w : World} (hX : NX X0 w) (ra rb l : Sl) (ma mb kl : Nat) (ca cb : Nat → Nat) (Ra Rb : Nat → Nat → Int) (xl_ : Nat → Int) (hra : Mi ma ca Ra ra X0 w) (hrb : Mi mb cb Rb rb X0 w) (hl_ : Li kl xl_ l X0 w) (rga0 : ∀ i j, i < ma → j < ca i → -9223372036854775808 ≤ Ra i j ∧ Ra i j ≤ 9223372036854775807) (rgb0 : ∀ i j, i < mb → j < cb i → -9223372036854775808 ≤ Rb i j ∧ Rb i j ≤ 9223372036854775807) (rgl0 : ∀ i, i < kl → -9223372036854775808 ≤ xl_ i ∧ xl_ i ≤ 9223372036854775807)  : Calls Tryz.prog 4 #[ra.v, rb.v, l.v] w (PVal (.bool true) w) := by
 by_cases ha : (ma ≤ 5 ∧ ∀ k, k < ma → ca k = ma)
 ·
  by_cases hb : (mb ≤ 5 ∧ ∀ k, k < mb → cb k = mb)
  ·
   by_cases eab : ma = mb
   ·
    by_cases ho : (Sym ma Ra ∧ ∀ k, k < ma → 0 < M.dt (k + 1) Ra)
    ·
     exact lrk4 hX ra rb l ma mb kl ca cb Ra Rb xl_ hra hrb hl_ rga0 rgb0 rgl0 ha hb eab ho
    ·
     exact lrk5 hX ra rb l ma mb kl ca cb Ra Rb xl_ hra hrb hl_ rga0 rgb0 rgl0 ha hb eab ho
   ·
    exact lrk3 hX ra rb l ma mb kl ca cb Ra Rb xl_ hra hrb hl_ rga0 rgb0 rgl0 ha hb eab
  ·
   exact lrk2 hX ra rb l ma mb kl ca cb Ra Rb xl_ hra hrb hl_ rga0 rgb0 rgl0 ha hb
 ·
  exact lrk1 hX ra rb l ma mb kl ca cb Ra Rb xl_ hra hrb hl_ rga0 rgb0 rgl0 ha
end Go.Proofs.YtolpfibihialkaaGreatDoor
