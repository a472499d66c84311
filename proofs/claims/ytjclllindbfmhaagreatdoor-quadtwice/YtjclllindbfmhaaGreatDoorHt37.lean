/- Parts of the proof. -/
import Derived.Test.YtjclllindbfmhaaGreatDoorHt0
import Derived.Test.YtjclllindbfmhaaGreatDoorHt33
import Derived.Test.YtjclllindbfmhaaGreatDoorHt32
import Derived.Test.YtjclllindbfmhaaGreatDoorHt35
import Derived.Test.YtjclllindbfmhaaGreatDoorHt36
import Derived.Test.YtjclllindbfmhaaGreatDoorHt34
/- Package quad: the walk of Without. No statement of the seat is proved here. -/
namespace Go.Proofs.YtjclllindbfmhaaGreatDoor
open Go Go.RowKit
/-- What is left without the first numbers, the scale. -/
def PWo (X : Nat → Prop) (k r : Nat) (P : Nat → Nat → Int) (q : Nat → Int) (C : Int) (w : World) (e : Ending) (w' : World) : Prop := ∃ (p s : Sl) (c d : NL), e = .returned (.tuple #[.agg #[p.v, s.v, .bool c.b, .slice c.a c.n c.c], .agg #[.bool d.b, .slice d.a d.n d.c], .int .i64 0]) ∧ Mt r (fun _ => r) (lp k P) p X w' ∧ Ls r (lq k P q) s X w' ∧ c.z = lc k P q C ∧ c.is X w' ∧ d.z = M.dt k P ∧ d.is X w' ∧ Below w.heap.size w w'
open Classical in
set_option maxRecDepth 100000 in
set_option maxHeartbeats 12800000 in
theorem uWoFlat {X0 : Nat → Prop} {w : World} (hX : NX X0 w) (p s : Sl) (c : NL) {k r e : Nat} {P : Nat → Nat → Int} {q : Nat → Int} {C : Int} (hp : Mt (k + r) (fun _ => k + r) P p X0 w) (hq : Ls (k + r) q s X0 w) (hc : c.is X0 w) (ez_c : c.z = C) (bP : ∀ i j, i < k + r → j < k + r → Sz e (P i j)) (bq : ∀ i, i < k + r → Sz e (q i)) (bC : Sz e C) (hs : Sym (k + r) P) (hk : k ≤ 12) (hkr : k + r ≤ 90) (he1 : 1 ≤ e) (he : e ≤ 200) (ho : ¬ (Sym k P ∧ ∀ i, i < k → 0 < M.dt (i + 1) P)) : Calls Tryz.prog 26 #[.agg #[p.v, s.v, .bool c.b, .slice c.a c.n c.c], .int .i64 ((k : Nat) : Int)] w (PVal (.tuple #[.agg #[.slice none 0 0, .slice none 0 0, .bool false, .slice none 0 0], .agg #[.bool false, .slice none 0 0], .int .i64 80]) w) := by
 have hdb : dtb e k ≤ 3000 := dtb_le he hk
 have HO := Lib.hid ho
 clear ho
 have HS := Lib.hid hs
 clear hs
 have hZ0 := zs_start hX
 have hZ1 := hZ0.more (f := c.is) c.stb hc
 clear hZ0
 have hZ2 := hZ1.more (f := Ls (k + r) q s) (Ls.stb _ _ _) hq
 clear hZ1
 have hZ3 := hZ2.more (f := Mt (k + r) (fun _ => k + r) P p) (Mt.stb _ _ _ _) hp
 clear hZ2
 go_enter Tryz.func26, Tryz.ntmps26
 go_wp2_with (refine stopz_box 32 (.tmp 0) #[p.v, s.v, .bool c.b, .slice c.a c.n c.c] rfl rfl rfl hZ3 (fun bk1 X4 W1 hZ4 => ?_))
 clear hZ3
 unfold Stop
 try simp only [Act.put, zzC, zzD, zzE]
 go_wp2_with (refine stopz_alloc 32 #[.slice none 0 0, .slice none 0 0, .bool false, .slice none 0 0] (.agg #[.slice none 0 0, .slice none 0 0, .bool false, .slice none 0 0]) rfl rfl zv32 rfl hZ4 (fun bk2 X5 W2 hZ5 => ?_))
 clear hZ4
 unfold Stop
 try simp only [Act.put, zzC, zzD, zzE]
 go_wp2_with (refine stopz_alloc 30 #[.bool false, .slice none 0 0] (.agg #[.bool false, .slice none 0 0]) rfl rfl zv30 rfl hZ5 (fun bk3 X6 W3 hZ6 => ?_))
 clear hZ5
 unfold Stop
 try simp only [Act.put, zzC, zzD, zzE]
 go_wp2_with (refine stop_op rfl (fun K hK => wp_lssi (.tmp 8) (.const (.int .i64 0)) rfl rfl rfl (r := false) (decide_eq_false (by omega)) (hK _ _ ?_)))
 unfold Stop
 try simp only [Act.put, zzC, zzD, zzE]
 go_wp2_with (refine stop_opw (by kernel_rfl) (fun K hK => wp_fda (v := .pointer (some ⟨bk1, 1, none⟩)) 32 (.tmp 2) 1 rfl rfl (fun _ => by kernel_rfl) (hK _ _ ?_)))
 unfold Stop
 try simp only [Act.put, zzC, zzD, zzE]
 go_wp2_with (refine stop_opw (by kernel_rfl) (fun K hK => wp_load1 (v := s.v) 27 (.tmp 12) rfl bk1 1 #[p.v, s.v, .bool c.b, .slice c.a c.n c.c] 32 (hZ6.es.at' _ (zzG (i := 2) rfl)) rfl ag27 (by kernel_rfl) (hK _ _ ?_)))
 unfold Stop
 try simp only [Act.put, zzC, zzD, zzE]
 go_wp2_with (refine stop_opw (by kernel_rfl) (fun K hK => wp_lenq (.tmp 13) 27 30 s rfl (by kernel_rfl) rfl (hZ6.get 1 (f := Ls (k + r) q s) rfl).n (hK _ _ ?_)))
 unfold Stop
 try simp only [Act.put, zzC, zzD, zzE]
 go_wp2_with (refine stop_opw (by kernel_rfl) (fun K hK => wp_gtri (.tmp 11) (.tmp 14) rfl rfl rfl (r := false) (decide_eq_false (by omega)) (hK _ _ ?_)))
 unfold Stop
 try simp only [Act.put, zzC, zzD, zzE]
 go_wp2_with (refine stop_op rfl (fun K hK => wp_fda (v := .pointer (some ⟨bk1, 0, none⟩)) 32 (.tmp 2) 0 rfl rfl (fun _ => by kernel_rfl) (hK _ _ ?_)))
 unfold Stop
 try simp only [Act.put, zzC, zzD, zzE]
 go_wp2_with (refine stop_op rfl (fun K hK => wp_load1 (v := p.v) 26 (.tmp 19) rfl bk1 0 #[p.v, s.v, .bool c.b, .slice c.a c.n c.c] 32 (hZ6.es.at' _ (zzG (i := 2) rfl)) rfl ag26 (by kernel_rfl) (hK _ _ ?_)))
 unfold Stop
 try simp only [Act.put, zzC, zzD, zzE]
 go_wp2_with fail
 refine (uLead hZ6.nx p k (hZ6.get 0 (f := Mt (k + r) (fun _ => k + r) P p) rfl) (by omega) (by omega)).mono ?_
 rintro zz W4 ⟨s1, rfl, hi_s1, hB⟩
 have hZ7 := hZ6.later hB
 clear hB
 clear hZ6
 have hZ8 := hZ7.more (f := Mt k (fun _ => k) P s1) (Mt.stb _ _ _ _) hi_s1
 clear hZ7
 clear hi_s1
 go_wp2_with fail
 refine ((lDefinite hZ8.nx s1 (e := e) (by omega) (by omega) (by omega) (hZ8.get 0 (f := Mt k (fun _ => k) P s1) rfl) (fun (i j : Nat) (hi : i < k) (hj : j < k) => bP i j (by omega) (by omega))).mono (fun _ _ h => by rw [decide_eq_false HO.out] at h; exact h)).mono ?_
 rintro zz W5 ⟨rfl, hB⟩
 have hZ9 := hZ8.later hB
 clear hB
 clear hZ8
 go_wp2_with (refine stopz_store 32 (.tmp 4) (.tmp 26) 1 bk2 0 #[.slice none 0 0, .slice none 0 0, .bool false, .slice none 0 0] 32 4 [.slice none 0 0, .slice none 0 0, .bool false, .slice none 0 0] #[.slice none 0 0, .slice none 0 0, .bool false, .slice none 0 0] [(bk3, #[.bool false, .slice none 0 0], 30), (bk2, #[.slice none 0 0, .slice none 0 0, .bool false, .slice none 0 0], 32), (bk1, #[p.v, s.v, .bool c.b, .slice c.a c.n c.c], 32)] rfl rfl rfl rfl sz32 hZ9 rfl rfl (zzF (by kernel_rfl)) (by kernel_rfl) (by kernel_rfl) (by kernel_rfl) (fun W6 hZ10 => ?_))
 clear hZ9
 unfold Stop
 try simp only [Act.put, zzC, zzD, zzE]
 go_wp2_with (refine stopz_store 30 (.tmp 5) (.tmp 27) 0 bk3 0 #[.bool false, .slice none 0 0] 30 2 [.bool false, .slice none 0 0] #[.bool false, .slice none 0 0] [(bk3, #[.bool false, .slice none 0 0], 30), (bk2, #[.slice none 0 0, .slice none 0 0, .bool false, .slice none 0 0], 32), (bk1, #[p.v, s.v, .bool c.b, .slice c.a c.n c.c], 32)] rfl rfl rfl rfl sz30 hZ10 rfl rfl (zzF (by kernel_rfl)) (by kernel_rfl) (by kernel_rfl) (by kernel_rfl) (fun W7 hZ11 => ?_))
 clear hZ10
 unfold Stop
 try simp only [Act.put, zzC, zzD, zzE]
 go_wp2
 refine bodyPost_ret (v := .tuple #[.agg #[.slice none 0 0, .slice none 0 0, .bool false, .slice none 0 0], .agg #[.bool false, .slice none 0 0], .int .i64 80]) (results_cct Tryz.results26 (hZ11.es.loadBox 1 rfl ag32 sz32 (zzF (by kernel_rfl)) (by kernel_rfl)) (hZ11.es.loadBox 0 rfl ag30 sz30 (zzF (by kernel_rfl)) (by kernel_rfl)) rfl rfl rfl) rfl ?_
 exact ⟨rfl, hZ11.below⟩
open Classical in
set_option maxRecDepth 100000 in
set_option maxHeartbeats 12800000 in
theorem uWoY {X0 : Nat → Prop} {w : World} (hX : NX X0 w) (p s : Sl) (c : NL) {k r e : Nat} {P : Nat → Nat → Int} {q : Nat → Int} {C : Int} (hp : Mt (k + r) (fun _ => k + r) P p X0 w) (hq : Ls (k + r) q s X0 w) (hc : c.is X0 w) (ez_c : c.z = C) (bP : ∀ i j, i < k + r → j < k + r → Sz e (P i j)) (bq : ∀ i, i < k + r → Sz e (q i)) (bC : Sz e C) (hs : Sym (k + r) P) (hk : k ≤ 12) (hkr : k + r ≤ 90) (he1 : 1 ≤ e) (he : e ≤ 200) (ho : (Sym k P ∧ ∀ i, i < k → 0 < M.dt (i + 1) P)) (hD : M.dt k P ≠ 0) : Calls Tryz.prog 26 #[.agg #[p.v, s.v, .bool c.b, .slice c.a c.n c.c], .int .i64 ((k : Nat) : Int)] w (PWo X0 k r P q C w) := by
 have hdb : dtb e k ≤ 3000 := dtb_le he hk
 have HO := Lib.hid ho
 clear ho
 have HS := Lib.hid hs
 clear hs
 have HD := Lib.hid hD
 clear hD
 have hZ0 := zs_start hX
 have hZ1 := hZ0.more (f := c.is) c.stb hc
 clear hZ0
 have hZ2 := hZ1.more (f := Ls (k + r) q s) (Ls.stb _ _ _) hq
 clear hZ1
 have hZ3 := hZ2.more (f := Mt (k + r) (fun _ => k + r) P p) (Mt.stb _ _ _ _) hp
 clear hZ2
 go_enter Tryz.func26, Tryz.ntmps26
 go_wp2_with (refine stopz_box 32 (.tmp 0) #[p.v, s.v, .bool c.b, .slice c.a c.n c.c] rfl rfl rfl hZ3 (fun bk1 X4 W1 hZ4 => ?_))
 clear hZ3
 unfold Stop
 try simp only [Act.put, zzC, zzD, zzE]
 go_wp2_with (refine stopz_alloc 32 #[.slice none 0 0, .slice none 0 0, .bool false, .slice none 0 0] (.agg #[.slice none 0 0, .slice none 0 0, .bool false, .slice none 0 0]) rfl rfl zv32 rfl hZ4 (fun bk2 X5 W2 hZ5 => ?_))
 clear hZ4
 unfold Stop
 try simp only [Act.put, zzC, zzD, zzE]
 go_wp2_with (refine stopz_alloc 30 #[.bool false, .slice none 0 0] (.agg #[.bool false, .slice none 0 0]) rfl rfl zv30 rfl hZ5 (fun bk3 X6 W3 hZ6 => ?_))
 clear hZ5
 unfold Stop
 try simp only [Act.put, zzC, zzD, zzE]
 go_wp2_with (refine stop_op rfl (fun K hK => wp_lssi (.tmp 8) (.const (.int .i64 0)) rfl rfl rfl (r := false) (decide_eq_false (by omega)) (hK _ _ ?_)))
 unfold Stop
 try simp only [Act.put, zzC, zzD, zzE]
 go_wp2_with (refine stop_opw (by kernel_rfl) (fun K hK => wp_fda (v := .pointer (some ⟨bk1, 1, none⟩)) 32 (.tmp 2) 1 rfl rfl (fun _ => by kernel_rfl) (hK _ _ ?_)))
 unfold Stop
 try simp only [Act.put, zzC, zzD, zzE]
 go_wp2_with (refine stop_opw (by kernel_rfl) (fun K hK => wp_load1 (v := s.v) 27 (.tmp 12) rfl bk1 1 #[p.v, s.v, .bool c.b, .slice c.a c.n c.c] 32 (hZ6.es.at' _ (zzG (i := 2) rfl)) rfl ag27 (by kernel_rfl) (hK _ _ ?_)))
 unfold Stop
 try simp only [Act.put, zzC, zzD, zzE]
 go_wp2_with (refine stop_opw (by kernel_rfl) (fun K hK => wp_lenq (.tmp 13) 27 30 s rfl (by kernel_rfl) rfl (hZ6.get 1 (f := Ls (k + r) q s) rfl).n (hK _ _ ?_)))
 unfold Stop
 try simp only [Act.put, zzC, zzD, zzE]
 go_wp2_with (refine stop_opw (by kernel_rfl) (fun K hK => wp_gtri (.tmp 11) (.tmp 14) rfl rfl rfl (r := false) (decide_eq_false (by omega)) (hK _ _ ?_)))
 unfold Stop
 try simp only [Act.put, zzC, zzD, zzE]
 go_wp2_with (refine stop_op rfl (fun K hK => wp_fda (v := .pointer (some ⟨bk1, 0, none⟩)) 32 (.tmp 2) 0 rfl rfl (fun _ => by kernel_rfl) (hK _ _ ?_)))
 unfold Stop
 try simp only [Act.put, zzC, zzD, zzE]
 go_wp2_with (refine stop_op rfl (fun K hK => wp_load1 (v := p.v) 26 (.tmp 19) rfl bk1 0 #[p.v, s.v, .bool c.b, .slice c.a c.n c.c] 32 (hZ6.es.at' _ (zzG (i := 2) rfl)) rfl ag26 (by kernel_rfl) (hK _ _ ?_)))
 unfold Stop
 try simp only [Act.put, zzC, zzD, zzE]
 go_wp2_with fail
 refine (uLead hZ6.nx p k (hZ6.get 0 (f := Mt (k + r) (fun _ => k + r) P p) rfl) (by omega) (by omega)).mono ?_
 rintro zz W4 ⟨s1, rfl, hi_s1, hB⟩
 have hZ7 := hZ6.later hB
 clear hB
 clear hZ6
 have hZ8 := hZ7.more (f := Mt k (fun _ => k) P s1) (Mt.stb _ _ _ _) hi_s1
 clear hZ7
 clear hi_s1
 go_wp2_with fail
 refine ((lDefinite hZ8.nx s1 (e := e) (by omega) (by omega) (by omega) (hZ8.get 0 (f := Mt k (fun _ => k) P s1) rfl) (fun (i j : Nat) (hi : i < k) (hj : j < k) => bP i j (by omega) (by omega))).mono (fun _ _ h => by rw [decide_eq_true HO.out] at h; exact h)).mono ?_
 rintro zz W5 ⟨rfl, hB⟩
 have hZ9 := hZ8.later hB
 clear hB
 clear hZ8
 go_wp2_with fail
 refine (lDet hZ9.nx s1 (e := e) (by omega) (by omega) (by omega) (hZ9.get 0 (f := Mt k (fun _ => k) P s1) rfl) (fun (i j : Nat) (hi : i < k) (hj : j < k) => bP i j (by omega) (by omega))).mono ?_
 rintro zz W6 ⟨q2, rfl, ez_q2, hi_q2, hB⟩
 have hZ10 := hZ9.later hB
 clear hB
 clear hZ9
 have hZ11 := hZ10.more (f := q2.is) q2.stb hi_q2
 clear hZ10
 clear hi_q2
 go_wp2_with (refine stopz_store 30 (.tmp 5) (.tmp 29) 0 bk3 0 #[.bool false, .slice none 0 0] 30 2 [.bool q2.b, .slice q2.a q2.n q2.c] #[.bool q2.b, .slice q2.a q2.n q2.c] [(bk3, #[.bool q2.b, .slice q2.a q2.n q2.c], 30), (bk2, #[.slice none 0 0, .slice none 0 0, .bool false, .slice none 0 0], 32), (bk1, #[p.v, s.v, .bool c.b, .slice c.a c.n c.c], 32)] rfl rfl rfl rfl sz30 hZ11 rfl rfl (zzF (by kernel_rfl)) (by kernel_rfl) (by kernel_rfl) (by kernel_rfl) (fun W7 hZ12 => ?_))
 clear hZ11
 unfold Stop
 try simp only [Act.put, zzC, zzD, zzE]
 go_wp2
 obtain ⟨XR7, hZ13⟩ : ∃ Xr, Zs w W7 X0 Xr [(bk3, #[.bool q2.b, .slice q2.a q2.n q2.c], 30), (bk2, #[.slice none 0 0, .slice none 0 0, .bool false, .slice none 0 0], 32), (bk1, #[p.v, s.v, .bool c.b, .slice c.a c.n c.c], 32)] [q2.is, Mt k (fun _ => k) P s1, Mt (k + r) (fun _ => k + r) P p, Ls (k + r) q s, c.is] := ⟨_, hZ12⟩
 clear hZ12
 have hVS7 : ∀ kq, kq ∈ ([veq (.agg #[p.v, s.v, .bool c.b, .slice c.a c.n c.c]), vmt (k + r + 1) (fun _ => k + r + 1) (tbl (k + r) P q C), veq (.int .i64 (((k : Nat) : Int))), vmt (k + r + 1 - k) (fun i => (fun _ => k + r + 1) (k + i)) (fun i => (tbl (k + r) P q C) (k + i)), veq (s1.v), veq (q2.v), vmt (r + 1) (fun _ => r + 1) (cdn k (k + r) P q C), vux r (cdn k (k + r) P q C) (cdn k (k + r) P q C r) (cdn k (k + r) P q C r r), veq (q2.v), vstU bk2 r (cdn k (k + r) P q C) (cdn k (k + r) P q C r) (cdn k (k + r) P q C r r) 32] : List VF) → VSt kq := by
  intro kq hkq
  simp only [List.mem_cons, List.not_mem_nil, or_false] at hkq
  rcases hkq with rfl | rfl | rfl | rfl | rfl | rfl | rfl | rfl | rfl | rfl
  ·
   exact (veq_se _).st
  ·
   exact (vmt_se _ _ _).st
  ·
   exact (veq_se _).st
  ·
   exact (vmt_se _ _ _).st
  ·
   exact (veq_se _).st
  ·
   exact (veq_se _).st
  ·
   exact (vmt_se _ _ _).st
  ·
   exact (vux_se _ _ _ _).st
  ·
   exact (veq_se _).st
  ·
   exact vstU_st _ _ _ _ _ _
 refine wp_region_s 10 [some 30, some 31, some 32, some 33, some 34, some 35, some 36, some 37, some 38, none] [veq (.agg #[p.v, s.v, .bool c.b, .slice c.a c.n c.c]), vmt (k + r + 1) (fun _ => k + r + 1) (tbl (k + r) P q C), veq (.int .i64 (((k : Nat) : Int))), vmt (k + r + 1 - k) (fun i => (fun _ => k + r + 1) (k + i)) (fun i => (tbl (k + r) P q C) (k + i)), veq (s1.v), veq (q2.v), vmt (r + 1) (fun _ => r + 1) (cdn k (k + r) P q C), vux r (cdn k (k + r) P q C) (cdn k (k + r) P q C r) (cdn k (k + r) P q C r r), veq (q2.v), vstU bk2 r (cdn k (k + r) P q C) (cdn k (k + r) P q C r) (cdn k (k + r) P q C r r) 32] (fun _ _ X1 l1 => XR7 = X1 ∧ ∃ Cz0 : Array Value, Cz0.size = 4 ∧ [(bk3, #[.bool q2.b, .slice q2.a q2.n q2.c], 30), (bk2, Cz0, 32), (bk1, #[p.v, s.v, .bool c.b, .slice c.a c.n c.c], 32)] = l1) [q2.is, Mt k (fun _ => k) P s1, Mt (k + r) (fun _ => k + r) P p, Ls (k + r) q s, c.is] (by kernel_rfl) (by kernel_rfl) (by rfl) (by decide) (by rfl) (fun _ => ⟨XR7, _, ⟨rfl, _, rfl, rfl⟩, hZ13.later (Below.refl _ _).drew⟩) ?_ ?_
 ·
  intro iq hlq hiq LL uu ww aa X1 l1 hLi hLc hR hJ hd hall hev hin hold
  clear hZ13
  obtain rfl | rfl | rfl | rfl | rfl | rfl | rfl | rfl | rfl | rfl : iq = 0 ∨ iq = 1 ∨ iq = 2 ∨ iq = 3 ∨ iq = 4 ∨ iq = 5 ∨ iq = 6 ∨ iq = 7 ∨ iq = 8 ∨ iq = 9 := by omega
  ·
   refine opS_z hJ (fun _ => hR) ?_
   obtain ⟨eX, Cz0, hsCz0, el⟩ := hR
   subst eX
   subst el
   exact .inr ⟨rfl, fun K' hK => wp_load 32 (.tmp 2) rfl bk1 0 4 #[p.v, s.v, .bool c.b, .slice c.a c.n c.c] #[p.v, s.v, .bool c.b, .slice c.a c.n c.c] 32 (hJ.es.at' _ (zzG (i := 2) rfl)) (eval_tmp ((hev 2 (by decide)).trans rfl)) ag32 sz32 (zzF (by kernel_rfl)) (by kernel_rfl) (hK _ _ hJ rfl vzL_same)⟩
  ·
   refine opS_z hJ (fun _ => hR) ?_
   obtain ⟨eX, Cz0, hsCz0, el⟩ := hR
   subst eX
   subst el
   refine .inr ⟨rfl, fun K' hK => ?_⟩
   refine wp_callz (.func 63) #[.tmp 30] #[32] 63 #[] #[.agg #[p.v, s.v, .bool c.b, .slice c.a c.n c.c]] _ rfl rfl (map1 (eval_tmp ((hin 0 30 rfl).trans (congrArg some (show uu 0 = .agg #[p.v, s.v, .bool c.b, .slice c.a c.n c.c] from (hd 0 (by decide) (by kernel_rfl)).2))))) rfl (fun _ _ => rfl) ((uTable hJ.nx p s c (hJ.get 2 (f := Mt (k + r) (fun _ => k + r) P p) rfl) (hJ.get 3 (f := Ls (k + r) q s) rfl) (hJ.get 4 (f := c.is) rfl) ez_c (by omega)).mono (ptab_mt hJ.nx)) ?_
   rintro zz ww2 ⟨s3, rfl, hi_s3, hB⟩
   exact ⟨_, rfl, hK _ _ (hJ.later hB) ⟨s3, rfl, hi_s3⟩ (vzL_later hVS7 hB)⟩
  ·
   refine opS_z hJ (fun _ => hR) ?_
   obtain ⟨eX, Cz0, hsCz0, el⟩ := hR
   subst eX
   subst el
   exact .inr ⟨rfl, fun K' hK => wp_move (.tmp 1) rfl (eval_tmp ((hev 1 (by decide)).trans rfl)) (hK _ _ hJ rfl vzL_same)⟩
  ·
   refine opS_z hJ (fun _ => hR) ?_
   obtain ⟨eX, Cz0, hsCz0, el⟩ := hR
   subst eX
   subst el
   obtain ⟨s3, e1, hi_s3⟩ := (show (vmt (k + r + 1) (fun _ => k + r + 1) (tbl (k + r) P q C)) (uu 1) XR7 ww from (hd 1 (by decide) (by kernel_rfl)).2)
   replace hJ := hJ.more (f := Mt (k + r + 1) (fun _ => k + r + 1) (tbl (k + r) P q C) s3) (Mt.stb _ _ _ _) hi_s3
   exact .inr ⟨rfl, fun K' hK => wp_slm 25 27 (.tmp 31) (.tmp 32) s3 k rfl (eval_tmp ((hin 1 31 rfl).trans (congrArg some e1))) (eval_tmp ((hin 2 32 rfl).trans (congrArg some (show uu 2 = .int .i64 (((k : Nat) : Int)) from (hd 2 (by decide) (by kernel_rfl)).2)))) (by kernel_rfl) sz27 (hJ.get 0 (f := Mt (k + r + 1) (fun _ => k + r + 1) (tbl (k + r) P q C) s3) rfl) (by omega) (fun s4 hi_s4 => hK _ _ (hJ.only [q2.is, Mt k (fun _ => k) P s1, Mt (k + r) (fun _ => k + r) P p, Ls (k + r) q s, c.is] (by simp)) ⟨s4, rfl, hi_s4⟩ vzL_same)⟩
  ·
   refine opS_z hJ (fun _ => hR) ?_
   obtain ⟨eX, Cz0, hsCz0, el⟩ := hR
   subst eX
   subst el
   exact .inr ⟨rfl, fun K' hK => wp_move (.tmp 7) rfl (eval_tmp ((hev 7 (by decide)).trans rfl)) (hK _ _ hJ rfl vzL_same)⟩
  ·
   refine opS_z hJ (fun _ => hR) ?_
   obtain ⟨eX, Cz0, hsCz0, el⟩ := hR
   subst eX
   subst el
   exact .inr ⟨rfl, fun K' hK => wp_load 30 (.tmp 5) rfl bk3 0 2 #[.bool q2.b, .slice q2.a q2.n q2.c] #[.bool q2.b, .slice q2.a q2.n q2.c] 30 (hJ.es.at' _ (zzG (i := 0) rfl)) (eval_tmp ((hev 5 (by decide)).trans rfl)) ag30 sz30 (zzF (by kernel_rfl)) (by kernel_rfl) (hK _ _ hJ rfl vzL_same)⟩
  ·
   refine opS_z hJ (fun _ => hR) ?_
   obtain ⟨eX, Cz0, hsCz0, el⟩ := hR
   subst eX
   subst el
   obtain ⟨s4, e3, hi_s4⟩ := (show (vmt (k + r + 1 - k) (fun i => (fun _ => k + r + 1) (k + i)) (fun i => (tbl (k + r) P q C) (k + i))) (uu 3) XR7 ww from (hd 3 (by decide) (by kernel_rfl)).2)
   replace hJ := hJ.more (f := Mt (k + r + 1 - k) (fun i => (fun _ => k + r + 1) (k + i)) (fun i => (tbl (k + r) P q C) (k + i)) s4) (Mt.stb _ _ _ _) hi_s4
   refine .inr ⟨rfl, fun K' hK => ?_⟩
   refine wp_callz (.func 62) #[.tmp 33, .tmp 34, .tmp 35] #[25, 26, 30] 62 #[] #[s4.v, s1.v, q2.v] _ rfl rfl (map3 (eval_tmp ((hin 3 33 rfl).trans (congrArg some e3))) (eval_tmp ((hin 4 34 rfl).trans (congrArg some (show uu 4 = s1.v from (hd 4 (by decide) (by kernel_rfl)).2)))) (eval_tmp ((hin 5 35 rfl).trans (congrArg some (show uu 5 = q2.v from (hd 5 (by decide) (by kernel_rfl)).2))))) rfl (fun _ _ => rfl) (uCond hJ.nx s4 s1 q2 (k := k) (r := r + 1) (m := k + r + 1) (e := e) (B := fun i => tbl (k + r) P q C (k + i)) hk (by omega) (by omega) he1 he (hJ.get 1 (f := q2.is) rfl) ez_q2 (dt_sz (fun i j hi hj => bP i j (by omega) (by omega))) (hJ.get 2 (f := Mt k (fun _ => k) P s1) rfl) (Mt.cast (by omega) (hJ.get 0 (f := Mt (k + r + 1 - k) (fun i => (fun _ => k + r + 1) (k + i)) (fun i => (tbl (k + r) P q C) (k + i)) s4) rfl)) (fun i j hi hj => bP i j (by omega) (by omega)) (fun i j _ _ => tbl_sz bP bq bC _ _) HD.out) ?_
   rintro zz ww2 ⟨s5, rfl, hi_s5, hB⟩
   exact ⟨_, rfl, hK _ _ ((hJ.only [q2.is, Mt k (fun _ => k) P s1, Mt (k + r) (fun _ => k + r) P p, Ls (k + r) q s, c.is] (by simp)).later hB) ⟨s5, rfl, hi_s5⟩ (vzL_later hVS7 hB)⟩
  ·
   refine opS_z hJ (fun _ => hR) ?_
   obtain ⟨eX, Cz0, hsCz0, el⟩ := hR
   subst eX
   subst el
   obtain ⟨s5, e6, hi_s5⟩ := (show (vmt (r + 1) (fun _ => r + 1) (cdn k (k + r) P q C)) (uu 6) XR7 ww from (hd 6 (by decide) (by kernel_rfl)).2)
   replace hJ := hJ.more (f := Mt (r + 1) (fun _ => r + 1) (cdn k (k + r) P q C) s5) (Mt.stb _ _ _ _) hi_s5
   refine .inr ⟨rfl, fun K' hK => ?_⟩
   refine wp_callz (.func 61) #[.tmp 36] #[25] 61 #[] #[s5.v] _ rfl rfl (map1 (eval_tmp ((hin 6 36 rfl).trans (congrArg some e6)))) rfl (fun _ _ => rfl) (uOfT hJ.nx s5 (n := r) (hJ.get 0 (f := Mt (r + 1) (fun _ => r + 1) (cdn k (k + r) P q C) s5) rfl) (by omega)) ?_
   rintro zz ww2 ⟨pw, sw, cw, rfl, hi_pw, hi_sw, ez_cw, hi_cw, hB⟩
   exact ⟨_, rfl, hK _ _ ((hJ.only [q2.is, Mt k (fun _ => k) P s1, Mt (k + r) (fun _ => k + r) P p, Ls (k + r) q s, c.is] (by simp)).later hB) ⟨pw, sw, cw, rfl, hi_pw, hi_sw, ez_cw, hi_cw⟩ (vzL_later hVS7 hB)⟩
  ·
   refine opS_z hJ (fun _ => hR) ?_
   obtain ⟨eX, Cz0, hsCz0, el⟩ := hR
   subst eX
   subst el
   exact .inr ⟨rfl, fun K' hK => wp_load 30 (.tmp 5) rfl bk3 0 2 #[.bool q2.b, .slice q2.a q2.n q2.c] #[.bool q2.b, .slice q2.a q2.n q2.c] 30 (hJ.es.at' _ (zzG (i := 0) rfl)) (eval_tmp ((hev 5 (by decide)).trans rfl)) ag30 sz30 (zzF (by kernel_rfl)) (by kernel_rfl) (hK _ _ hJ rfl vzL_same)⟩
  ·
   obtain ⟨eX, Cz0, hsCz0, el⟩ := hR
   subst eX
   subst el
   obtain ⟨pw, sw, cw, e7, hi_pw, hi_sw, ez_cw, hi_cw⟩ := (show (vux r (cdn k (k + r) P q C) (cdn k (k + r) P q C r) (cdn k (k + r) P q C r r)) (uu 7) XR7 ww from (hd 7 (by decide) (by kernel_rfl)).2)
   replace hJ := hJ.more (f := Mt r (fun _ => r) (cdn k (k + r) P q C) pw) (Mt.stb _ _ _ _) hi_pw
   replace hJ := hJ.more (f := Ls r (cdn k (k + r) P q C r) sw) (Ls.stb _ _ _) hi_sw
   replace hJ := hJ.more (f := cw.is) cw.stb hi_cw
   have hXb : XR7 bk2 := hJ.own _ (zzG (i := 1) rfl)
   refine .inr ⟨rfl, fun K' hK => wp_store 32 (.tmp 4) (.tmp 37) rfl 1 bk2 0 Cz0 32 4 [pw.v, sw.v, .bool cw.b, .slice cw.a cw.n cw.c] hJ.es rfl (eval_tmp ((hev 4 (by decide)).trans rfl)) (by rw [(eval_tmp ((hin 7 37 rfl).trans (congrArg some e7)))]; rfl) sz32 rfl (by omega) (by kernel_rfl) (fun ww2 hE hk hz => ?_)⟩
   have hP := (hJ.put (j := 1) rfl hE hk hz).only [q2.is, Mt k (fun _ => k) P s1, Mt (k + r) (fun _ => k + r) P p, Ls (k + r) q s, c.is] (by simp)
   exact hK undef ww2 _ _ ⟨rfl, putC Cz0 0 _, by rw [putC_size]; exact hsCz0, rfl⟩ hP ⟨pw, sw, cw, (Mt.stb _ _ _ _ _ _ _ _ (ext_put hXb hk hz) hi_pw), (Ls.stb _ _ _ _ _ _ _ (ext_put hXb hk hz) hi_sw), ez_cw, (cw.stb _ _ _ _ (ext_put hXb hk hz) hi_cw), (put_cl (j := 1) hE rfl (by rw [hsCz0]; rfl))⟩ (vzL_p hXb hk hz (by
    intro kq hkq
    simp only [List.mem_cons, List.not_mem_nil, or_false] at hkq
    rcases hkq with rfl | rfl | rfl | rfl | rfl | rfl | rfl | rfl | rfl | rfl
    ·
     exact .inl ((veq_se _).sp _)
    ·
     exact .inl ((vmt_se _ _ _).sp _)
    ·
     exact .inl ((veq_se _).sp _)
    ·
     exact .inl ((vmt_se _ _ _).sp _)
    ·
     exact .inl ((veq_se _).sp _)
    ·
     exact .inl ((veq_se _).sp _)
    ·
     exact .inl ((vmt_se _ _ _).sp _)
    ·
     exact .inl ((vux_se _ _ _ _).sp _)
    ·
     exact .inl ((veq_se _).sp _)
    ·
     exact .inr (fun _ => ⟨pw, sw, cw, (Mt.stb _ _ _ _ _ _ _ _ (ext_put hXb hk hz) hi_pw), (Ls.stb _ _ _ _ _ _ _ (ext_put hXb hk hz) hi_sw), ez_cw, (cw.stb _ _ _ _ (ext_put hXb hk hz) hi_cw), (put_cl (j := 1) hE rfl (by rw [hsCz0]; rfl))⟩)))
 clear hZ13
 intro LL uu W8 X1 l1 hLL hR hZ14 hd
 obtain ⟨eX, Cz0, hsCz0, el⟩ := hR
 subst eX
 subst el
 have e_0 : uu 0 = .agg #[p.v, s.v, .bool c.b, .slice c.a c.n c.c] := hd 0 (by decide)
 obtain ⟨s3, e_1, hi_s3⟩ := (show (vmt (k + r + 1) (fun _ => k + r + 1) (tbl (k + r) P q C)) (uu 1) XR7 W8 from hd 1 (by decide))
 have e_2 : uu 2 = .int .i64 (((k : Nat) : Int)) := hd 2 (by decide)
 obtain ⟨s4, e_3, hi_s4⟩ := (show (vmt (k + r + 1 - k) (fun i => (fun _ => k + r + 1) (k + i)) (fun i => (tbl (k + r) P q C) (k + i))) (uu 3) XR7 W8 from hd 3 (by decide))
 have e_4 : uu 4 = s1.v := hd 4 (by decide)
 have e_5 : uu 5 = q2.v := hd 5 (by decide)
 obtain ⟨s5, e_6, hi_s5⟩ := (show (vmt (r + 1) (fun _ => r + 1) (cdn k (k + r) P q C)) (uu 6) XR7 W8 from hd 6 (by decide))
 obtain ⟨pw, sw, cw, e_7, hi_pw, hi_sw, ez_cw, hi_cw⟩ := (show (vux r (cdn k (k + r) P q C) (cdn k (k + r) P q C r) (cdn k (k + r) P q C r r)) (uu 7) XR7 W8 from hd 7 (by decide))
 have e_8 : uu 8 = q2.v := hd 8 (by decide)
 obtain ⟨pw_9, sw_9, cw_9, hi_pw_9, hi_sw_9, ez_cw_9, hi_cw_9, hcl9⟩ := (show (vstU bk2 r (cdn k (k + r) P q C) (cdn k (k + r) P q C r) (cdn k (k + r) P q C r r) 32) (uu 9) XR7 W8 from hd 9 (by decide))
 obtain rfl := cl_eq (hZ14.es.at' _ (zzG (i := 1) rfl)) hcl9
 clear hcl9 hsCz0
 clear hd hVS7
 simp only [layS, Act.put, zzC, zzD, zzE, Nat.zero_add, Nat.reduceAdd, List.drop_succ_cons, List.drop_zero, List.drop_nil, e_0, e_1, e_2, e_3, e_4, e_5, e_6, e_7, e_8]
 clear e_0 e_1 e_2 e_3 e_4 e_5 e_6 e_7 e_8
 have hZ15 := hZ14.more (f := Mt (k + r + 1) (fun _ => k + r + 1) (tbl (k + r) P q C) s3) (Mt.stb _ _ _ _) hi_s3
 clear hZ14
 clear hi_s3
 have hZ16 := hZ15.more (f := Mt (k + r + 1 - k) (fun i => (fun _ => k + r + 1) (k + i)) (fun i => (tbl (k + r) P q C) (k + i)) s4) (Mt.stb _ _ _ _) hi_s4
 clear hZ15
 clear hi_s4
 have hZ17 := hZ16.more (f := Mt (r + 1) (fun _ => r + 1) (cdn k (k + r) P q C) s5) (Mt.stb _ _ _ _) hi_s5
 clear hZ16
 clear hi_s5
 have hZ18 := hZ17.more (f := Mt r (fun _ => r) (cdn k (k + r) P q C) pw) (Mt.stb _ _ _ _) hi_pw
 clear hZ17
 clear hi_pw
 have hZ19 := hZ18.more (f := Ls r (cdn k (k + r) P q C r) sw) (Ls.stb _ _ _) hi_sw
 clear hZ18
 clear hi_sw
 have hZ20 := hZ19.more (f := cw.is) cw.stb hi_cw
 clear hZ19
 clear hi_cw
 have hZ21 := hZ20.more (f := Mt r (fun _ => r) (cdn k (k + r) P q C) pw_9) (Mt.stb _ _ _ _) hi_pw_9
 clear hZ20
 clear hi_pw_9
 have hZ22 := hZ21.more (f := Ls r (cdn k (k + r) P q C r) sw_9) (Ls.stb _ _ _) hi_sw_9
 clear hZ21
 clear hi_sw_9
 have hZ23 := hZ22.more (f := cw_9.is) cw_9.stb hi_cw_9
 clear hZ22
 clear hi_cw_9
 go_wp2_with (refine stopz_store 30 (.tmp 5) (.tmp 38) 0 bk3 0 #[.bool q2.b, .slice q2.a q2.n q2.c] 30 2 [.bool q2.b, .slice q2.a q2.n q2.c] #[.bool q2.b, .slice q2.a q2.n q2.c] [(bk3, #[.bool q2.b, .slice q2.a q2.n q2.c], 30), (bk2, #[pw_9.v, sw_9.v, .bool cw_9.b, .slice cw_9.a cw_9.n cw_9.c], 32), (bk1, #[p.v, s.v, .bool c.b, .slice c.a c.n c.c], 32)] rfl rfl rfl rfl sz30 hZ23 rfl rfl (zzF (by kernel_rfl)) (by kernel_rfl) (by kernel_rfl) (by kernel_rfl) (fun W9 hZ24 => ?_))
 clear hZ23
 unfold Stop
 try simp only [Act.put, zzC, zzD, zzE]
 go_wp2
 refine bodyPost_ret (v := .tuple #[.agg #[pw_9.v, sw_9.v, .bool cw_9.b, .slice cw_9.a cw_9.n cw_9.c], .agg #[.bool q2.b, .slice q2.a q2.n q2.c], .int .i64 0]) (results_cct Tryz.results26 (hZ24.es.loadBox 1 rfl ag32 sz32 (zzF (by kernel_rfl)) (by kernel_rfl)) (hZ24.es.loadBox 0 rfl ag30 sz30 (zzF (by kernel_rfl)) (by kernel_rfl)) rfl rfl rfl) rfl ?_
 exact ⟨pw_9, sw_9, cw_9, q2, rfl, (hZ24.out 2 (f := Mt r (fun _ => r) (cdn k (k + r) P q C) pw_9) rfl).congr (fun _ _ => rfl) (fun i j hi hj => cdn_lp HS.out HD.out hi hj), (hZ24.out 1 (f := Ls r (cdn k (k + r) P q C r) sw_9) rfl).congr (fun i hi => cdn_lq HS.out hi), ez_cw_9.trans cdn_lc, (hZ24.out 0 (f := cw_9.is) rfl), ez_q2, (hZ24.out 9 (f := q2.is) rfl), hZ24.below⟩
end Go.Proofs.YtjclllindbfmhaaGreatDoor

/- The laws' awake of layer 8. No statement of the seat is proved here. -/
namespace Go.Proofs.YtjclllindbfmhaaGreatDoor
open Go Go.RowKit
open Classical in
set_option maxRecDepth 100000 in
set_option maxHeartbeats 12800000 in
theorem uAwake {X0 : Nat → Prop} {w : World} (hX : NX X0 w) : Calls Tryz.prog 9 #[] w (PVal (.bool true) w) := by
 have hZ0 := zs_start hX
 go_enter Tryz.func9, Tryz.ntmps9
 go_wp2_with (refine stopz_bi2 ei23 (.const (.int .i64 2)) (.const (.int .i64 1)) rfl rfl rfl rfl hZ0 (fun s1 W1 hZ1 => ?_))
 clear hZ0
 unfold Stop
 try simp only [Act.put, zzC, zzD, zzE]
 go_wp2_with (refine stopz_bi2 ei23 (.const (.int .i64 1)) (.const (.int .i64 3)) rfl rfl rfl rfl hZ1 (fun s2 W2 hZ2 => ?_))
 clear hZ1
 unfold Stop
 try simp only [Act.put, zzC, zzD, zzE]
 go_wp2_with (refine stopz_bm2 ei22 (.tmp 26) (.tmp 27) rfl rfl rfl rfl hZ2 (hZ2.get 1 (f := Li 2 (l2 2 1) s1) rfl) (hZ2.get 0 (f := Li 2 (l2 1 3) s2) rfl) (fun s3 W3 hZ3 => ?_))
 clear hZ2
 unfold Stop
 try simp only [Act.put, zzC, zzD, zzE]
 go_wp2_with (refine stopz_bi2 ei23 (.const (.int .i64 1)) (.const (.int .i64 2)) rfl rfl rfl rfl hZ3 (fun s4 W4 hZ4 => ?_))
 clear hZ3
 unfold Stop
 try simp only [Act.put, zzC, zzD, zzE]
 go_wp2_with fail
 refine (uOfY hZ4.nx s3 s4 (R := eP) (x := eq_) (hZ4.get 1 (f := Mi 2 (fun _ => 2) (m2 (l2 2 1) (l2 1 3)) s3) rfl) (hZ4.get 0 (f := Li 2 (l2 1 2) s4) rfl) (fun i j _ _ => eP_in i j) ⟨by omega, fun _ _ => rfl⟩ e_sym (fun i _ => eq_in i) (by omega)).mono ?_
 rintro zz W5 ⟨pf, sf, cf, rfl, hi_pf, hi_sf, ez_cf, hi_cf, hB⟩
 have hZ5 := hZ4.later hB
 clear hB
 clear hZ4
 have hZ6 := hZ5.more (f := Mt 2 (fun _ => 2) eP pf) (Mt.stb _ _ _ _) hi_pf
 clear hZ5
 clear hi_pf
 have hZ7 := hZ6.more (f := Ls 2 eq_ sf) (Ls.stb _ _ _) hi_sf
 clear hZ6
 clear hi_sf
 have hZ8 := hZ7.more (f := cf.is) cf.stb hi_cf
 clear hZ7
 clear hi_cf
 go_wp2_with (refine stopz_alloc 32 #[.slice none 0 0, .slice none 0 0, .bool false, .slice none 0 0] (.agg #[.slice none 0 0, .slice none 0 0, .bool false, .slice none 0 0]) rfl rfl zv32 rfl hZ8 (fun bk1 X9 W6 hZ9 => ?_))
 clear hZ8
 unfold Stop
 try simp only [Act.put, zzC, zzD, zzE]
 go_wp2_with (refine stopz_store 32 (.tmp 1) (.tmp 31) 0 bk1 0 #[.slice none 0 0, .slice none 0 0, .bool false, .slice none 0 0] 32 4 [pf.v, sf.v, .bool cf.b, .slice cf.a cf.n cf.c] #[pf.v, sf.v, .bool cf.b, .slice cf.a cf.n cf.c] [(bk1, #[pf.v, sf.v, .bool cf.b, .slice cf.a cf.n cf.c], 32)] rfl rfl rfl rfl sz32 hZ9 rfl rfl (zzF (by kernel_rfl)) (by kernel_rfl) (by kernel_rfl) (by kernel_rfl) (fun W7 hZ10 => ?_))
 clear hZ9
 unfold Stop
 try simp only [Act.put, zzC, zzD, zzE]
 go_wp2_with (refine stop_opw (by kernel_rfl) (fun K hK => wp_fda (v := .pointer (some ⟨bk1, 0, none⟩)) 32 (.tmp 1) 0 rfl rfl (fun _ => by kernel_rfl) (hK _ _ ?_)))
 unfold Stop
 try simp only [Act.put, zzC, zzD, zzE]
 go_wp2_with (refine stop_opw (by kernel_rfl) (fun K hK => wp_load1 (v := pf.v) 26 (.tmp 36) rfl bk1 0 #[pf.v, sf.v, .bool cf.b, .slice cf.a cf.n cf.c] 32 (hZ10.es.at' _ (zzG (i := 0) rfl)) rfl ag26 (by kernel_rfl) (hK _ _ ?_)))
 unfold Stop
 try simp only [Act.put, zzC, zzD, zzE]
 go_wp2_with (refine stop_opw (by kernel_rfl) (fun K hK => wp_lenq (.tmp 37) 26 27 pf rfl (by kernel_rfl) rfl (hZ10.get 2 (f := Mt 2 (fun _ => 2) eP pf) rfl).n (hK _ _ ?_)))
 unfold Stop
 try simp only [Act.put, zzC, zzD, zzE]
 go_wp2_with (refine stop_opw (by kernel_rfl) (fun K hK => wp_neqi (.tmp 38) (.const (.int .i64 2)) 3 3 rfl rfl rfl rfl (r := false) (decide_eq_false (by decide)) (hK _ _ ?_)))
 unfold Stop
 try simp only [Act.put, zzC, zzD, zzE]
 go_wp2_with (refine stop_opw (by kernel_rfl) (fun K hK => wp_fda (v := .pointer (some ⟨bk1, 1, none⟩)) 32 (.tmp 1) 1 rfl rfl (fun _ => by kernel_rfl) (hK _ _ ?_)))
 unfold Stop
 try simp only [Act.put, zzC, zzD, zzE]
 go_wp2_with (refine stop_opw (by kernel_rfl) (fun K hK => wp_load1 (v := sf.v) 27 (.tmp 42) rfl bk1 1 #[pf.v, sf.v, .bool cf.b, .slice cf.a cf.n cf.c] 32 (hZ10.es.at' _ (zzG (i := 0) rfl)) rfl ag27 (by kernel_rfl) (hK _ _ ?_)))
 unfold Stop
 try simp only [Act.put, zzC, zzD, zzE]
 go_wp2_with (refine stop_opw (by kernel_rfl) (fun K hK => wp_lenq (.tmp 43) 27 30 sf rfl (by kernel_rfl) rfl (hZ10.get 1 (f := Ls 2 eq_ sf) rfl).n (hK _ _ ?_)))
 unfold Stop
 try simp only [Act.put, zzC, zzD, zzE]
 go_wp2_with (refine stop_opw (by kernel_rfl) (fun K hK => wp_neqi (.tmp 44) (.const (.int .i64 2)) 3 3 rfl rfl rfl rfl (r := false) (decide_eq_false (by decide)) (hK _ _ ?_)))
 unfold Stop
 try simp only [Act.put, zzC, zzD, zzE]
 go_wp2_with (refine stopz_bi2 ei23 (.const (.int .i64 1)) (.const (.int .i64 1)) rfl rfl rfl rfl hZ10 (fun s5 W8 hZ11 => ?_))
 clear hZ10
 unfold Stop
 try simp only [Act.put, zzC, zzD, zzE]
 go_wp2_with fail
 refine (uList hZ11.nx s5 2 (hZ11.get 0 (f := Li 2 (l2 1 1) s5) rfl) (by omega) (fun i _ => l2_in (by decide) (by decide) i)).mono ?_
 rintro zz W9 ⟨s7, d7, rfl, hi_s7, hi_d7, hB⟩
 have hZ12 := hZ11.later hB
 clear hB
 clear hZ11
 have hZ13 := hZ12.more (f := Ls 2 (xl 2 (l2 1 1)) s7) (Ls.stb _ _ _) hi_s7
 clear hZ12
 clear hi_s7
 go_wp2_with fail
 refine (uList hZ13.nx slz 2 (li_nil (fun _ => 0) _ _) (by omega) (fun i hi => absurd hi (Nat.not_lt_zero i))).mono ?_
 rintro zz W10 ⟨s9, d9, rfl, hi_s9, hi_d9, hB⟩
 have hZ14 := hZ13.later hB
 clear hB
 clear hZ13
 have hZ15 := hZ14.more (f := Ls 2 (xl 0 (fun _ => 0)) s9) (Ls.stb _ _ _) hi_s9
 clear hZ14
 clear hi_s9
 go_wp2_with (refine stop_op rfl (fun K hK => wp_bi1 ei23 (.const (.int .i64 1)) rfl rfl hZ15 (fun s10 W11 hZ16 => hK _ _ ?_)))
 unfold Stop
 try simp only [Act.put, zzC, zzD, zzE]
 clear hZ15
 go_wp2_with fail
 refine (uList hZ16.nx s10 1 (hZ16.get 0 (f := Li 1 (l1 1) s10) rfl) (by omega) l1_in).mono ?_
 rintro zz W12 ⟨s12, d12, rfl, hi_s12, hi_d12, hB⟩
 have hZ17 := hZ16.later hB
 clear hB
 clear hZ16
 have hZ18 := hZ17.more (f := Ls 1 (xl 1 (l1 1)) s12) (Ls.stb _ _ _) hi_s12
 clear hZ17
 clear hi_s12
 go_wp2_with (refine stop_op rfl (fun K hK => wp_load 32 (.tmp 1) rfl bk1 0 4 #[pf.v, sf.v, .bool cf.b, .slice cf.a cf.n cf.c] #[pf.v, sf.v, .bool cf.b, .slice cf.a cf.n cf.c] 32 (hZ18.es.at' _ (zzG (i := 0) rfl)) rfl ag32 sz32 (zzF (by kernel_rfl)) (by kernel_rfl) (hK _ _ ?_)))
 unfold Stop
 try simp only [Act.put, zzC, zzD, zzE]
 go_wp2_with fail
 refine (uValue hZ18.nx pf sf cf (e := 2) s7 (hZ18.get 7 (f := Mt 2 (fun _ => 2) eP pf) rfl) (hZ18.get 6 (f := Ls 2 eq_ sf) rfl) (hZ18.get 5 (f := cf.is) rfl) ez_cf (hZ18.get 3 (f := Ls 2 (xl 2 (l2 1 1)) s7) rfl) (fun i j _ _ => eP_sz i j) (fun i _ => eq_sz i) e_4 (fun i _ => xl_in (fun i _ => l2_in (by decide) (by decide) i) i) (by omega) (by omega)).mono ?_
 rintro zz W13 ⟨q13, rfl, ez_q13, hi_q13, hB⟩
 have hZ19 := hZ18.later hB
 clear hB
 clear hZ18
 have hZ20 := hZ19.more (f := q13.is) q13.stb hi_q13
 clear hZ19
 clear hi_q13
 go_wp2_with fail
 refine ((zStr (hZ20.get 0 (f := q13.is) rfl) ez_q13 (vq_sz (fun i j _ _ => eP_sz i j) (fun i _ => eq_sz i) e_4 (fun i _ => xl_in (fun i _ => l2_in (by decide) (by decide) i) i)) (by first | omega | exact Nat.le_trans (dtb_le (by omega) (by omega)) (by omega))).mono (fun _ _ h => ptxt_dec h)).mono ?_
 rintro zz W14 ⟨rfl, hB⟩
 have hZ21 := hZ20.later hB
 clear hB
 clear hZ20
 go_wp2_with (refine stop_op rfl (fun K hK => wp_load 32 (.tmp 1) rfl bk1 0 4 #[pf.v, sf.v, .bool cf.b, .slice cf.a cf.n cf.c] #[pf.v, sf.v, .bool cf.b, .slice cf.a cf.n cf.c] 32 (hZ21.es.at' _ (zzG (i := 0) rfl)) rfl ag32 sz32 (zzF (by kernel_rfl)) (by kernel_rfl) (hK _ _ ?_)))
 unfold Stop
 try simp only [Act.put, zzC, zzD, zzE]
 go_wp2_with fail
 refine (uSlope hZ21.nx pf sf cf (e := 2) s9 (hZ21.get 8 (f := Mt 2 (fun _ => 2) eP pf) rfl) (hZ21.get 7 (f := Ls 2 eq_ sf) rfl) (hZ21.get 6 (f := cf.is) rfl) ez_cf (hZ21.get 3 (f := Ls 2 (xl 0 (fun _ => 0)) s9) rfl) (fun i j _ _ => eP_sz i j) (fun i _ => eq_sz i) e_4 (fun i _ => xl_in (fun i hi => absurd hi (Nat.not_lt_zero i)) i) (by omega) (by omega)).mono ?_
 rintro zz W15 ⟨sl, rfl, hi_sl, hB⟩
 have hZ22 := hZ21.later hB
 clear hB
 clear hZ21
 have hZ23 := hZ22.more (f := Ls 2 (fun i => M.mulv 2 eP (xl 0 (fun _ => 0)) i - eq_ i) sl) (Ls.stb _ _ _) hi_sl
 clear hZ22
 clear hi_sl
 go_wp2_with (refine stop_op rfl (fun K hK => wp_load 32 (.tmp 1) rfl bk1 0 4 #[pf.v, sf.v, .bool cf.b, .slice cf.a cf.n cf.c] #[pf.v, sf.v, .bool cf.b, .slice cf.a cf.n cf.c] 32 (hZ23.es.at' _ (zzG (i := 0) rfl)) rfl ag32 sz32 (zzF (by kernel_rfl)) (by kernel_rfl) (hK _ _ ?_)))
 unfold Stop
 try simp only [Act.put, zzC, zzD, zzE]
 go_wp2_with fail
 refine (uLeastY hZ23.nx pf sf cf (e := 2) (hZ23.get 9 (f := Mt 2 (fun _ => 2) eP pf) rfl) (hZ23.get 8 (f := Ls 2 eq_ sf) rfl) (hZ23.get 7 (f := cf.is) rfl) ez_cf (fun i j _ _ => eP_sz i j) (fun i _ => eq_sz i) e_4 (by omega) (by omega) (by omega) a_def (by rw [a_det]; decide)).mono ?_
 rintro zz W16 ⟨sn, dn, tn, rfl, hi_sn, ez_dn, hi_dn, ez_tn, hi_tn, hB⟩
 have hZ24 := hZ23.later hB
 clear hB
 clear hZ23
 have hZ25 := hZ24.more (f := Ls 2 (crx 2 eP eq_) sn) (Ls.stb _ _ _) hi_sn
 clear hZ24
 clear hi_sn
 have hZ26 := hZ25.more (f := dn.is) dn.stb hi_dn
 clear hZ25
 clear hi_dn
 have hZ27 := hZ26.more (f := tn.is) tn.stb hi_tn
 clear hZ26
 clear hi_tn
 go_wp2_with (refine stopz_alloc 30 #[.bool false, .slice none 0 0] (.agg #[.bool false, .slice none 0 0]) rfl rfl zv30 rfl hZ27 (fun bk2 X28 W17 hZ28 => ?_))
 clear hZ27
 unfold Stop
 try simp only [Act.put, zzC, zzD, zzE]
 go_wp2_with (refine stopz_alloc 30 #[.bool false, .slice none 0 0] (.agg #[.bool false, .slice none 0 0]) rfl rfl zv30 rfl hZ28 (fun bk3 X29 W18 hZ29 => ?_))
 clear hZ28
 unfold Stop
 try simp only [Act.put, zzC, zzD, zzE]
 go_wp2_with (refine stopz_store 30 (.tmp 12) (.tmp 72) 1 bk2 0 #[.bool false, .slice none 0 0] 30 2 [.bool dn.b, .slice dn.a dn.n dn.c] #[.bool dn.b, .slice dn.a dn.n dn.c] [(bk3, #[.bool false, .slice none 0 0], 30), (bk2, #[.bool dn.b, .slice dn.a dn.n dn.c], 30), (bk1, #[pf.v, sf.v, .bool cf.b, .slice cf.a cf.n cf.c], 32)] rfl rfl rfl rfl sz30 hZ29 rfl rfl (zzF (by kernel_rfl)) (by kernel_rfl) (by kernel_rfl) (by kernel_rfl) (fun W19 hZ30 => ?_))
 clear hZ29
 unfold Stop
 try simp only [Act.put, zzC, zzD, zzE]
 go_wp2_with (refine stopz_store 30 (.tmp 13) (.tmp 73) 0 bk3 0 #[.bool false, .slice none 0 0] 30 2 [.bool tn.b, .slice tn.a tn.n tn.c] #[.bool tn.b, .slice tn.a tn.n tn.c] [(bk3, #[.bool tn.b, .slice tn.a tn.n tn.c], 30), (bk2, #[.bool dn.b, .slice dn.a dn.n dn.c], 30), (bk1, #[pf.v, sf.v, .bool cf.b, .slice cf.a cf.n cf.c], 32)] rfl rfl rfl rfl sz30 hZ30 rfl rfl (zzF (by kernel_rfl)) (by kernel_rfl) (by kernel_rfl) (by kernel_rfl) (fun W20 hZ31 => ?_))
 clear hZ30
 unfold Stop
 try simp only [Act.put, zzC, zzD, zzE]
 go_wp2_with (refine stop_op rfl (fun K hK => wp_load 30 (.tmp 12) rfl bk2 0 2 #[.bool dn.b, .slice dn.a dn.n dn.c] #[.bool dn.b, .slice dn.a dn.n dn.c] 30 (hZ31.es.at' _ (zzG (i := 1) rfl)) rfl ag30 sz30 (zzF (by kernel_rfl)) (by kernel_rfl) (hK _ _ ?_)))
 unfold Stop
 try simp only [Act.put, zzC, zzD, zzE]
 go_wp2_with fail
 refine ((zStr (hZ31.get 1 (f := dn.is) rfl) ez_dn (dt_sz (fun i j _ _ => eP_sz i j)) (by first | omega | exact Nat.le_trans (dtb_le (by omega) (by omega)) (by omega))).mono (fun _ _ h => ptxt_dec h)).mono ?_
 rintro zz W21 ⟨rfl, hB⟩
 have hZ32 := hZ31.later hB
 clear hB
 clear hZ31
 go_wp2_with (refine stop_op rfl (fun K hK => wp_load 30 (.tmp 13) rfl bk3 0 2 #[.bool tn.b, .slice tn.a tn.n tn.c] #[.bool tn.b, .slice tn.a tn.n tn.c] 30 (hZ32.es.at' _ (zzG (i := 0) rfl)) rfl ag30 sz30 (zzF (by kernel_rfl)) (by kernel_rfl) (hK _ _ ?_)))
 unfold Stop
 try simp only [Act.put, zzC, zzD, zzE]
 go_wp2_with fail
 refine ((zStr (hZ32.get 0 (f := tn.is) rfl) ez_tn e_top_sz (by first | omega | exact Nat.le_trans (dtb_le (by omega) (by omega)) (by omega))).mono (fun _ _ h => ptxt_dec h)).mono ?_
 rintro zz W22 ⟨rfl, hB⟩
 have hZ33 := hZ32.later hB
 clear hB
 clear hZ32
 go_wp2_with (refine stop_op rfl (fun K hK => wp_load 32 (.tmp 1) rfl bk1 0 4 #[pf.v, sf.v, .bool cf.b, .slice cf.a cf.n cf.c] #[pf.v, sf.v, .bool cf.b, .slice cf.a cf.n cf.c] 32 (hZ33.es.at' _ (zzG (i := 2) rfl)) rfl ag32 sz32 (zzF (by kernel_rfl)) (by kernel_rfl) (hK _ _ ?_)))
 unfold Stop
 try simp only [Act.put, zzC, zzD, zzE]
 go_wp2_with fail
 refine (uWithY hZ33.nx pf sf s12 cf (k := 1) (r := 1) (e := 2) (hZ33.get 12 (f := Mt 2 (fun _ => 2) eP pf) rfl) (hZ33.get 11 (f := Ls 2 eq_ sf) rfl) (hZ33.get 10 (f := cf.is) rfl) ez_cf (hZ33.get 5 (f := Ls 1 (xl 1 (l1 1)) s12) rfl) (fun i j _ _ => eP_sz i j) (fun i _ => eq_sz i) e_4 (fun i _ => xl_in l1_in i) e_sym (by omega) (by omega)).mono ?_
 rintro zz W23 ⟨pw, sw, cw, rfl, hi_pw, hi_sw, ez_cw, hi_cw, hB⟩
 have hZ34 := hZ33.later hB
 clear hB
 clear hZ33
 have hZ35 := hZ34.more (f := Mt 1 (fun _ => 1) eP pw) (Mt.stb _ _ _ _) hi_pw
 clear hZ34
 clear hi_pw
 have hZ36 := hZ35.more (f := Ls 1 (wq 1 1 eP eq_ (xl 1 (l1 1))) sw) (Ls.stb _ _ _) hi_sw
 clear hZ35
 clear hi_sw
 have hZ37 := hZ36.more (f := cw.is) cw.stb hi_cw
 clear hZ36
 clear hi_cw
 go_wp2_with (refine stopz_alloc 32 #[.slice none 0 0, .slice none 0 0, .bool false, .slice none 0 0] (.agg #[.slice none 0 0, .slice none 0 0, .bool false, .slice none 0 0]) rfl rfl zv32 rfl hZ37 (fun bk4 X38 W24 hZ38 => ?_))
 clear hZ37
 unfold Stop
 try simp only [Act.put, zzC, zzD, zzE]
 go_wp2_with (refine stopz_store 32 (.tmp 17) (.tmp 83) 0 bk4 0 #[.slice none 0 0, .slice none 0 0, .bool false, .slice none 0 0] 32 4 [pw.v, sw.v, .bool cw.b, .slice cw.a cw.n cw.c] #[pw.v, sw.v, .bool cw.b, .slice cw.a cw.n cw.c] [(bk4, #[pw.v, sw.v, .bool cw.b, .slice cw.a cw.n cw.c], 32), (bk3, #[.bool tn.b, .slice tn.a tn.n tn.c], 30), (bk2, #[.bool dn.b, .slice dn.a dn.n dn.c], 30), (bk1, #[pf.v, sf.v, .bool cf.b, .slice cf.a cf.n cf.c], 32)] rfl rfl rfl rfl sz32 hZ38 rfl rfl (zzF (by kernel_rfl)) (by kernel_rfl) (by kernel_rfl) (by kernel_rfl) (fun W25 hZ39 => ?_))
 clear hZ38
 unfold Stop
 try simp only [Act.put, zzC, zzD, zzE]
 go_wp2_with (refine stop_op rfl (fun K hK => wp_load 32 (.tmp 1) rfl bk1 0 4 #[pf.v, sf.v, .bool cf.b, .slice cf.a cf.n cf.c] #[pf.v, sf.v, .bool cf.b, .slice cf.a cf.n cf.c] 32 (hZ39.es.at' _ (zzG (i := 3) rfl)) rfl ag32 sz32 (zzF (by kernel_rfl)) (by kernel_rfl) (hK _ _ ?_)))
 unfold Stop
 try simp only [Act.put, zzC, zzD, zzE]
 go_wp2_with fail
 refine (uWoY hZ39.nx pf sf cf (k := 1) (r := 1) (e := 2) (hZ39.get 15 (f := Mt 2 (fun _ => 2) eP pf) rfl) (hZ39.get 14 (f := Ls 2 eq_ sf) rfl) (hZ39.get 13 (f := cf.is) rfl) ez_cf (fun i j _ _ => eP_sz i j) (fun i _ => eq_sz i) e_4 e_sym (by omega) (by omega) (by omega) (by omega) e_def1 (by rw [dt_1]; decide)).mono ?_
 rintro zz W26 ⟨po, so, co, dw, rfl, hi_po, hi_so, ez_co, hi_co, ez_dw, hi_dw, hB⟩
 have hZ40 := hZ39.later hB
 clear hB
 clear hZ39
 have hZ41 := hZ40.more (f := Mt 1 (fun _ => 1) (lp 1 eP) po) (Mt.stb _ _ _ _) hi_po
 clear hZ40
 clear hi_po
 have hZ42 := hZ41.more (f := Ls 1 (lq 1 eP eq_) so) (Ls.stb _ _ _) hi_so
 clear hZ41
 clear hi_so
 have hZ43 := hZ42.more (f := co.is) co.stb hi_co
 clear hZ42
 clear hi_co
 have hZ44 := hZ43.more (f := dw.is) dw.stb hi_dw
 clear hZ43
 clear hi_dw
 go_wp2_with (refine stopz_alloc 32 #[.slice none 0 0, .slice none 0 0, .bool false, .slice none 0 0] (.agg #[.slice none 0 0, .slice none 0 0, .bool false, .slice none 0 0]) rfl rfl zv32 rfl hZ44 (fun bk5 X45 W27 hZ45 => ?_))
 clear hZ44
 unfold Stop
 try simp only [Act.put, zzC, zzD, zzE]
 go_wp2_with (refine stopz_alloc 30 #[.bool false, .slice none 0 0] (.agg #[.bool false, .slice none 0 0]) rfl rfl zv30 rfl hZ45 (fun bk6 X46 W28 hZ46 => ?_))
 clear hZ45
 unfold Stop
 try simp only [Act.put, zzC, zzD, zzE]
 go_wp2_with (refine stopz_store 32 (.tmp 19) (.tmp 88) 1 bk5 0 #[.slice none 0 0, .slice none 0 0, .bool false, .slice none 0 0] 32 4 [po.v, so.v, .bool co.b, .slice co.a co.n co.c] #[po.v, so.v, .bool co.b, .slice co.a co.n co.c] [(bk6, #[.bool false, .slice none 0 0], 30), (bk5, #[po.v, so.v, .bool co.b, .slice co.a co.n co.c], 32), (bk4, #[pw.v, sw.v, .bool cw.b, .slice cw.a cw.n cw.c], 32), (bk3, #[.bool tn.b, .slice tn.a tn.n tn.c], 30), (bk2, #[.bool dn.b, .slice dn.a dn.n dn.c], 30), (bk1, #[pf.v, sf.v, .bool cf.b, .slice cf.a cf.n cf.c], 32)] rfl rfl rfl rfl sz32 hZ46 rfl rfl (zzF (by kernel_rfl)) (by kernel_rfl) (by kernel_rfl) (by kernel_rfl) (fun W29 hZ47 => ?_))
 clear hZ46
 unfold Stop
 try simp only [Act.put, zzC, zzD, zzE]
 go_wp2_with (refine stopz_store 30 (.tmp 20) (.tmp 89) 0 bk6 0 #[.bool false, .slice none 0 0] 30 2 [.bool dw.b, .slice dw.a dw.n dw.c] #[.bool dw.b, .slice dw.a dw.n dw.c] [(bk6, #[.bool dw.b, .slice dw.a dw.n dw.c], 30), (bk5, #[po.v, so.v, .bool co.b, .slice co.a co.n co.c], 32), (bk4, #[pw.v, sw.v, .bool cw.b, .slice cw.a cw.n cw.c], 32), (bk3, #[.bool tn.b, .slice tn.a tn.n tn.c], 30), (bk2, #[.bool dn.b, .slice dn.a dn.n dn.c], 30), (bk1, #[pf.v, sf.v, .bool cf.b, .slice cf.a cf.n cf.c], 32)] rfl rfl rfl rfl sz30 hZ47 rfl rfl (zzF (by kernel_rfl)) (by kernel_rfl) (by kernel_rfl) (by kernel_rfl) (fun W30 hZ48 => ?_))
 clear hZ47
 unfold Stop
 try simp only [Act.put, zzC, zzD, zzE]
 go_wp2_with (refine stop_op rfl (fun K hK => wp_load 30 (.tmp 20) rfl bk6 0 2 #[.bool dw.b, .slice dw.a dw.n dw.c] #[.bool dw.b, .slice dw.a dw.n dw.c] 30 (hZ48.es.at' _ (zzG (i := 0) rfl)) rfl ag30 sz30 (zzF (by kernel_rfl)) (by kernel_rfl) (hK _ _ ?_)))
 unfold Stop
 try simp only [Act.put, zzC, zzD, zzE]
 go_wp2_with fail
 refine ((zStr (hZ48.get 0 (f := dw.is) rfl) ez_dw (dt_sz (fun i j _ _ => eP_sz i j)) (by first | omega | exact Nat.le_trans (dtb_le (by omega) (by omega)) (by omega))).mono (fun _ _ h => ptxt_dec h)).mono ?_
 rintro zz W31 ⟨rfl, hB⟩
 have hZ49 := hZ48.later hB
 clear hB
 clear hZ48
 go_wp2_with (refine stopz_bi2 ei23 (.const (.int .i64 1)) (.const (.int .i64 2)) rfl rfl rfl rfl hZ49 (fun s14 W32 hZ50 => ?_))
 clear hZ49
 unfold Stop
 try simp only [Act.put, zzC, zzD, zzE]
 go_wp2_with (refine stopz_bi2 ei23 (.const (.int .i64 3)) (.const (.int .i64 1)) rfl rfl rfl rfl hZ50 (fun s15 W33 hZ51 => ?_))
 clear hZ50
 unfold Stop
 try simp only [Act.put, zzC, zzD, zzE]
 go_wp2_with (refine stopz_bm2 ei22 (.tmp 94) (.tmp 95) rfl rfl rfl rfl hZ51 (hZ51.get 1 (f := Li 2 (l2 1 2) s14) rfl) (hZ51.get 0 (f := Li 2 (l2 3 1) s15) rfl) (fun s16 W34 hZ52 => ?_))
 clear hZ51
 unfold Stop
 try simp only [Act.put, zzC, zzD, zzE]
 go_wp2_with (refine stopz_bi2 ei23 (.const (.int .i64 1)) (.const (.int .i64 2)) rfl rfl rfl rfl hZ52 (fun s17 W35 hZ53 => ?_))
 clear hZ52
 unfold Stop
 try simp only [Act.put, zzC, zzD, zzE]
 go_wp2_with fail
 refine (uOfArg3 hZ53.nx s16 s17 (hZ53.get 1 (f := Mi 2 (fun _ => 2) (m2 (l2 1 2) (l2 3 1)) s16) rfl) (hZ53.get 0 (f := Li 2 (l2 1 2) s17) rfl) (fun i j _ _ => m2_in (by decide) (by decide) (by decide) (by decide) i j) ⟨by omega, fun _ _ => rfl⟩ e_nosym).mono ?_
 rintro zz W36 ⟨rfl, hB⟩
 have hZ54 := hZ53.later hB
 clear hB
 clear hZ53
 go_wp2_with (refine stopz_alloc 32 #[.slice none 0 0, .slice none 0 0, .bool false, .slice none 0 0] (.agg #[.slice none 0 0, .slice none 0 0, .bool false, .slice none 0 0]) rfl rfl zv32 rfl hZ54 (fun bk7 X55 W37 hZ55 => ?_))
 clear hZ54
 unfold Stop
 try simp only [Act.put, zzC, zzD, zzE]
 go_wp2_with (refine stopz_store 32 (.tmp 23) (.tmp 99) 0 bk7 0 #[.slice none 0 0, .slice none 0 0, .bool false, .slice none 0 0] 32 4 [.slice none 0 0, .slice none 0 0, .bool false, .slice none 0 0] #[.slice none 0 0, .slice none 0 0, .bool false, .slice none 0 0] [(bk7, #[.slice none 0 0, .slice none 0 0, .bool false, .slice none 0 0], 32), (bk6, #[.bool dw.b, .slice dw.a dw.n dw.c], 30), (bk5, #[po.v, so.v, .bool co.b, .slice co.a co.n co.c], 32), (bk4, #[pw.v, sw.v, .bool cw.b, .slice cw.a cw.n cw.c], 32), (bk3, #[.bool tn.b, .slice tn.a tn.n tn.c], 30), (bk2, #[.bool dn.b, .slice dn.a dn.n dn.c], 30), (bk1, #[pf.v, sf.v, .bool cf.b, .slice cf.a cf.n cf.c], 32)] rfl rfl rfl rfl sz32 hZ55 rfl rfl (zzF (by kernel_rfl)) (by kernel_rfl) (by kernel_rfl) (by kernel_rfl) (fun W38 hZ56 => ?_))
 clear hZ55
 unfold Stop
 try simp only [Act.put, zzC, zzD, zzE]
 go_wp2_with (refine stop_op rfl (fun K hK => wp_seql (.tmp 101) (.const (.string ⟨([53]).toArray⟩)) 9 9 rfl rfl rfl rfl (r := true) (decide_eq_true e_val) (hK _ _ ?_)))
 unfold Stop
 try simp only [Act.put, zzC, zzD, zzE]
 go_wp2_with fail
 refine (tText hZ56.nx sl (hZ56.get 14 (f := Ls 2 (fun i => M.mulv 2 eP (xl 0 (fun _ => 0)) i - eq_ i) sl) rfl) (e_slope_sz (fun _ => 0)) (by omega) (by first | omega | exact Nat.le_trans (dtb_le (by omega) (by omega)) (by omega))).mono ?_
 rintro zz W39 ⟨rfl, hB⟩
 have hZ57 := hZ56.later hB
 clear hB
 clear hZ56
 go_wp2_with (refine stop_opw (by kernel_rfl) (fun K hK => wp_seql (.tmp 105) (.const (.string ⟨([45, 49, 32, 45, 50, 32]).toArray⟩)) 9 9 rfl rfl rfl rfl (r := true) (decide_eq_true (e_slope _)) (hK _ _ ?_)))
 unfold Stop
 try simp only [Act.put, zzC, zzD, zzE]
 go_wp2_with fail
 refine (tText hZ57.nx sn (hZ57.get 13 (f := Ls 2 (crx 2 eP eq_) sn) rfl) (fun j _ => crx_sz (fun i j _ _ => eP_sz i j) (fun i _ => eq_sz i) j) (by omega) (by first | omega | exact Nat.le_trans (dtb_le (by omega) (by omega)) (by omega))).mono ?_
 rintro zz W40 ⟨rfl, hB⟩
 have hZ58 := hZ57.later hB
 clear hB
 clear hZ57
 go_wp2_with (refine stop_opw (by kernel_rfl) (fun K hK => wp_seql (.tmp 110) (.const (.string ⟨([49, 32, 51, 32]).toArray⟩)) 9 9 rfl rfl rfl rfl (r := true) (decide_eq_true e_num) (hK _ _ ?_)))
 unfold Stop
 try simp only [Act.put, zzC, zzD, zzE]
 go_wp2_with (refine stop_opw (by kernel_rfl) (fun K hK => wp_seql (.tmp 114) (.const (.string ⟨([53]).toArray⟩)) 9 9 rfl rfl rfl rfl (r := true) (decide_eq_true e_den) (hK _ _ ?_)))
 unfold Stop
 try simp only [Act.put, zzC, zzD, zzE]
 go_wp2_with (refine stop_opw (by kernel_rfl) (fun K hK => wp_seql (.tmp 118) (.const (.string ⟨([49, 51]).toArray⟩)) 9 9 rfl rfl rfl rfl (r := true) (decide_eq_true e_top) (hK _ _ ?_)))
 unfold Stop
 try simp only [Act.put, zzC, zzD, zzE]
 go_wp2_with (refine stop_opw (by kernel_rfl) (fun K hK => wp_load 32 (.tmp 17) rfl bk4 0 4 #[pw.v, sw.v, .bool cw.b, .slice cw.a cw.n cw.c] #[pw.v, sw.v, .bool cw.b, .slice cw.a cw.n cw.c] 32 (hZ58.es.at' _ (zzG (i := 3) rfl)) rfl ag32 sz32 (zzF (by kernel_rfl)) (by kernel_rfl) (hK _ _ ?_)))
 unfold Stop
 try simp only [Act.put, zzC, zzD, zzE]
 go_wp2_with fail
 refine (tWhole hZ58.nx pw sw cw (e := 2) (hZ58.get 10 (f := Mt 1 (fun _ => 1) eP pw) rfl) (hZ58.get 9 (f := Ls 1 (wq 1 1 eP eq_ (xl 1 (l1 1))) sw) rfl) (hZ58.get 8 (f := cw.is) rfl) ez_cw (fun i j _ _ => eP_sz i j) e_wq_sz e_wc_sz (by omega) (by omega)).mono ?_
 rintro zz W41 ⟨rfl, hB⟩
 have hZ59 := hZ58.later hB
 clear hB
 clear hZ58
 go_wp2_with (refine stop_opw (by kernel_rfl) (fun K hK => wp_seql (.tmp 131) (.const (.string ⟨([50, 32, 59, 48, 32, 59, 51]).toArray⟩)) 9 9 rfl rfl rfl rfl (r := true) (decide_eq_true e_with) (hK _ _ ?_)))
 unfold Stop
 try simp only [Act.put, zzC, zzD, zzE]
 go_wp2_with (refine stop_opw (by kernel_rfl) (fun K hK => wp_seql (.tmp 139) (.const (.string ⟨([50]).toArray⟩)) 9 9 rfl rfl rfl rfl (r := true) (decide_eq_true e_scale) (hK _ _ ?_)))
 unfold Stop
 try simp only [Act.put, zzC, zzD, zzE]
 go_wp2_with (refine stop_opw (by kernel_rfl) (fun K hK => wp_load 32 (.tmp 19) rfl bk5 0 4 #[po.v, so.v, .bool co.b, .slice co.a co.n co.c] #[po.v, so.v, .bool co.b, .slice co.a co.n co.c] 32 (hZ59.es.at' _ (zzG (i := 2) rfl)) rfl ag32 sz32 (zzF (by kernel_rfl)) (by kernel_rfl) (hK _ _ ?_)))
 unfold Stop
 try simp only [Act.put, zzC, zzD, zzE]
 go_wp2_with fail
 refine (tWhole hZ59.nx po so co (e := 30) (hZ59.get 7 (f := Mt 1 (fun _ => 1) (lp 1 eP) po) rfl) (hZ59.get 6 (f := Ls 1 (lq 1 eP eq_) so) rfl) (hZ59.get 5 (f := co.is) rfl) ez_co e_lp_sz e_lq_sz e_lc_sz (by omega) (by omega)).mono ?_
 rintro zz W42 ⟨rfl, hB⟩
 have hZ60 := hZ59.later hB
 clear hB
 clear hZ59
 go_wp2_with (refine stop_opw (by kernel_rfl) (fun K hK => wp_seql (.tmp 144) (.const (.string ⟨([53, 32, 59, 51, 32, 59, 55]).toArray⟩)) 9 9 rfl rfl rfl rfl (r := true) (decide_eq_true e_wo) (hK _ _ ?_)))
 unfold Stop
 try simp only [Act.put, zzC, zzD, zzE]
 go_wp2
 go_ret
 exact ⟨rfl, hZ60.below⟩
end Go.Proofs.YtjclllindbfmhaaGreatDoor
