/- Parts of the proof. -/
import Derived.Test.YtjclllindbfmhaaGreatDoorHw0
import Derived.Test.YtjclllindbfmhaaGreatDoorHw39
/- The law QuadMakes of layer 8, walked. No statement of the seat is proved here. -/
namespace Go.Proofs.YtjclllindbfmhaaGreatDoor
open Go Go.RowKit
open Classical in
set_option maxRecDepth 100000 in
set_option maxHeartbeats 25600000 in
theorem umk3 {X0 : Nat → Prop} {w : World} (hX : NX X0 w) (ra qa : Sl) (m kx : Nat) (c : Nat → Nat) (R : Nat → Nat → Int) (x : Nat → Int) (cc : Int) (hra : Mi m c R ra X0 w) (hqa : Li kx x qa X0 w) (rgR0 : ∀ i j, i < m → j < c i → -9223372036854775808 ≤ R i j ∧ R i j ≤ 9223372036854775807) (rgx0 : ∀ i, i < kx → -9223372036854775808 ≤ x i ∧ x i ≤ 9223372036854775807) (hcc : -9223372036854775808 ≤ cc ∧ cc ≤ 9223372036854775807) (hm : m ≤ 12) (hn : ¬ (m = kx ∧ (∀ k, k < m → c k = m) ∧ Sym m R)) (hk : ¬ m = kx) : Calls Tryz.prog 3 #[ra.v, qa.v, .int .i64 cc] w (PVal (.bool true) w) := by
 have HN := Lib.hid hn
 clear hn
 have rgR := Lib.hid rgR0
 clear rgR0
 have rgx := Lib.hid rgx0
 clear rgx0
 have hZ0 := zs_start hX
 have hZ1 := hZ0.more (f := Li kx x qa) (Li.stb _ _ _) hqa
 clear hZ0
 have hZ2 := hZ1.more (f := Mi m c R ra) (Mi.stb _ _ _ _) hra
 clear hZ1
 go_enter Tryz.func3, Tryz.ntmps3
 go_wp2_with fail
 refine (uAwake hZ2.nx).mono ?_
 rintro zz W1 ⟨rfl, hB⟩
 have hZ3 := hZ2.later hB
 clear hB
 clear hZ2
 go_wp2_with fail
 refine (uOfBad hZ3.nx ra qa m kx c R x cc (hZ3.get 0 (f := Mi m c R ra) rfl) (hZ3.get 1 (f := Li kx x qa) rfl) rgR.out rgx.out hcc hm HN.out).mono ?_
 rintro zz W2 ⟨rfl, hB⟩
 have hZ4 := hZ3.later hB
 clear hB
 clear hZ3
 go_wp2_with (refine stopz_alloc 32 #[.slice none 0 0, .slice none 0 0, .bool false, .slice none 0 0] (.agg #[.slice none 0 0, .slice none 0 0, .bool false, .slice none 0 0]) rfl rfl zv32 rfl hZ4 (fun bk1 X5 W3 hZ5 => ?_))
 clear hZ4
 unfold Stop
 try simp only [Act.put, zzC, zzD, zzE]
 go_wp2_with (refine stopz_store 32 (.tmp 8) (.tmp 20) 0 bk1 0 #[.slice none 0 0, .slice none 0 0, .bool false, .slice none 0 0] 32 4 [.slice none 0 0, .slice none 0 0, .bool false, .slice none 0 0] #[.slice none 0 0, .slice none 0 0, .bool false, .slice none 0 0] [(bk1, #[.slice none 0 0, .slice none 0 0, .bool false, .slice none 0 0], 32)] rfl rfl rfl rfl sz32 hZ5 rfl rfl (zzF (by kernel_rfl)) (by kernel_rfl) (by kernel_rfl) (by kernel_rfl) (fun W4 hZ6 => ?_))
 clear hZ5
 unfold Stop
 try simp only [Act.put, zzC, zzD, zzE]
 go_wp2_with (refine stop_op rfl (fun K hK => wp_lenq (.tmp 22) 22 23 ra rfl (by kernel_rfl) rfl (hZ6.get 0 (f := Mi m c R ra) rfl).n (hK _ _ ?_)))
 unfold Stop
 try simp only [Act.put, zzC, zzD, zzE]
 go_wp2_with (refine stop_op rfl (fun K hK => wp_gtri (.tmp 23) (.const (.int .i64 12)) rfl rfl rfl (r := false) (decide_eq_false (by omega)) (hK _ _ ?_)))
 unfold Stop
 try simp only [Act.put, zzC, zzD, zzE]
 go_wp2_with (refine stop_op rfl (fun K hK => wp_lenq (.tmp 36) 23 2 qa rfl (by kernel_rfl) rfl (hZ6.get 1 (f := Li kx x qa) rfl).n (hK _ _ ?_)))
 unfold Stop
 try simp only [Act.put, zzC, zzD, zzE]
 go_wp2_with (refine stop_op rfl (fun K hK => wp_lenq (.tmp 38) 22 23 ra rfl (by kernel_rfl) rfl (hZ6.get 0 (f := Mi m c R ra) rfl).n (hK _ _ ?_)))
 unfold Stop
 try simp only [Act.put, zzC, zzD, zzE]
 go_wp2_with (refine stop_op rfl (fun K hK => wp_eqli (.tmp 37) (.tmp 39) 3 3 rfl rfl rfl rfl (r := false) (decide_eq_false (by omega)) (hK _ _ ?_)))
 unfold Stop
 try simp only [Act.put, zzC, zzD, zzE]
 go_wp2
 go_loopw [10, 11] (fun fv iv wr => ∃ (i : Nat) (b : Bool) (X : Nat → Prop), i ≤ m ∧ iv = .int .i64 ((i : Nat) : Int) ∧ fv = .bool b ∧ (b = true → (m = kx ∧ ∀ k, k < i → c k = m)) ∧ Zs w wr X0 X [(bk1, #[.slice none 0 0, .slice none 0 0, .bool false, .slice none 0 0], 32)] [Mi m c R ra, Li kx x qa]) (fun _ iv _ => m - (intOf iv).toNat)
 case atStart => exact ⟨0, false, _, by omega, rfl, rfl, nofun, hZ6⟩
 case round =>
  clear hZ6
  obtain ⟨i, b, X, hi, rfl, rfl, hb, hZ⟩ := hrel
  by_cases hlt : i < m
  ·
   cases b
   ·
    go_wp2_with (refine stop_op rfl (fun K hK => wp_lenq (.tmp 42) 22 23 ra rfl (by kernel_rfl) rfl (hZ.get 0 (f := Mi m c R ra) rfl).n (hK _ _ ?_)))
    unfold Stop
    try simp only [Act.put, zzC, zzD, zzE]
    go_wp2_with (refine stop_op rfl (fun K hK => wp_lssi (.tmp 41) (.tmp 43) rfl rfl rfl (r := true) (decide_eq_true (by omega)) (hK _ _ ?_)))
    unfold Stop
    try simp only [Act.put, zzC, zzD, zzE]
    have hZ7 := hZ.only [Mi m c R ra, Li kx x qa] (by simp)
    clear hZ
    go_wp2_with (refine stop_op rfl (fun K hK => wp_addi (.tmp 45) (.const (.int .i64 1)) rfl rfl rfl (C := ((i + 1 : Nat) : Int)) (by omega) (by omega) (by omega) (hK _ _ ?_)))
    unfold Stop
    try simp only [Act.put, zzC, zzD, zzE]
    go_wp2
    go_roundw
    case rel => exact ⟨i + 1, false, _, by omega, by go_num, rfl, nofun, hZ7⟩
    case measure => simp [intOf]; omega
   ·
    have HF := Lib.hid (hb rfl)
    clear hb
    by_cases hci : c i = m
    ·
     go_wp2_with (refine stop_op rfl (fun K hK => wp_lenq (.tmp 42) 22 23 ra rfl (by kernel_rfl) rfl (hZ.get 0 (f := Mi m c R ra) rfl).n (hK _ _ ?_)))
     unfold Stop
     try simp only [Act.put, zzC, zzD, zzE]
     go_wp2_with (refine stop_op rfl (fun K hK => wp_lssi (.tmp 41) (.tmp 43) rfl rfl rfl (r := true) (decide_eq_true (by omega)) (hK _ _ ?_)))
     unfold Stop
     try simp only [Act.put, zzC, zzD, zzE]
     go_wp2_with (refine stop_opw (by kernel_rfl) (fun K hK => wp_ixs 22 (.tmp 49) (.tmp 50) ra i 1 23 rfl rfl rfl (by kernel_rfl) sz23 (fun h => ((hZ.get 0 (f := Mi m c R ra) rfl).sq.nil h).1) ((hZ.get 0 (f := Mi m c R ra) rfl).n ▸ (by omega)) (hK _ _ ?_)))
     unfold Stop
     try simp only [Act.put, zzC, zzD, zzE]
     go_wp2_with (refine stop_opw (by kernel_rfl) (fun K hK => wp_ldim 23 (.tmp 51) ra i m c R rfl rfl (hZ.get 0 (f := Mi m c R ra) rfl) (by omega) ag23 (fun s1 hi_s1 => hK _ _ ?_)))
     unfold Stop
     try simp only [Act.put, zzC, zzD, zzE]
     have hZ8 := hZ.more (f := Li (c i) (R i) s1) (Li.stb _ _ _) hi_s1
     clear hZ
     clear hi_s1
     go_wp2_with (refine stop_opw (by kernel_rfl) (fun K hK => wp_lenq (.tmp 52) 23 2 s1 rfl (by kernel_rfl) rfl (hZ8.get 0 (f := Li (c i) (R i) s1) rfl).n (hK _ _ ?_)))
     unfold Stop
     try simp only [Act.put, zzC, zzD, zzE]
     go_wp2_with (refine stop_opw (by kernel_rfl) (fun K hK => wp_lenq (.tmp 54) 22 23 ra rfl (by kernel_rfl) rfl (hZ8.get 1 (f := Mi m c R ra) rfl).n (hK _ _ ?_)))
     unfold Stop
     try simp only [Act.put, zzC, zzD, zzE]
     go_wp2_with (refine stop_opw (by kernel_rfl) (fun K hK => wp_eqli (.tmp 53) (.tmp 55) 3 3 rfl rfl rfl rfl (r := true) (decide_eq_true (by omega)) (hK _ _ ?_)))
     unfold Stop
     try simp only [Act.put, zzC, zzD, zzE]
     have hZ9 := hZ8.only [Mi m c R ra, Li kx x qa] (by simp)
     clear hZ8
     go_wp2_with (refine stop_op rfl (fun K hK => wp_addi (.tmp 45) (.const (.int .i64 1)) rfl rfl rfl (C := ((i + 1 : Nat) : Int)) (by omega) (by omega) (by omega) (hK _ _ ?_)))
     unfold Stop
     try simp only [Act.put, zzC, zzD, zzE]
     go_wp2
     go_roundw
     case rel => exact ⟨i + 1, true, _, by omega, by go_num, rfl, (fun _ => ⟨HF.out.1, fun k hk => by
       by_cases e : k = i
       ·
        rw [e]; exact hci
       ·
        exact HF.out.2 k (by omega)⟩), hZ9⟩
     case measure => simp [intOf]; omega
    ·
     go_wp2_with (refine stop_op rfl (fun K hK => wp_lenq (.tmp 42) 22 23 ra rfl (by kernel_rfl) rfl (hZ.get 0 (f := Mi m c R ra) rfl).n (hK _ _ ?_)))
     unfold Stop
     try simp only [Act.put, zzC, zzD, zzE]
     go_wp2_with (refine stop_op rfl (fun K hK => wp_lssi (.tmp 41) (.tmp 43) rfl rfl rfl (r := true) (decide_eq_true (by omega)) (hK _ _ ?_)))
     unfold Stop
     try simp only [Act.put, zzC, zzD, zzE]
     go_wp2_with (refine stop_opw (by kernel_rfl) (fun K hK => wp_ixs 22 (.tmp 49) (.tmp 50) ra i 1 23 rfl rfl rfl (by kernel_rfl) sz23 (fun h => ((hZ.get 0 (f := Mi m c R ra) rfl).sq.nil h).1) ((hZ.get 0 (f := Mi m c R ra) rfl).n ▸ (by omega)) (hK _ _ ?_)))
     unfold Stop
     try simp only [Act.put, zzC, zzD, zzE]
     go_wp2_with (refine stop_opw (by kernel_rfl) (fun K hK => wp_ldim 23 (.tmp 51) ra i m c R rfl rfl (hZ.get 0 (f := Mi m c R ra) rfl) (by omega) ag23 (fun s2 hi_s2 => hK _ _ ?_)))
     unfold Stop
     try simp only [Act.put, zzC, zzD, zzE]
     have hZ10 := hZ.more (f := Li (c i) (R i) s2) (Li.stb _ _ _) hi_s2
     clear hZ
     clear hi_s2
     go_wp2_with (refine stop_opw (by kernel_rfl) (fun K hK => wp_lenq (.tmp 52) 23 2 s2 rfl (by kernel_rfl) rfl (hZ10.get 0 (f := Li (c i) (R i) s2) rfl).n (hK _ _ ?_)))
     unfold Stop
     try simp only [Act.put, zzC, zzD, zzE]
     go_wp2_with (refine stop_opw (by kernel_rfl) (fun K hK => wp_lenq (.tmp 54) 22 23 ra rfl (by kernel_rfl) rfl (hZ10.get 1 (f := Mi m c R ra) rfl).n (hK _ _ ?_)))
     unfold Stop
     try simp only [Act.put, zzC, zzD, zzE]
     go_wp2_with (refine stop_opw (by kernel_rfl) (fun K hK => wp_eqli (.tmp 53) (.tmp 55) 3 3 rfl rfl rfl rfl (r := false) (decide_eq_false (by omega)) (hK _ _ ?_)))
     unfold Stop
     try simp only [Act.put, zzC, zzD, zzE]
     have hZ11 := hZ10.only [Mi m c R ra, Li kx x qa] (by simp)
     clear hZ10
     go_wp2_with (refine stop_op rfl (fun K hK => wp_addi (.tmp 45) (.const (.int .i64 1)) rfl rfl rfl (C := ((i + 1 : Nat) : Int)) (by omega) (by omega) (by omega) (hK _ _ ?_)))
     unfold Stop
     try simp only [Act.put, zzC, zzD, zzE]
     go_wp2
     go_roundw
     case rel => exact ⟨i + 1, false, _, by omega, by go_num, rfl, nofun, hZ11⟩
     case measure => simp [intOf]; omega
  ·
   obtain rfl : m = i := by omega
   go_wp2_with (refine stop_op rfl (fun K hK => wp_lenq (.tmp 42) 22 23 ra rfl (by kernel_rfl) rfl (hZ.get 0 (f := Mi m c R ra) rfl).n (hK _ _ ?_)))
   unfold Stop
   try simp only [Act.put, zzC, zzD, zzE]
   go_wp2_with (refine stop_op rfl (fun K hK => wp_lssi (.tmp 41) (.tmp 43) rfl rfl rfl (r := false) (decide_eq_false (Int.lt_irrefl _)) (hK _ _ ?_)))
   unfold Stop
   try simp only [Act.put, zzC, zzD, zzE]
   go_wp2
   obtain ⟨wo, rfl⟩ : ∃ wo : World, wo = wr := ⟨_, rfl⟩
   obtain ⟨bo, rfl⟩ : ∃ bo : Bool, bo = b := ⟨_, rfl⟩
   go_wp2
   go_loopw [10, 12] (fun fv iv wr => ∃ (i : Nat) (b : Bool) (X : Nat → Prop), i ≤ m ∧ iv = .int .i64 ((i : Nat) : Int) ∧ fv = .bool b ∧ (b = true → ((m = kx ∧ ∀ k, k < m → c k = m) ∧ ∀ x y, x < i → y < x → R x y = R y x)) ∧ Zs w wr X0 X [(bk1, #[.slice none 0 0, .slice none 0 0, .bool false, .slice none 0 0], 32)] [Mi m c R ra, Li kx x qa]) (fun _ iv _ => m - (intOf iv).toNat)
   case atStart => exact ⟨0, bo, _, by omega, rfl, rfl, (fun h => ⟨hb h, fun x y hx => absurd hx (Nat.not_lt_zero x)⟩), hZ⟩
   case round =>
    clear hZ hb
    obtain ⟨i, b, X2, hi2, rfl, rfl, hb, hZ2⟩ := hrel
    cases b
    ·
     go_wp2_with (refine stop_opw (by kernel_rfl) (fun K hK => wp_fda (v := .pointer (some ⟨bk1, 0, none⟩)) 32 (.tmp 8) 0 rfl rfl (fun _ => by kernel_rfl) (hK _ _ ?_)))
     unfold Stop
     try simp only [Act.put, zzC, zzD, zzE]
     go_wp2_with (refine stop_opw (by kernel_rfl) (fun K hK => wp_load1 (v := .slice none 0 0) 26 (.tmp 98) rfl bk1 0 #[.slice none 0 0, .slice none 0 0, .bool false, .slice none 0 0] 32 (hZ2.es.at' _ (zzG (i := 0) rfl)) rfl ag26 (by kernel_rfl) (hK _ _ ?_)))
     unfold Stop
     try simp only [Act.put, zzC, zzD, zzE]
     go_wp2_with (refine stop_opw (by kernel_rfl) (fun K hK => wp_lenq (.tmp 99) 26 27 slz rfl (by kernel_rfl) rfl (n := 0) rfl (hK _ _ ?_)))
     unfold Stop
     try simp only [Act.put, zzC, zzD, zzE]
     go_wp2_with (refine stop_opw (by kernel_rfl) (fun K hK => wp_eqli (.tmp 100) (.const (.int .i64 0)) 3 3 rfl rfl rfl rfl (r := true) (decide_eq_true rfl) (hK _ _ ?_)))
     unfold Stop
     try simp only [Act.put, zzC, zzD, zzE]
     go_wp2_with (refine stop_opw (by kernel_rfl) (fun K hK => wp_fda (v := .pointer (some ⟨bk1, 1, none⟩)) 32 (.tmp 8) 1 rfl rfl (fun _ => by kernel_rfl) (hK _ _ ?_)))
     unfold Stop
     try simp only [Act.put, zzC, zzD, zzE]
     go_wp2_with (refine stop_opw (by kernel_rfl) (fun K hK => wp_load1 (v := .slice none 0 0) 27 (.tmp 104) rfl bk1 1 #[.slice none 0 0, .slice none 0 0, .bool false, .slice none 0 0] 32 (hZ2.es.at' _ (zzG (i := 0) rfl)) rfl ag27 (by kernel_rfl) (hK _ _ ?_)))
     unfold Stop
     try simp only [Act.put, zzC, zzD, zzE]
     go_wp2_with (refine stop_opw (by kernel_rfl) (fun K hK => wp_lenq (.tmp 105) 27 30 slz rfl (by kernel_rfl) rfl (n := 0) rfl (hK _ _ ?_)))
     unfold Stop
     try simp only [Act.put, zzC, zzD, zzE]
     go_wp2_with (refine stop_opw (by kernel_rfl) (fun K hK => wp_eqli (.tmp 106) (.const (.int .i64 0)) 3 3 rfl rfl rfl rfl (r := true) (decide_eq_true rfl) (hK _ _ ?_)))
     unfold Stop
     try simp only [Act.put, zzC, zzD, zzE]
     go_wp2
     go_ret
     exact ⟨rfl, hZ2.below⟩
    ·
     have HF := Lib.hid (hb rfl)
     clear hb
     by_cases hlt2 : i < m
     ·
      go_wp2_with (refine stop_opw (by kernel_rfl) (fun K hK => wp_lenq (.tmp 61) 22 23 ra rfl (by kernel_rfl) rfl (hZ2.get 0 (f := Mi m c R ra) rfl).n (hK _ _ ?_)))
      unfold Stop
      try simp only [Act.put, zzC, zzD, zzE]
      go_wp2_with (refine stop_opw (by kernel_rfl) (fun K hK => wp_lssi (.tmp 60) (.tmp 62) rfl rfl rfl (r := true) (decide_eq_true (by omega)) (hK _ _ ?_)))
      unfold Stop
      try simp only [Act.put, zzC, zzD, zzE]
      go_wp2
      obtain ⟨wo, rfl⟩ : ∃ wo : World, wo = wr := ⟨_, rfl⟩
      have HO := HF
      clear HF
      go_wp2
      go_loopw [10, 13] (fun fv kv wr => ∃ (k : Nat) (b : Bool) (X : Nat → Prop), k ≤ i ∧ kv = .int .i64 ((k : Nat) : Int) ∧ fv = .bool b ∧ (b = true → (((m = kx ∧ ∀ k, k < m → c k = m) ∧ ∀ x y, x < i → y < x → R x y = R y x) ∧ ∀ y, y < k → R i y = R y i)) ∧ Zs w wr X0 X [(bk1, #[.slice none 0 0, .slice none 0 0, .bool false, .slice none 0 0], 32)] [Mi m c R ra, Li kx x qa]) (fun _ kv _ => i - (intOf kv).toNat)
      case atStart => exact ⟨0, true, _, by omega, rfl, rfl, (fun _ => ⟨HO.out, fun y hy => absurd hy (Nat.not_lt_zero y)⟩), hZ2⟩
      case round =>
       clear hZ2
       obtain ⟨k, b, X3, hk, rfl, rfl, hb, hZ3⟩ := hrel
       by_cases hki : k < i
       ·
        cases b
        ·
         go_wp2_with (refine stop_op rfl (fun K hK => wp_lssi (.tmp 67) (.tmp 68) rfl rfl rfl (r := true) (decide_eq_true (by omega)) (hK _ _ ?_)))
         unfold Stop
         try simp only [Act.put, zzC, zzD, zzE]
         go_wp2
         obtain ⟨XR16, hZ12⟩ : ∃ Xr, Zs w wr X0 Xr [(bk1, #[.slice none 0 0, .slice none 0 0, .bool false, .slice none 0 0], 32)] [Mi m c R ra, Li kx x qa] := ⟨_, hZ3⟩
         clear hZ3
         have hVS16 : ∀ kq, kq ∈ ([veq (.bool false), veq (.bool false), veq undef, veq undef, veq undef, veq undef, veq undef, veq undef, veq undef, veq undef, veq undef, veq undef, veq undef, veq undef, veq undef, veq undef, veq undef, veq (.bool false)] : List VF) → VSt kq := by
          intro kq hkq
          simp only [List.mem_cons, List.not_mem_nil, or_false] at hkq
          rcases hkq with rfl | rfl | rfl | rfl | rfl | rfl | rfl | rfl | rfl | rfl | rfl | rfl | rfl | rfl | rfl | rfl | rfl | rfl
          ·
           exact (veq_se _).st
          ·
           exact (veq_se _).st
          ·
           exact (veq_se _).st
          ·
           exact (veq_se _).st
          ·
           exact (veq_se _).st
          ·
           exact (veq_se _).st
          ·
           exact (veq_se _).st
          ·
           exact (veq_se _).st
          ·
           exact (veq_se _).st
          ·
           exact (veq_se _).st
          ·
           exact (veq_se _).st
          ·
           exact (veq_se _).st
          ·
           exact (veq_se _).st
          ·
           exact (veq_se _).st
          ·
           exact (veq_se _).st
          ·
           exact (veq_se _).st
          ·
           exact (veq_se _).st
          ·
           exact (veq_se _).st
         refine wp_region_s 18 [some 72, some 73, some 74, some 75, some 76, some 77, some 78, some 79, some 80, some 81, some 82, some 83, some 84, some 85, some 86, some 87, some 88, some 89] [veq (.bool false), veq (.bool false), veq undef, veq undef, veq undef, veq undef, veq undef, veq undef, veq undef, veq undef, veq undef, veq undef, veq undef, veq undef, veq undef, veq undef, veq undef, veq (.bool false)] (fun _ _ X1 l1 => XR16 = X1 ∧ [(bk1, #[.slice none 0 0, .slice none 0 0, .bool false, .slice none 0 0], 32)] = l1) [Mi m c R ra, Li kx x qa] (by kernel_rfl) (by kernel_rfl) (by rfl) (by decide) (by rfl) (fun _ => ⟨XR16, _, ⟨rfl, rfl⟩, hZ12.later (Below.refl _ _).drew⟩) ?_ ?_
         ·
          intro iq hlq hiq LL uu ww aa X1 l1 hLi hLc hR hJ hd hall hev hin hold
          clear hZ12
          obtain rfl | rfl | rfl | rfl | rfl | rfl | rfl | rfl | rfl | rfl | rfl | rfl | rfl | rfl | rfl | rfl | rfl | rfl : iq = 0 ∨ iq = 1 ∨ iq = 2 ∨ iq = 3 ∨ iq = 4 ∨ iq = 5 ∨ iq = 6 ∨ iq = 7 ∨ iq = 8 ∨ iq = 9 ∨ iq = 10 ∨ iq = 11 ∨ iq = 12 ∨ iq = 13 ∨ iq = 14 ∨ iq = 15 ∨ iq = 16 ∨ iq = 17 := by omega
          ·
           refine opS_z hJ (fun _ => hR) ?_
           obtain ⟨eX, el⟩ := hR
           subst eX
           subst el
           exact .inr ⟨rfl, fun K' hK => wp_move (.tmp 10) rfl (eval_tmp ((hev 10 (by decide)).trans rfl)) (hK _ _ hJ rfl vzL_same)⟩
          ·
           refine opS_z hJ (fun _ => hR) ?_
           obtain ⟨eX, el⟩ := hR
           subst eX
           subst el
           exact .inr ⟨rfl, fun K' hK => wp_move (.tmp 72) rfl (eval_tmp ((hin 0 72 rfl).trans (congrArg some (show uu 0 = .bool false from (hd 0 (by decide) (by kernel_rfl)).2)))) (hK _ _ hJ rfl vzL_same)⟩
          ·
           refine opS_z hJ (fun _ => hR) ?_
           obtain ⟨eX, el⟩ := hR
           subst eX
           subst el
           exact .inl ⟨(wanted_at (g := 1) (b := true) (t := 73) rfl rfl ((hin 1 73 rfl).trans (congrArg some (show uu 1 = .bool false from (hd 1 (by decide) (by kernel_rfl)).2))) rfl), rfl⟩
          ·
           refine opS_z hJ (fun _ => hR) ?_
           obtain ⟨eX, el⟩ := hR
           subst eX
           subst el
           exact .inl ⟨(wanted_at (g := 1) (b := true) (t := 73) rfl rfl ((hin 1 73 rfl).trans (congrArg some (show uu 1 = .bool false from (hd 1 (by decide) (by kernel_rfl)).2))) rfl), rfl⟩
          ·
           refine opS_z hJ (fun _ => hR) ?_
           obtain ⟨eX, el⟩ := hR
           subst eX
           subst el
           exact .inl ⟨(wanted_at (g := 1) (b := true) (t := 73) rfl rfl ((hin 1 73 rfl).trans (congrArg some (show uu 1 = .bool false from (hd 1 (by decide) (by kernel_rfl)).2))) rfl), rfl⟩
          ·
           refine opS_z hJ (fun _ => hR) ?_
           obtain ⟨eX, el⟩ := hR
           subst eX
           subst el
           exact .inl ⟨(wanted_at (g := 1) (b := true) (t := 73) rfl rfl ((hin 1 73 rfl).trans (congrArg some (show uu 1 = .bool false from (hd 1 (by decide) (by kernel_rfl)).2))) rfl), rfl⟩
          ·
           refine opS_z hJ (fun _ => hR) ?_
           obtain ⟨eX, el⟩ := hR
           subst eX
           subst el
           exact .inl ⟨(wanted_at (g := 1) (b := true) (t := 73) rfl rfl ((hin 1 73 rfl).trans (congrArg some (show uu 1 = .bool false from (hd 1 (by decide) (by kernel_rfl)).2))) rfl), rfl⟩
          ·
           refine opS_z hJ (fun _ => hR) ?_
           obtain ⟨eX, el⟩ := hR
           subst eX
           subst el
           exact .inl ⟨(wanted_at (g := 1) (b := true) (t := 73) rfl rfl ((hin 1 73 rfl).trans (congrArg some (show uu 1 = .bool false from (hd 1 (by decide) (by kernel_rfl)).2))) rfl), rfl⟩
          ·
           refine opS_z hJ (fun _ => hR) ?_
           obtain ⟨eX, el⟩ := hR
           subst eX
           subst el
           exact .inl ⟨(wanted_at (g := 1) (b := true) (t := 73) rfl rfl ((hin 1 73 rfl).trans (congrArg some (show uu 1 = .bool false from (hd 1 (by decide) (by kernel_rfl)).2))) rfl), rfl⟩
          ·
           refine opS_z hJ (fun _ => hR) ?_
           obtain ⟨eX, el⟩ := hR
           subst eX
           subst el
           exact .inl ⟨(wanted_at (g := 1) (b := true) (t := 73) rfl rfl ((hin 1 73 rfl).trans (congrArg some (show uu 1 = .bool false from (hd 1 (by decide) (by kernel_rfl)).2))) rfl), rfl⟩
          ·
           refine opS_z hJ (fun _ => hR) ?_
           obtain ⟨eX, el⟩ := hR
           subst eX
           subst el
           exact .inl ⟨(wanted_at (g := 1) (b := true) (t := 73) rfl rfl ((hin 1 73 rfl).trans (congrArg some (show uu 1 = .bool false from (hd 1 (by decide) (by kernel_rfl)).2))) rfl), rfl⟩
          ·
           refine opS_z hJ (fun _ => hR) ?_
           obtain ⟨eX, el⟩ := hR
           subst eX
           subst el
           exact .inl ⟨(wanted_at (g := 1) (b := true) (t := 73) rfl rfl ((hin 1 73 rfl).trans (congrArg some (show uu 1 = .bool false from (hd 1 (by decide) (by kernel_rfl)).2))) rfl), rfl⟩
          ·
           refine opS_z hJ (fun _ => hR) ?_
           obtain ⟨eX, el⟩ := hR
           subst eX
           subst el
           exact .inl ⟨(wanted_at (g := 1) (b := true) (t := 73) rfl rfl ((hin 1 73 rfl).trans (congrArg some (show uu 1 = .bool false from (hd 1 (by decide) (by kernel_rfl)).2))) rfl), rfl⟩
          ·
           refine opS_z hJ (fun _ => hR) ?_
           obtain ⟨eX, el⟩ := hR
           subst eX
           subst el
           exact .inl ⟨(wanted_at (g := 1) (b := true) (t := 73) rfl rfl ((hin 1 73 rfl).trans (congrArg some (show uu 1 = .bool false from (hd 1 (by decide) (by kernel_rfl)).2))) rfl), rfl⟩
          ·
           refine opS_z hJ (fun _ => hR) ?_
           obtain ⟨eX, el⟩ := hR
           subst eX
           subst el
           exact .inl ⟨(wanted_at (g := 1) (b := true) (t := 73) rfl rfl ((hin 1 73 rfl).trans (congrArg some (show uu 1 = .bool false from (hd 1 (by decide) (by kernel_rfl)).2))) rfl), rfl⟩
          ·
           refine opS_z hJ (fun _ => hR) ?_
           obtain ⟨eX, el⟩ := hR
           subst eX
           subst el
           exact .inl ⟨(wanted_at (g := 1) (b := true) (t := 73) rfl rfl ((hin 1 73 rfl).trans (congrArg some (show uu 1 = .bool false from (hd 1 (by decide) (by kernel_rfl)).2))) rfl), rfl⟩
          ·
           refine opS_z hJ (fun _ => hR) ?_
           obtain ⟨eX, el⟩ := hR
           subst eX
           subst el
           exact .inl ⟨(wanted_at (g := 1) (b := true) (t := 73) rfl rfl ((hin 1 73 rfl).trans (congrArg some (show uu 1 = .bool false from (hd 1 (by decide) (by kernel_rfl)).2))) rfl), rfl⟩
          ·
           refine opS_z hJ (fun _ => hR) ?_
           obtain ⟨eX, el⟩ := hR
           subst eX
           subst el
           exact .inr ⟨rfl, fun K' hK => wp_pick (bv := false) (.tmp 73) (.tmp 88) (.const (.bool false)) rfl (eval_tmp ((hin 1 73 rfl).trans (congrArg some (show uu 1 = .bool false from (hd 1 (by decide) (by kernel_rfl)).2)))) (eval_tmp ((hin 16 88 rfl).trans (congrArg some (show uu 16 = undef from (hd 16 (by decide) (by kernel_rfl)).2)))) rfl (hK _ _ hJ rfl vzL_same)⟩
         clear hZ12
         intro LL uu W5 X1 l1 hLL hR hZ13 hd
         obtain ⟨eX, el⟩ := hR
         subst eX
         subst el
         have e_0 : uu 0 = .bool false := hd 0 (by decide)
         have e_1 : uu 1 = .bool false := hd 1 (by decide)
         have e_2 : uu 2 = undef := hd 2 (by decide)
         have e_3 : uu 3 = undef := hd 3 (by decide)
         have e_4 : uu 4 = undef := hd 4 (by decide)
         have e_5 : uu 5 = undef := hd 5 (by decide)
         have e_6 : uu 6 = undef := hd 6 (by decide)
         have e_7 : uu 7 = undef := hd 7 (by decide)
         have e_8 : uu 8 = undef := hd 8 (by decide)
         have e_9 : uu 9 = undef := hd 9 (by decide)
         have e_10 : uu 10 = undef := hd 10 (by decide)
         have e_11 : uu 11 = undef := hd 11 (by decide)
         have e_12 : uu 12 = undef := hd 12 (by decide)
         have e_13 : uu 13 = undef := hd 13 (by decide)
         have e_14 : uu 14 = undef := hd 14 (by decide)
         have e_15 : uu 15 = undef := hd 15 (by decide)
         have e_16 : uu 16 = undef := hd 16 (by decide)
         have e_17 : uu 17 = .bool false := hd 17 (by decide)
         clear hd hVS16
         simp only [layS, Act.put, zzC, zzD, zzE, Nat.zero_add, Nat.reduceAdd, List.drop_succ_cons, List.drop_zero, List.drop_nil, e_0, e_1, e_2, e_3, e_4, e_5, e_6, e_7, e_8, e_9, e_10, e_11, e_12, e_13, e_14, e_15, e_16, e_17]
         clear e_0 e_1 e_2 e_3 e_4 e_5 e_6 e_7 e_8 e_9 e_10 e_11 e_12 e_13 e_14 e_15 e_16 e_17
         have hZ14 := hZ13.only [Mi m c R ra, Li kx x qa] (by simp)
         clear hZ13
         go_wp2_with (refine stop_op rfl (fun K hK => wp_addi (.tmp 70) (.const (.int .i64 1)) rfl rfl rfl (C := ((k + 1 : Nat) : Int)) (by omega) (by omega) (by omega) (hK _ _ ?_)))
         unfold Stop
         try simp only [Act.put, zzC, zzD, zzE]
         go_wp2
         go_roundw
         case rel => exact ⟨k + 1, false, _, by omega, by go_num, rfl, nofun, hZ14⟩
         case measure => simp [intOf]; omega
        ·
         have HF := Lib.hid (hb rfl)
         clear hb
         have hci : c i = m := HF.out.1.1.2 i hlt2
         have hck : c k = m := HF.out.1.1.2 k (by omega)
         by_cases he : R i k = R k i
         ·
          have HE := Lib.hid he
          clear he
          go_wp2_with (refine stop_op rfl (fun K hK => wp_lssi (.tmp 67) (.tmp 68) rfl rfl rfl (r := true) (decide_eq_true (by omega)) (hK _ _ ?_)))
          unfold Stop
          try simp only [Act.put, zzC, zzD, zzE]
          go_wp2
          obtain ⟨XR16, hZ15⟩ : ∃ Xr, Zs w wr X0 Xr [(bk1, #[.slice none 0 0, .slice none 0 0, .bool false, .slice none 0 0], 32)] [Mi m c R ra, Li kx x qa] := ⟨_, hZ3⟩
          clear hZ3
          have hVS16 : ∀ kq, kq ∈ ([veq (.bool true), veq (.bool true), veq (ra.v), veq (.int .i64 (((i : Nat) : Int))), veq ((ra.at 1 i)), vli (c i) (R i), veq (.int .i64 (((k : Nat) : Int))), vati (c i) (R i) k, veq (.int .i64 (R i k)), veq (ra.v), veq (.int .i64 (((k : Nat) : Int))), veq ((ra.at 1 k)), vli (c k) (R k), veq (.int .i64 (((i : Nat) : Int))), vati (c k) (R k) i, veq (.int .i64 (R k i)), veq (.bool true), veq (.bool true)] : List VF) → VSt kq := by
           intro kq hkq
           simp only [List.mem_cons, List.not_mem_nil, or_false] at hkq
           rcases hkq with rfl | rfl | rfl | rfl | rfl | rfl | rfl | rfl | rfl | rfl | rfl | rfl | rfl | rfl | rfl | rfl | rfl | rfl
           ·
            exact (veq_se _).st
           ·
            exact (veq_se _).st
           ·
            exact (veq_se _).st
           ·
            exact (veq_se _).st
           ·
            exact (veq_se _).st
           ·
            exact (vli_se _ _).st
           ·
            exact (veq_se _).st
           ·
            exact (vati_se _ _ _).st
           ·
            exact (veq_se _).st
           ·
            exact (veq_se _).st
           ·
            exact (veq_se _).st
           ·
            exact (veq_se _).st
           ·
            exact (vli_se _ _).st
           ·
            exact (veq_se _).st
           ·
            exact (vati_se _ _ _).st
           ·
            exact (veq_se _).st
           ·
            exact (veq_se _).st
           ·
            exact (veq_se _).st
          refine wp_region_s 18 [some 72, some 73, some 74, some 75, some 76, some 77, some 78, some 79, some 80, some 81, some 82, some 83, some 84, some 85, some 86, some 87, some 88, some 89] [veq (.bool true), veq (.bool true), veq (ra.v), veq (.int .i64 (((i : Nat) : Int))), veq ((ra.at 1 i)), vli (c i) (R i), veq (.int .i64 (((k : Nat) : Int))), vati (c i) (R i) k, veq (.int .i64 (R i k)), veq (ra.v), veq (.int .i64 (((k : Nat) : Int))), veq ((ra.at 1 k)), vli (c k) (R k), veq (.int .i64 (((i : Nat) : Int))), vati (c k) (R k) i, veq (.int .i64 (R k i)), veq (.bool true), veq (.bool true)] (fun _ _ X1 l1 => XR16 = X1 ∧ [(bk1, #[.slice none 0 0, .slice none 0 0, .bool false, .slice none 0 0], 32)] = l1) [Mi m c R ra, Li kx x qa] (by kernel_rfl) (by kernel_rfl) (by rfl) (by decide) (by rfl) (fun _ => ⟨XR16, _, ⟨rfl, rfl⟩, hZ15.later (Below.refl _ _).drew⟩) ?_ ?_
          ·
           intro iq hlq hiq LL uu ww aa X1 l1 hLi hLc hR hJ hd hall hev hin hold
           clear hZ15
           obtain rfl | rfl | rfl | rfl | rfl | rfl | rfl | rfl | rfl | rfl | rfl | rfl | rfl | rfl | rfl | rfl | rfl | rfl : iq = 0 ∨ iq = 1 ∨ iq = 2 ∨ iq = 3 ∨ iq = 4 ∨ iq = 5 ∨ iq = 6 ∨ iq = 7 ∨ iq = 8 ∨ iq = 9 ∨ iq = 10 ∨ iq = 11 ∨ iq = 12 ∨ iq = 13 ∨ iq = 14 ∨ iq = 15 ∨ iq = 16 ∨ iq = 17 := by omega
           ·
            refine opS_z hJ (fun _ => hR) ?_
            obtain ⟨eX, el⟩ := hR
            subst eX
            subst el
            exact .inr ⟨rfl, fun K' hK => wp_move (.tmp 10) rfl (eval_tmp ((hev 10 (by decide)).trans rfl)) (hK _ _ hJ rfl vzL_same)⟩
           ·
            refine opS_z hJ (fun _ => hR) ?_
            obtain ⟨eX, el⟩ := hR
            subst eX
            subst el
            exact .inr ⟨rfl, fun K' hK => wp_move (.tmp 72) rfl (eval_tmp ((hin 0 72 rfl).trans (congrArg some (show uu 0 = .bool true from (hd 0 (by decide) (by kernel_rfl)).2)))) (hK _ _ hJ rfl vzL_same)⟩
           ·
            refine opS_z hJ (fun _ => hR) ?_
            obtain ⟨eX, el⟩ := hR
            subst eX
            subst el
            exact .inr ⟨(wanted_at (g := 1) (b := true) (t := 73) rfl rfl ((hin 1 73 rfl).trans (congrArg some (show uu 1 = .bool true from (hd 1 (by decide) (by kernel_rfl)).2))) rfl), fun K' hK => wp_move (.tmp 0) rfl (eval_tmp ((hev 0 (by decide)).trans rfl)) (hK _ _ hJ rfl vzL_same)⟩
           ·
            refine opS_z hJ (fun _ => hR) ?_
            obtain ⟨eX, el⟩ := hR
            subst eX
            subst el
            exact .inr ⟨(wanted_at (g := 1) (b := true) (t := 73) rfl rfl ((hin 1 73 rfl).trans (congrArg some (show uu 1 = .bool true from (hd 1 (by decide) (by kernel_rfl)).2))) rfl), fun K' hK => wp_move (.tmp 12) rfl (eval_tmp ((hev 12 (by decide)).trans rfl)) (hK _ _ hJ rfl vzL_same)⟩
           ·
            refine opS_z hJ (fun _ => hR) ?_
            obtain ⟨eX, el⟩ := hR
            subst eX
            subst el
            exact .inr ⟨(wanted_at (g := 1) (b := true) (t := 73) rfl rfl ((hin 1 73 rfl).trans (congrArg some (show uu 1 = .bool true from (hd 1 (by decide) (by kernel_rfl)).2))) rfl), fun K' hK => wp_ixs 22 (.tmp 74) (.tmp 75) ra i 1 23 rfl (eval_tmp ((hin 2 74 rfl).trans (congrArg some (show uu 2 = ra.v from (hd 2 (by decide) (by kernel_rfl)).2)))) (eval_tmp ((hin 3 75 rfl).trans (congrArg some (show uu 3 = .int .i64 (((i : Nat) : Int)) from (hd 3 (by decide) (by kernel_rfl)).2)))) (by kernel_rfl) sz23 (fun h => ((hJ.get 0 (f := Mi m c R ra) rfl).sq.nil h).1) ((hJ.get 0 (f := Mi m c R ra) rfl).n ▸ (by omega)) (hK _ _ hJ rfl vzL_same)⟩
           ·
            refine opS_z hJ (fun _ => hR) ?_
            obtain ⟨eX, el⟩ := hR
            subst eX
            subst el
            exact .inr ⟨(wanted_at (g := 1) (b := true) (t := 73) rfl rfl ((hin 1 73 rfl).trans (congrArg some (show uu 1 = .bool true from (hd 1 (by decide) (by kernel_rfl)).2))) rfl), fun K' hK => wp_ldim 23 (.tmp 76) ra i m c R rfl (eval_tmp ((hin 4 76 rfl).trans (congrArg some (show uu 4 = (ra.at 1 i) from (hd 4 (by decide) (by kernel_rfl)).2)))) (hJ.get 0 (f := Mi m c R ra) rfl) (by omega) ag23 (fun s3 hi_s3 => hK _ _ hJ ⟨s3, rfl, hi_s3⟩ vzL_same)⟩
           ·
            refine opS_z hJ (fun _ => hR) ?_
            obtain ⟨eX, el⟩ := hR
            subst eX
            subst el
            exact .inr ⟨(wanted_at (g := 1) (b := true) (t := 73) rfl rfl ((hin 1 73 rfl).trans (congrArg some (show uu 1 = .bool true from (hd 1 (by decide) (by kernel_rfl)).2))) rfl), fun K' hK => wp_move (.tmp 13) rfl (eval_tmp ((hev 13 (by decide)).trans rfl)) (hK _ _ hJ rfl vzL_same)⟩
           ·
            refine opS_z hJ (fun _ => hR) ?_
            obtain ⟨eX, el⟩ := hR
            subst eX
            subst el
            obtain ⟨s3, e5, hi_s3⟩ := (show (vli (c i) (R i)) (uu 5) XR16 ww from (hd 5 (by decide) (by kernel_rfl)).2)
            replace hJ := hJ.more (f := Li (c i) (R i) s3) (Li.stb _ _ _) hi_s3
            exact .inr ⟨(wanted_at (g := 1) (b := true) (t := 73) rfl rfl ((hin 1 73 rfl).trans (congrArg some (show uu 1 = .bool true from (hd 1 (by decide) (by kernel_rfl)).2))) rfl), fun K' hK => wp_ixs 23 (.tmp 77) (.tmp 78) s3 k 1 2 rfl (eval_tmp ((hin 5 77 rfl).trans (congrArg some e5))) (eval_tmp ((hin 6 78 rfl).trans (congrArg some (show uu 6 = .int .i64 (((k : Nat) : Int)) from (hd 6 (by decide) (by kernel_rfl)).2)))) (by kernel_rfl) sz2 (fun h => ((hJ.get 0 (f := Li (c i) (R i) s3) rfl).sq.nil h).1) ((hJ.get 0 (f := Li (c i) (R i) s3) rfl).n ▸ (by omega)) (hK _ _ (hJ.only [Mi m c R ra, Li kx x qa] (by simp)) ⟨s3, rfl, hi_s3⟩ vzL_same)⟩
           ·
            refine opS_z hJ (fun _ => hR) ?_
            obtain ⟨eX, el⟩ := hR
            subst eX
            subst el
            obtain ⟨s3, e7, hi_s3⟩ := (show (vati (c i) (R i) k) (uu 7) XR16 ww from (hd 7 (by decide) (by kernel_rfl)).2)
            replace hJ := hJ.more (f := Li (c i) (R i) s3) (Li.stb _ _ _) hi_s3
            exact .inr ⟨(wanted_at (g := 1) (b := true) (t := 73) rfl rfl ((hin 1 73 rfl).trans (congrArg some (show uu 1 = .bool true from (hd 1 (by decide) (by kernel_rfl)).2))) rfl), fun K' hK => wp_ldi 2 (.tmp 79) s3 k (c i) (R i) rfl (eval_tmp ((hin 7 79 rfl).trans (congrArg some e7))) (hJ.get 0 (f := Li (c i) (R i) s3) rfl) (by omega) ag2 (hK _ _ (hJ.only [Mi m c R ra, Li kx x qa] (by simp)) rfl vzL_same)⟩
           ·
            refine opS_z hJ (fun _ => hR) ?_
            obtain ⟨eX, el⟩ := hR
            subst eX
            subst el
            exact .inr ⟨(wanted_at (g := 1) (b := true) (t := 73) rfl rfl ((hin 1 73 rfl).trans (congrArg some (show uu 1 = .bool true from (hd 1 (by decide) (by kernel_rfl)).2))) rfl), fun K' hK => wp_move (.tmp 0) rfl (eval_tmp ((hev 0 (by decide)).trans rfl)) (hK _ _ hJ rfl vzL_same)⟩
           ·
            refine opS_z hJ (fun _ => hR) ?_
            obtain ⟨eX, el⟩ := hR
            subst eX
            subst el
            exact .inr ⟨(wanted_at (g := 1) (b := true) (t := 73) rfl rfl ((hin 1 73 rfl).trans (congrArg some (show uu 1 = .bool true from (hd 1 (by decide) (by kernel_rfl)).2))) rfl), fun K' hK => wp_move (.tmp 13) rfl (eval_tmp ((hev 13 (by decide)).trans rfl)) (hK _ _ hJ rfl vzL_same)⟩
           ·
            refine opS_z hJ (fun _ => hR) ?_
            obtain ⟨eX, el⟩ := hR
            subst eX
            subst el
            exact .inr ⟨(wanted_at (g := 1) (b := true) (t := 73) rfl rfl ((hin 1 73 rfl).trans (congrArg some (show uu 1 = .bool true from (hd 1 (by decide) (by kernel_rfl)).2))) rfl), fun K' hK => wp_ixs 22 (.tmp 81) (.tmp 82) ra k 1 23 rfl (eval_tmp ((hin 9 81 rfl).trans (congrArg some (show uu 9 = ra.v from (hd 9 (by decide) (by kernel_rfl)).2)))) (eval_tmp ((hin 10 82 rfl).trans (congrArg some (show uu 10 = .int .i64 (((k : Nat) : Int)) from (hd 10 (by decide) (by kernel_rfl)).2)))) (by kernel_rfl) sz23 (fun h => ((hJ.get 0 (f := Mi m c R ra) rfl).sq.nil h).1) ((hJ.get 0 (f := Mi m c R ra) rfl).n ▸ (by omega)) (hK _ _ hJ rfl vzL_same)⟩
           ·
            refine opS_z hJ (fun _ => hR) ?_
            obtain ⟨eX, el⟩ := hR
            subst eX
            subst el
            exact .inr ⟨(wanted_at (g := 1) (b := true) (t := 73) rfl rfl ((hin 1 73 rfl).trans (congrArg some (show uu 1 = .bool true from (hd 1 (by decide) (by kernel_rfl)).2))) rfl), fun K' hK => wp_ldim 23 (.tmp 83) ra k m c R rfl (eval_tmp ((hin 11 83 rfl).trans (congrArg some (show uu 11 = (ra.at 1 k) from (hd 11 (by decide) (by kernel_rfl)).2)))) (hJ.get 0 (f := Mi m c R ra) rfl) (by omega) ag23 (fun s4 hi_s4 => hK _ _ hJ ⟨s4, rfl, hi_s4⟩ vzL_same)⟩
           ·
            refine opS_z hJ (fun _ => hR) ?_
            obtain ⟨eX, el⟩ := hR
            subst eX
            subst el
            exact .inr ⟨(wanted_at (g := 1) (b := true) (t := 73) rfl rfl ((hin 1 73 rfl).trans (congrArg some (show uu 1 = .bool true from (hd 1 (by decide) (by kernel_rfl)).2))) rfl), fun K' hK => wp_move (.tmp 12) rfl (eval_tmp ((hev 12 (by decide)).trans rfl)) (hK _ _ hJ rfl vzL_same)⟩
           ·
            refine opS_z hJ (fun _ => hR) ?_
            obtain ⟨eX, el⟩ := hR
            subst eX
            subst el
            obtain ⟨s4, e12, hi_s4⟩ := (show (vli (c k) (R k)) (uu 12) XR16 ww from (hd 12 (by decide) (by kernel_rfl)).2)
            replace hJ := hJ.more (f := Li (c k) (R k) s4) (Li.stb _ _ _) hi_s4
            exact .inr ⟨(wanted_at (g := 1) (b := true) (t := 73) rfl rfl ((hin 1 73 rfl).trans (congrArg some (show uu 1 = .bool true from (hd 1 (by decide) (by kernel_rfl)).2))) rfl), fun K' hK => wp_ixs 23 (.tmp 84) (.tmp 85) s4 i 1 2 rfl (eval_tmp ((hin 12 84 rfl).trans (congrArg some e12))) (eval_tmp ((hin 13 85 rfl).trans (congrArg some (show uu 13 = .int .i64 (((i : Nat) : Int)) from (hd 13 (by decide) (by kernel_rfl)).2)))) (by kernel_rfl) sz2 (fun h => ((hJ.get 0 (f := Li (c k) (R k) s4) rfl).sq.nil h).1) ((hJ.get 0 (f := Li (c k) (R k) s4) rfl).n ▸ (by omega)) (hK _ _ (hJ.only [Mi m c R ra, Li kx x qa] (by simp)) ⟨s4, rfl, hi_s4⟩ vzL_same)⟩
           ·
            refine opS_z hJ (fun _ => hR) ?_
            obtain ⟨eX, el⟩ := hR
            subst eX
            subst el
            obtain ⟨s4, e14, hi_s4⟩ := (show (vati (c k) (R k) i) (uu 14) XR16 ww from (hd 14 (by decide) (by kernel_rfl)).2)
            replace hJ := hJ.more (f := Li (c k) (R k) s4) (Li.stb _ _ _) hi_s4
            exact .inr ⟨(wanted_at (g := 1) (b := true) (t := 73) rfl rfl ((hin 1 73 rfl).trans (congrArg some (show uu 1 = .bool true from (hd 1 (by decide) (by kernel_rfl)).2))) rfl), fun K' hK => wp_ldi 2 (.tmp 86) s4 i (c k) (R k) rfl (eval_tmp ((hin 14 86 rfl).trans (congrArg some e14))) (hJ.get 0 (f := Li (c k) (R k) s4) rfl) (by omega) ag2 (hK _ _ (hJ.only [Mi m c R ra, Li kx x qa] (by simp)) rfl vzL_same)⟩
           ·
            refine opS_z hJ (fun _ => hR) ?_
            obtain ⟨eX, el⟩ := hR
            subst eX
            subst el
            exact .inr ⟨(wanted_at (g := 1) (b := true) (t := 73) rfl rfl ((hin 1 73 rfl).trans (congrArg some (show uu 1 = .bool true from (hd 1 (by decide) (by kernel_rfl)).2))) rfl), fun K' hK => wp_eqlL (.tmp 80) (.tmp 87) rfl (eval_tmp ((hin 8 80 rfl).trans (congrArg some (show uu 8 = .int .i64 (R i k) from (hd 8 (by decide) (by kernel_rfl)).2)))) (eval_tmp ((hin 15 87 rfl).trans (congrArg some (show uu 15 = .int .i64 (R k i) from (hd 15 (by decide) (by kernel_rfl)).2)))) (r := true) (decide_eq_true HE.out) (hK _ _ hJ rfl vzL_same)⟩
           ·
            refine opS_z hJ (fun _ => hR) ?_
            obtain ⟨eX, el⟩ := hR
            subst eX
            subst el
            exact .inr ⟨rfl, fun K' hK => wp_pick (bv := true) (.tmp 73) (.tmp 88) (.const (.bool false)) rfl (eval_tmp ((hin 1 73 rfl).trans (congrArg some (show uu 1 = .bool true from (hd 1 (by decide) (by kernel_rfl)).2)))) (eval_tmp ((hin 16 88 rfl).trans (congrArg some (show uu 16 = .bool true from (hd 16 (by decide) (by kernel_rfl)).2)))) rfl (hK _ _ hJ rfl vzL_same)⟩
          clear hZ15
          intro LL uu W6 X1 l1 hLL hR hZ16 hd
          obtain ⟨eX, el⟩ := hR
          subst eX
          subst el
          have e_0 : uu 0 = .bool true := hd 0 (by decide)
          have e_1 : uu 1 = .bool true := hd 1 (by decide)
          have e_2 : uu 2 = ra.v := hd 2 (by decide)
          have e_3 : uu 3 = .int .i64 (((i : Nat) : Int)) := hd 3 (by decide)
          have e_4 : uu 4 = (ra.at 1 i) := hd 4 (by decide)
          obtain ⟨s3, e_5, hi_s3⟩ := (show (vli (c i) (R i)) (uu 5) XR16 W6 from hd 5 (by decide))
          have e_6 : uu 6 = .int .i64 (((k : Nat) : Int)) := hd 6 (by decide)
          obtain ⟨s3_7, e_7, hi_s3_7⟩ := (show (vati (c i) (R i) k) (uu 7) XR16 W6 from hd 7 (by decide))
          have e_8 : uu 8 = .int .i64 (R i k) := hd 8 (by decide)
          have e_9 : uu 9 = ra.v := hd 9 (by decide)
          have e_10 : uu 10 = .int .i64 (((k : Nat) : Int)) := hd 10 (by decide)
          have e_11 : uu 11 = (ra.at 1 k) := hd 11 (by decide)
          obtain ⟨s4, e_12, hi_s4⟩ := (show (vli (c k) (R k)) (uu 12) XR16 W6 from hd 12 (by decide))
          have e_13 : uu 13 = .int .i64 (((i : Nat) : Int)) := hd 13 (by decide)
          obtain ⟨s4_14, e_14, hi_s4_14⟩ := (show (vati (c k) (R k) i) (uu 14) XR16 W6 from hd 14 (by decide))
          have e_15 : uu 15 = .int .i64 (R k i) := hd 15 (by decide)
          have e_16 : uu 16 = .bool true := hd 16 (by decide)
          have e_17 : uu 17 = .bool true := hd 17 (by decide)
          clear hd hVS16
          simp only [layS, Act.put, zzC, zzD, zzE, Nat.zero_add, Nat.reduceAdd, List.drop_succ_cons, List.drop_zero, List.drop_nil, e_0, e_1, e_2, e_3, e_4, e_5, e_6, e_7, e_8, e_9, e_10, e_11, e_12, e_13, e_14, e_15, e_16, e_17]
          clear e_0 e_1 e_2 e_3 e_4 e_5 e_6 e_7 e_8 e_9 e_10 e_11 e_12 e_13 e_14 e_15 e_16 e_17
          have hZ17 := hZ16.more (f := Li (c i) (R i) s3) (Li.stb _ _ _) hi_s3
          clear hZ16
          clear hi_s3
          have hZ18 := hZ17.more (f := Li (c i) (R i) s3_7) (Li.stb _ _ _) hi_s3_7
          clear hZ17
          clear hi_s3_7
          have hZ19 := hZ18.more (f := Li (c k) (R k) s4) (Li.stb _ _ _) hi_s4
          clear hZ18
          clear hi_s4
          have hZ20 := hZ19.more (f := Li (c k) (R k) s4_14) (Li.stb _ _ _) hi_s4_14
          clear hZ19
          clear hi_s4_14
          have hZ21 := hZ20.only [Mi m c R ra, Li kx x qa] (by simp)
          clear hZ20
          go_wp2_with (refine stop_op rfl (fun K hK => wp_addi (.tmp 70) (.const (.int .i64 1)) rfl rfl rfl (C := ((k + 1 : Nat) : Int)) (by omega) (by omega) (by omega) (hK _ _ ?_)))
          unfold Stop
          try simp only [Act.put, zzC, zzD, zzE]
          go_wp2
          go_roundw
          case rel => exact ⟨k + 1, true, _, by omega, by go_num, rfl, (fun _ => ⟨HF.out.1, fun y hy => by
            by_cases e : y = k
            ·
             rw [e]; exact HE.out
            ·
             exact HF.out.2 y (by omega)⟩), hZ21⟩
          case measure => simp [intOf]; omega
         ·
          have HE := Lib.hid he
          clear he
          go_wp2_with (refine stop_op rfl (fun K hK => wp_lssi (.tmp 67) (.tmp 68) rfl rfl rfl (r := true) (decide_eq_true (by omega)) (hK _ _ ?_)))
          unfold Stop
          try simp only [Act.put, zzC, zzD, zzE]
          go_wp2
          obtain ⟨XR16, hZ22⟩ : ∃ Xr, Zs w wr X0 Xr [(bk1, #[.slice none 0 0, .slice none 0 0, .bool false, .slice none 0 0], 32)] [Mi m c R ra, Li kx x qa] := ⟨_, hZ3⟩
          clear hZ3
          have hVS16 : ∀ kq, kq ∈ ([veq (.bool true), veq (.bool true), veq (ra.v), veq (.int .i64 (((i : Nat) : Int))), veq ((ra.at 1 i)), vli (c i) (R i), veq (.int .i64 (((k : Nat) : Int))), vati (c i) (R i) k, veq (.int .i64 (R i k)), veq (ra.v), veq (.int .i64 (((k : Nat) : Int))), veq ((ra.at 1 k)), vli (c k) (R k), veq (.int .i64 (((i : Nat) : Int))), vati (c k) (R k) i, veq (.int .i64 (R k i)), veq (.bool false), veq (.bool false)] : List VF) → VSt kq := by
           intro kq hkq
           simp only [List.mem_cons, List.not_mem_nil, or_false] at hkq
           rcases hkq with rfl | rfl | rfl | rfl | rfl | rfl | rfl | rfl | rfl | rfl | rfl | rfl | rfl | rfl | rfl | rfl | rfl | rfl
           ·
            exact (veq_se _).st
           ·
            exact (veq_se _).st
           ·
            exact (veq_se _).st
           ·
            exact (veq_se _).st
           ·
            exact (veq_se _).st
           ·
            exact (vli_se _ _).st
           ·
            exact (veq_se _).st
           ·
            exact (vati_se _ _ _).st
           ·
            exact (veq_se _).st
           ·
            exact (veq_se _).st
           ·
            exact (veq_se _).st
           ·
            exact (veq_se _).st
           ·
            exact (vli_se _ _).st
           ·
            exact (veq_se _).st
           ·
            exact (vati_se _ _ _).st
           ·
            exact (veq_se _).st
           ·
            exact (veq_se _).st
           ·
            exact (veq_se _).st
          refine wp_region_s 18 [some 72, some 73, some 74, some 75, some 76, some 77, some 78, some 79, some 80, some 81, some 82, some 83, some 84, some 85, some 86, some 87, some 88, some 89] [veq (.bool true), veq (.bool true), veq (ra.v), veq (.int .i64 (((i : Nat) : Int))), veq ((ra.at 1 i)), vli (c i) (R i), veq (.int .i64 (((k : Nat) : Int))), vati (c i) (R i) k, veq (.int .i64 (R i k)), veq (ra.v), veq (.int .i64 (((k : Nat) : Int))), veq ((ra.at 1 k)), vli (c k) (R k), veq (.int .i64 (((i : Nat) : Int))), vati (c k) (R k) i, veq (.int .i64 (R k i)), veq (.bool false), veq (.bool false)] (fun _ _ X1 l1 => XR16 = X1 ∧ [(bk1, #[.slice none 0 0, .slice none 0 0, .bool false, .slice none 0 0], 32)] = l1) [Mi m c R ra, Li kx x qa] (by kernel_rfl) (by kernel_rfl) (by rfl) (by decide) (by rfl) (fun _ => ⟨XR16, _, ⟨rfl, rfl⟩, hZ22.later (Below.refl _ _).drew⟩) ?_ ?_
          ·
           intro iq hlq hiq LL uu ww aa X1 l1 hLi hLc hR hJ hd hall hev hin hold
           clear hZ22
           obtain rfl | rfl | rfl | rfl | rfl | rfl | rfl | rfl | rfl | rfl | rfl | rfl | rfl | rfl | rfl | rfl | rfl | rfl : iq = 0 ∨ iq = 1 ∨ iq = 2 ∨ iq = 3 ∨ iq = 4 ∨ iq = 5 ∨ iq = 6 ∨ iq = 7 ∨ iq = 8 ∨ iq = 9 ∨ iq = 10 ∨ iq = 11 ∨ iq = 12 ∨ iq = 13 ∨ iq = 14 ∨ iq = 15 ∨ iq = 16 ∨ iq = 17 := by omega
           ·
            refine opS_z hJ (fun _ => hR) ?_
            obtain ⟨eX, el⟩ := hR
            subst eX
            subst el
            exact .inr ⟨rfl, fun K' hK => wp_move (.tmp 10) rfl (eval_tmp ((hev 10 (by decide)).trans rfl)) (hK _ _ hJ rfl vzL_same)⟩
           ·
            refine opS_z hJ (fun _ => hR) ?_
            obtain ⟨eX, el⟩ := hR
            subst eX
            subst el
            exact .inr ⟨rfl, fun K' hK => wp_move (.tmp 72) rfl (eval_tmp ((hin 0 72 rfl).trans (congrArg some (show uu 0 = .bool true from (hd 0 (by decide) (by kernel_rfl)).2)))) (hK _ _ hJ rfl vzL_same)⟩
           ·
            refine opS_z hJ (fun _ => hR) ?_
            obtain ⟨eX, el⟩ := hR
            subst eX
            subst el
            exact .inr ⟨(wanted_at (g := 1) (b := true) (t := 73) rfl rfl ((hin 1 73 rfl).trans (congrArg some (show uu 1 = .bool true from (hd 1 (by decide) (by kernel_rfl)).2))) rfl), fun K' hK => wp_move (.tmp 0) rfl (eval_tmp ((hev 0 (by decide)).trans rfl)) (hK _ _ hJ rfl vzL_same)⟩
           ·
            refine opS_z hJ (fun _ => hR) ?_
            obtain ⟨eX, el⟩ := hR
            subst eX
            subst el
            exact .inr ⟨(wanted_at (g := 1) (b := true) (t := 73) rfl rfl ((hin 1 73 rfl).trans (congrArg some (show uu 1 = .bool true from (hd 1 (by decide) (by kernel_rfl)).2))) rfl), fun K' hK => wp_move (.tmp 12) rfl (eval_tmp ((hev 12 (by decide)).trans rfl)) (hK _ _ hJ rfl vzL_same)⟩
           ·
            refine opS_z hJ (fun _ => hR) ?_
            obtain ⟨eX, el⟩ := hR
            subst eX
            subst el
            exact .inr ⟨(wanted_at (g := 1) (b := true) (t := 73) rfl rfl ((hin 1 73 rfl).trans (congrArg some (show uu 1 = .bool true from (hd 1 (by decide) (by kernel_rfl)).2))) rfl), fun K' hK => wp_ixs 22 (.tmp 74) (.tmp 75) ra i 1 23 rfl (eval_tmp ((hin 2 74 rfl).trans (congrArg some (show uu 2 = ra.v from (hd 2 (by decide) (by kernel_rfl)).2)))) (eval_tmp ((hin 3 75 rfl).trans (congrArg some (show uu 3 = .int .i64 (((i : Nat) : Int)) from (hd 3 (by decide) (by kernel_rfl)).2)))) (by kernel_rfl) sz23 (fun h => ((hJ.get 0 (f := Mi m c R ra) rfl).sq.nil h).1) ((hJ.get 0 (f := Mi m c R ra) rfl).n ▸ (by omega)) (hK _ _ hJ rfl vzL_same)⟩
           ·
            refine opS_z hJ (fun _ => hR) ?_
            obtain ⟨eX, el⟩ := hR
            subst eX
            subst el
            exact .inr ⟨(wanted_at (g := 1) (b := true) (t := 73) rfl rfl ((hin 1 73 rfl).trans (congrArg some (show uu 1 = .bool true from (hd 1 (by decide) (by kernel_rfl)).2))) rfl), fun K' hK => wp_ldim 23 (.tmp 76) ra i m c R rfl (eval_tmp ((hin 4 76 rfl).trans (congrArg some (show uu 4 = (ra.at 1 i) from (hd 4 (by decide) (by kernel_rfl)).2)))) (hJ.get 0 (f := Mi m c R ra) rfl) (by omega) ag23 (fun s5 hi_s5 => hK _ _ hJ ⟨s5, rfl, hi_s5⟩ vzL_same)⟩
           ·
            refine opS_z hJ (fun _ => hR) ?_
            obtain ⟨eX, el⟩ := hR
            subst eX
            subst el
            exact .inr ⟨(wanted_at (g := 1) (b := true) (t := 73) rfl rfl ((hin 1 73 rfl).trans (congrArg some (show uu 1 = .bool true from (hd 1 (by decide) (by kernel_rfl)).2))) rfl), fun K' hK => wp_move (.tmp 13) rfl (eval_tmp ((hev 13 (by decide)).trans rfl)) (hK _ _ hJ rfl vzL_same)⟩
           ·
            refine opS_z hJ (fun _ => hR) ?_
            obtain ⟨eX, el⟩ := hR
            subst eX
            subst el
            obtain ⟨s5, e5, hi_s5⟩ := (show (vli (c i) (R i)) (uu 5) XR16 ww from (hd 5 (by decide) (by kernel_rfl)).2)
            replace hJ := hJ.more (f := Li (c i) (R i) s5) (Li.stb _ _ _) hi_s5
            exact .inr ⟨(wanted_at (g := 1) (b := true) (t := 73) rfl rfl ((hin 1 73 rfl).trans (congrArg some (show uu 1 = .bool true from (hd 1 (by decide) (by kernel_rfl)).2))) rfl), fun K' hK => wp_ixs 23 (.tmp 77) (.tmp 78) s5 k 1 2 rfl (eval_tmp ((hin 5 77 rfl).trans (congrArg some e5))) (eval_tmp ((hin 6 78 rfl).trans (congrArg some (show uu 6 = .int .i64 (((k : Nat) : Int)) from (hd 6 (by decide) (by kernel_rfl)).2)))) (by kernel_rfl) sz2 (fun h => ((hJ.get 0 (f := Li (c i) (R i) s5) rfl).sq.nil h).1) ((hJ.get 0 (f := Li (c i) (R i) s5) rfl).n ▸ (by omega)) (hK _ _ (hJ.only [Mi m c R ra, Li kx x qa] (by simp)) ⟨s5, rfl, hi_s5⟩ vzL_same)⟩
           ·
            refine opS_z hJ (fun _ => hR) ?_
            obtain ⟨eX, el⟩ := hR
            subst eX
            subst el
            obtain ⟨s5, e7, hi_s5⟩ := (show (vati (c i) (R i) k) (uu 7) XR16 ww from (hd 7 (by decide) (by kernel_rfl)).2)
            replace hJ := hJ.more (f := Li (c i) (R i) s5) (Li.stb _ _ _) hi_s5
            exact .inr ⟨(wanted_at (g := 1) (b := true) (t := 73) rfl rfl ((hin 1 73 rfl).trans (congrArg some (show uu 1 = .bool true from (hd 1 (by decide) (by kernel_rfl)).2))) rfl), fun K' hK => wp_ldi 2 (.tmp 79) s5 k (c i) (R i) rfl (eval_tmp ((hin 7 79 rfl).trans (congrArg some e7))) (hJ.get 0 (f := Li (c i) (R i) s5) rfl) (by omega) ag2 (hK _ _ (hJ.only [Mi m c R ra, Li kx x qa] (by simp)) rfl vzL_same)⟩
           ·
            refine opS_z hJ (fun _ => hR) ?_
            obtain ⟨eX, el⟩ := hR
            subst eX
            subst el
            exact .inr ⟨(wanted_at (g := 1) (b := true) (t := 73) rfl rfl ((hin 1 73 rfl).trans (congrArg some (show uu 1 = .bool true from (hd 1 (by decide) (by kernel_rfl)).2))) rfl), fun K' hK => wp_move (.tmp 0) rfl (eval_tmp ((hev 0 (by decide)).trans rfl)) (hK _ _ hJ rfl vzL_same)⟩
           ·
            refine opS_z hJ (fun _ => hR) ?_
            obtain ⟨eX, el⟩ := hR
            subst eX
            subst el
            exact .inr ⟨(wanted_at (g := 1) (b := true) (t := 73) rfl rfl ((hin 1 73 rfl).trans (congrArg some (show uu 1 = .bool true from (hd 1 (by decide) (by kernel_rfl)).2))) rfl), fun K' hK => wp_move (.tmp 13) rfl (eval_tmp ((hev 13 (by decide)).trans rfl)) (hK _ _ hJ rfl vzL_same)⟩
           ·
            refine opS_z hJ (fun _ => hR) ?_
            obtain ⟨eX, el⟩ := hR
            subst eX
            subst el
            exact .inr ⟨(wanted_at (g := 1) (b := true) (t := 73) rfl rfl ((hin 1 73 rfl).trans (congrArg some (show uu 1 = .bool true from (hd 1 (by decide) (by kernel_rfl)).2))) rfl), fun K' hK => wp_ixs 22 (.tmp 81) (.tmp 82) ra k 1 23 rfl (eval_tmp ((hin 9 81 rfl).trans (congrArg some (show uu 9 = ra.v from (hd 9 (by decide) (by kernel_rfl)).2)))) (eval_tmp ((hin 10 82 rfl).trans (congrArg some (show uu 10 = .int .i64 (((k : Nat) : Int)) from (hd 10 (by decide) (by kernel_rfl)).2)))) (by kernel_rfl) sz23 (fun h => ((hJ.get 0 (f := Mi m c R ra) rfl).sq.nil h).1) ((hJ.get 0 (f := Mi m c R ra) rfl).n ▸ (by omega)) (hK _ _ hJ rfl vzL_same)⟩
           ·
            refine opS_z hJ (fun _ => hR) ?_
            obtain ⟨eX, el⟩ := hR
            subst eX
            subst el
            exact .inr ⟨(wanted_at (g := 1) (b := true) (t := 73) rfl rfl ((hin 1 73 rfl).trans (congrArg some (show uu 1 = .bool true from (hd 1 (by decide) (by kernel_rfl)).2))) rfl), fun K' hK => wp_ldim 23 (.tmp 83) ra k m c R rfl (eval_tmp ((hin 11 83 rfl).trans (congrArg some (show uu 11 = (ra.at 1 k) from (hd 11 (by decide) (by kernel_rfl)).2)))) (hJ.get 0 (f := Mi m c R ra) rfl) (by omega) ag23 (fun s6 hi_s6 => hK _ _ hJ ⟨s6, rfl, hi_s6⟩ vzL_same)⟩
           ·
            refine opS_z hJ (fun _ => hR) ?_
            obtain ⟨eX, el⟩ := hR
            subst eX
            subst el
            exact .inr ⟨(wanted_at (g := 1) (b := true) (t := 73) rfl rfl ((hin 1 73 rfl).trans (congrArg some (show uu 1 = .bool true from (hd 1 (by decide) (by kernel_rfl)).2))) rfl), fun K' hK => wp_move (.tmp 12) rfl (eval_tmp ((hev 12 (by decide)).trans rfl)) (hK _ _ hJ rfl vzL_same)⟩
           ·
            refine opS_z hJ (fun _ => hR) ?_
            obtain ⟨eX, el⟩ := hR
            subst eX
            subst el
            obtain ⟨s6, e12, hi_s6⟩ := (show (vli (c k) (R k)) (uu 12) XR16 ww from (hd 12 (by decide) (by kernel_rfl)).2)
            replace hJ := hJ.more (f := Li (c k) (R k) s6) (Li.stb _ _ _) hi_s6
            exact .inr ⟨(wanted_at (g := 1) (b := true) (t := 73) rfl rfl ((hin 1 73 rfl).trans (congrArg some (show uu 1 = .bool true from (hd 1 (by decide) (by kernel_rfl)).2))) rfl), fun K' hK => wp_ixs 23 (.tmp 84) (.tmp 85) s6 i 1 2 rfl (eval_tmp ((hin 12 84 rfl).trans (congrArg some e12))) (eval_tmp ((hin 13 85 rfl).trans (congrArg some (show uu 13 = .int .i64 (((i : Nat) : Int)) from (hd 13 (by decide) (by kernel_rfl)).2)))) (by kernel_rfl) sz2 (fun h => ((hJ.get 0 (f := Li (c k) (R k) s6) rfl).sq.nil h).1) ((hJ.get 0 (f := Li (c k) (R k) s6) rfl).n ▸ (by omega)) (hK _ _ (hJ.only [Mi m c R ra, Li kx x qa] (by simp)) ⟨s6, rfl, hi_s6⟩ vzL_same)⟩
           ·
            refine opS_z hJ (fun _ => hR) ?_
            obtain ⟨eX, el⟩ := hR
            subst eX
            subst el
            obtain ⟨s6, e14, hi_s6⟩ := (show (vati (c k) (R k) i) (uu 14) XR16 ww from (hd 14 (by decide) (by kernel_rfl)).2)
            replace hJ := hJ.more (f := Li (c k) (R k) s6) (Li.stb _ _ _) hi_s6
            exact .inr ⟨(wanted_at (g := 1) (b := true) (t := 73) rfl rfl ((hin 1 73 rfl).trans (congrArg some (show uu 1 = .bool true from (hd 1 (by decide) (by kernel_rfl)).2))) rfl), fun K' hK => wp_ldi 2 (.tmp 86) s6 i (c k) (R k) rfl (eval_tmp ((hin 14 86 rfl).trans (congrArg some e14))) (hJ.get 0 (f := Li (c k) (R k) s6) rfl) (by omega) ag2 (hK _ _ (hJ.only [Mi m c R ra, Li kx x qa] (by simp)) rfl vzL_same)⟩
           ·
            refine opS_z hJ (fun _ => hR) ?_
            obtain ⟨eX, el⟩ := hR
            subst eX
            subst el
            exact .inr ⟨(wanted_at (g := 1) (b := true) (t := 73) rfl rfl ((hin 1 73 rfl).trans (congrArg some (show uu 1 = .bool true from (hd 1 (by decide) (by kernel_rfl)).2))) rfl), fun K' hK => wp_eqlL (.tmp 80) (.tmp 87) rfl (eval_tmp ((hin 8 80 rfl).trans (congrArg some (show uu 8 = .int .i64 (R i k) from (hd 8 (by decide) (by kernel_rfl)).2)))) (eval_tmp ((hin 15 87 rfl).trans (congrArg some (show uu 15 = .int .i64 (R k i) from (hd 15 (by decide) (by kernel_rfl)).2)))) (r := false) (decide_eq_false HE.out) (hK _ _ hJ rfl vzL_same)⟩
           ·
            refine opS_z hJ (fun _ => hR) ?_
            obtain ⟨eX, el⟩ := hR
            subst eX
            subst el
            exact .inr ⟨rfl, fun K' hK => wp_pick (bv := true) (.tmp 73) (.tmp 88) (.const (.bool false)) rfl (eval_tmp ((hin 1 73 rfl).trans (congrArg some (show uu 1 = .bool true from (hd 1 (by decide) (by kernel_rfl)).2)))) (eval_tmp ((hin 16 88 rfl).trans (congrArg some (show uu 16 = .bool false from (hd 16 (by decide) (by kernel_rfl)).2)))) rfl (hK _ _ hJ rfl vzL_same)⟩
          clear hZ22
          intro LL uu W7 X1 l1 hLL hR hZ23 hd
          obtain ⟨eX, el⟩ := hR
          subst eX
          subst el
          have e_0 : uu 0 = .bool true := hd 0 (by decide)
          have e_1 : uu 1 = .bool true := hd 1 (by decide)
          have e_2 : uu 2 = ra.v := hd 2 (by decide)
          have e_3 : uu 3 = .int .i64 (((i : Nat) : Int)) := hd 3 (by decide)
          have e_4 : uu 4 = (ra.at 1 i) := hd 4 (by decide)
          obtain ⟨s5, e_5, hi_s5⟩ := (show (vli (c i) (R i)) (uu 5) XR16 W7 from hd 5 (by decide))
          have e_6 : uu 6 = .int .i64 (((k : Nat) : Int)) := hd 6 (by decide)
          obtain ⟨s5_7, e_7, hi_s5_7⟩ := (show (vati (c i) (R i) k) (uu 7) XR16 W7 from hd 7 (by decide))
          have e_8 : uu 8 = .int .i64 (R i k) := hd 8 (by decide)
          have e_9 : uu 9 = ra.v := hd 9 (by decide)
          have e_10 : uu 10 = .int .i64 (((k : Nat) : Int)) := hd 10 (by decide)
          have e_11 : uu 11 = (ra.at 1 k) := hd 11 (by decide)
          obtain ⟨s6, e_12, hi_s6⟩ := (show (vli (c k) (R k)) (uu 12) XR16 W7 from hd 12 (by decide))
          have e_13 : uu 13 = .int .i64 (((i : Nat) : Int)) := hd 13 (by decide)
          obtain ⟨s6_14, e_14, hi_s6_14⟩ := (show (vati (c k) (R k) i) (uu 14) XR16 W7 from hd 14 (by decide))
          have e_15 : uu 15 = .int .i64 (R k i) := hd 15 (by decide)
          have e_16 : uu 16 = .bool false := hd 16 (by decide)
          have e_17 : uu 17 = .bool false := hd 17 (by decide)
          clear hd hVS16
          simp only [layS, Act.put, zzC, zzD, zzE, Nat.zero_add, Nat.reduceAdd, List.drop_succ_cons, List.drop_zero, List.drop_nil, e_0, e_1, e_2, e_3, e_4, e_5, e_6, e_7, e_8, e_9, e_10, e_11, e_12, e_13, e_14, e_15, e_16, e_17]
          clear e_0 e_1 e_2 e_3 e_4 e_5 e_6 e_7 e_8 e_9 e_10 e_11 e_12 e_13 e_14 e_15 e_16 e_17
          have hZ24 := hZ23.more (f := Li (c i) (R i) s5) (Li.stb _ _ _) hi_s5
          clear hZ23
          clear hi_s5
          have hZ25 := hZ24.more (f := Li (c i) (R i) s5_7) (Li.stb _ _ _) hi_s5_7
          clear hZ24
          clear hi_s5_7
          have hZ26 := hZ25.more (f := Li (c k) (R k) s6) (Li.stb _ _ _) hi_s6
          clear hZ25
          clear hi_s6
          have hZ27 := hZ26.more (f := Li (c k) (R k) s6_14) (Li.stb _ _ _) hi_s6_14
          clear hZ26
          clear hi_s6_14
          have hZ28 := hZ27.only [Mi m c R ra, Li kx x qa] (by simp)
          clear hZ27
          go_wp2_with (refine stop_op rfl (fun K hK => wp_addi (.tmp 70) (.const (.int .i64 1)) rfl rfl rfl (C := ((k + 1 : Nat) : Int)) (by omega) (by omega) (by omega) (hK _ _ ?_)))
          unfold Stop
          try simp only [Act.put, zzC, zzD, zzE]
          go_wp2
          go_roundw
          case rel => exact ⟨k + 1, false, _, by omega, by go_num, rfl, nofun, hZ28⟩
          case measure => simp [intOf]; omega
       ·
        obtain rfl : i = k := by omega
        go_wp2_with (refine stop_op rfl (fun K hK => wp_lssi (.tmp 67) (.tmp 68) rfl rfl rfl (r := false) (decide_eq_false (Int.lt_irrefl _)) (hK _ _ ?_)))
        unfold Stop
        try simp only [Act.put, zzC, zzD, zzE]
        go_wp2_with (refine stop_op rfl (fun K hK => wp_addi (.tmp 65) (.const (.int .i64 1)) rfl rfl rfl (C := ((i + 1 : Nat) : Int)) (by omega) (by omega) (by omega) (hK _ _ ?_)))
        unfold Stop
        try simp only [Act.put, zzC, zzD, zzE]
        go_wp2
        go_roundw
        case rel => exact ⟨i + 1, b, _, by omega, by go_num, rfl, (fun h => ⟨(hb h).1.1, fun x y hx hy => by
          by_cases e : x = i
          ·
           rw [e]; exact (hb h).2 y (by omega)
          ·
           exact (hb h).1.2 x y (by omega) hy⟩), hZ3⟩
        case measure => simp [intOf]; omega
     ·
      obtain rfl : m = i := by omega
      exact absurd ⟨HF.out.1.1, HF.out.1.2, sym_low HF.out.2⟩ HN.out
end Go.Proofs.YtjclllindbfmhaaGreatDoor
