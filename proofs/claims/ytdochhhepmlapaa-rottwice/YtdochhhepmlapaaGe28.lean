/- Parts of the proof. -/
import Derived.Test.YtdochhhepmlapaaGe27
import Derived.LoopN
/- Package vec: the walks of both, each, sum, from. No statement of the seat is proved here. -/
namespace Go.Proofs.Ytdochhhepmlapaa
open Go Go.RowKit
attribute [local go_sem] run_vix0 run_vix1 run_vix2
attribute [local go_sem ↓] run_vbuild run_dbuild
set_option maxRecDepth 100000 in
set_option maxHeartbeats 12800000 in
theorem both_s (k : FuncId) (v u r : Vc) (hH0 : ∀ W : World, Calls Try.prog k #[.agg #[.int .i64 v.x.lo, .int .i64 v.x.hi, .bool v.x.all], .agg #[.int .i64 u.x.lo, .int .i64 u.x.hi, .bool u.x.all]] W (PVal (.agg #[.int .i64 r.x.lo, .int .i64 r.x.hi, .bool r.x.all]) W)) (hH1 : ∀ W : World, Calls Try.prog k #[.agg #[.int .i64 v.y.lo, .int .i64 v.y.hi, .bool v.y.all], .agg #[.int .i64 u.y.lo, .int .i64 u.y.hi, .bool u.y.all]] W (PVal (.agg #[.int .i64 r.y.lo, .int .i64 r.y.hi, .bool r.y.all]) W)) (hH2 : ∀ W : World, Calls Try.prog k #[.agg #[.int .i64 v.z.lo, .int .i64 v.z.hi, .bool v.z.all], .agg #[.int .i64 u.z.lo, .int .i64 u.z.hi, .bool u.z.all]] W (PVal (.agg #[.int .i64 r.z.lo, .int .i64 r.z.hi, .bool r.z.all]) W)) (hk : ∀ (args : Array Value) (W : World), (callFunc k args).run Try.prog W = .ok (.enter k args) W) (w : World) : Calls Try.prog 46 #[.agg #[.int .i64 v.x.lo, .int .i64 v.x.hi, .bool v.x.all, .int .i64 v.y.lo, .int .i64 v.y.hi, .bool v.y.all, .int .i64 v.z.lo, .int .i64 v.z.hi, .bool v.z.all], .agg #[.int .i64 u.x.lo, .int .i64 u.x.hi, .bool u.x.all, .int .i64 u.y.lo, .int .i64 u.y.hi, .bool u.y.all, .int .i64 u.z.lo, .int .i64 u.z.hi, .bool u.z.all], .func (.func k) #[] #[]] w (PVal (.agg #[.int .i64 r.x.lo, .int .i64 r.x.hi, .bool r.x.all, .int .i64 r.y.lo, .int .i64 r.y.hi, .bool r.y.all, .int .i64 r.z.lo, .int .i64 r.z.hi, .bool r.z.all]) w) := by
 have H0 := Lib.hid hH0
 have H1 := Lib.hid hH1
 have H2 := Lib.hid hH2
 clear hH0 hH1 hH2
 have hJ0 := es_nil w
 go_enter Try.func46, Try.ntmps46
 go_wp2_with (refine stop_box 25 (.tmp 0) #[.int .i64 v.x.lo, .int .i64 v.x.hi, .bool v.x.all, .int .i64 v.y.lo, .int .i64 v.y.hi, .bool v.y.all, .int .i64 v.z.lo, .int .i64 v.z.hi, .bool v.z.all] rfl rfl rfl hJ0 (fun b1 W1 hJ1 => ?_))
 clear hJ0
 unfold Stop
 try simp only [Act.put, List.setIfInBounds_toArray, List.set_cons_succ, List.set_cons_zero]
 go_wp2_with (refine stop_box 25 (.tmp 1) #[.int .i64 u.x.lo, .int .i64 u.x.hi, .bool u.x.all, .int .i64 u.y.lo, .int .i64 u.y.hi, .bool u.y.all, .int .i64 u.z.lo, .int .i64 u.z.hi, .bool u.z.all] rfl rfl rfl hJ1 (fun b2 W2 hJ2 => ?_))
 clear hJ1
 unfold Stop
 try simp only [Act.put, List.setIfInBounds_toArray, List.set_cons_succ, List.set_cons_zero]
 go_wp2_with (refine stop_alloc 24 #[.int .i64 0, .int .i64 0, .bool false, .int .i64 0, .int .i64 0, .bool false, .int .i64 0, .int .i64 0, .bool false] (.agg #[.int .i64 0, .int .i64 0, .bool false, .int .i64 0, .int .i64 0, .bool false, .int .i64 0, .int .i64 0, .bool false]) rfl rfl zv24 rfl hJ2 (fun b3 W3 hJ3 => ?_))
 clear hJ2
 unfold Stop
 try simp only [Act.put, List.setIfInBounds_toArray, List.set_cons_succ, List.set_cons_zero]
 go_wp2_with (refine stop_alloc 24 #[.int .i64 0, .int .i64 0, .bool false, .int .i64 0, .int .i64 0, .bool false, .int .i64 0, .int .i64 0, .bool false] (.agg #[.int .i64 0, .int .i64 0, .bool false, .int .i64 0, .int .i64 0, .bool false, .int .i64 0, .int .i64 0, .bool false]) rfl rfl zv24 rfl hJ3 (fun b4 W4 hJ4 => ?_))
 clear hJ3
 unfold Stop
 try simp only [Act.put, List.setIfInBounds_toArray, List.set_cons_succ, List.set_cons_zero]
 have f0 : W4.cell? ⟨b1, 0, none⟩ = some (.int .i64 v.x.lo) := hJ4.cell 3 rfl 0 rfl
 have f1 : W4.cell? ⟨b1, 1, none⟩ = some (.int .i64 v.x.hi) := hJ4.cell 3 rfl 1 rfl
 have f2 : W4.cell? ⟨b1, 2, none⟩ = some (.bool v.x.all) := hJ4.cell 3 rfl 2 rfl
 have f3 : W4.cell? ⟨b1, 3, none⟩ = some (.int .i64 v.y.lo) := hJ4.cell 3 rfl 3 rfl
 have f4 : W4.cell? ⟨b1, 4, none⟩ = some (.int .i64 v.y.hi) := hJ4.cell 3 rfl 4 rfl
 have f5 : W4.cell? ⟨b1, 5, none⟩ = some (.bool v.y.all) := hJ4.cell 3 rfl 5 rfl
 have f6 : W4.cell? ⟨b1, 6, none⟩ = some (.int .i64 v.z.lo) := hJ4.cell 3 rfl 6 rfl
 have f7 : W4.cell? ⟨b1, 7, none⟩ = some (.int .i64 v.z.hi) := hJ4.cell 3 rfl 7 rfl
 have f8 : W4.cell? ⟨b1, 8, none⟩ = some (.bool v.z.all) := hJ4.cell 3 rfl 8 rfl
 go_wp2
 clear f0 f1 f2 f3 f4 f5 f6 f7 f8
 refine wp_loop_rounds 4 ?_
 rw [rounds_succ]
 go_wp2_with (refine stop_alloc 23 #[.int .i64 0, .int .i64 0, .bool false] (.agg #[.int .i64 0, .int .i64 0, .bool false]) rfl rfl zv23 rfl hJ4 (fun b5 W5 hJ5 => ?_))
 clear hJ4
 unfold Stop
 try simp only [Act.put, List.setIfInBounds_toArray, List.set_cons_succ, List.set_cons_zero]
 go_wp2_with (refine stop_store 23 (.tmp 9) (.tmp 14) 0 b5 0 #[.int .i64 0, .int .i64 0, .bool false] 23 3 [.int .i64 v.x.lo, .int .i64 v.x.hi, .bool v.x.all] #[.int .i64 v.x.lo, .int .i64 v.x.hi, .bool v.x.all] [(b5, #[.int .i64 v.x.lo, .int .i64 v.x.hi, .bool v.x.all], 23), (b4, #[.int .i64 0, .int .i64 0, .bool false, .int .i64 0, .int .i64 0, .bool false, .int .i64 0, .int .i64 0, .bool false], 24), (b3, #[.int .i64 0, .int .i64 0, .bool false, .int .i64 0, .int .i64 0, .bool false, .int .i64 0, .int .i64 0, .bool false], 24), (b2, #[.int .i64 u.x.lo, .int .i64 u.x.hi, .bool u.x.all, .int .i64 u.y.lo, .int .i64 u.y.hi, .bool u.y.all, .int .i64 u.z.lo, .int .i64 u.z.hi, .bool u.z.all], 25), (b1, #[.int .i64 v.x.lo, .int .i64 v.x.hi, .bool v.x.all, .int .i64 v.y.lo, .int .i64 v.y.hi, .bool v.y.all, .int .i64 v.z.lo, .int .i64 v.z.hi, .bool v.z.all], 25)] rfl rfl rfl rfl sz23 hJ5 rfl rfl (Nat.le_of_ble_eq_true (by kernel_rfl)) (by kernel_rfl) (by kernel_rfl) (by kernel_rfl) (fun W6 hJ6 => ?_))
 clear hJ5
 unfold Stop
 try simp only [Act.put, List.setIfInBounds_toArray, List.set_cons_succ, List.set_cons_zero]
 go_wp2
 obtain ⟨m5_6, hm⟩ : ∃ m, m = W6.heap.size := ⟨_, rfl⟩
 have hM := hJ6.em
 rw [← hm] at hM
 clear hm hJ6
 refine wp_region_z 8 [some 15, some 16, some 17, some 18, some 19, some 20, some 21, some 22] (veL m5_6 [.eq (.int .i64 0), .eq (.func (.func k) #[] #[]), .eq (.agg #[.int .i64 v.x.lo, .int .i64 v.x.hi, .bool v.x.all]), .eq (.int .i64 0), .eq (.pointer (some ⟨b2, 0, none⟩)), .eq (.agg #[.int .i64 u.x.lo, .int .i64 u.x.hi, .bool u.x.all]), .eq (.agg #[.int .i64 r.x.lo, .int .i64 r.x.hi, .bool r.x.all]), .eq (.pointer (some ⟨b4, 0, none⟩))]) (Em w m5_6 [(b5, #[.int .i64 v.x.lo, .int .i64 v.x.hi, .bool v.x.all], 23), (b4, #[.int .i64 0, .int .i64 0, .bool false, .int .i64 0, .int .i64 0, .bool false, .int .i64 0, .int .i64 0, .bool false], 24), (b3, #[.int .i64 0, .int .i64 0, .bool false, .int .i64 0, .int .i64 0, .bool false, .int .i64 0, .int .i64 0, .bool false], 24), (b2, #[.int .i64 u.x.lo, .int .i64 u.x.hi, .bool u.x.all, .int .i64 u.y.lo, .int .i64 u.y.hi, .bool u.y.all, .int .i64 u.z.lo, .int .i64 u.z.hi, .bool u.z.all], 25), (b1, #[.int .i64 v.x.lo, .int .i64 v.x.hi, .bool v.x.all, .int .i64 v.y.lo, .int .i64 v.y.hi, .bool v.y.all, .int .i64 v.z.lo, .int .i64 v.z.hi, .bool v.z.all], 25)]) (by kernel_rfl) (by kernel_rfl) (by rfl) (by decide) (by rfl) hM ?_ ?_
 ·
  intro i hl hi uu ww aa hJ hd hev hin
  clear hM
  obtain rfl | rfl | rfl | rfl | rfl | rfl | rfl | rfl : i = 0 ∨ i = 1 ∨ i = 2 ∨ i = 3 ∨ i = 4 ∨ i = 5 ∨ i = 6 ∨ i = 7 := by omega
  ·
   have x8 : aa.tmps[8]? = some (.int .i64 0) := (hev 8 (by decide)).trans rfl
   clear hd hev hin
   simp only [List.getElem_cons_succ, List.getElem_cons_zero]
   clear hl
   refine .inr ⟨rfl, fun K' hK => ?_⟩
   have HK := Lib.hid hK
   clear hK
   go_simp
   exact HK.out (.int .i64 0) _ hJ rfl veL_same
  ·
   have x2 : aa.tmps[2]? = some (.func (.func k) #[] #[]) := (hev 2 (by decide)).trans rfl
   clear hd hev hin
   simp only [List.getElem_cons_succ, List.getElem_cons_zero]
   clear hl
   refine .inr ⟨rfl, fun K' hK => ?_⟩
   have HK := Lib.hid hK
   clear hK
   go_simp
   exact HK.out (.func (.func k) #[] #[]) _ hJ rfl veL_same
  ·
   have x9 : aa.tmps[9]? = some (.pointer (some ⟨b5, 0, none⟩)) := (hev 9 (by decide)).trans rfl
   clear hd hev hin
   simp only [List.getElem_cons_succ, List.getElem_cons_zero]
   clear hl
   refine .inr ⟨rfl, fun K' hK => ?_⟩
   have HK := Lib.hid hK
   clear hK
   have f0 : ww.cell? ⟨b5, 0, none⟩ = some (.int .i64 v.x.lo) := hJ.es.cell 0 rfl 0 rfl
   have f1 : ww.cell? ⟨b5, 1, none⟩ = some (.int .i64 v.x.hi) := hJ.es.cell 0 rfl 1 rfl
   have f2 : ww.cell? ⟨b5, 2, none⟩ = some (.bool v.x.all) := hJ.es.cell 0 rfl 2 rfl
   go_simp
   exact HK.out (.agg #[.int .i64 v.x.lo, .int .i64 v.x.hi, .bool v.x.all]) _ hJ rfl veL_same
  ·
   have x8 : aa.tmps[8]? = some (.int .i64 0) := (hev 8 (by decide)).trans rfl
   clear hd hev hin
   simp only [List.getElem_cons_succ, List.getElem_cons_zero]
   clear hl
   refine .inr ⟨rfl, fun K' hK => ?_⟩
   have HK := Lib.hid hK
   clear hK
   go_simp
   exact HK.out (.int .i64 0) _ hJ rfl veL_same
  ·
   have x4 : aa.tmps[4]? = some (.pointer (some ⟨b2, 0, none⟩)) := (hev 4 (by decide)).trans rfl
   have x18 : aa.tmps[18]? = some (.int .i64 0) := (hin 3 18 rfl).trans (congrArg some (show uu 3 = .int .i64 0 from hd 3 (by decide) (by kernel_rfl)))
   clear hd hev hin
   simp only [List.getElem_cons_succ, List.getElem_cons_zero]
   clear hl
   refine .inr ⟨rfl, fun K' hK => ?_⟩
   have HK := Lib.hid hK
   clear hK
   go_simp
   exact HK.out (.pointer (some ⟨b2, 0, none⟩)) _ hJ rfl veL_same
  ·
   have x19 : aa.tmps[19]? = some (.pointer (some ⟨b2, 0, none⟩)) := (hin 4 19 rfl).trans (congrArg some (show uu 4 = .pointer (some ⟨b2, 0, none⟩) from hd 4 (by decide) (by kernel_rfl)))
   clear hd hev hin
   simp only [List.getElem_cons_succ, List.getElem_cons_zero]
   clear hl
   refine .inr ⟨rfl, fun K' hK => ?_⟩
   have HK := Lib.hid hK
   clear hK
   have f0 : ww.cell? ⟨b2, 0, none⟩ = some (.int .i64 u.x.lo) := hJ.es.cell 3 rfl 0 rfl
   have f1 : ww.cell? ⟨b2, 1, none⟩ = some (.int .i64 u.x.hi) := hJ.es.cell 3 rfl 1 rfl
   have f2 : ww.cell? ⟨b2, 2, none⟩ = some (.bool u.x.all) := hJ.es.cell 3 rfl 2 rfl
   go_simp
   exact HK.out (.agg #[.int .i64 u.x.lo, .int .i64 u.x.hi, .bool u.x.all]) _ hJ rfl veL_same
  ·
   have x16 : aa.tmps[16]? = some (.func (.func k) #[] #[]) := (hin 1 16 rfl).trans (congrArg some (show uu 1 = .func (.func k) #[] #[] from hd 1 (by decide) (by kernel_rfl)))
   have x17 : aa.tmps[17]? = some (.agg #[.int .i64 v.x.lo, .int .i64 v.x.hi, .bool v.x.all]) := (hin 2 17 rfl).trans (congrArg some (show uu 2 = .agg #[.int .i64 v.x.lo, .int .i64 v.x.hi, .bool v.x.all] from hd 2 (by decide) (by kernel_rfl)))
   have x20 : aa.tmps[20]? = some (.agg #[.int .i64 u.x.lo, .int .i64 u.x.hi, .bool u.x.all]) := (hin 5 20 rfl).trans (congrArg some (show uu 5 = .agg #[.int .i64 u.x.lo, .int .i64 u.x.hi, .bool u.x.all] from hd 5 (by decide) (by kernel_rfl)))
   clear hd hev hin
   simp only [List.getElem_cons_succ, List.getElem_cons_zero]
   clear hl
   refine .inr ⟨rfl, fun K' hK => ?_⟩
   have HK := Lib.hid hK
   clear hK
   go_simp
   refine (H0.out ww).mono ?_
   rintro e W' ⟨rfl, hB⟩
   exact HK.out (.agg #[.int .i64 r.x.lo, .int .i64 r.x.hi, .bool r.x.all]) _ (hJ.later hB) rfl (veL_later hB)
  ·
   have x7 : aa.tmps[7]? = some (.pointer (some ⟨b4, 0, none⟩)) := (hev 7 (by decide)).trans rfl
   have x15 : aa.tmps[15]? = some (.int .i64 0) := (hin 0 15 rfl).trans (congrArg some (show uu 0 = .int .i64 0 from hd 0 (by decide) (by kernel_rfl)))
   clear hd hev hin
   simp only [List.getElem_cons_succ, List.getElem_cons_zero]
   clear hl
   refine .inr ⟨rfl, fun K' hK => ?_⟩
   have HK := Lib.hid hK
   clear hK
   go_simp
   exact HK.out (.pointer (some ⟨b4, 0, none⟩)) _ hJ rfl veL_same
 clear hM
 intro uu W7 hJm hd
 have e_0 : uu 0 = .int .i64 0 := hd 0 (by decide)
 have e_1 : uu 1 = .func (.func k) #[] #[] := hd 1 (by decide)
 have e_2 : uu 2 = .agg #[.int .i64 v.x.lo, .int .i64 v.x.hi, .bool v.x.all] := hd 2 (by decide)
 have e_3 : uu 3 = .int .i64 0 := hd 3 (by decide)
 have e_4 : uu 4 = .pointer (some ⟨b2, 0, none⟩) := hd 4 (by decide)
 have e_5 : uu 5 = .agg #[.int .i64 u.x.lo, .int .i64 u.x.hi, .bool u.x.all] := hd 5 (by decide)
 have e_6 : uu 6 = .agg #[.int .i64 r.x.lo, .int .i64 r.x.hi, .bool r.x.all] := hd 6 (by decide)
 have e_7 : uu 7 = .pointer (some ⟨b4, 0, none⟩) := hd 7 (by decide)
 clear hd
 simp only [layS, Act.put, List.setIfInBounds_toArray, List.set_cons_succ, List.set_cons_zero, Nat.zero_add, Nat.reduceAdd, List.drop_succ_cons, List.drop_zero, List.drop_nil, e_0, e_1, e_2, e_3, e_4, e_5, e_6, e_7]
 clear e_0 e_1 e_2 e_3 e_4 e_5 e_6 e_7
 have hJ7 := hJm.es
 clear hJm
 go_wp2_with (refine stop_store 23 (.tmp 22) (.tmp 21) 1 b4 0 #[.int .i64 0, .int .i64 0, .bool false, .int .i64 0, .int .i64 0, .bool false, .int .i64 0, .int .i64 0, .bool false] 24 3 [.int .i64 r.x.lo, .int .i64 r.x.hi, .bool r.x.all] #[.int .i64 r.x.lo, .int .i64 r.x.hi, .bool r.x.all, .int .i64 0, .int .i64 0, .bool false, .int .i64 0, .int .i64 0, .bool false] [(b5, #[.int .i64 v.x.lo, .int .i64 v.x.hi, .bool v.x.all], 23), (b4, #[.int .i64 r.x.lo, .int .i64 r.x.hi, .bool r.x.all, .int .i64 0, .int .i64 0, .bool false, .int .i64 0, .int .i64 0, .bool false], 24), (b3, #[.int .i64 0, .int .i64 0, .bool false, .int .i64 0, .int .i64 0, .bool false, .int .i64 0, .int .i64 0, .bool false], 24), (b2, #[.int .i64 u.x.lo, .int .i64 u.x.hi, .bool u.x.all, .int .i64 u.y.lo, .int .i64 u.y.hi, .bool u.y.all, .int .i64 u.z.lo, .int .i64 u.z.hi, .bool u.z.all], 25), (b1, #[.int .i64 v.x.lo, .int .i64 v.x.hi, .bool v.x.all, .int .i64 v.y.lo, .int .i64 v.y.hi, .bool v.y.all, .int .i64 v.z.lo, .int .i64 v.z.hi, .bool v.z.all], 25)] rfl rfl rfl rfl sz23 hJ7 rfl rfl (Nat.le_of_ble_eq_true (by kernel_rfl)) (by kernel_rfl) (by kernel_rfl) (by kernel_rfl) (fun W8 hJ8 => ?_))
 clear hJ7
 unfold Stop
 try simp only [Act.put, List.setIfInBounds_toArray, List.set_cons_succ, List.set_cons_zero]
 go_wp2
 rw [rounds_succ]
 go_wp2_with (refine stop_alloc 23 #[.int .i64 0, .int .i64 0, .bool false] (.agg #[.int .i64 0, .int .i64 0, .bool false]) rfl rfl zv23 rfl hJ8 (fun b6 W9 hJ9 => ?_))
 clear hJ8
 unfold Stop
 try simp only [Act.put, List.setIfInBounds_toArray, List.set_cons_succ, List.set_cons_zero]
 go_wp2_with (refine stop_store 23 (.tmp 9) (.tmp 14) 0 b6 0 #[.int .i64 0, .int .i64 0, .bool false] 23 3 [.int .i64 v.y.lo, .int .i64 v.y.hi, .bool v.y.all] #[.int .i64 v.y.lo, .int .i64 v.y.hi, .bool v.y.all] [(b6, #[.int .i64 v.y.lo, .int .i64 v.y.hi, .bool v.y.all], 23), (b5, #[.int .i64 v.x.lo, .int .i64 v.x.hi, .bool v.x.all], 23), (b4, #[.int .i64 r.x.lo, .int .i64 r.x.hi, .bool r.x.all, .int .i64 0, .int .i64 0, .bool false, .int .i64 0, .int .i64 0, .bool false], 24), (b3, #[.int .i64 0, .int .i64 0, .bool false, .int .i64 0, .int .i64 0, .bool false, .int .i64 0, .int .i64 0, .bool false], 24), (b2, #[.int .i64 u.x.lo, .int .i64 u.x.hi, .bool u.x.all, .int .i64 u.y.lo, .int .i64 u.y.hi, .bool u.y.all, .int .i64 u.z.lo, .int .i64 u.z.hi, .bool u.z.all], 25), (b1, #[.int .i64 v.x.lo, .int .i64 v.x.hi, .bool v.x.all, .int .i64 v.y.lo, .int .i64 v.y.hi, .bool v.y.all, .int .i64 v.z.lo, .int .i64 v.z.hi, .bool v.z.all], 25)] rfl rfl rfl rfl sz23 hJ9 rfl rfl (Nat.le_of_ble_eq_true (by kernel_rfl)) (by kernel_rfl) (by kernel_rfl) (by kernel_rfl) (fun W10 hJ10 => ?_))
 clear hJ9
 unfold Stop
 try simp only [Act.put, List.setIfInBounds_toArray, List.set_cons_succ, List.set_cons_zero]
 go_wp2
 obtain ⟨m5_10, hm⟩ : ∃ m, m = W10.heap.size := ⟨_, rfl⟩
 have hM := hJ10.em
 rw [← hm] at hM
 clear hm hJ10
 refine wp_region_z 8 [some 15, some 16, some 17, some 18, some 19, some 20, some 21, some 22] (veL m5_10 [.eq (.int .i64 1), .eq (.func (.func k) #[] #[]), .eq (.agg #[.int .i64 v.y.lo, .int .i64 v.y.hi, .bool v.y.all]), .eq (.int .i64 1), .eq (.pointer (some ⟨b2, 3, none⟩)), .eq (.agg #[.int .i64 u.y.lo, .int .i64 u.y.hi, .bool u.y.all]), .eq (.agg #[.int .i64 r.y.lo, .int .i64 r.y.hi, .bool r.y.all]), .eq (.pointer (some ⟨b4, 3, none⟩))]) (Em w m5_10 [(b6, #[.int .i64 v.y.lo, .int .i64 v.y.hi, .bool v.y.all], 23), (b5, #[.int .i64 v.x.lo, .int .i64 v.x.hi, .bool v.x.all], 23), (b4, #[.int .i64 r.x.lo, .int .i64 r.x.hi, .bool r.x.all, .int .i64 0, .int .i64 0, .bool false, .int .i64 0, .int .i64 0, .bool false], 24), (b3, #[.int .i64 0, .int .i64 0, .bool false, .int .i64 0, .int .i64 0, .bool false, .int .i64 0, .int .i64 0, .bool false], 24), (b2, #[.int .i64 u.x.lo, .int .i64 u.x.hi, .bool u.x.all, .int .i64 u.y.lo, .int .i64 u.y.hi, .bool u.y.all, .int .i64 u.z.lo, .int .i64 u.z.hi, .bool u.z.all], 25), (b1, #[.int .i64 v.x.lo, .int .i64 v.x.hi, .bool v.x.all, .int .i64 v.y.lo, .int .i64 v.y.hi, .bool v.y.all, .int .i64 v.z.lo, .int .i64 v.z.hi, .bool v.z.all], 25)]) (by kernel_rfl) (by kernel_rfl) (by rfl) (by decide) (by rfl) hM ?_ ?_
 ·
  intro i hl hi uu ww aa hJ hd hev hin
  clear hM
  obtain rfl | rfl | rfl | rfl | rfl | rfl | rfl | rfl : i = 0 ∨ i = 1 ∨ i = 2 ∨ i = 3 ∨ i = 4 ∨ i = 5 ∨ i = 6 ∨ i = 7 := by omega
  ·
   have x8 : aa.tmps[8]? = some (.int .i64 1) := (hev 8 (by decide)).trans rfl
   clear hd hev hin
   simp only [List.getElem_cons_succ, List.getElem_cons_zero]
   clear hl
   refine .inr ⟨rfl, fun K' hK => ?_⟩
   have HK := Lib.hid hK
   clear hK
   go_simp
   exact HK.out (.int .i64 1) _ hJ rfl veL_same
  ·
   have x2 : aa.tmps[2]? = some (.func (.func k) #[] #[]) := (hev 2 (by decide)).trans rfl
   clear hd hev hin
   simp only [List.getElem_cons_succ, List.getElem_cons_zero]
   clear hl
   refine .inr ⟨rfl, fun K' hK => ?_⟩
   have HK := Lib.hid hK
   clear hK
   go_simp
   exact HK.out (.func (.func k) #[] #[]) _ hJ rfl veL_same
  ·
   have x9 : aa.tmps[9]? = some (.pointer (some ⟨b6, 0, none⟩)) := (hev 9 (by decide)).trans rfl
   clear hd hev hin
   simp only [List.getElem_cons_succ, List.getElem_cons_zero]
   clear hl
   refine .inr ⟨rfl, fun K' hK => ?_⟩
   have HK := Lib.hid hK
   clear hK
   have f0 : ww.cell? ⟨b6, 0, none⟩ = some (.int .i64 v.y.lo) := hJ.es.cell 0 rfl 0 rfl
   have f1 : ww.cell? ⟨b6, 1, none⟩ = some (.int .i64 v.y.hi) := hJ.es.cell 0 rfl 1 rfl
   have f2 : ww.cell? ⟨b6, 2, none⟩ = some (.bool v.y.all) := hJ.es.cell 0 rfl 2 rfl
   go_simp
   exact HK.out (.agg #[.int .i64 v.y.lo, .int .i64 v.y.hi, .bool v.y.all]) _ hJ rfl veL_same
  ·
   have x8 : aa.tmps[8]? = some (.int .i64 1) := (hev 8 (by decide)).trans rfl
   clear hd hev hin
   simp only [List.getElem_cons_succ, List.getElem_cons_zero]
   clear hl
   refine .inr ⟨rfl, fun K' hK => ?_⟩
   have HK := Lib.hid hK
   clear hK
   go_simp
   exact HK.out (.int .i64 1) _ hJ rfl veL_same
  ·
   have x4 : aa.tmps[4]? = some (.pointer (some ⟨b2, 0, none⟩)) := (hev 4 (by decide)).trans rfl
   have x18 : aa.tmps[18]? = some (.int .i64 1) := (hin 3 18 rfl).trans (congrArg some (show uu 3 = .int .i64 1 from hd 3 (by decide) (by kernel_rfl)))
   clear hd hev hin
   simp only [List.getElem_cons_succ, List.getElem_cons_zero]
   clear hl
   refine .inr ⟨rfl, fun K' hK => ?_⟩
   have HK := Lib.hid hK
   clear hK
   go_simp
   exact HK.out (.pointer (some ⟨b2, 3, none⟩)) _ hJ rfl veL_same
  ·
   have x19 : aa.tmps[19]? = some (.pointer (some ⟨b2, 3, none⟩)) := (hin 4 19 rfl).trans (congrArg some (show uu 4 = .pointer (some ⟨b2, 3, none⟩) from hd 4 (by decide) (by kernel_rfl)))
   clear hd hev hin
   simp only [List.getElem_cons_succ, List.getElem_cons_zero]
   clear hl
   refine .inr ⟨rfl, fun K' hK => ?_⟩
   have HK := Lib.hid hK
   clear hK
   have f0 : ww.cell? ⟨b2, 3, none⟩ = some (.int .i64 u.y.lo) := hJ.es.cell 4 rfl 3 rfl
   have f1 : ww.cell? ⟨b2, 4, none⟩ = some (.int .i64 u.y.hi) := hJ.es.cell 4 rfl 4 rfl
   have f2 : ww.cell? ⟨b2, 5, none⟩ = some (.bool u.y.all) := hJ.es.cell 4 rfl 5 rfl
   go_simp
   exact HK.out (.agg #[.int .i64 u.y.lo, .int .i64 u.y.hi, .bool u.y.all]) _ hJ rfl veL_same
  ·
   have x16 : aa.tmps[16]? = some (.func (.func k) #[] #[]) := (hin 1 16 rfl).trans (congrArg some (show uu 1 = .func (.func k) #[] #[] from hd 1 (by decide) (by kernel_rfl)))
   have x17 : aa.tmps[17]? = some (.agg #[.int .i64 v.y.lo, .int .i64 v.y.hi, .bool v.y.all]) := (hin 2 17 rfl).trans (congrArg some (show uu 2 = .agg #[.int .i64 v.y.lo, .int .i64 v.y.hi, .bool v.y.all] from hd 2 (by decide) (by kernel_rfl)))
   have x20 : aa.tmps[20]? = some (.agg #[.int .i64 u.y.lo, .int .i64 u.y.hi, .bool u.y.all]) := (hin 5 20 rfl).trans (congrArg some (show uu 5 = .agg #[.int .i64 u.y.lo, .int .i64 u.y.hi, .bool u.y.all] from hd 5 (by decide) (by kernel_rfl)))
   clear hd hev hin
   simp only [List.getElem_cons_succ, List.getElem_cons_zero]
   clear hl
   refine .inr ⟨rfl, fun K' hK => ?_⟩
   have HK := Lib.hid hK
   clear hK
   go_simp
   refine (H1.out ww).mono ?_
   rintro e W' ⟨rfl, hB⟩
   exact HK.out (.agg #[.int .i64 r.y.lo, .int .i64 r.y.hi, .bool r.y.all]) _ (hJ.later hB) rfl (veL_later hB)
  ·
   have x7 : aa.tmps[7]? = some (.pointer (some ⟨b4, 0, none⟩)) := (hev 7 (by decide)).trans rfl
   have x15 : aa.tmps[15]? = some (.int .i64 1) := (hin 0 15 rfl).trans (congrArg some (show uu 0 = .int .i64 1 from hd 0 (by decide) (by kernel_rfl)))
   clear hd hev hin
   simp only [List.getElem_cons_succ, List.getElem_cons_zero]
   clear hl
   refine .inr ⟨rfl, fun K' hK => ?_⟩
   have HK := Lib.hid hK
   clear hK
   go_simp
   exact HK.out (.pointer (some ⟨b4, 3, none⟩)) _ hJ rfl veL_same
 clear hM
 intro uu W11 hJm hd
 have e_0 : uu 0 = .int .i64 1 := hd 0 (by decide)
 have e_1 : uu 1 = .func (.func k) #[] #[] := hd 1 (by decide)
 have e_2 : uu 2 = .agg #[.int .i64 v.y.lo, .int .i64 v.y.hi, .bool v.y.all] := hd 2 (by decide)
 have e_3 : uu 3 = .int .i64 1 := hd 3 (by decide)
 have e_4 : uu 4 = .pointer (some ⟨b2, 3, none⟩) := hd 4 (by decide)
 have e_5 : uu 5 = .agg #[.int .i64 u.y.lo, .int .i64 u.y.hi, .bool u.y.all] := hd 5 (by decide)
 have e_6 : uu 6 = .agg #[.int .i64 r.y.lo, .int .i64 r.y.hi, .bool r.y.all] := hd 6 (by decide)
 have e_7 : uu 7 = .pointer (some ⟨b4, 3, none⟩) := hd 7 (by decide)
 clear hd
 simp only [layS, Act.put, List.setIfInBounds_toArray, List.set_cons_succ, List.set_cons_zero, Nat.zero_add, Nat.reduceAdd, List.drop_succ_cons, List.drop_zero, List.drop_nil, e_0, e_1, e_2, e_3, e_4, e_5, e_6, e_7]
 clear e_0 e_1 e_2 e_3 e_4 e_5 e_6 e_7
 have hJ11 := hJm.es
 clear hJm
 go_wp2_with (refine stop_store 23 (.tmp 22) (.tmp 21) 2 b4 3 #[.int .i64 r.x.lo, .int .i64 r.x.hi, .bool r.x.all, .int .i64 0, .int .i64 0, .bool false, .int .i64 0, .int .i64 0, .bool false] 24 3 [.int .i64 r.y.lo, .int .i64 r.y.hi, .bool r.y.all] #[.int .i64 r.x.lo, .int .i64 r.x.hi, .bool r.x.all, .int .i64 r.y.lo, .int .i64 r.y.hi, .bool r.y.all, .int .i64 0, .int .i64 0, .bool false] [(b6, #[.int .i64 v.y.lo, .int .i64 v.y.hi, .bool v.y.all], 23), (b5, #[.int .i64 v.x.lo, .int .i64 v.x.hi, .bool v.x.all], 23), (b4, #[.int .i64 r.x.lo, .int .i64 r.x.hi, .bool r.x.all, .int .i64 r.y.lo, .int .i64 r.y.hi, .bool r.y.all, .int .i64 0, .int .i64 0, .bool false], 24), (b3, #[.int .i64 0, .int .i64 0, .bool false, .int .i64 0, .int .i64 0, .bool false, .int .i64 0, .int .i64 0, .bool false], 24), (b2, #[.int .i64 u.x.lo, .int .i64 u.x.hi, .bool u.x.all, .int .i64 u.y.lo, .int .i64 u.y.hi, .bool u.y.all, .int .i64 u.z.lo, .int .i64 u.z.hi, .bool u.z.all], 25), (b1, #[.int .i64 v.x.lo, .int .i64 v.x.hi, .bool v.x.all, .int .i64 v.y.lo, .int .i64 v.y.hi, .bool v.y.all, .int .i64 v.z.lo, .int .i64 v.z.hi, .bool v.z.all], 25)] rfl rfl rfl rfl sz23 hJ11 rfl rfl (Nat.le_of_ble_eq_true (by kernel_rfl)) (by kernel_rfl) (by kernel_rfl) (by kernel_rfl) (fun W12 hJ12 => ?_))
 clear hJ11
 unfold Stop
 try simp only [Act.put, List.setIfInBounds_toArray, List.set_cons_succ, List.set_cons_zero]
 go_wp2
 rw [rounds_succ]
 go_wp2_with (refine stop_alloc 23 #[.int .i64 0, .int .i64 0, .bool false] (.agg #[.int .i64 0, .int .i64 0, .bool false]) rfl rfl zv23 rfl hJ12 (fun b7 W13 hJ13 => ?_))
 clear hJ12
 unfold Stop
 try simp only [Act.put, List.setIfInBounds_toArray, List.set_cons_succ, List.set_cons_zero]
 go_wp2_with (refine stop_store 23 (.tmp 9) (.tmp 14) 0 b7 0 #[.int .i64 0, .int .i64 0, .bool false] 23 3 [.int .i64 v.z.lo, .int .i64 v.z.hi, .bool v.z.all] #[.int .i64 v.z.lo, .int .i64 v.z.hi, .bool v.z.all] [(b7, #[.int .i64 v.z.lo, .int .i64 v.z.hi, .bool v.z.all], 23), (b6, #[.int .i64 v.y.lo, .int .i64 v.y.hi, .bool v.y.all], 23), (b5, #[.int .i64 v.x.lo, .int .i64 v.x.hi, .bool v.x.all], 23), (b4, #[.int .i64 r.x.lo, .int .i64 r.x.hi, .bool r.x.all, .int .i64 r.y.lo, .int .i64 r.y.hi, .bool r.y.all, .int .i64 0, .int .i64 0, .bool false], 24), (b3, #[.int .i64 0, .int .i64 0, .bool false, .int .i64 0, .int .i64 0, .bool false, .int .i64 0, .int .i64 0, .bool false], 24), (b2, #[.int .i64 u.x.lo, .int .i64 u.x.hi, .bool u.x.all, .int .i64 u.y.lo, .int .i64 u.y.hi, .bool u.y.all, .int .i64 u.z.lo, .int .i64 u.z.hi, .bool u.z.all], 25), (b1, #[.int .i64 v.x.lo, .int .i64 v.x.hi, .bool v.x.all, .int .i64 v.y.lo, .int .i64 v.y.hi, .bool v.y.all, .int .i64 v.z.lo, .int .i64 v.z.hi, .bool v.z.all], 25)] rfl rfl rfl rfl sz23 hJ13 rfl rfl (Nat.le_of_ble_eq_true (by kernel_rfl)) (by kernel_rfl) (by kernel_rfl) (by kernel_rfl) (fun W14 hJ14 => ?_))
 clear hJ13
 unfold Stop
 try simp only [Act.put, List.setIfInBounds_toArray, List.set_cons_succ, List.set_cons_zero]
 go_wp2
 obtain ⟨m5_14, hm⟩ : ∃ m, m = W14.heap.size := ⟨_, rfl⟩
 have hM := hJ14.em
 rw [← hm] at hM
 clear hm hJ14
 refine wp_region_z 8 [some 15, some 16, some 17, some 18, some 19, some 20, some 21, some 22] (veL m5_14 [.eq (.int .i64 2), .eq (.func (.func k) #[] #[]), .eq (.agg #[.int .i64 v.z.lo, .int .i64 v.z.hi, .bool v.z.all]), .eq (.int .i64 2), .eq (.pointer (some ⟨b2, 6, none⟩)), .eq (.agg #[.int .i64 u.z.lo, .int .i64 u.z.hi, .bool u.z.all]), .eq (.agg #[.int .i64 r.z.lo, .int .i64 r.z.hi, .bool r.z.all]), .eq (.pointer (some ⟨b4, 6, none⟩))]) (Em w m5_14 [(b7, #[.int .i64 v.z.lo, .int .i64 v.z.hi, .bool v.z.all], 23), (b6, #[.int .i64 v.y.lo, .int .i64 v.y.hi, .bool v.y.all], 23), (b5, #[.int .i64 v.x.lo, .int .i64 v.x.hi, .bool v.x.all], 23), (b4, #[.int .i64 r.x.lo, .int .i64 r.x.hi, .bool r.x.all, .int .i64 r.y.lo, .int .i64 r.y.hi, .bool r.y.all, .int .i64 0, .int .i64 0, .bool false], 24), (b3, #[.int .i64 0, .int .i64 0, .bool false, .int .i64 0, .int .i64 0, .bool false, .int .i64 0, .int .i64 0, .bool false], 24), (b2, #[.int .i64 u.x.lo, .int .i64 u.x.hi, .bool u.x.all, .int .i64 u.y.lo, .int .i64 u.y.hi, .bool u.y.all, .int .i64 u.z.lo, .int .i64 u.z.hi, .bool u.z.all], 25), (b1, #[.int .i64 v.x.lo, .int .i64 v.x.hi, .bool v.x.all, .int .i64 v.y.lo, .int .i64 v.y.hi, .bool v.y.all, .int .i64 v.z.lo, .int .i64 v.z.hi, .bool v.z.all], 25)]) (by kernel_rfl) (by kernel_rfl) (by rfl) (by decide) (by rfl) hM ?_ ?_
 ·
  intro i hl hi uu ww aa hJ hd hev hin
  clear hM
  obtain rfl | rfl | rfl | rfl | rfl | rfl | rfl | rfl : i = 0 ∨ i = 1 ∨ i = 2 ∨ i = 3 ∨ i = 4 ∨ i = 5 ∨ i = 6 ∨ i = 7 := by omega
  ·
   have x8 : aa.tmps[8]? = some (.int .i64 2) := (hev 8 (by decide)).trans rfl
   clear hd hev hin
   simp only [List.getElem_cons_succ, List.getElem_cons_zero]
   clear hl
   refine .inr ⟨rfl, fun K' hK => ?_⟩
   have HK := Lib.hid hK
   clear hK
   go_simp
   exact HK.out (.int .i64 2) _ hJ rfl veL_same
  ·
   have x2 : aa.tmps[2]? = some (.func (.func k) #[] #[]) := (hev 2 (by decide)).trans rfl
   clear hd hev hin
   simp only [List.getElem_cons_succ, List.getElem_cons_zero]
   clear hl
   refine .inr ⟨rfl, fun K' hK => ?_⟩
   have HK := Lib.hid hK
   clear hK
   go_simp
   exact HK.out (.func (.func k) #[] #[]) _ hJ rfl veL_same
  ·
   have x9 : aa.tmps[9]? = some (.pointer (some ⟨b7, 0, none⟩)) := (hev 9 (by decide)).trans rfl
   clear hd hev hin
   simp only [List.getElem_cons_succ, List.getElem_cons_zero]
   clear hl
   refine .inr ⟨rfl, fun K' hK => ?_⟩
   have HK := Lib.hid hK
   clear hK
   have f0 : ww.cell? ⟨b7, 0, none⟩ = some (.int .i64 v.z.lo) := hJ.es.cell 0 rfl 0 rfl
   have f1 : ww.cell? ⟨b7, 1, none⟩ = some (.int .i64 v.z.hi) := hJ.es.cell 0 rfl 1 rfl
   have f2 : ww.cell? ⟨b7, 2, none⟩ = some (.bool v.z.all) := hJ.es.cell 0 rfl 2 rfl
   go_simp
   exact HK.out (.agg #[.int .i64 v.z.lo, .int .i64 v.z.hi, .bool v.z.all]) _ hJ rfl veL_same
  ·
   have x8 : aa.tmps[8]? = some (.int .i64 2) := (hev 8 (by decide)).trans rfl
   clear hd hev hin
   simp only [List.getElem_cons_succ, List.getElem_cons_zero]
   clear hl
   refine .inr ⟨rfl, fun K' hK => ?_⟩
   have HK := Lib.hid hK
   clear hK
   go_simp
   exact HK.out (.int .i64 2) _ hJ rfl veL_same
  ·
   have x4 : aa.tmps[4]? = some (.pointer (some ⟨b2, 0, none⟩)) := (hev 4 (by decide)).trans rfl
   have x18 : aa.tmps[18]? = some (.int .i64 2) := (hin 3 18 rfl).trans (congrArg some (show uu 3 = .int .i64 2 from hd 3 (by decide) (by kernel_rfl)))
   clear hd hev hin
   simp only [List.getElem_cons_succ, List.getElem_cons_zero]
   clear hl
   refine .inr ⟨rfl, fun K' hK => ?_⟩
   have HK := Lib.hid hK
   clear hK
   go_simp
   exact HK.out (.pointer (some ⟨b2, 6, none⟩)) _ hJ rfl veL_same
  ·
   have x19 : aa.tmps[19]? = some (.pointer (some ⟨b2, 6, none⟩)) := (hin 4 19 rfl).trans (congrArg some (show uu 4 = .pointer (some ⟨b2, 6, none⟩) from hd 4 (by decide) (by kernel_rfl)))
   clear hd hev hin
   simp only [List.getElem_cons_succ, List.getElem_cons_zero]
   clear hl
   refine .inr ⟨rfl, fun K' hK => ?_⟩
   have HK := Lib.hid hK
   clear hK
   have f0 : ww.cell? ⟨b2, 6, none⟩ = some (.int .i64 u.z.lo) := hJ.es.cell 5 rfl 6 rfl
   have f1 : ww.cell? ⟨b2, 7, none⟩ = some (.int .i64 u.z.hi) := hJ.es.cell 5 rfl 7 rfl
   have f2 : ww.cell? ⟨b2, 8, none⟩ = some (.bool u.z.all) := hJ.es.cell 5 rfl 8 rfl
   go_simp
   exact HK.out (.agg #[.int .i64 u.z.lo, .int .i64 u.z.hi, .bool u.z.all]) _ hJ rfl veL_same
  ·
   have x16 : aa.tmps[16]? = some (.func (.func k) #[] #[]) := (hin 1 16 rfl).trans (congrArg some (show uu 1 = .func (.func k) #[] #[] from hd 1 (by decide) (by kernel_rfl)))
   have x17 : aa.tmps[17]? = some (.agg #[.int .i64 v.z.lo, .int .i64 v.z.hi, .bool v.z.all]) := (hin 2 17 rfl).trans (congrArg some (show uu 2 = .agg #[.int .i64 v.z.lo, .int .i64 v.z.hi, .bool v.z.all] from hd 2 (by decide) (by kernel_rfl)))
   have x20 : aa.tmps[20]? = some (.agg #[.int .i64 u.z.lo, .int .i64 u.z.hi, .bool u.z.all]) := (hin 5 20 rfl).trans (congrArg some (show uu 5 = .agg #[.int .i64 u.z.lo, .int .i64 u.z.hi, .bool u.z.all] from hd 5 (by decide) (by kernel_rfl)))
   clear hd hev hin
   simp only [List.getElem_cons_succ, List.getElem_cons_zero]
   clear hl
   refine .inr ⟨rfl, fun K' hK => ?_⟩
   have HK := Lib.hid hK
   clear hK
   go_simp
   refine (H2.out ww).mono ?_
   rintro e W' ⟨rfl, hB⟩
   exact HK.out (.agg #[.int .i64 r.z.lo, .int .i64 r.z.hi, .bool r.z.all]) _ (hJ.later hB) rfl (veL_later hB)
  ·
   have x7 : aa.tmps[7]? = some (.pointer (some ⟨b4, 0, none⟩)) := (hev 7 (by decide)).trans rfl
   have x15 : aa.tmps[15]? = some (.int .i64 2) := (hin 0 15 rfl).trans (congrArg some (show uu 0 = .int .i64 2 from hd 0 (by decide) (by kernel_rfl)))
   clear hd hev hin
   simp only [List.getElem_cons_succ, List.getElem_cons_zero]
   clear hl
   refine .inr ⟨rfl, fun K' hK => ?_⟩
   have HK := Lib.hid hK
   clear hK
   go_simp
   exact HK.out (.pointer (some ⟨b4, 6, none⟩)) _ hJ rfl veL_same
 clear hM
 intro uu W15 hJm hd
 have e_0 : uu 0 = .int .i64 2 := hd 0 (by decide)
 have e_1 : uu 1 = .func (.func k) #[] #[] := hd 1 (by decide)
 have e_2 : uu 2 = .agg #[.int .i64 v.z.lo, .int .i64 v.z.hi, .bool v.z.all] := hd 2 (by decide)
 have e_3 : uu 3 = .int .i64 2 := hd 3 (by decide)
 have e_4 : uu 4 = .pointer (some ⟨b2, 6, none⟩) := hd 4 (by decide)
 have e_5 : uu 5 = .agg #[.int .i64 u.z.lo, .int .i64 u.z.hi, .bool u.z.all] := hd 5 (by decide)
 have e_6 : uu 6 = .agg #[.int .i64 r.z.lo, .int .i64 r.z.hi, .bool r.z.all] := hd 6 (by decide)
 have e_7 : uu 7 = .pointer (some ⟨b4, 6, none⟩) := hd 7 (by decide)
 clear hd
 simp only [layS, Act.put, List.setIfInBounds_toArray, List.set_cons_succ, List.set_cons_zero, Nat.zero_add, Nat.reduceAdd, List.drop_succ_cons, List.drop_zero, List.drop_nil, e_0, e_1, e_2, e_3, e_4, e_5, e_6, e_7]
 clear e_0 e_1 e_2 e_3 e_4 e_5 e_6 e_7
 have hJ15 := hJm.es
 clear hJm
 go_wp2_with (refine stop_store 23 (.tmp 22) (.tmp 21) 3 b4 6 #[.int .i64 r.x.lo, .int .i64 r.x.hi, .bool r.x.all, .int .i64 r.y.lo, .int .i64 r.y.hi, .bool r.y.all, .int .i64 0, .int .i64 0, .bool false] 24 3 [.int .i64 r.z.lo, .int .i64 r.z.hi, .bool r.z.all] #[.int .i64 r.x.lo, .int .i64 r.x.hi, .bool r.x.all, .int .i64 r.y.lo, .int .i64 r.y.hi, .bool r.y.all, .int .i64 r.z.lo, .int .i64 r.z.hi, .bool r.z.all] [(b7, #[.int .i64 v.z.lo, .int .i64 v.z.hi, .bool v.z.all], 23), (b6, #[.int .i64 v.y.lo, .int .i64 v.y.hi, .bool v.y.all], 23), (b5, #[.int .i64 v.x.lo, .int .i64 v.x.hi, .bool v.x.all], 23), (b4, #[.int .i64 r.x.lo, .int .i64 r.x.hi, .bool r.x.all, .int .i64 r.y.lo, .int .i64 r.y.hi, .bool r.y.all, .int .i64 r.z.lo, .int .i64 r.z.hi, .bool r.z.all], 24), (b3, #[.int .i64 0, .int .i64 0, .bool false, .int .i64 0, .int .i64 0, .bool false, .int .i64 0, .int .i64 0, .bool false], 24), (b2, #[.int .i64 u.x.lo, .int .i64 u.x.hi, .bool u.x.all, .int .i64 u.y.lo, .int .i64 u.y.hi, .bool u.y.all, .int .i64 u.z.lo, .int .i64 u.z.hi, .bool u.z.all], 25), (b1, #[.int .i64 v.x.lo, .int .i64 v.x.hi, .bool v.x.all, .int .i64 v.y.lo, .int .i64 v.y.hi, .bool v.y.all, .int .i64 v.z.lo, .int .i64 v.z.hi, .bool v.z.all], 25)] rfl rfl rfl rfl sz23 hJ15 rfl rfl (Nat.le_of_ble_eq_true (by kernel_rfl)) (by kernel_rfl) (by kernel_rfl) (by kernel_rfl) (fun W16 hJ16 => ?_))
 clear hJ15
 unfold Stop
 try simp only [Act.put, List.setIfInBounds_toArray, List.set_cons_succ, List.set_cons_zero]
 go_wp2
 rw [rounds_succ]
 have f0 : W16.cell? ⟨b4, 0, none⟩ = some (.int .i64 r.x.lo) := hJ16.cell 3 rfl 0 rfl
 have f1 : W16.cell? ⟨b4, 1, none⟩ = some (.int .i64 r.x.hi) := hJ16.cell 3 rfl 1 rfl
 have f2 : W16.cell? ⟨b4, 2, none⟩ = some (.bool r.x.all) := hJ16.cell 3 rfl 2 rfl
 have f3 : W16.cell? ⟨b4, 3, none⟩ = some (.int .i64 r.y.lo) := hJ16.cell 3 rfl 3 rfl
 have f4 : W16.cell? ⟨b4, 4, none⟩ = some (.int .i64 r.y.hi) := hJ16.cell 3 rfl 4 rfl
 have f5 : W16.cell? ⟨b4, 5, none⟩ = some (.bool r.y.all) := hJ16.cell 3 rfl 5 rfl
 have f6 : W16.cell? ⟨b4, 6, none⟩ = some (.int .i64 r.z.lo) := hJ16.cell 3 rfl 6 rfl
 have f7 : W16.cell? ⟨b4, 7, none⟩ = some (.int .i64 r.z.hi) := hJ16.cell 3 rfl 7 rfl
 have f8 : W16.cell? ⟨b4, 8, none⟩ = some (.bool r.z.all) := hJ16.cell 3 rfl 8 rfl
 go_wp2_with (refine stop_store 24 (.tmp 6) (.tmp 24) 4 b3 0 #[.int .i64 0, .int .i64 0, .bool false, .int .i64 0, .int .i64 0, .bool false, .int .i64 0, .int .i64 0, .bool false] 24 9 [.int .i64 r.x.lo, .int .i64 r.x.hi, .bool r.x.all, .int .i64 r.y.lo, .int .i64 r.y.hi, .bool r.y.all, .int .i64 r.z.lo, .int .i64 r.z.hi, .bool r.z.all] #[.int .i64 r.x.lo, .int .i64 r.x.hi, .bool r.x.all, .int .i64 r.y.lo, .int .i64 r.y.hi, .bool r.y.all, .int .i64 r.z.lo, .int .i64 r.z.hi, .bool r.z.all] [(b7, #[.int .i64 v.z.lo, .int .i64 v.z.hi, .bool v.z.all], 23), (b6, #[.int .i64 v.y.lo, .int .i64 v.y.hi, .bool v.y.all], 23), (b5, #[.int .i64 v.x.lo, .int .i64 v.x.hi, .bool v.x.all], 23), (b4, #[.int .i64 r.x.lo, .int .i64 r.x.hi, .bool r.x.all, .int .i64 r.y.lo, .int .i64 r.y.hi, .bool r.y.all, .int .i64 r.z.lo, .int .i64 r.z.hi, .bool r.z.all], 24), (b3, #[.int .i64 r.x.lo, .int .i64 r.x.hi, .bool r.x.all, .int .i64 r.y.lo, .int .i64 r.y.hi, .bool r.y.all, .int .i64 r.z.lo, .int .i64 r.z.hi, .bool r.z.all], 24), (b2, #[.int .i64 u.x.lo, .int .i64 u.x.hi, .bool u.x.all, .int .i64 u.y.lo, .int .i64 u.y.hi, .bool u.y.all, .int .i64 u.z.lo, .int .i64 u.z.hi, .bool u.z.all], 25), (b1, #[.int .i64 v.x.lo, .int .i64 v.x.hi, .bool v.x.all, .int .i64 v.y.lo, .int .i64 v.y.hi, .bool v.y.all, .int .i64 v.z.lo, .int .i64 v.z.hi, .bool v.z.all], 25)] rfl rfl rfl rfl sz24 hJ16 rfl rfl (Nat.le_of_ble_eq_true (by kernel_rfl)) (by kernel_rfl) (by kernel_rfl) (by kernel_rfl) (fun W17 hJ17 => ?_))
 clear f0 f1 f2 f3 f4 f5 f6 f7 f8
 clear hJ16
 unfold Stop
 try simp only [Act.put, List.setIfInBounds_toArray, List.set_cons_succ, List.set_cons_zero]
 have f0 : W17.cell? ⟨b3, 0, none⟩ = some (.int .i64 r.x.lo) := hJ17.cell 4 rfl 0 rfl
 have f1 : W17.cell? ⟨b3, 1, none⟩ = some (.int .i64 r.x.hi) := hJ17.cell 4 rfl 1 rfl
 have f2 : W17.cell? ⟨b3, 2, none⟩ = some (.bool r.x.all) := hJ17.cell 4 rfl 2 rfl
 have f3 : W17.cell? ⟨b3, 3, none⟩ = some (.int .i64 r.y.lo) := hJ17.cell 4 rfl 3 rfl
 have f4 : W17.cell? ⟨b3, 4, none⟩ = some (.int .i64 r.y.hi) := hJ17.cell 4 rfl 4 rfl
 have f5 : W17.cell? ⟨b3, 5, none⟩ = some (.bool r.y.all) := hJ17.cell 4 rfl 5 rfl
 have f6 : W17.cell? ⟨b3, 6, none⟩ = some (.int .i64 r.z.lo) := hJ17.cell 4 rfl 6 rfl
 have f7 : W17.cell? ⟨b3, 7, none⟩ = some (.int .i64 r.z.hi) := hJ17.cell 4 rfl 7 rfl
 have f8 : W17.cell? ⟨b3, 8, none⟩ = some (.bool r.z.all) := hJ17.cell 4 rfl 8 rfl
 go_wp2
 exact bodyPost_ret (v := .agg #[.int .i64 r.x.lo, .int .i64 r.x.hi, .bool r.x.all, .int .i64 r.y.lo, .int .i64 r.y.hi, .bool r.y.all, .int .i64 r.z.lo, .int .i64 r.z.hi, .bool r.z.all]) (by simp [results, Try.results46, go_sem, f0, f1, f2, f3, f4, f5, f6, f7, f8]) rfl ⟨rfl, hJ17.below⟩
end Go.Proofs.Ytdochhhepmlapaa
