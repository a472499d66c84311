/- Parts of the proof. -/
import Derived.Test.YtdochhhepmlapaaGb28
import Derived.Test.YtdochhhepmlapaaGb31
import Derived.Test.YtdochhhepmlapaaGb23
import Derived.Test.YtdochhhepmlapaaGb20
/- The document's vectors: the walks of their methods. No statement of the seat is proved here. -/
namespace Go.Proofs.Ytdochhhepmlapaa
open Go Go.RowKit
attribute [local go_sem ↓] run_vbuild run_dbuild run_eqlB
set_option maxRecDepth 100000 in
set_option maxHeartbeats 12800000 in
theorem one_any (x : Sp)   (w : World) : Calls Try.prog 15 #[.agg #[.int .i64 x.lo, .int .i64 x.hi, .bool x.all]] w (PVal (.agg #[.int .i64 x.lo, .int .i64 x.hi, .bool x.all]) w) := by
 have hJ0 := es_nil w
 go_enter Try.func15, Try.ntmps15
 go_wp2_with (refine stop_box 23 (.tmp 0) #[.int .i64 x.lo, .int .i64 x.hi, .bool x.all] rfl rfl rfl hJ0 (fun b1 W1 hJ1 => ?_))
 clear hJ0
 unfold Stop
 try simp only [Act.put, List.setIfInBounds_toArray, List.set_cons_succ, List.set_cons_zero]
 go_wp2_with (refine stop_alloc 27 #[.int .i64 0, .int .i64 0, .bool false] (.agg #[.int .i64 0, .int .i64 0, .bool false]) rfl rfl zv27 rfl hJ1 (fun b2 W2 hJ2 => ?_))
 clear hJ1
 unfold Stop
 try simp only [Act.put, List.setIfInBounds_toArray, List.set_cons_succ, List.set_cons_zero]
 have f0 : W2.cell? ⟨b1, 0, none⟩ = some (.int .i64 x.lo) := hJ2.cell 1 rfl 0 rfl
 have f1 : W2.cell? ⟨b1, 1, none⟩ = some (.int .i64 x.hi) := hJ2.cell 1 rfl 1 rfl
 have f2 : W2.cell? ⟨b1, 2, none⟩ = some (.bool x.all) := hJ2.cell 1 rfl 2 rfl
 go_wp2_with (refine stop_store 27 (.tmp 2) (.tmp 9) 0 b2 0 #[.int .i64 0, .int .i64 0, .bool false] 27 3 [.int .i64 x.lo, .int .i64 x.hi, .bool x.all] #[.int .i64 x.lo, .int .i64 x.hi, .bool x.all] [(b2, #[.int .i64 x.lo, .int .i64 x.hi, .bool x.all], 27), (b1, #[.int .i64 x.lo, .int .i64 x.hi, .bool x.all], 23)] rfl rfl rfl rfl sz27 hJ2 rfl rfl (Nat.le_of_ble_eq_true (by kernel_rfl)) (by kernel_rfl) (by kernel_rfl) (by kernel_rfl) (fun W3 hJ3 => ?_))
 clear f0 f1 f2
 clear hJ2
 unfold Stop
 try simp only [Act.put, List.setIfInBounds_toArray, List.set_cons_succ, List.set_cons_zero]
 have f0 : W3.cell? ⟨b2, 0, none⟩ = some (.int .i64 x.lo) := hJ3.cell 0 rfl 0 rfl
 have f1 : W3.cell? ⟨b2, 1, none⟩ = some (.int .i64 x.hi) := hJ3.cell 0 rfl 1 rfl
 have f2 : W3.cell? ⟨b2, 2, none⟩ = some (.bool x.all) := hJ3.cell 0 rfl 2 rfl
 go_wp2
 exact bodyPost_ret (v := .agg #[.int .i64 x.lo, .int .i64 x.hi, .bool x.all]) (by simp [results, Try.results15, go_sem, f0, f1, f2]) rfl ⟨rfl, hJ3.below⟩
set_option maxRecDepth 100000 in
set_option maxHeartbeats 12800000 in
theorem vdoc_w (v : Vc) (hH0 : ∀ W : World, Calls Try.prog 15 #[.agg #[.int .i64 v.x.lo, .int .i64 v.x.hi, .bool v.x.all]] W (PVal (.agg #[.int .i64 v.x.lo, .int .i64 v.x.hi, .bool v.x.all]) W)) (hH1 : ∀ W : World, Calls Try.prog 15 #[.agg #[.int .i64 v.y.lo, .int .i64 v.y.hi, .bool v.y.all]] W (PVal (.agg #[.int .i64 v.y.lo, .int .i64 v.y.hi, .bool v.y.all]) W)) (hH2 : ∀ W : World, Calls Try.prog 15 #[.agg #[.int .i64 v.z.lo, .int .i64 v.z.hi, .bool v.z.all]] W (PVal (.agg #[.int .i64 v.z.lo, .int .i64 v.z.hi, .bool v.z.all]) W))  (w : World) : Calls Try.prog 11 #[.agg #[.int .i64 v.x.lo, .int .i64 v.x.hi, .bool v.x.all, .int .i64 v.y.lo, .int .i64 v.y.hi, .bool v.y.all, .int .i64 v.z.lo, .int .i64 v.z.hi, .bool v.z.all]] w (PVal (.agg #[.int .i64 v.x.lo, .int .i64 v.x.hi, .bool v.x.all, .int .i64 v.y.lo, .int .i64 v.y.hi, .bool v.y.all, .int .i64 v.z.lo, .int .i64 v.z.hi, .bool v.z.all]) w) := by
 have H0 := Lib.hid hH0
 have H1 := Lib.hid hH1
 have H2 := Lib.hid hH2
 clear hH0 hH1 hH2
 have hJ0 := es_nil w
 go_enter Try.func11, Try.ntmps11
 go_wp2_with (refine stop_box 25 (.tmp 0) #[.int .i64 v.x.lo, .int .i64 v.x.hi, .bool v.x.all, .int .i64 v.y.lo, .int .i64 v.y.hi, .bool v.y.all, .int .i64 v.z.lo, .int .i64 v.z.hi, .bool v.z.all] rfl rfl rfl hJ0 (fun b1 W1 hJ1 => ?_))
 clear hJ0
 unfold Stop
 try simp only [Act.put, List.setIfInBounds_toArray, List.set_cons_succ, List.set_cons_zero]
 go_wp2_with (refine stop_alloc 29 #[.int .i64 0, .int .i64 0, .bool false, .int .i64 0, .int .i64 0, .bool false, .int .i64 0, .int .i64 0, .bool false] (.agg #[.int .i64 0, .int .i64 0, .bool false, .int .i64 0, .int .i64 0, .bool false, .int .i64 0, .int .i64 0, .bool false]) rfl rfl zv29 rfl hJ1 (fun b2 W2 hJ2 => ?_))
 clear hJ1
 unfold Stop
 try simp only [Act.put, List.setIfInBounds_toArray, List.set_cons_succ, List.set_cons_zero]
 go_wp2
 obtain ⟨m1_2, hm⟩ : ∃ m, m = W2.heap.size := ⟨_, rfl⟩
 have hM := hJ2.em
 rw [← hm] at hM
 clear hm hJ2
 refine wp_region_z 10 [some 3, some 4, some 5, some 6, some 7, some 8, some 9, some 10, some 11, some 12] (veL m1_2 [.eq (.pointer (some ⟨b1, 0, none⟩)), .eq (.agg #[.int .i64 v.x.lo, .int .i64 v.x.hi, .bool v.x.all]), .eq (.agg #[.int .i64 v.x.lo, .int .i64 v.x.hi, .bool v.x.all]), .eq (.pointer (some ⟨b1, 3, none⟩)), .eq (.agg #[.int .i64 v.y.lo, .int .i64 v.y.hi, .bool v.y.all]), .eq (.agg #[.int .i64 v.y.lo, .int .i64 v.y.hi, .bool v.y.all]), .eq (.pointer (some ⟨b1, 6, none⟩)), .eq (.agg #[.int .i64 v.z.lo, .int .i64 v.z.hi, .bool v.z.all]), .eq (.agg #[.int .i64 v.z.lo, .int .i64 v.z.hi, .bool v.z.all]), .eq (.agg #[.int .i64 v.x.lo, .int .i64 v.x.hi, .bool v.x.all, .int .i64 v.y.lo, .int .i64 v.y.hi, .bool v.y.all, .int .i64 v.z.lo, .int .i64 v.z.hi, .bool v.z.all])]) (Em w m1_2 [(b2, #[.int .i64 0, .int .i64 0, .bool false, .int .i64 0, .int .i64 0, .bool false, .int .i64 0, .int .i64 0, .bool false], 29), (b1, #[.int .i64 v.x.lo, .int .i64 v.x.hi, .bool v.x.all, .int .i64 v.y.lo, .int .i64 v.y.hi, .bool v.y.all, .int .i64 v.z.lo, .int .i64 v.z.hi, .bool v.z.all], 25)]) (by kernel_rfl) (by kernel_rfl) (by rfl) (by decide) (by rfl) hM ?_ ?_
 ·
  intro i hl hi uu ww aa hJ hd hev hin
  clear hM
  obtain rfl | rfl | rfl | rfl | rfl | rfl | rfl | rfl | rfl | rfl : i = 0 ∨ i = 1 ∨ i = 2 ∨ i = 3 ∨ i = 4 ∨ i = 5 ∨ i = 6 ∨ i = 7 ∨ i = 8 ∨ i = 9 := by omega
  ·
   have x1 : aa.tmps[1]? = some (.pointer (some ⟨b1, 0, none⟩)) := (hev 1 (by decide)).trans rfl
   clear hd hev hin
   simp only [List.getElem_cons_succ, List.getElem_cons_zero]
   clear hl
   refine .inr ⟨rfl, fun K' hK => ?_⟩
   have HK := Lib.hid hK
   clear hK
   go_simp
   exact HK.out (.pointer (some ⟨b1, 0, none⟩)) _ hJ rfl veL_same
  ·
   have x3 : aa.tmps[3]? = some (.pointer (some ⟨b1, 0, none⟩)) := (hin 0 3 rfl).trans (congrArg some (show uu 0 = .pointer (some ⟨b1, 0, none⟩) from hd 0 (by decide) (by kernel_rfl)))
   clear hd hev hin
   simp only [List.getElem_cons_succ, List.getElem_cons_zero]
   clear hl
   refine .inr ⟨rfl, fun K' hK => ?_⟩
   have HK := Lib.hid hK
   clear hK
   have f0 : ww.cell? ⟨b1, 0, none⟩ = some (.int .i64 v.x.lo) := hJ.es.cell 1 rfl 0 rfl
   have f1 : ww.cell? ⟨b1, 1, none⟩ = some (.int .i64 v.x.hi) := hJ.es.cell 1 rfl 1 rfl
   have f2 : ww.cell? ⟨b1, 2, none⟩ = some (.bool v.x.all) := hJ.es.cell 1 rfl 2 rfl
   go_simp
   exact HK.out (.agg #[.int .i64 v.x.lo, .int .i64 v.x.hi, .bool v.x.all]) _ hJ rfl veL_same
  ·
   have x4 : aa.tmps[4]? = some (.agg #[.int .i64 v.x.lo, .int .i64 v.x.hi, .bool v.x.all]) := (hin 1 4 rfl).trans (congrArg some (show uu 1 = .agg #[.int .i64 v.x.lo, .int .i64 v.x.hi, .bool v.x.all] from hd 1 (by decide) (by kernel_rfl)))
   clear hd hev hin
   simp only [List.getElem_cons_succ, List.getElem_cons_zero]
   clear hl
   refine .inr ⟨rfl, fun K' hK => ?_⟩
   have HK := Lib.hid hK
   clear hK
   go_simp
   refine (H0.out ww).mono ?_
   rintro e W' ⟨rfl, hB⟩
   exact HK.out (.agg #[.int .i64 v.x.lo, .int .i64 v.x.hi, .bool v.x.all]) _ (hJ.later hB) rfl (veL_later hB)
  ·
   have x1 : aa.tmps[1]? = some (.pointer (some ⟨b1, 0, none⟩)) := (hev 1 (by decide)).trans rfl
   clear hd hev hin
   simp only [List.getElem_cons_succ, List.getElem_cons_zero]
   clear hl
   refine .inr ⟨rfl, fun K' hK => ?_⟩
   have HK := Lib.hid hK
   clear hK
   go_simp
   exact HK.out (.pointer (some ⟨b1, 3, none⟩)) _ hJ rfl veL_same
  ·
   have x6 : aa.tmps[6]? = some (.pointer (some ⟨b1, 3, none⟩)) := (hin 3 6 rfl).trans (congrArg some (show uu 3 = .pointer (some ⟨b1, 3, none⟩) from hd 3 (by decide) (by kernel_rfl)))
   clear hd hev hin
   simp only [List.getElem_cons_succ, List.getElem_cons_zero]
   clear hl
   refine .inr ⟨rfl, fun K' hK => ?_⟩
   have HK := Lib.hid hK
   clear hK
   have f0 : ww.cell? ⟨b1, 3, none⟩ = some (.int .i64 v.y.lo) := hJ.es.cell 1 rfl 3 rfl
   have f1 : ww.cell? ⟨b1, 4, none⟩ = some (.int .i64 v.y.hi) := hJ.es.cell 1 rfl 4 rfl
   have f2 : ww.cell? ⟨b1, 5, none⟩ = some (.bool v.y.all) := hJ.es.cell 1 rfl 5 rfl
   go_simp
   exact HK.out (.agg #[.int .i64 v.y.lo, .int .i64 v.y.hi, .bool v.y.all]) _ hJ rfl veL_same
  ·
   have x7 : aa.tmps[7]? = some (.agg #[.int .i64 v.y.lo, .int .i64 v.y.hi, .bool v.y.all]) := (hin 4 7 rfl).trans (congrArg some (show uu 4 = .agg #[.int .i64 v.y.lo, .int .i64 v.y.hi, .bool v.y.all] from hd 4 (by decide) (by kernel_rfl)))
   clear hd hev hin
   simp only [List.getElem_cons_succ, List.getElem_cons_zero]
   clear hl
   refine .inr ⟨rfl, fun K' hK => ?_⟩
   have HK := Lib.hid hK
   clear hK
   go_simp
   refine (H1.out ww).mono ?_
   rintro e W' ⟨rfl, hB⟩
   exact HK.out (.agg #[.int .i64 v.y.lo, .int .i64 v.y.hi, .bool v.y.all]) _ (hJ.later hB) rfl (veL_later hB)
  ·
   have x1 : aa.tmps[1]? = some (.pointer (some ⟨b1, 0, none⟩)) := (hev 1 (by decide)).trans rfl
   clear hd hev hin
   simp only [List.getElem_cons_succ, List.getElem_cons_zero]
   clear hl
   refine .inr ⟨rfl, fun K' hK => ?_⟩
   have HK := Lib.hid hK
   clear hK
   go_simp
   exact HK.out (.pointer (some ⟨b1, 6, none⟩)) _ hJ rfl veL_same
  ·
   have x9 : aa.tmps[9]? = some (.pointer (some ⟨b1, 6, none⟩)) := (hin 6 9 rfl).trans (congrArg some (show uu 6 = .pointer (some ⟨b1, 6, none⟩) from hd 6 (by decide) (by kernel_rfl)))
   clear hd hev hin
   simp only [List.getElem_cons_succ, List.getElem_cons_zero]
   clear hl
   refine .inr ⟨rfl, fun K' hK => ?_⟩
   have HK := Lib.hid hK
   clear hK
   have f0 : ww.cell? ⟨b1, 6, none⟩ = some (.int .i64 v.z.lo) := hJ.es.cell 1 rfl 6 rfl
   have f1 : ww.cell? ⟨b1, 7, none⟩ = some (.int .i64 v.z.hi) := hJ.es.cell 1 rfl 7 rfl
   have f2 : ww.cell? ⟨b1, 8, none⟩ = some (.bool v.z.all) := hJ.es.cell 1 rfl 8 rfl
   go_simp
   exact HK.out (.agg #[.int .i64 v.z.lo, .int .i64 v.z.hi, .bool v.z.all]) _ hJ rfl veL_same
  ·
   have x10 : aa.tmps[10]? = some (.agg #[.int .i64 v.z.lo, .int .i64 v.z.hi, .bool v.z.all]) := (hin 7 10 rfl).trans (congrArg some (show uu 7 = .agg #[.int .i64 v.z.lo, .int .i64 v.z.hi, .bool v.z.all] from hd 7 (by decide) (by kernel_rfl)))
   clear hd hev hin
   simp only [List.getElem_cons_succ, List.getElem_cons_zero]
   clear hl
   refine .inr ⟨rfl, fun K' hK => ?_⟩
   have HK := Lib.hid hK
   clear hK
   go_simp
   refine (H2.out ww).mono ?_
   rintro e W' ⟨rfl, hB⟩
   exact HK.out (.agg #[.int .i64 v.z.lo, .int .i64 v.z.hi, .bool v.z.all]) _ (hJ.later hB) rfl (veL_later hB)
  ·
   have x5 : aa.tmps[5]? = some (.agg #[.int .i64 v.x.lo, .int .i64 v.x.hi, .bool v.x.all]) := (hin 2 5 rfl).trans (congrArg some (show uu 2 = .agg #[.int .i64 v.x.lo, .int .i64 v.x.hi, .bool v.x.all] from hd 2 (by decide) (by kernel_rfl)))
   have x8 : aa.tmps[8]? = some (.agg #[.int .i64 v.y.lo, .int .i64 v.y.hi, .bool v.y.all]) := (hin 5 8 rfl).trans (congrArg some (show uu 5 = .agg #[.int .i64 v.y.lo, .int .i64 v.y.hi, .bool v.y.all] from hd 5 (by decide) (by kernel_rfl)))
   have x11 : aa.tmps[11]? = some (.agg #[.int .i64 v.z.lo, .int .i64 v.z.hi, .bool v.z.all]) := (hin 8 11 rfl).trans (congrArg some (show uu 8 = .agg #[.int .i64 v.z.lo, .int .i64 v.z.hi, .bool v.z.all] from hd 8 (by decide) (by kernel_rfl)))
   clear hd hev hin
   simp only [List.getElem_cons_succ, List.getElem_cons_zero]
   clear hl
   refine .inr ⟨rfl, fun K' hK => ?_⟩
   have HK := Lib.hid hK
   clear hK
   go_simp
   exact HK.out (.agg #[.int .i64 v.x.lo, .int .i64 v.x.hi, .bool v.x.all, .int .i64 v.y.lo, .int .i64 v.y.hi, .bool v.y.all, .int .i64 v.z.lo, .int .i64 v.z.hi, .bool v.z.all]) _ hJ rfl veL_same
 clear hM
 intro uu W3 hJm hd
 have e_0 : uu 0 = .pointer (some ⟨b1, 0, none⟩) := hd 0 (by decide)
 have e_1 : uu 1 = .agg #[.int .i64 v.x.lo, .int .i64 v.x.hi, .bool v.x.all] := hd 1 (by decide)
 have e_2 : uu 2 = .agg #[.int .i64 v.x.lo, .int .i64 v.x.hi, .bool v.x.all] := hd 2 (by decide)
 have e_3 : uu 3 = .pointer (some ⟨b1, 3, none⟩) := hd 3 (by decide)
 have e_4 : uu 4 = .agg #[.int .i64 v.y.lo, .int .i64 v.y.hi, .bool v.y.all] := hd 4 (by decide)
 have e_5 : uu 5 = .agg #[.int .i64 v.y.lo, .int .i64 v.y.hi, .bool v.y.all] := hd 5 (by decide)
 have e_6 : uu 6 = .pointer (some ⟨b1, 6, none⟩) := hd 6 (by decide)
 have e_7 : uu 7 = .agg #[.int .i64 v.z.lo, .int .i64 v.z.hi, .bool v.z.all] := hd 7 (by decide)
 have e_8 : uu 8 = .agg #[.int .i64 v.z.lo, .int .i64 v.z.hi, .bool v.z.all] := hd 8 (by decide)
 have e_9 : uu 9 = .agg #[.int .i64 v.x.lo, .int .i64 v.x.hi, .bool v.x.all, .int .i64 v.y.lo, .int .i64 v.y.hi, .bool v.y.all, .int .i64 v.z.lo, .int .i64 v.z.hi, .bool v.z.all] := hd 9 (by decide)
 clear hd
 simp only [layS, Act.put, List.setIfInBounds_toArray, List.set_cons_succ, List.set_cons_zero, Nat.zero_add, Nat.reduceAdd, List.drop_succ_cons, List.drop_zero, List.drop_nil, e_0, e_1, e_2, e_3, e_4, e_5, e_6, e_7, e_8, e_9]
 clear e_0 e_1 e_2 e_3 e_4 e_5 e_6 e_7 e_8 e_9
 have hJ3 := hJm.es
 clear hJm
 go_wp2_with (refine stop_store 29 (.tmp 2) (.tmp 12) 0 b2 0 #[.int .i64 0, .int .i64 0, .bool false, .int .i64 0, .int .i64 0, .bool false, .int .i64 0, .int .i64 0, .bool false] 29 9 [.int .i64 v.x.lo, .int .i64 v.x.hi, .bool v.x.all, .int .i64 v.y.lo, .int .i64 v.y.hi, .bool v.y.all, .int .i64 v.z.lo, .int .i64 v.z.hi, .bool v.z.all] #[.int .i64 v.x.lo, .int .i64 v.x.hi, .bool v.x.all, .int .i64 v.y.lo, .int .i64 v.y.hi, .bool v.y.all, .int .i64 v.z.lo, .int .i64 v.z.hi, .bool v.z.all] [(b2, #[.int .i64 v.x.lo, .int .i64 v.x.hi, .bool v.x.all, .int .i64 v.y.lo, .int .i64 v.y.hi, .bool v.y.all, .int .i64 v.z.lo, .int .i64 v.z.hi, .bool v.z.all], 29), (b1, #[.int .i64 v.x.lo, .int .i64 v.x.hi, .bool v.x.all, .int .i64 v.y.lo, .int .i64 v.y.hi, .bool v.y.all, .int .i64 v.z.lo, .int .i64 v.z.hi, .bool v.z.all], 25)] rfl rfl rfl rfl sz29 hJ3 rfl rfl (Nat.le_of_ble_eq_true (by kernel_rfl)) (by kernel_rfl) (by kernel_rfl) (by kernel_rfl) (fun W4 hJ4 => ?_))
 clear hJ3
 unfold Stop
 try simp only [Act.put, List.setIfInBounds_toArray, List.set_cons_succ, List.set_cons_zero]
 have f0 : W4.cell? ⟨b2, 0, none⟩ = some (.int .i64 v.x.lo) := hJ4.cell 0 rfl 0 rfl
 have f1 : W4.cell? ⟨b2, 1, none⟩ = some (.int .i64 v.x.hi) := hJ4.cell 0 rfl 1 rfl
 have f2 : W4.cell? ⟨b2, 2, none⟩ = some (.bool v.x.all) := hJ4.cell 0 rfl 2 rfl
 have f3 : W4.cell? ⟨b2, 3, none⟩ = some (.int .i64 v.y.lo) := hJ4.cell 0 rfl 3 rfl
 have f4 : W4.cell? ⟨b2, 4, none⟩ = some (.int .i64 v.y.hi) := hJ4.cell 0 rfl 4 rfl
 have f5 : W4.cell? ⟨b2, 5, none⟩ = some (.bool v.y.all) := hJ4.cell 0 rfl 5 rfl
 have f6 : W4.cell? ⟨b2, 6, none⟩ = some (.int .i64 v.z.lo) := hJ4.cell 0 rfl 6 rfl
 have f7 : W4.cell? ⟨b2, 7, none⟩ = some (.int .i64 v.z.hi) := hJ4.cell 0 rfl 7 rfl
 have f8 : W4.cell? ⟨b2, 8, none⟩ = some (.bool v.z.all) := hJ4.cell 0 rfl 8 rfl
 go_wp2
 exact bodyPost_ret (v := .agg #[.int .i64 v.x.lo, .int .i64 v.x.hi, .bool v.x.all, .int .i64 v.y.lo, .int .i64 v.y.hi, .bool v.y.all, .int .i64 v.z.lo, .int .i64 v.z.hi, .bool v.z.all]) (by simp [results, Try.results11, go_sem, f0, f1, f2, f3, f4, f5, f6, f7, f8]) rfl ⟨rfl, hJ4.below⟩
theorem vdoc_any (v : Vc) (w : World) : Calls Try.prog 11 #[.agg #[.int .i64 v.x.lo, .int .i64 v.x.hi, .bool v.x.all, .int .i64 v.y.lo, .int .i64 v.y.hi, .bool v.y.all, .int .i64 v.z.lo, .int .i64 v.z.hi, .bool v.z.all]] w (PVal (.agg #[.int .i64 v.x.lo, .int .i64 v.x.hi, .bool v.x.all, .int .i64 v.y.lo, .int .i64 v.y.hi, .bool v.y.all, .int .i64 v.z.lo, .int .i64 v.z.hi, .bool v.z.all]) w) :=
 vdoc_w v (one_any v.x) (one_any v.y) (one_any v.z) w
set_option maxRecDepth 100000 in
set_option maxHeartbeats 12800000 in
theorem dAdd_w (v u r : Vc) (hH0 : ∀ W : World, Calls Try.prog 54 #[.agg #[.int .i64 v.x.lo, .int .i64 v.x.hi, .bool v.x.all], .agg #[.int .i64 u.x.lo, .int .i64 u.x.hi, .bool u.x.all]] W (PVal (.agg #[.int .i64 r.x.lo, .int .i64 r.x.hi, .bool r.x.all]) W)) (hH1 : ∀ W : World, Calls Try.prog 54 #[.agg #[.int .i64 v.y.lo, .int .i64 v.y.hi, .bool v.y.all], .agg #[.int .i64 u.y.lo, .int .i64 u.y.hi, .bool u.y.all]] W (PVal (.agg #[.int .i64 r.y.lo, .int .i64 r.y.hi, .bool r.y.all]) W)) (hH2 : ∀ W : World, Calls Try.prog 54 #[.agg #[.int .i64 v.z.lo, .int .i64 v.z.hi, .bool v.z.all], .agg #[.int .i64 u.z.lo, .int .i64 u.z.hi, .bool u.z.all]] W (PVal (.agg #[.int .i64 r.z.lo, .int .i64 r.z.hi, .bool r.z.all]) W))  (w : World) : Calls Try.prog 19 #[.agg #[.int .i64 v.x.lo, .int .i64 v.x.hi, .bool v.x.all, .int .i64 v.y.lo, .int .i64 v.y.hi, .bool v.y.all, .int .i64 v.z.lo, .int .i64 v.z.hi, .bool v.z.all], .agg #[.int .i64 u.x.lo, .int .i64 u.x.hi, .bool u.x.all, .int .i64 u.y.lo, .int .i64 u.y.hi, .bool u.y.all, .int .i64 u.z.lo, .int .i64 u.z.hi, .bool u.z.all]] w (PVal (.agg #[.int .i64 r.x.lo, .int .i64 r.x.hi, .bool r.x.all, .int .i64 r.y.lo, .int .i64 r.y.hi, .bool r.y.all, .int .i64 r.z.lo, .int .i64 r.z.hi, .bool r.z.all]) w) := by
 have H0 := Lib.hid hH0
 have H1 := Lib.hid hH1
 have H2 := Lib.hid hH2
 clear hH0 hH1 hH2
 have hJ0 := es_nil w
 go_enter Try.func19, Try.ntmps19
 go_wp2_with (refine stop_box 29 (.tmp 0) #[.int .i64 v.x.lo, .int .i64 v.x.hi, .bool v.x.all, .int .i64 v.y.lo, .int .i64 v.y.hi, .bool v.y.all, .int .i64 v.z.lo, .int .i64 v.z.hi, .bool v.z.all] rfl rfl rfl hJ0 (fun b1 W1 hJ1 => ?_))
 clear hJ0
 unfold Stop
 try simp only [Act.put, List.setIfInBounds_toArray, List.set_cons_succ, List.set_cons_zero]
 go_wp2_with (refine stop_box 29 (.tmp 1) #[.int .i64 u.x.lo, .int .i64 u.x.hi, .bool u.x.all, .int .i64 u.y.lo, .int .i64 u.y.hi, .bool u.y.all, .int .i64 u.z.lo, .int .i64 u.z.hi, .bool u.z.all] rfl rfl rfl hJ1 (fun b2 W2 hJ2 => ?_))
 clear hJ1
 unfold Stop
 try simp only [Act.put, List.setIfInBounds_toArray, List.set_cons_succ, List.set_cons_zero]
 go_wp2_with (refine stop_alloc 29 #[.int .i64 0, .int .i64 0, .bool false, .int .i64 0, .int .i64 0, .bool false, .int .i64 0, .int .i64 0, .bool false] (.agg #[.int .i64 0, .int .i64 0, .bool false, .int .i64 0, .int .i64 0, .bool false, .int .i64 0, .int .i64 0, .bool false]) rfl rfl zv29 rfl hJ2 (fun b3 W3 hJ3 => ?_))
 clear hJ2
 unfold Stop
 try simp only [Act.put, List.setIfInBounds_toArray, List.set_cons_succ, List.set_cons_zero]
 go_wp2
 obtain ⟨m1_3, hm⟩ : ∃ m, m = W3.heap.size := ⟨_, rfl⟩
 have hM := hJ3.em
 rw [← hm] at hM
 clear hm hJ3
 refine wp_region_z 16 [some 5, some 6, some 7, some 8, some 9, some 10, some 11, some 12, some 13, some 14, some 15, some 16, some 17, some 18, some 19, some 20] (veL m1_3 [.eq (.pointer (some ⟨b1, 0, none⟩)), .eq (.agg #[.int .i64 v.x.lo, .int .i64 v.x.hi, .bool v.x.all]), .eq (.pointer (some ⟨b2, 0, none⟩)), .eq (.agg #[.int .i64 u.x.lo, .int .i64 u.x.hi, .bool u.x.all]), .eq (.agg #[.int .i64 r.x.lo, .int .i64 r.x.hi, .bool r.x.all]), .eq (.pointer (some ⟨b1, 3, none⟩)), .eq (.agg #[.int .i64 v.y.lo, .int .i64 v.y.hi, .bool v.y.all]), .eq (.pointer (some ⟨b2, 3, none⟩)), .eq (.agg #[.int .i64 u.y.lo, .int .i64 u.y.hi, .bool u.y.all]), .eq (.agg #[.int .i64 r.y.lo, .int .i64 r.y.hi, .bool r.y.all]), .eq (.pointer (some ⟨b1, 6, none⟩)), .eq (.agg #[.int .i64 v.z.lo, .int .i64 v.z.hi, .bool v.z.all]), .eq (.pointer (some ⟨b2, 6, none⟩)), .eq (.agg #[.int .i64 u.z.lo, .int .i64 u.z.hi, .bool u.z.all]), .eq (.agg #[.int .i64 r.z.lo, .int .i64 r.z.hi, .bool r.z.all]), .eq (.agg #[.int .i64 r.x.lo, .int .i64 r.x.hi, .bool r.x.all, .int .i64 r.y.lo, .int .i64 r.y.hi, .bool r.y.all, .int .i64 r.z.lo, .int .i64 r.z.hi, .bool r.z.all])]) (Em w m1_3 [(b3, #[.int .i64 0, .int .i64 0, .bool false, .int .i64 0, .int .i64 0, .bool false, .int .i64 0, .int .i64 0, .bool false], 29), (b2, #[.int .i64 u.x.lo, .int .i64 u.x.hi, .bool u.x.all, .int .i64 u.y.lo, .int .i64 u.y.hi, .bool u.y.all, .int .i64 u.z.lo, .int .i64 u.z.hi, .bool u.z.all], 29), (b1, #[.int .i64 v.x.lo, .int .i64 v.x.hi, .bool v.x.all, .int .i64 v.y.lo, .int .i64 v.y.hi, .bool v.y.all, .int .i64 v.z.lo, .int .i64 v.z.hi, .bool v.z.all], 29)]) (by kernel_rfl) (by kernel_rfl) (by rfl) (by decide) (by rfl) hM ?_ ?_
 ·
  intro i hl hi uu ww aa hJ hd hev hin
  clear hM
  obtain rfl | rfl | rfl | rfl | rfl | rfl | rfl | rfl | rfl | rfl | rfl | rfl | rfl | rfl | rfl | rfl : i = 0 ∨ i = 1 ∨ i = 2 ∨ i = 3 ∨ i = 4 ∨ i = 5 ∨ i = 6 ∨ i = 7 ∨ i = 8 ∨ i = 9 ∨ i = 10 ∨ i = 11 ∨ i = 12 ∨ i = 13 ∨ i = 14 ∨ i = 15 := by omega
  ·
   have x2 : aa.tmps[2]? = some (.pointer (some ⟨b1, 0, none⟩)) := (hev 2 (by decide)).trans rfl
   clear hd hev hin
   simp only [List.getElem_cons_succ, List.getElem_cons_zero]
   clear hl
   refine .inr ⟨rfl, fun K' hK => ?_⟩
   have HK := Lib.hid hK
   clear hK
   go_simp
   exact HK.out (.pointer (some ⟨b1, 0, none⟩)) _ hJ rfl veL_same
  ·
   have x5 : aa.tmps[5]? = some (.pointer (some ⟨b1, 0, none⟩)) := (hin 0 5 rfl).trans (congrArg some (show uu 0 = .pointer (some ⟨b1, 0, none⟩) from hd 0 (by decide) (by kernel_rfl)))
   clear hd hev hin
   simp only [List.getElem_cons_succ, List.getElem_cons_zero]
   clear hl
   refine .inr ⟨rfl, fun K' hK => ?_⟩
   have HK := Lib.hid hK
   clear hK
   have f0 : ww.cell? ⟨b1, 0, none⟩ = some (.int .i64 v.x.lo) := hJ.es.cell 2 rfl 0 rfl
   have f1 : ww.cell? ⟨b1, 1, none⟩ = some (.int .i64 v.x.hi) := hJ.es.cell 2 rfl 1 rfl
   have f2 : ww.cell? ⟨b1, 2, none⟩ = some (.bool v.x.all) := hJ.es.cell 2 rfl 2 rfl
   go_simp
   exact HK.out (.agg #[.int .i64 v.x.lo, .int .i64 v.x.hi, .bool v.x.all]) _ hJ rfl veL_same
  ·
   have x3 : aa.tmps[3]? = some (.pointer (some ⟨b2, 0, none⟩)) := (hev 3 (by decide)).trans rfl
   clear hd hev hin
   simp only [List.getElem_cons_succ, List.getElem_cons_zero]
   clear hl
   refine .inr ⟨rfl, fun K' hK => ?_⟩
   have HK := Lib.hid hK
   clear hK
   go_simp
   exact HK.out (.pointer (some ⟨b2, 0, none⟩)) _ hJ rfl veL_same
  ·
   have x7 : aa.tmps[7]? = some (.pointer (some ⟨b2, 0, none⟩)) := (hin 2 7 rfl).trans (congrArg some (show uu 2 = .pointer (some ⟨b2, 0, none⟩) from hd 2 (by decide) (by kernel_rfl)))
   clear hd hev hin
   simp only [List.getElem_cons_succ, List.getElem_cons_zero]
   clear hl
   refine .inr ⟨rfl, fun K' hK => ?_⟩
   have HK := Lib.hid hK
   clear hK
   have f0 : ww.cell? ⟨b2, 0, none⟩ = some (.int .i64 u.x.lo) := hJ.es.cell 1 rfl 0 rfl
   have f1 : ww.cell? ⟨b2, 1, none⟩ = some (.int .i64 u.x.hi) := hJ.es.cell 1 rfl 1 rfl
   have f2 : ww.cell? ⟨b2, 2, none⟩ = some (.bool u.x.all) := hJ.es.cell 1 rfl 2 rfl
   go_simp
   exact HK.out (.agg #[.int .i64 u.x.lo, .int .i64 u.x.hi, .bool u.x.all]) _ hJ rfl veL_same
  ·
   have x6 : aa.tmps[6]? = some (.agg #[.int .i64 v.x.lo, .int .i64 v.x.hi, .bool v.x.all]) := (hin 1 6 rfl).trans (congrArg some (show uu 1 = .agg #[.int .i64 v.x.lo, .int .i64 v.x.hi, .bool v.x.all] from hd 1 (by decide) (by kernel_rfl)))
   have x8 : aa.tmps[8]? = some (.agg #[.int .i64 u.x.lo, .int .i64 u.x.hi, .bool u.x.all]) := (hin 3 8 rfl).trans (congrArg some (show uu 3 = .agg #[.int .i64 u.x.lo, .int .i64 u.x.hi, .bool u.x.all] from hd 3 (by decide) (by kernel_rfl)))
   clear hd hev hin
   simp only [List.getElem_cons_succ, List.getElem_cons_zero]
   clear hl
   refine .inr ⟨rfl, fun K' hK => ?_⟩
   have HK := Lib.hid hK
   clear hK
   go_simp
   refine (H0.out ww).mono ?_
   rintro e W' ⟨rfl, hB⟩
   exact HK.out (.agg #[.int .i64 r.x.lo, .int .i64 r.x.hi, .bool r.x.all]) _ (hJ.later hB) rfl (veL_later hB)
  ·
   have x2 : aa.tmps[2]? = some (.pointer (some ⟨b1, 0, none⟩)) := (hev 2 (by decide)).trans rfl
   clear hd hev hin
   simp only [List.getElem_cons_succ, List.getElem_cons_zero]
   clear hl
   refine .inr ⟨rfl, fun K' hK => ?_⟩
   have HK := Lib.hid hK
   clear hK
   go_simp
   exact HK.out (.pointer (some ⟨b1, 3, none⟩)) _ hJ rfl veL_same
  ·
   have x10 : aa.tmps[10]? = some (.pointer (some ⟨b1, 3, none⟩)) := (hin 5 10 rfl).trans (congrArg some (show uu 5 = .pointer (some ⟨b1, 3, none⟩) from hd 5 (by decide) (by kernel_rfl)))
   clear hd hev hin
   simp only [List.getElem_cons_succ, List.getElem_cons_zero]
   clear hl
   refine .inr ⟨rfl, fun K' hK => ?_⟩
   have HK := Lib.hid hK
   clear hK
   have f0 : ww.cell? ⟨b1, 3, none⟩ = some (.int .i64 v.y.lo) := hJ.es.cell 2 rfl 3 rfl
   have f1 : ww.cell? ⟨b1, 4, none⟩ = some (.int .i64 v.y.hi) := hJ.es.cell 2 rfl 4 rfl
   have f2 : ww.cell? ⟨b1, 5, none⟩ = some (.bool v.y.all) := hJ.es.cell 2 rfl 5 rfl
   go_simp
   exact HK.out (.agg #[.int .i64 v.y.lo, .int .i64 v.y.hi, .bool v.y.all]) _ hJ rfl veL_same
  ·
   have x3 : aa.tmps[3]? = some (.pointer (some ⟨b2, 0, none⟩)) := (hev 3 (by decide)).trans rfl
   clear hd hev hin
   simp only [List.getElem_cons_succ, List.getElem_cons_zero]
   clear hl
   refine .inr ⟨rfl, fun K' hK => ?_⟩
   have HK := Lib.hid hK
   clear hK
   go_simp
   exact HK.out (.pointer (some ⟨b2, 3, none⟩)) _ hJ rfl veL_same
  ·
   have x12 : aa.tmps[12]? = some (.pointer (some ⟨b2, 3, none⟩)) := (hin 7 12 rfl).trans (congrArg some (show uu 7 = .pointer (some ⟨b2, 3, none⟩) from hd 7 (by decide) (by kernel_rfl)))
   clear hd hev hin
   simp only [List.getElem_cons_succ, List.getElem_cons_zero]
   clear hl
   refine .inr ⟨rfl, fun K' hK => ?_⟩
   have HK := Lib.hid hK
   clear hK
   have f0 : ww.cell? ⟨b2, 3, none⟩ = some (.int .i64 u.y.lo) := hJ.es.cell 1 rfl 3 rfl
   have f1 : ww.cell? ⟨b2, 4, none⟩ = some (.int .i64 u.y.hi) := hJ.es.cell 1 rfl 4 rfl
   have f2 : ww.cell? ⟨b2, 5, none⟩ = some (.bool u.y.all) := hJ.es.cell 1 rfl 5 rfl
   go_simp
   exact HK.out (.agg #[.int .i64 u.y.lo, .int .i64 u.y.hi, .bool u.y.all]) _ hJ rfl veL_same
  ·
   have x11 : aa.tmps[11]? = some (.agg #[.int .i64 v.y.lo, .int .i64 v.y.hi, .bool v.y.all]) := (hin 6 11 rfl).trans (congrArg some (show uu 6 = .agg #[.int .i64 v.y.lo, .int .i64 v.y.hi, .bool v.y.all] from hd 6 (by decide) (by kernel_rfl)))
   have x13 : aa.tmps[13]? = some (.agg #[.int .i64 u.y.lo, .int .i64 u.y.hi, .bool u.y.all]) := (hin 8 13 rfl).trans (congrArg some (show uu 8 = .agg #[.int .i64 u.y.lo, .int .i64 u.y.hi, .bool u.y.all] from hd 8 (by decide) (by kernel_rfl)))
   clear hd hev hin
   simp only [List.getElem_cons_succ, List.getElem_cons_zero]
   clear hl
   refine .inr ⟨rfl, fun K' hK => ?_⟩
   have HK := Lib.hid hK
   clear hK
   go_simp
   refine (H1.out ww).mono ?_
   rintro e W' ⟨rfl, hB⟩
   exact HK.out (.agg #[.int .i64 r.y.lo, .int .i64 r.y.hi, .bool r.y.all]) _ (hJ.later hB) rfl (veL_later hB)
  ·
   have x2 : aa.tmps[2]? = some (.pointer (some ⟨b1, 0, none⟩)) := (hev 2 (by decide)).trans rfl
   clear hd hev hin
   simp only [List.getElem_cons_succ, List.getElem_cons_zero]
   clear hl
   refine .inr ⟨rfl, fun K' hK => ?_⟩
   have HK := Lib.hid hK
   clear hK
   go_simp
   exact HK.out (.pointer (some ⟨b1, 6, none⟩)) _ hJ rfl veL_same
  ·
   have x15 : aa.tmps[15]? = some (.pointer (some ⟨b1, 6, none⟩)) := (hin 10 15 rfl).trans (congrArg some (show uu 10 = .pointer (some ⟨b1, 6, none⟩) from hd 10 (by decide) (by kernel_rfl)))
   clear hd hev hin
   simp only [List.getElem_cons_succ, List.getElem_cons_zero]
   clear hl
   refine .inr ⟨rfl, fun K' hK => ?_⟩
   have HK := Lib.hid hK
   clear hK
   have f0 : ww.cell? ⟨b1, 6, none⟩ = some (.int .i64 v.z.lo) := hJ.es.cell 2 rfl 6 rfl
   have f1 : ww.cell? ⟨b1, 7, none⟩ = some (.int .i64 v.z.hi) := hJ.es.cell 2 rfl 7 rfl
   have f2 : ww.cell? ⟨b1, 8, none⟩ = some (.bool v.z.all) := hJ.es.cell 2 rfl 8 rfl
   go_simp
   exact HK.out (.agg #[.int .i64 v.z.lo, .int .i64 v.z.hi, .bool v.z.all]) _ hJ rfl veL_same
  ·
   have x3 : aa.tmps[3]? = some (.pointer (some ⟨b2, 0, none⟩)) := (hev 3 (by decide)).trans rfl
   clear hd hev hin
   simp only [List.getElem_cons_succ, List.getElem_cons_zero]
   clear hl
   refine .inr ⟨rfl, fun K' hK => ?_⟩
   have HK := Lib.hid hK
   clear hK
   go_simp
   exact HK.out (.pointer (some ⟨b2, 6, none⟩)) _ hJ rfl veL_same
  ·
   have x17 : aa.tmps[17]? = some (.pointer (some ⟨b2, 6, none⟩)) := (hin 12 17 rfl).trans (congrArg some (show uu 12 = .pointer (some ⟨b2, 6, none⟩) from hd 12 (by decide) (by kernel_rfl)))
   clear hd hev hin
   simp only [List.getElem_cons_succ, List.getElem_cons_zero]
   clear hl
   refine .inr ⟨rfl, fun K' hK => ?_⟩
   have HK := Lib.hid hK
   clear hK
   have f0 : ww.cell? ⟨b2, 6, none⟩ = some (.int .i64 u.z.lo) := hJ.es.cell 1 rfl 6 rfl
   have f1 : ww.cell? ⟨b2, 7, none⟩ = some (.int .i64 u.z.hi) := hJ.es.cell 1 rfl 7 rfl
   have f2 : ww.cell? ⟨b2, 8, none⟩ = some (.bool u.z.all) := hJ.es.cell 1 rfl 8 rfl
   go_simp
   exact HK.out (.agg #[.int .i64 u.z.lo, .int .i64 u.z.hi, .bool u.z.all]) _ hJ rfl veL_same
  ·
   have x16 : aa.tmps[16]? = some (.agg #[.int .i64 v.z.lo, .int .i64 v.z.hi, .bool v.z.all]) := (hin 11 16 rfl).trans (congrArg some (show uu 11 = .agg #[.int .i64 v.z.lo, .int .i64 v.z.hi, .bool v.z.all] from hd 11 (by decide) (by kernel_rfl)))
   have x18 : aa.tmps[18]? = some (.agg #[.int .i64 u.z.lo, .int .i64 u.z.hi, .bool u.z.all]) := (hin 13 18 rfl).trans (congrArg some (show uu 13 = .agg #[.int .i64 u.z.lo, .int .i64 u.z.hi, .bool u.z.all] from hd 13 (by decide) (by kernel_rfl)))
   clear hd hev hin
   simp only [List.getElem_cons_succ, List.getElem_cons_zero]
   clear hl
   refine .inr ⟨rfl, fun K' hK => ?_⟩
   have HK := Lib.hid hK
   clear hK
   go_simp
   refine (H2.out ww).mono ?_
   rintro e W' ⟨rfl, hB⟩
   exact HK.out (.agg #[.int .i64 r.z.lo, .int .i64 r.z.hi, .bool r.z.all]) _ (hJ.later hB) rfl (veL_later hB)
  ·
   have x9 : aa.tmps[9]? = some (.agg #[.int .i64 r.x.lo, .int .i64 r.x.hi, .bool r.x.all]) := (hin 4 9 rfl).trans (congrArg some (show uu 4 = .agg #[.int .i64 r.x.lo, .int .i64 r.x.hi, .bool r.x.all] from hd 4 (by decide) (by kernel_rfl)))
   have x14 : aa.tmps[14]? = some (.agg #[.int .i64 r.y.lo, .int .i64 r.y.hi, .bool r.y.all]) := (hin 9 14 rfl).trans (congrArg some (show uu 9 = .agg #[.int .i64 r.y.lo, .int .i64 r.y.hi, .bool r.y.all] from hd 9 (by decide) (by kernel_rfl)))
   have x19 : aa.tmps[19]? = some (.agg #[.int .i64 r.z.lo, .int .i64 r.z.hi, .bool r.z.all]) := (hin 14 19 rfl).trans (congrArg some (show uu 14 = .agg #[.int .i64 r.z.lo, .int .i64 r.z.hi, .bool r.z.all] from hd 14 (by decide) (by kernel_rfl)))
   clear hd hev hin
   simp only [List.getElem_cons_succ, List.getElem_cons_zero]
   clear hl
   refine .inr ⟨rfl, fun K' hK => ?_⟩
   have HK := Lib.hid hK
   clear hK
   go_simp
   exact HK.out (.agg #[.int .i64 r.x.lo, .int .i64 r.x.hi, .bool r.x.all, .int .i64 r.y.lo, .int .i64 r.y.hi, .bool r.y.all, .int .i64 r.z.lo, .int .i64 r.z.hi, .bool r.z.all]) _ hJ rfl veL_same
 clear hM
 intro uu W4 hJm hd
 have e_0 : uu 0 = .pointer (some ⟨b1, 0, none⟩) := hd 0 (by decide)
 have e_1 : uu 1 = .agg #[.int .i64 v.x.lo, .int .i64 v.x.hi, .bool v.x.all] := hd 1 (by decide)
 have e_2 : uu 2 = .pointer (some ⟨b2, 0, none⟩) := hd 2 (by decide)
 have e_3 : uu 3 = .agg #[.int .i64 u.x.lo, .int .i64 u.x.hi, .bool u.x.all] := hd 3 (by decide)
 have e_4 : uu 4 = .agg #[.int .i64 r.x.lo, .int .i64 r.x.hi, .bool r.x.all] := hd 4 (by decide)
 have e_5 : uu 5 = .pointer (some ⟨b1, 3, none⟩) := hd 5 (by decide)
 have e_6 : uu 6 = .agg #[.int .i64 v.y.lo, .int .i64 v.y.hi, .bool v.y.all] := hd 6 (by decide)
 have e_7 : uu 7 = .pointer (some ⟨b2, 3, none⟩) := hd 7 (by decide)
 have e_8 : uu 8 = .agg #[.int .i64 u.y.lo, .int .i64 u.y.hi, .bool u.y.all] := hd 8 (by decide)
 have e_9 : uu 9 = .agg #[.int .i64 r.y.lo, .int .i64 r.y.hi, .bool r.y.all] := hd 9 (by decide)
 have e_10 : uu 10 = .pointer (some ⟨b1, 6, none⟩) := hd 10 (by decide)
 have e_11 : uu 11 = .agg #[.int .i64 v.z.lo, .int .i64 v.z.hi, .bool v.z.all] := hd 11 (by decide)
 have e_12 : uu 12 = .pointer (some ⟨b2, 6, none⟩) := hd 12 (by decide)
 have e_13 : uu 13 = .agg #[.int .i64 u.z.lo, .int .i64 u.z.hi, .bool u.z.all] := hd 13 (by decide)
 have e_14 : uu 14 = .agg #[.int .i64 r.z.lo, .int .i64 r.z.hi, .bool r.z.all] := hd 14 (by decide)
 have e_15 : uu 15 = .agg #[.int .i64 r.x.lo, .int .i64 r.x.hi, .bool r.x.all, .int .i64 r.y.lo, .int .i64 r.y.hi, .bool r.y.all, .int .i64 r.z.lo, .int .i64 r.z.hi, .bool r.z.all] := hd 15 (by decide)
 clear hd
 simp only [layS, Act.put, List.setIfInBounds_toArray, List.set_cons_succ, List.set_cons_zero, Nat.zero_add, Nat.reduceAdd, List.drop_succ_cons, List.drop_zero, List.drop_nil, e_0, e_1, e_2, e_3, e_4, e_5, e_6, e_7, e_8, e_9, e_10, e_11, e_12, e_13, e_14, e_15]
 clear e_0 e_1 e_2 e_3 e_4 e_5 e_6 e_7 e_8 e_9 e_10 e_11 e_12 e_13 e_14 e_15
 have hJ4 := hJm.es
 clear hJm
 go_wp2_with (refine stop_store 29 (.tmp 4) (.tmp 20) 0 b3 0 #[.int .i64 0, .int .i64 0, .bool false, .int .i64 0, .int .i64 0, .bool false, .int .i64 0, .int .i64 0, .bool false] 29 9 [.int .i64 r.x.lo, .int .i64 r.x.hi, .bool r.x.all, .int .i64 r.y.lo, .int .i64 r.y.hi, .bool r.y.all, .int .i64 r.z.lo, .int .i64 r.z.hi, .bool r.z.all] #[.int .i64 r.x.lo, .int .i64 r.x.hi, .bool r.x.all, .int .i64 r.y.lo, .int .i64 r.y.hi, .bool r.y.all, .int .i64 r.z.lo, .int .i64 r.z.hi, .bool r.z.all] [(b3, #[.int .i64 r.x.lo, .int .i64 r.x.hi, .bool r.x.all, .int .i64 r.y.lo, .int .i64 r.y.hi, .bool r.y.all, .int .i64 r.z.lo, .int .i64 r.z.hi, .bool r.z.all], 29), (b2, #[.int .i64 u.x.lo, .int .i64 u.x.hi, .bool u.x.all, .int .i64 u.y.lo, .int .i64 u.y.hi, .bool u.y.all, .int .i64 u.z.lo, .int .i64 u.z.hi, .bool u.z.all], 29), (b1, #[.int .i64 v.x.lo, .int .i64 v.x.hi, .bool v.x.all, .int .i64 v.y.lo, .int .i64 v.y.hi, .bool v.y.all, .int .i64 v.z.lo, .int .i64 v.z.hi, .bool v.z.all], 29)] rfl rfl rfl rfl sz29 hJ4 rfl rfl (Nat.le_of_ble_eq_true (by kernel_rfl)) (by kernel_rfl) (by kernel_rfl) (by kernel_rfl) (fun W5 hJ5 => ?_))
 clear hJ4
 unfold Stop
 try simp only [Act.put, List.setIfInBounds_toArray, List.set_cons_succ, List.set_cons_zero]
 have f0 : W5.cell? ⟨b3, 0, none⟩ = some (.int .i64 r.x.lo) := hJ5.cell 0 rfl 0 rfl
 have f1 : W5.cell? ⟨b3, 1, none⟩ = some (.int .i64 r.x.hi) := hJ5.cell 0 rfl 1 rfl
 have f2 : W5.cell? ⟨b3, 2, none⟩ = some (.bool r.x.all) := hJ5.cell 0 rfl 2 rfl
 have f3 : W5.cell? ⟨b3, 3, none⟩ = some (.int .i64 r.y.lo) := hJ5.cell 0 rfl 3 rfl
 have f4 : W5.cell? ⟨b3, 4, none⟩ = some (.int .i64 r.y.hi) := hJ5.cell 0 rfl 4 rfl
 have f5 : W5.cell? ⟨b3, 5, none⟩ = some (.bool r.y.all) := hJ5.cell 0 rfl 5 rfl
 have f6 : W5.cell? ⟨b3, 6, none⟩ = some (.int .i64 r.z.lo) := hJ5.cell 0 rfl 6 rfl
 have f7 : W5.cell? ⟨b3, 7, none⟩ = some (.int .i64 r.z.hi) := hJ5.cell 0 rfl 7 rfl
 have f8 : W5.cell? ⟨b3, 8, none⟩ = some (.bool r.z.all) := hJ5.cell 0 rfl 8 rfl
 go_wp2
 exact bodyPost_ret (v := .agg #[.int .i64 r.x.lo, .int .i64 r.x.hi, .bool r.x.all, .int .i64 r.y.lo, .int .i64 r.y.hi, .bool r.y.all, .int .i64 r.z.lo, .int .i64 r.z.hi, .bool r.z.all]) (by simp [results, Try.results19, go_sem, f0, f1, f2, f3, f4, f5, f6, f7, f8]) rfl ⟨rfl, hJ5.below⟩
theorem dAdd_any (v u : Vc) (w : World) : Calls Try.prog 19 #[.agg #[.int .i64 v.x.lo, .int .i64 v.x.hi, .bool v.x.all, .int .i64 v.y.lo, .int .i64 v.y.hi, .bool v.y.all, .int .i64 v.z.lo, .int .i64 v.z.hi, .bool v.z.all], .agg #[.int .i64 u.x.lo, .int .i64 u.x.hi, .bool u.x.all, .int .i64 u.y.lo, .int .i64 u.y.hi, .bool u.y.all, .int .i64 u.z.lo, .int .i64 u.z.hi, .bool u.z.all]] w (PVal (.agg #[.int .i64 ((addV v u).x.lo), .int .i64 ((addV v u).x.hi), .bool ((addV v u).x.all), .int .i64 ((addV v u).y.lo), .int .i64 ((addV v u).y.hi), .bool ((addV v u).y.all), .int .i64 ((addV v u).z.lo), .int .i64 ((addV v u).z.hi), .bool ((addV v u).z.all)]) w) :=
 dAdd_w v u (addV v u) (rdAdd_any v.x u.x) (rdAdd_any v.y u.y) (rdAdd_any v.z u.z) w
set_option maxRecDepth 100000 in
set_option maxHeartbeats 12800000 in
theorem dSub_w (v u r : Vc) (hH0 : ∀ W : World, Calls Try.prog 55 #[.agg #[.int .i64 v.x.lo, .int .i64 v.x.hi, .bool v.x.all], .agg #[.int .i64 u.x.lo, .int .i64 u.x.hi, .bool u.x.all]] W (PVal (.agg #[.int .i64 r.x.lo, .int .i64 r.x.hi, .bool r.x.all]) W)) (hH1 : ∀ W : World, Calls Try.prog 55 #[.agg #[.int .i64 v.y.lo, .int .i64 v.y.hi, .bool v.y.all], .agg #[.int .i64 u.y.lo, .int .i64 u.y.hi, .bool u.y.all]] W (PVal (.agg #[.int .i64 r.y.lo, .int .i64 r.y.hi, .bool r.y.all]) W)) (hH2 : ∀ W : World, Calls Try.prog 55 #[.agg #[.int .i64 v.z.lo, .int .i64 v.z.hi, .bool v.z.all], .agg #[.int .i64 u.z.lo, .int .i64 u.z.hi, .bool u.z.all]] W (PVal (.agg #[.int .i64 r.z.lo, .int .i64 r.z.hi, .bool r.z.all]) W))  (w : World) : Calls Try.prog 20 #[.agg #[.int .i64 v.x.lo, .int .i64 v.x.hi, .bool v.x.all, .int .i64 v.y.lo, .int .i64 v.y.hi, .bool v.y.all, .int .i64 v.z.lo, .int .i64 v.z.hi, .bool v.z.all], .agg #[.int .i64 u.x.lo, .int .i64 u.x.hi, .bool u.x.all, .int .i64 u.y.lo, .int .i64 u.y.hi, .bool u.y.all, .int .i64 u.z.lo, .int .i64 u.z.hi, .bool u.z.all]] w (PVal (.agg #[.int .i64 r.x.lo, .int .i64 r.x.hi, .bool r.x.all, .int .i64 r.y.lo, .int .i64 r.y.hi, .bool r.y.all, .int .i64 r.z.lo, .int .i64 r.z.hi, .bool r.z.all]) w) := by
 have H0 := Lib.hid hH0
 have H1 := Lib.hid hH1
 have H2 := Lib.hid hH2
 clear hH0 hH1 hH2
 have hJ0 := es_nil w
 go_enter Try.func20, Try.ntmps20
 go_wp2_with (refine stop_box 29 (.tmp 0) #[.int .i64 v.x.lo, .int .i64 v.x.hi, .bool v.x.all, .int .i64 v.y.lo, .int .i64 v.y.hi, .bool v.y.all, .int .i64 v.z.lo, .int .i64 v.z.hi, .bool v.z.all] rfl rfl rfl hJ0 (fun b1 W1 hJ1 => ?_))
 clear hJ0
 unfold Stop
 try simp only [Act.put, List.setIfInBounds_toArray, List.set_cons_succ, List.set_cons_zero]
 go_wp2_with (refine stop_box 29 (.tmp 1) #[.int .i64 u.x.lo, .int .i64 u.x.hi, .bool u.x.all, .int .i64 u.y.lo, .int .i64 u.y.hi, .bool u.y.all, .int .i64 u.z.lo, .int .i64 u.z.hi, .bool u.z.all] rfl rfl rfl hJ1 (fun b2 W2 hJ2 => ?_))
 clear hJ1
 unfold Stop
 try simp only [Act.put, List.setIfInBounds_toArray, List.set_cons_succ, List.set_cons_zero]
 go_wp2_with (refine stop_alloc 29 #[.int .i64 0, .int .i64 0, .bool false, .int .i64 0, .int .i64 0, .bool false, .int .i64 0, .int .i64 0, .bool false] (.agg #[.int .i64 0, .int .i64 0, .bool false, .int .i64 0, .int .i64 0, .bool false, .int .i64 0, .int .i64 0, .bool false]) rfl rfl zv29 rfl hJ2 (fun b3 W3 hJ3 => ?_))
 clear hJ2
 unfold Stop
 try simp only [Act.put, List.setIfInBounds_toArray, List.set_cons_succ, List.set_cons_zero]
 go_wp2
 obtain ⟨m1_3, hm⟩ : ∃ m, m = W3.heap.size := ⟨_, rfl⟩
 have hM := hJ3.em
 rw [← hm] at hM
 clear hm hJ3
 refine wp_region_z 16 [some 5, some 6, some 7, some 8, some 9, some 10, some 11, some 12, some 13, some 14, some 15, some 16, some 17, some 18, some 19, some 20] (veL m1_3 [.eq (.pointer (some ⟨b1, 0, none⟩)), .eq (.agg #[.int .i64 v.x.lo, .int .i64 v.x.hi, .bool v.x.all]), .eq (.pointer (some ⟨b2, 0, none⟩)), .eq (.agg #[.int .i64 u.x.lo, .int .i64 u.x.hi, .bool u.x.all]), .eq (.agg #[.int .i64 r.x.lo, .int .i64 r.x.hi, .bool r.x.all]), .eq (.pointer (some ⟨b1, 3, none⟩)), .eq (.agg #[.int .i64 v.y.lo, .int .i64 v.y.hi, .bool v.y.all]), .eq (.pointer (some ⟨b2, 3, none⟩)), .eq (.agg #[.int .i64 u.y.lo, .int .i64 u.y.hi, .bool u.y.all]), .eq (.agg #[.int .i64 r.y.lo, .int .i64 r.y.hi, .bool r.y.all]), .eq (.pointer (some ⟨b1, 6, none⟩)), .eq (.agg #[.int .i64 v.z.lo, .int .i64 v.z.hi, .bool v.z.all]), .eq (.pointer (some ⟨b2, 6, none⟩)), .eq (.agg #[.int .i64 u.z.lo, .int .i64 u.z.hi, .bool u.z.all]), .eq (.agg #[.int .i64 r.z.lo, .int .i64 r.z.hi, .bool r.z.all]), .eq (.agg #[.int .i64 r.x.lo, .int .i64 r.x.hi, .bool r.x.all, .int .i64 r.y.lo, .int .i64 r.y.hi, .bool r.y.all, .int .i64 r.z.lo, .int .i64 r.z.hi, .bool r.z.all])]) (Em w m1_3 [(b3, #[.int .i64 0, .int .i64 0, .bool false, .int .i64 0, .int .i64 0, .bool false, .int .i64 0, .int .i64 0, .bool false], 29), (b2, #[.int .i64 u.x.lo, .int .i64 u.x.hi, .bool u.x.all, .int .i64 u.y.lo, .int .i64 u.y.hi, .bool u.y.all, .int .i64 u.z.lo, .int .i64 u.z.hi, .bool u.z.all], 29), (b1, #[.int .i64 v.x.lo, .int .i64 v.x.hi, .bool v.x.all, .int .i64 v.y.lo, .int .i64 v.y.hi, .bool v.y.all, .int .i64 v.z.lo, .int .i64 v.z.hi, .bool v.z.all], 29)]) (by kernel_rfl) (by kernel_rfl) (by rfl) (by decide) (by rfl) hM ?_ ?_
 ·
  intro i hl hi uu ww aa hJ hd hev hin
  clear hM
  obtain rfl | rfl | rfl | rfl | rfl | rfl | rfl | rfl | rfl | rfl | rfl | rfl | rfl | rfl | rfl | rfl : i = 0 ∨ i = 1 ∨ i = 2 ∨ i = 3 ∨ i = 4 ∨ i = 5 ∨ i = 6 ∨ i = 7 ∨ i = 8 ∨ i = 9 ∨ i = 10 ∨ i = 11 ∨ i = 12 ∨ i = 13 ∨ i = 14 ∨ i = 15 := by omega
  ·
   have x2 : aa.tmps[2]? = some (.pointer (some ⟨b1, 0, none⟩)) := (hev 2 (by decide)).trans rfl
   clear hd hev hin
   simp only [List.getElem_cons_succ, List.getElem_cons_zero]
   clear hl
   refine .inr ⟨rfl, fun K' hK => ?_⟩
   have HK := Lib.hid hK
   clear hK
   go_simp
   exact HK.out (.pointer (some ⟨b1, 0, none⟩)) _ hJ rfl veL_same
  ·
   have x5 : aa.tmps[5]? = some (.pointer (some ⟨b1, 0, none⟩)) := (hin 0 5 rfl).trans (congrArg some (show uu 0 = .pointer (some ⟨b1, 0, none⟩) from hd 0 (by decide) (by kernel_rfl)))
   clear hd hev hin
   simp only [List.getElem_cons_succ, List.getElem_cons_zero]
   clear hl
   refine .inr ⟨rfl, fun K' hK => ?_⟩
   have HK := Lib.hid hK
   clear hK
   have f0 : ww.cell? ⟨b1, 0, none⟩ = some (.int .i64 v.x.lo) := hJ.es.cell 2 rfl 0 rfl
   have f1 : ww.cell? ⟨b1, 1, none⟩ = some (.int .i64 v.x.hi) := hJ.es.cell 2 rfl 1 rfl
   have f2 : ww.cell? ⟨b1, 2, none⟩ = some (.bool v.x.all) := hJ.es.cell 2 rfl 2 rfl
   go_simp
   exact HK.out (.agg #[.int .i64 v.x.lo, .int .i64 v.x.hi, .bool v.x.all]) _ hJ rfl veL_same
  ·
   have x3 : aa.tmps[3]? = some (.pointer (some ⟨b2, 0, none⟩)) := (hev 3 (by decide)).trans rfl
   clear hd hev hin
   simp only [List.getElem_cons_succ, List.getElem_cons_zero]
   clear hl
   refine .inr ⟨rfl, fun K' hK => ?_⟩
   have HK := Lib.hid hK
   clear hK
   go_simp
   exact HK.out (.pointer (some ⟨b2, 0, none⟩)) _ hJ rfl veL_same
  ·
   have x7 : aa.tmps[7]? = some (.pointer (some ⟨b2, 0, none⟩)) := (hin 2 7 rfl).trans (congrArg some (show uu 2 = .pointer (some ⟨b2, 0, none⟩) from hd 2 (by decide) (by kernel_rfl)))
   clear hd hev hin
   simp only [List.getElem_cons_succ, List.getElem_cons_zero]
   clear hl
   refine .inr ⟨rfl, fun K' hK => ?_⟩
   have HK := Lib.hid hK
   clear hK
   have f0 : ww.cell? ⟨b2, 0, none⟩ = some (.int .i64 u.x.lo) := hJ.es.cell 1 rfl 0 rfl
   have f1 : ww.cell? ⟨b2, 1, none⟩ = some (.int .i64 u.x.hi) := hJ.es.cell 1 rfl 1 rfl
   have f2 : ww.cell? ⟨b2, 2, none⟩ = some (.bool u.x.all) := hJ.es.cell 1 rfl 2 rfl
   go_simp
   exact HK.out (.agg #[.int .i64 u.x.lo, .int .i64 u.x.hi, .bool u.x.all]) _ hJ rfl veL_same
  ·
   have x6 : aa.tmps[6]? = some (.agg #[.int .i64 v.x.lo, .int .i64 v.x.hi, .bool v.x.all]) := (hin 1 6 rfl).trans (congrArg some (show uu 1 = .agg #[.int .i64 v.x.lo, .int .i64 v.x.hi, .bool v.x.all] from hd 1 (by decide) (by kernel_rfl)))
   have x8 : aa.tmps[8]? = some (.agg #[.int .i64 u.x.lo, .int .i64 u.x.hi, .bool u.x.all]) := (hin 3 8 rfl).trans (congrArg some (show uu 3 = .agg #[.int .i64 u.x.lo, .int .i64 u.x.hi, .bool u.x.all] from hd 3 (by decide) (by kernel_rfl)))
   clear hd hev hin
   simp only [List.getElem_cons_succ, List.getElem_cons_zero]
   clear hl
   refine .inr ⟨rfl, fun K' hK => ?_⟩
   have HK := Lib.hid hK
   clear hK
   go_simp
   refine (H0.out ww).mono ?_
   rintro e W' ⟨rfl, hB⟩
   exact HK.out (.agg #[.int .i64 r.x.lo, .int .i64 r.x.hi, .bool r.x.all]) _ (hJ.later hB) rfl (veL_later hB)
  ·
   have x2 : aa.tmps[2]? = some (.pointer (some ⟨b1, 0, none⟩)) := (hev 2 (by decide)).trans rfl
   clear hd hev hin
   simp only [List.getElem_cons_succ, List.getElem_cons_zero]
   clear hl
   refine .inr ⟨rfl, fun K' hK => ?_⟩
   have HK := Lib.hid hK
   clear hK
   go_simp
   exact HK.out (.pointer (some ⟨b1, 3, none⟩)) _ hJ rfl veL_same
  ·
   have x10 : aa.tmps[10]? = some (.pointer (some ⟨b1, 3, none⟩)) := (hin 5 10 rfl).trans (congrArg some (show uu 5 = .pointer (some ⟨b1, 3, none⟩) from hd 5 (by decide) (by kernel_rfl)))
   clear hd hev hin
   simp only [List.getElem_cons_succ, List.getElem_cons_zero]
   clear hl
   refine .inr ⟨rfl, fun K' hK => ?_⟩
   have HK := Lib.hid hK
   clear hK
   have f0 : ww.cell? ⟨b1, 3, none⟩ = some (.int .i64 v.y.lo) := hJ.es.cell 2 rfl 3 rfl
   have f1 : ww.cell? ⟨b1, 4, none⟩ = some (.int .i64 v.y.hi) := hJ.es.cell 2 rfl 4 rfl
   have f2 : ww.cell? ⟨b1, 5, none⟩ = some (.bool v.y.all) := hJ.es.cell 2 rfl 5 rfl
   go_simp
   exact HK.out (.agg #[.int .i64 v.y.lo, .int .i64 v.y.hi, .bool v.y.all]) _ hJ rfl veL_same
  ·
   have x3 : aa.tmps[3]? = some (.pointer (some ⟨b2, 0, none⟩)) := (hev 3 (by decide)).trans rfl
   clear hd hev hin
   simp only [List.getElem_cons_succ, List.getElem_cons_zero]
   clear hl
   refine .inr ⟨rfl, fun K' hK => ?_⟩
   have HK := Lib.hid hK
   clear hK
   go_simp
   exact HK.out (.pointer (some ⟨b2, 3, none⟩)) _ hJ rfl veL_same
  ·
   have x12 : aa.tmps[12]? = some (.pointer (some ⟨b2, 3, none⟩)) := (hin 7 12 rfl).trans (congrArg some (show uu 7 = .pointer (some ⟨b2, 3, none⟩) from hd 7 (by decide) (by kernel_rfl)))
   clear hd hev hin
   simp only [List.getElem_cons_succ, List.getElem_cons_zero]
   clear hl
   refine .inr ⟨rfl, fun K' hK => ?_⟩
   have HK := Lib.hid hK
   clear hK
   have f0 : ww.cell? ⟨b2, 3, none⟩ = some (.int .i64 u.y.lo) := hJ.es.cell 1 rfl 3 rfl
   have f1 : ww.cell? ⟨b2, 4, none⟩ = some (.int .i64 u.y.hi) := hJ.es.cell 1 rfl 4 rfl
   have f2 : ww.cell? ⟨b2, 5, none⟩ = some (.bool u.y.all) := hJ.es.cell 1 rfl 5 rfl
   go_simp
   exact HK.out (.agg #[.int .i64 u.y.lo, .int .i64 u.y.hi, .bool u.y.all]) _ hJ rfl veL_same
  ·
   have x11 : aa.tmps[11]? = some (.agg #[.int .i64 v.y.lo, .int .i64 v.y.hi, .bool v.y.all]) := (hin 6 11 rfl).trans (congrArg some (show uu 6 = .agg #[.int .i64 v.y.lo, .int .i64 v.y.hi, .bool v.y.all] from hd 6 (by decide) (by kernel_rfl)))
   have x13 : aa.tmps[13]? = some (.agg #[.int .i64 u.y.lo, .int .i64 u.y.hi, .bool u.y.all]) := (hin 8 13 rfl).trans (congrArg some (show uu 8 = .agg #[.int .i64 u.y.lo, .int .i64 u.y.hi, .bool u.y.all] from hd 8 (by decide) (by kernel_rfl)))
   clear hd hev hin
   simp only [List.getElem_cons_succ, List.getElem_cons_zero]
   clear hl
   refine .inr ⟨rfl, fun K' hK => ?_⟩
   have HK := Lib.hid hK
   clear hK
   go_simp
   refine (H1.out ww).mono ?_
   rintro e W' ⟨rfl, hB⟩
   exact HK.out (.agg #[.int .i64 r.y.lo, .int .i64 r.y.hi, .bool r.y.all]) _ (hJ.later hB) rfl (veL_later hB)
  ·
   have x2 : aa.tmps[2]? = some (.pointer (some ⟨b1, 0, none⟩)) := (hev 2 (by decide)).trans rfl
   clear hd hev hin
   simp only [List.getElem_cons_succ, List.getElem_cons_zero]
   clear hl
   refine .inr ⟨rfl, fun K' hK => ?_⟩
   have HK := Lib.hid hK
   clear hK
   go_simp
   exact HK.out (.pointer (some ⟨b1, 6, none⟩)) _ hJ rfl veL_same
  ·
   have x15 : aa.tmps[15]? = some (.pointer (some ⟨b1, 6, none⟩)) := (hin 10 15 rfl).trans (congrArg some (show uu 10 = .pointer (some ⟨b1, 6, none⟩) from hd 10 (by decide) (by kernel_rfl)))
   clear hd hev hin
   simp only [List.getElem_cons_succ, List.getElem_cons_zero]
   clear hl
   refine .inr ⟨rfl, fun K' hK => ?_⟩
   have HK := Lib.hid hK
   clear hK
   have f0 : ww.cell? ⟨b1, 6, none⟩ = some (.int .i64 v.z.lo) := hJ.es.cell 2 rfl 6 rfl
   have f1 : ww.cell? ⟨b1, 7, none⟩ = some (.int .i64 v.z.hi) := hJ.es.cell 2 rfl 7 rfl
   have f2 : ww.cell? ⟨b1, 8, none⟩ = some (.bool v.z.all) := hJ.es.cell 2 rfl 8 rfl
   go_simp
   exact HK.out (.agg #[.int .i64 v.z.lo, .int .i64 v.z.hi, .bool v.z.all]) _ hJ rfl veL_same
  ·
   have x3 : aa.tmps[3]? = some (.pointer (some ⟨b2, 0, none⟩)) := (hev 3 (by decide)).trans rfl
   clear hd hev hin
   simp only [List.getElem_cons_succ, List.getElem_cons_zero]
   clear hl
   refine .inr ⟨rfl, fun K' hK => ?_⟩
   have HK := Lib.hid hK
   clear hK
   go_simp
   exact HK.out (.pointer (some ⟨b2, 6, none⟩)) _ hJ rfl veL_same
  ·
   have x17 : aa.tmps[17]? = some (.pointer (some ⟨b2, 6, none⟩)) := (hin 12 17 rfl).trans (congrArg some (show uu 12 = .pointer (some ⟨b2, 6, none⟩) from hd 12 (by decide) (by kernel_rfl)))
   clear hd hev hin
   simp only [List.getElem_cons_succ, List.getElem_cons_zero]
   clear hl
   refine .inr ⟨rfl, fun K' hK => ?_⟩
   have HK := Lib.hid hK
   clear hK
   have f0 : ww.cell? ⟨b2, 6, none⟩ = some (.int .i64 u.z.lo) := hJ.es.cell 1 rfl 6 rfl
   have f1 : ww.cell? ⟨b2, 7, none⟩ = some (.int .i64 u.z.hi) := hJ.es.cell 1 rfl 7 rfl
   have f2 : ww.cell? ⟨b2, 8, none⟩ = some (.bool u.z.all) := hJ.es.cell 1 rfl 8 rfl
   go_simp
   exact HK.out (.agg #[.int .i64 u.z.lo, .int .i64 u.z.hi, .bool u.z.all]) _ hJ rfl veL_same
  ·
   have x16 : aa.tmps[16]? = some (.agg #[.int .i64 v.z.lo, .int .i64 v.z.hi, .bool v.z.all]) := (hin 11 16 rfl).trans (congrArg some (show uu 11 = .agg #[.int .i64 v.z.lo, .int .i64 v.z.hi, .bool v.z.all] from hd 11 (by decide) (by kernel_rfl)))
   have x18 : aa.tmps[18]? = some (.agg #[.int .i64 u.z.lo, .int .i64 u.z.hi, .bool u.z.all]) := (hin 13 18 rfl).trans (congrArg some (show uu 13 = .agg #[.int .i64 u.z.lo, .int .i64 u.z.hi, .bool u.z.all] from hd 13 (by decide) (by kernel_rfl)))
   clear hd hev hin
   simp only [List.getElem_cons_succ, List.getElem_cons_zero]
   clear hl
   refine .inr ⟨rfl, fun K' hK => ?_⟩
   have HK := Lib.hid hK
   clear hK
   go_simp
   refine (H2.out ww).mono ?_
   rintro e W' ⟨rfl, hB⟩
   exact HK.out (.agg #[.int .i64 r.z.lo, .int .i64 r.z.hi, .bool r.z.all]) _ (hJ.later hB) rfl (veL_later hB)
  ·
   have x9 : aa.tmps[9]? = some (.agg #[.int .i64 r.x.lo, .int .i64 r.x.hi, .bool r.x.all]) := (hin 4 9 rfl).trans (congrArg some (show uu 4 = .agg #[.int .i64 r.x.lo, .int .i64 r.x.hi, .bool r.x.all] from hd 4 (by decide) (by kernel_rfl)))
   have x14 : aa.tmps[14]? = some (.agg #[.int .i64 r.y.lo, .int .i64 r.y.hi, .bool r.y.all]) := (hin 9 14 rfl).trans (congrArg some (show uu 9 = .agg #[.int .i64 r.y.lo, .int .i64 r.y.hi, .bool r.y.all] from hd 9 (by decide) (by kernel_rfl)))
   have x19 : aa.tmps[19]? = some (.agg #[.int .i64 r.z.lo, .int .i64 r.z.hi, .bool r.z.all]) := (hin 14 19 rfl).trans (congrArg some (show uu 14 = .agg #[.int .i64 r.z.lo, .int .i64 r.z.hi, .bool r.z.all] from hd 14 (by decide) (by kernel_rfl)))
   clear hd hev hin
   simp only [List.getElem_cons_succ, List.getElem_cons_zero]
   clear hl
   refine .inr ⟨rfl, fun K' hK => ?_⟩
   have HK := Lib.hid hK
   clear hK
   go_simp
   exact HK.out (.agg #[.int .i64 r.x.lo, .int .i64 r.x.hi, .bool r.x.all, .int .i64 r.y.lo, .int .i64 r.y.hi, .bool r.y.all, .int .i64 r.z.lo, .int .i64 r.z.hi, .bool r.z.all]) _ hJ rfl veL_same
 clear hM
 intro uu W4 hJm hd
 have e_0 : uu 0 = .pointer (some ⟨b1, 0, none⟩) := hd 0 (by decide)
 have e_1 : uu 1 = .agg #[.int .i64 v.x.lo, .int .i64 v.x.hi, .bool v.x.all] := hd 1 (by decide)
 have e_2 : uu 2 = .pointer (some ⟨b2, 0, none⟩) := hd 2 (by decide)
 have e_3 : uu 3 = .agg #[.int .i64 u.x.lo, .int .i64 u.x.hi, .bool u.x.all] := hd 3 (by decide)
 have e_4 : uu 4 = .agg #[.int .i64 r.x.lo, .int .i64 r.x.hi, .bool r.x.all] := hd 4 (by decide)
 have e_5 : uu 5 = .pointer (some ⟨b1, 3, none⟩) := hd 5 (by decide)
 have e_6 : uu 6 = .agg #[.int .i64 v.y.lo, .int .i64 v.y.hi, .bool v.y.all] := hd 6 (by decide)
 have e_7 : uu 7 = .pointer (some ⟨b2, 3, none⟩) := hd 7 (by decide)
 have e_8 : uu 8 = .agg #[.int .i64 u.y.lo, .int .i64 u.y.hi, .bool u.y.all] := hd 8 (by decide)
 have e_9 : uu 9 = .agg #[.int .i64 r.y.lo, .int .i64 r.y.hi, .bool r.y.all] := hd 9 (by decide)
 have e_10 : uu 10 = .pointer (some ⟨b1, 6, none⟩) := hd 10 (by decide)
 have e_11 : uu 11 = .agg #[.int .i64 v.z.lo, .int .i64 v.z.hi, .bool v.z.all] := hd 11 (by decide)
 have e_12 : uu 12 = .pointer (some ⟨b2, 6, none⟩) := hd 12 (by decide)
 have e_13 : uu 13 = .agg #[.int .i64 u.z.lo, .int .i64 u.z.hi, .bool u.z.all] := hd 13 (by decide)
 have e_14 : uu 14 = .agg #[.int .i64 r.z.lo, .int .i64 r.z.hi, .bool r.z.all] := hd 14 (by decide)
 have e_15 : uu 15 = .agg #[.int .i64 r.x.lo, .int .i64 r.x.hi, .bool r.x.all, .int .i64 r.y.lo, .int .i64 r.y.hi, .bool r.y.all, .int .i64 r.z.lo, .int .i64 r.z.hi, .bool r.z.all] := hd 15 (by decide)
 clear hd
 simp only [layS, Act.put, List.setIfInBounds_toArray, List.set_cons_succ, List.set_cons_zero, Nat.zero_add, Nat.reduceAdd, List.drop_succ_cons, List.drop_zero, List.drop_nil, e_0, e_1, e_2, e_3, e_4, e_5, e_6, e_7, e_8, e_9, e_10, e_11, e_12, e_13, e_14, e_15]
 clear e_0 e_1 e_2 e_3 e_4 e_5 e_6 e_7 e_8 e_9 e_10 e_11 e_12 e_13 e_14 e_15
 have hJ4 := hJm.es
 clear hJm
 go_wp2_with (refine stop_store 29 (.tmp 4) (.tmp 20) 0 b3 0 #[.int .i64 0, .int .i64 0, .bool false, .int .i64 0, .int .i64 0, .bool false, .int .i64 0, .int .i64 0, .bool false] 29 9 [.int .i64 r.x.lo, .int .i64 r.x.hi, .bool r.x.all, .int .i64 r.y.lo, .int .i64 r.y.hi, .bool r.y.all, .int .i64 r.z.lo, .int .i64 r.z.hi, .bool r.z.all] #[.int .i64 r.x.lo, .int .i64 r.x.hi, .bool r.x.all, .int .i64 r.y.lo, .int .i64 r.y.hi, .bool r.y.all, .int .i64 r.z.lo, .int .i64 r.z.hi, .bool r.z.all] [(b3, #[.int .i64 r.x.lo, .int .i64 r.x.hi, .bool r.x.all, .int .i64 r.y.lo, .int .i64 r.y.hi, .bool r.y.all, .int .i64 r.z.lo, .int .i64 r.z.hi, .bool r.z.all], 29), (b2, #[.int .i64 u.x.lo, .int .i64 u.x.hi, .bool u.x.all, .int .i64 u.y.lo, .int .i64 u.y.hi, .bool u.y.all, .int .i64 u.z.lo, .int .i64 u.z.hi, .bool u.z.all], 29), (b1, #[.int .i64 v.x.lo, .int .i64 v.x.hi, .bool v.x.all, .int .i64 v.y.lo, .int .i64 v.y.hi, .bool v.y.all, .int .i64 v.z.lo, .int .i64 v.z.hi, .bool v.z.all], 29)] rfl rfl rfl rfl sz29 hJ4 rfl rfl (Nat.le_of_ble_eq_true (by kernel_rfl)) (by kernel_rfl) (by kernel_rfl) (by kernel_rfl) (fun W5 hJ5 => ?_))
 clear hJ4
 unfold Stop
 try simp only [Act.put, List.setIfInBounds_toArray, List.set_cons_succ, List.set_cons_zero]
 have f0 : W5.cell? ⟨b3, 0, none⟩ = some (.int .i64 r.x.lo) := hJ5.cell 0 rfl 0 rfl
 have f1 : W5.cell? ⟨b3, 1, none⟩ = some (.int .i64 r.x.hi) := hJ5.cell 0 rfl 1 rfl
 have f2 : W5.cell? ⟨b3, 2, none⟩ = some (.bool r.x.all) := hJ5.cell 0 rfl 2 rfl
 have f3 : W5.cell? ⟨b3, 3, none⟩ = some (.int .i64 r.y.lo) := hJ5.cell 0 rfl 3 rfl
 have f4 : W5.cell? ⟨b3, 4, none⟩ = some (.int .i64 r.y.hi) := hJ5.cell 0 rfl 4 rfl
 have f5 : W5.cell? ⟨b3, 5, none⟩ = some (.bool r.y.all) := hJ5.cell 0 rfl 5 rfl
 have f6 : W5.cell? ⟨b3, 6, none⟩ = some (.int .i64 r.z.lo) := hJ5.cell 0 rfl 6 rfl
 have f7 : W5.cell? ⟨b3, 7, none⟩ = some (.int .i64 r.z.hi) := hJ5.cell 0 rfl 7 rfl
 have f8 : W5.cell? ⟨b3, 8, none⟩ = some (.bool r.z.all) := hJ5.cell 0 rfl 8 rfl
 go_wp2
 exact bodyPost_ret (v := .agg #[.int .i64 r.x.lo, .int .i64 r.x.hi, .bool r.x.all, .int .i64 r.y.lo, .int .i64 r.y.hi, .bool r.y.all, .int .i64 r.z.lo, .int .i64 r.z.hi, .bool r.z.all]) (by simp [results, Try.results20, go_sem, f0, f1, f2, f3, f4, f5, f6, f7, f8]) rfl ⟨rfl, hJ5.below⟩
theorem dSub_any (v u : Vc) (w : World) : Calls Try.prog 20 #[.agg #[.int .i64 v.x.lo, .int .i64 v.x.hi, .bool v.x.all, .int .i64 v.y.lo, .int .i64 v.y.hi, .bool v.y.all, .int .i64 v.z.lo, .int .i64 v.z.hi, .bool v.z.all], .agg #[.int .i64 u.x.lo, .int .i64 u.x.hi, .bool u.x.all, .int .i64 u.y.lo, .int .i64 u.y.hi, .bool u.y.all, .int .i64 u.z.lo, .int .i64 u.z.hi, .bool u.z.all]] w (PVal (.agg #[.int .i64 ((subV v u).x.lo), .int .i64 ((subV v u).x.hi), .bool ((subV v u).x.all), .int .i64 ((subV v u).y.lo), .int .i64 ((subV v u).y.hi), .bool ((subV v u).y.all), .int .i64 ((subV v u).z.lo), .int .i64 ((subV v u).z.hi), .bool ((subV v u).z.all)]) w) :=
 dSub_w v u (subV v u) (rdSub_any v.x u.x) (rdSub_any v.y u.y) (rdSub_any v.z u.z) w
set_option maxRecDepth 100000 in
set_option maxHeartbeats 12800000 in
theorem dScale_w (v r : Vc) (s : Sp) (hH0 : ∀ W : World, Calls Try.prog 56 #[.agg #[.int .i64 v.x.lo, .int .i64 v.x.hi, .bool v.x.all], .agg #[.int .i64 s.lo, .int .i64 s.hi, .bool s.all]] W (PVal (.agg #[.int .i64 r.x.lo, .int .i64 r.x.hi, .bool r.x.all]) W)) (hH1 : ∀ W : World, Calls Try.prog 56 #[.agg #[.int .i64 v.y.lo, .int .i64 v.y.hi, .bool v.y.all], .agg #[.int .i64 s.lo, .int .i64 s.hi, .bool s.all]] W (PVal (.agg #[.int .i64 r.y.lo, .int .i64 r.y.hi, .bool r.y.all]) W)) (hH2 : ∀ W : World, Calls Try.prog 56 #[.agg #[.int .i64 v.z.lo, .int .i64 v.z.hi, .bool v.z.all], .agg #[.int .i64 s.lo, .int .i64 s.hi, .bool s.all]] W (PVal (.agg #[.int .i64 r.z.lo, .int .i64 r.z.hi, .bool r.z.all]) W))  (w : World) : Calls Try.prog 21 #[.agg #[.int .i64 v.x.lo, .int .i64 v.x.hi, .bool v.x.all, .int .i64 v.y.lo, .int .i64 v.y.hi, .bool v.y.all, .int .i64 v.z.lo, .int .i64 v.z.hi, .bool v.z.all], .agg #[.int .i64 s.lo, .int .i64 s.hi, .bool s.all]] w (PVal (.agg #[.int .i64 r.x.lo, .int .i64 r.x.hi, .bool r.x.all, .int .i64 r.y.lo, .int .i64 r.y.hi, .bool r.y.all, .int .i64 r.z.lo, .int .i64 r.z.hi, .bool r.z.all]) w) := by
 have H0 := Lib.hid hH0
 have H1 := Lib.hid hH1
 have H2 := Lib.hid hH2
 clear hH0 hH1 hH2
 have hJ0 := es_nil w
 go_enter Try.func21, Try.ntmps21
 go_wp2_with (refine stop_box 29 (.tmp 0) #[.int .i64 v.x.lo, .int .i64 v.x.hi, .bool v.x.all, .int .i64 v.y.lo, .int .i64 v.y.hi, .bool v.y.all, .int .i64 v.z.lo, .int .i64 v.z.hi, .bool v.z.all] rfl rfl rfl hJ0 (fun b1 W1 hJ1 => ?_))
 clear hJ0
 unfold Stop
 try simp only [Act.put, List.setIfInBounds_toArray, List.set_cons_succ, List.set_cons_zero]
 go_wp2_with (refine stop_box 27 (.tmp 1) #[.int .i64 s.lo, .int .i64 s.hi, .bool s.all] rfl rfl rfl hJ1 (fun b2 W2 hJ2 => ?_))
 clear hJ1
 unfold Stop
 try simp only [Act.put, List.setIfInBounds_toArray, List.set_cons_succ, List.set_cons_zero]
 go_wp2_with (refine stop_alloc 29 #[.int .i64 0, .int .i64 0, .bool false, .int .i64 0, .int .i64 0, .bool false, .int .i64 0, .int .i64 0, .bool false] (.agg #[.int .i64 0, .int .i64 0, .bool false, .int .i64 0, .int .i64 0, .bool false, .int .i64 0, .int .i64 0, .bool false]) rfl rfl zv29 rfl hJ2 (fun b3 W3 hJ3 => ?_))
 clear hJ2
 unfold Stop
 try simp only [Act.put, List.setIfInBounds_toArray, List.set_cons_succ, List.set_cons_zero]
 go_wp2
 obtain ⟨m1_3, hm⟩ : ∃ m, m = W3.heap.size := ⟨_, rfl⟩
 have hM := hJ3.em
 rw [← hm] at hM
 clear hm hJ3
 refine wp_region_z 13 [some 5, some 6, some 7, some 8, some 9, some 10, some 11, some 12, some 13, some 14, some 15, some 16, some 17] (veL m1_3 [.eq (.pointer (some ⟨b1, 0, none⟩)), .eq (.agg #[.int .i64 v.x.lo, .int .i64 v.x.hi, .bool v.x.all]), .eq (.agg #[.int .i64 s.lo, .int .i64 s.hi, .bool s.all]), .eq (.agg #[.int .i64 r.x.lo, .int .i64 r.x.hi, .bool r.x.all]), .eq (.pointer (some ⟨b1, 3, none⟩)), .eq (.agg #[.int .i64 v.y.lo, .int .i64 v.y.hi, .bool v.y.all]), .eq (.agg #[.int .i64 s.lo, .int .i64 s.hi, .bool s.all]), .eq (.agg #[.int .i64 r.y.lo, .int .i64 r.y.hi, .bool r.y.all]), .eq (.pointer (some ⟨b1, 6, none⟩)), .eq (.agg #[.int .i64 v.z.lo, .int .i64 v.z.hi, .bool v.z.all]), .eq (.agg #[.int .i64 s.lo, .int .i64 s.hi, .bool s.all]), .eq (.agg #[.int .i64 r.z.lo, .int .i64 r.z.hi, .bool r.z.all]), .eq (.agg #[.int .i64 r.x.lo, .int .i64 r.x.hi, .bool r.x.all, .int .i64 r.y.lo, .int .i64 r.y.hi, .bool r.y.all, .int .i64 r.z.lo, .int .i64 r.z.hi, .bool r.z.all])]) (Em w m1_3 [(b3, #[.int .i64 0, .int .i64 0, .bool false, .int .i64 0, .int .i64 0, .bool false, .int .i64 0, .int .i64 0, .bool false], 29), (b2, #[.int .i64 s.lo, .int .i64 s.hi, .bool s.all], 27), (b1, #[.int .i64 v.x.lo, .int .i64 v.x.hi, .bool v.x.all, .int .i64 v.y.lo, .int .i64 v.y.hi, .bool v.y.all, .int .i64 v.z.lo, .int .i64 v.z.hi, .bool v.z.all], 29)]) (by kernel_rfl) (by kernel_rfl) (by rfl) (by decide) (by rfl) hM ?_ ?_
 ·
  intro i hl hi uu ww aa hJ hd hev hin
  clear hM
  obtain rfl | rfl | rfl | rfl | rfl | rfl | rfl | rfl | rfl | rfl | rfl | rfl | rfl : i = 0 ∨ i = 1 ∨ i = 2 ∨ i = 3 ∨ i = 4 ∨ i = 5 ∨ i = 6 ∨ i = 7 ∨ i = 8 ∨ i = 9 ∨ i = 10 ∨ i = 11 ∨ i = 12 := by omega
  ·
   have x2 : aa.tmps[2]? = some (.pointer (some ⟨b1, 0, none⟩)) := (hev 2 (by decide)).trans rfl
   clear hd hev hin
   simp only [List.getElem_cons_succ, List.getElem_cons_zero]
   clear hl
   refine .inr ⟨rfl, fun K' hK => ?_⟩
   have HK := Lib.hid hK
   clear hK
   go_simp
   exact HK.out (.pointer (some ⟨b1, 0, none⟩)) _ hJ rfl veL_same
  ·
   have x5 : aa.tmps[5]? = some (.pointer (some ⟨b1, 0, none⟩)) := (hin 0 5 rfl).trans (congrArg some (show uu 0 = .pointer (some ⟨b1, 0, none⟩) from hd 0 (by decide) (by kernel_rfl)))
   clear hd hev hin
   simp only [List.getElem_cons_succ, List.getElem_cons_zero]
   clear hl
   refine .inr ⟨rfl, fun K' hK => ?_⟩
   have HK := Lib.hid hK
   clear hK
   have f0 : ww.cell? ⟨b1, 0, none⟩ = some (.int .i64 v.x.lo) := hJ.es.cell 2 rfl 0 rfl
   have f1 : ww.cell? ⟨b1, 1, none⟩ = some (.int .i64 v.x.hi) := hJ.es.cell 2 rfl 1 rfl
   have f2 : ww.cell? ⟨b1, 2, none⟩ = some (.bool v.x.all) := hJ.es.cell 2 rfl 2 rfl
   go_simp
   exact HK.out (.agg #[.int .i64 v.x.lo, .int .i64 v.x.hi, .bool v.x.all]) _ hJ rfl veL_same
  ·
   have x3 : aa.tmps[3]? = some (.pointer (some ⟨b2, 0, none⟩)) := (hev 3 (by decide)).trans rfl
   clear hd hev hin
   simp only [List.getElem_cons_succ, List.getElem_cons_zero]
   clear hl
   refine .inr ⟨rfl, fun K' hK => ?_⟩
   have HK := Lib.hid hK
   clear hK
   have f0 : ww.cell? ⟨b2, 0, none⟩ = some (.int .i64 s.lo) := hJ.es.cell 1 rfl 0 rfl
   have f1 : ww.cell? ⟨b2, 1, none⟩ = some (.int .i64 s.hi) := hJ.es.cell 1 rfl 1 rfl
   have f2 : ww.cell? ⟨b2, 2, none⟩ = some (.bool s.all) := hJ.es.cell 1 rfl 2 rfl
   go_simp
   exact HK.out (.agg #[.int .i64 s.lo, .int .i64 s.hi, .bool s.all]) _ hJ rfl veL_same
  ·
   have x6 : aa.tmps[6]? = some (.agg #[.int .i64 v.x.lo, .int .i64 v.x.hi, .bool v.x.all]) := (hin 1 6 rfl).trans (congrArg some (show uu 1 = .agg #[.int .i64 v.x.lo, .int .i64 v.x.hi, .bool v.x.all] from hd 1 (by decide) (by kernel_rfl)))
   have x7 : aa.tmps[7]? = some (.agg #[.int .i64 s.lo, .int .i64 s.hi, .bool s.all]) := (hin 2 7 rfl).trans (congrArg some (show uu 2 = .agg #[.int .i64 s.lo, .int .i64 s.hi, .bool s.all] from hd 2 (by decide) (by kernel_rfl)))
   clear hd hev hin
   simp only [List.getElem_cons_succ, List.getElem_cons_zero]
   clear hl
   refine .inr ⟨rfl, fun K' hK => ?_⟩
   have HK := Lib.hid hK
   clear hK
   go_simp
   refine (H0.out ww).mono ?_
   rintro e W' ⟨rfl, hB⟩
   exact HK.out (.agg #[.int .i64 r.x.lo, .int .i64 r.x.hi, .bool r.x.all]) _ (hJ.later hB) rfl (veL_later hB)
  ·
   have x2 : aa.tmps[2]? = some (.pointer (some ⟨b1, 0, none⟩)) := (hev 2 (by decide)).trans rfl
   clear hd hev hin
   simp only [List.getElem_cons_succ, List.getElem_cons_zero]
   clear hl
   refine .inr ⟨rfl, fun K' hK => ?_⟩
   have HK := Lib.hid hK
   clear hK
   go_simp
   exact HK.out (.pointer (some ⟨b1, 3, none⟩)) _ hJ rfl veL_same
  ·
   have x9 : aa.tmps[9]? = some (.pointer (some ⟨b1, 3, none⟩)) := (hin 4 9 rfl).trans (congrArg some (show uu 4 = .pointer (some ⟨b1, 3, none⟩) from hd 4 (by decide) (by kernel_rfl)))
   clear hd hev hin
   simp only [List.getElem_cons_succ, List.getElem_cons_zero]
   clear hl
   refine .inr ⟨rfl, fun K' hK => ?_⟩
   have HK := Lib.hid hK
   clear hK
   have f0 : ww.cell? ⟨b1, 3, none⟩ = some (.int .i64 v.y.lo) := hJ.es.cell 2 rfl 3 rfl
   have f1 : ww.cell? ⟨b1, 4, none⟩ = some (.int .i64 v.y.hi) := hJ.es.cell 2 rfl 4 rfl
   have f2 : ww.cell? ⟨b1, 5, none⟩ = some (.bool v.y.all) := hJ.es.cell 2 rfl 5 rfl
   go_simp
   exact HK.out (.agg #[.int .i64 v.y.lo, .int .i64 v.y.hi, .bool v.y.all]) _ hJ rfl veL_same
  ·
   have x3 : aa.tmps[3]? = some (.pointer (some ⟨b2, 0, none⟩)) := (hev 3 (by decide)).trans rfl
   clear hd hev hin
   simp only [List.getElem_cons_succ, List.getElem_cons_zero]
   clear hl
   refine .inr ⟨rfl, fun K' hK => ?_⟩
   have HK := Lib.hid hK
   clear hK
   have f0 : ww.cell? ⟨b2, 0, none⟩ = some (.int .i64 s.lo) := hJ.es.cell 1 rfl 0 rfl
   have f1 : ww.cell? ⟨b2, 1, none⟩ = some (.int .i64 s.hi) := hJ.es.cell 1 rfl 1 rfl
   have f2 : ww.cell? ⟨b2, 2, none⟩ = some (.bool s.all) := hJ.es.cell 1 rfl 2 rfl
   go_simp
   exact HK.out (.agg #[.int .i64 s.lo, .int .i64 s.hi, .bool s.all]) _ hJ rfl veL_same
  ·
   have x10 : aa.tmps[10]? = some (.agg #[.int .i64 v.y.lo, .int .i64 v.y.hi, .bool v.y.all]) := (hin 5 10 rfl).trans (congrArg some (show uu 5 = .agg #[.int .i64 v.y.lo, .int .i64 v.y.hi, .bool v.y.all] from hd 5 (by decide) (by kernel_rfl)))
   have x11 : aa.tmps[11]? = some (.agg #[.int .i64 s.lo, .int .i64 s.hi, .bool s.all]) := (hin 6 11 rfl).trans (congrArg some (show uu 6 = .agg #[.int .i64 s.lo, .int .i64 s.hi, .bool s.all] from hd 6 (by decide) (by kernel_rfl)))
   clear hd hev hin
   simp only [List.getElem_cons_succ, List.getElem_cons_zero]
   clear hl
   refine .inr ⟨rfl, fun K' hK => ?_⟩
   have HK := Lib.hid hK
   clear hK
   go_simp
   refine (H1.out ww).mono ?_
   rintro e W' ⟨rfl, hB⟩
   exact HK.out (.agg #[.int .i64 r.y.lo, .int .i64 r.y.hi, .bool r.y.all]) _ (hJ.later hB) rfl (veL_later hB)
  ·
   have x2 : aa.tmps[2]? = some (.pointer (some ⟨b1, 0, none⟩)) := (hev 2 (by decide)).trans rfl
   clear hd hev hin
   simp only [List.getElem_cons_succ, List.getElem_cons_zero]
   clear hl
   refine .inr ⟨rfl, fun K' hK => ?_⟩
   have HK := Lib.hid hK
   clear hK
   go_simp
   exact HK.out (.pointer (some ⟨b1, 6, none⟩)) _ hJ rfl veL_same
  ·
   have x13 : aa.tmps[13]? = some (.pointer (some ⟨b1, 6, none⟩)) := (hin 8 13 rfl).trans (congrArg some (show uu 8 = .pointer (some ⟨b1, 6, none⟩) from hd 8 (by decide) (by kernel_rfl)))
   clear hd hev hin
   simp only [List.getElem_cons_succ, List.getElem_cons_zero]
   clear hl
   refine .inr ⟨rfl, fun K' hK => ?_⟩
   have HK := Lib.hid hK
   clear hK
   have f0 : ww.cell? ⟨b1, 6, none⟩ = some (.int .i64 v.z.lo) := hJ.es.cell 2 rfl 6 rfl
   have f1 : ww.cell? ⟨b1, 7, none⟩ = some (.int .i64 v.z.hi) := hJ.es.cell 2 rfl 7 rfl
   have f2 : ww.cell? ⟨b1, 8, none⟩ = some (.bool v.z.all) := hJ.es.cell 2 rfl 8 rfl
   go_simp
   exact HK.out (.agg #[.int .i64 v.z.lo, .int .i64 v.z.hi, .bool v.z.all]) _ hJ rfl veL_same
  ·
   have x3 : aa.tmps[3]? = some (.pointer (some ⟨b2, 0, none⟩)) := (hev 3 (by decide)).trans rfl
   clear hd hev hin
   simp only [List.getElem_cons_succ, List.getElem_cons_zero]
   clear hl
   refine .inr ⟨rfl, fun K' hK => ?_⟩
   have HK := Lib.hid hK
   clear hK
   have f0 : ww.cell? ⟨b2, 0, none⟩ = some (.int .i64 s.lo) := hJ.es.cell 1 rfl 0 rfl
   have f1 : ww.cell? ⟨b2, 1, none⟩ = some (.int .i64 s.hi) := hJ.es.cell 1 rfl 1 rfl
   have f2 : ww.cell? ⟨b2, 2, none⟩ = some (.bool s.all) := hJ.es.cell 1 rfl 2 rfl
   go_simp
   exact HK.out (.agg #[.int .i64 s.lo, .int .i64 s.hi, .bool s.all]) _ hJ rfl veL_same
  ·
   have x14 : aa.tmps[14]? = some (.agg #[.int .i64 v.z.lo, .int .i64 v.z.hi, .bool v.z.all]) := (hin 9 14 rfl).trans (congrArg some (show uu 9 = .agg #[.int .i64 v.z.lo, .int .i64 v.z.hi, .bool v.z.all] from hd 9 (by decide) (by kernel_rfl)))
   have x15 : aa.tmps[15]? = some (.agg #[.int .i64 s.lo, .int .i64 s.hi, .bool s.all]) := (hin 10 15 rfl).trans (congrArg some (show uu 10 = .agg #[.int .i64 s.lo, .int .i64 s.hi, .bool s.all] from hd 10 (by decide) (by kernel_rfl)))
   clear hd hev hin
   simp only [List.getElem_cons_succ, List.getElem_cons_zero]
   clear hl
   refine .inr ⟨rfl, fun K' hK => ?_⟩
   have HK := Lib.hid hK
   clear hK
   go_simp
   refine (H2.out ww).mono ?_
   rintro e W' ⟨rfl, hB⟩
   exact HK.out (.agg #[.int .i64 r.z.lo, .int .i64 r.z.hi, .bool r.z.all]) _ (hJ.later hB) rfl (veL_later hB)
  ·
   have x8 : aa.tmps[8]? = some (.agg #[.int .i64 r.x.lo, .int .i64 r.x.hi, .bool r.x.all]) := (hin 3 8 rfl).trans (congrArg some (show uu 3 = .agg #[.int .i64 r.x.lo, .int .i64 r.x.hi, .bool r.x.all] from hd 3 (by decide) (by kernel_rfl)))
   have x12 : aa.tmps[12]? = some (.agg #[.int .i64 r.y.lo, .int .i64 r.y.hi, .bool r.y.all]) := (hin 7 12 rfl).trans (congrArg some (show uu 7 = .agg #[.int .i64 r.y.lo, .int .i64 r.y.hi, .bool r.y.all] from hd 7 (by decide) (by kernel_rfl)))
   have x16 : aa.tmps[16]? = some (.agg #[.int .i64 r.z.lo, .int .i64 r.z.hi, .bool r.z.all]) := (hin 11 16 rfl).trans (congrArg some (show uu 11 = .agg #[.int .i64 r.z.lo, .int .i64 r.z.hi, .bool r.z.all] from hd 11 (by decide) (by kernel_rfl)))
   clear hd hev hin
   simp only [List.getElem_cons_succ, List.getElem_cons_zero]
   clear hl
   refine .inr ⟨rfl, fun K' hK => ?_⟩
   have HK := Lib.hid hK
   clear hK
   go_simp
   exact HK.out (.agg #[.int .i64 r.x.lo, .int .i64 r.x.hi, .bool r.x.all, .int .i64 r.y.lo, .int .i64 r.y.hi, .bool r.y.all, .int .i64 r.z.lo, .int .i64 r.z.hi, .bool r.z.all]) _ hJ rfl veL_same
 clear hM
 intro uu W4 hJm hd
 have e_0 : uu 0 = .pointer (some ⟨b1, 0, none⟩) := hd 0 (by decide)
 have e_1 : uu 1 = .agg #[.int .i64 v.x.lo, .int .i64 v.x.hi, .bool v.x.all] := hd 1 (by decide)
 have e_2 : uu 2 = .agg #[.int .i64 s.lo, .int .i64 s.hi, .bool s.all] := hd 2 (by decide)
 have e_3 : uu 3 = .agg #[.int .i64 r.x.lo, .int .i64 r.x.hi, .bool r.x.all] := hd 3 (by decide)
 have e_4 : uu 4 = .pointer (some ⟨b1, 3, none⟩) := hd 4 (by decide)
 have e_5 : uu 5 = .agg #[.int .i64 v.y.lo, .int .i64 v.y.hi, .bool v.y.all] := hd 5 (by decide)
 have e_6 : uu 6 = .agg #[.int .i64 s.lo, .int .i64 s.hi, .bool s.all] := hd 6 (by decide)
 have e_7 : uu 7 = .agg #[.int .i64 r.y.lo, .int .i64 r.y.hi, .bool r.y.all] := hd 7 (by decide)
 have e_8 : uu 8 = .pointer (some ⟨b1, 6, none⟩) := hd 8 (by decide)
 have e_9 : uu 9 = .agg #[.int .i64 v.z.lo, .int .i64 v.z.hi, .bool v.z.all] := hd 9 (by decide)
 have e_10 : uu 10 = .agg #[.int .i64 s.lo, .int .i64 s.hi, .bool s.all] := hd 10 (by decide)
 have e_11 : uu 11 = .agg #[.int .i64 r.z.lo, .int .i64 r.z.hi, .bool r.z.all] := hd 11 (by decide)
 have e_12 : uu 12 = .agg #[.int .i64 r.x.lo, .int .i64 r.x.hi, .bool r.x.all, .int .i64 r.y.lo, .int .i64 r.y.hi, .bool r.y.all, .int .i64 r.z.lo, .int .i64 r.z.hi, .bool r.z.all] := hd 12 (by decide)
 clear hd
 simp only [layS, Act.put, List.setIfInBounds_toArray, List.set_cons_succ, List.set_cons_zero, Nat.zero_add, Nat.reduceAdd, List.drop_succ_cons, List.drop_zero, List.drop_nil, e_0, e_1, e_2, e_3, e_4, e_5, e_6, e_7, e_8, e_9, e_10, e_11, e_12]
 clear e_0 e_1 e_2 e_3 e_4 e_5 e_6 e_7 e_8 e_9 e_10 e_11 e_12
 have hJ4 := hJm.es
 clear hJm
 go_wp2_with (refine stop_store 29 (.tmp 4) (.tmp 17) 0 b3 0 #[.int .i64 0, .int .i64 0, .bool false, .int .i64 0, .int .i64 0, .bool false, .int .i64 0, .int .i64 0, .bool false] 29 9 [.int .i64 r.x.lo, .int .i64 r.x.hi, .bool r.x.all, .int .i64 r.y.lo, .int .i64 r.y.hi, .bool r.y.all, .int .i64 r.z.lo, .int .i64 r.z.hi, .bool r.z.all] #[.int .i64 r.x.lo, .int .i64 r.x.hi, .bool r.x.all, .int .i64 r.y.lo, .int .i64 r.y.hi, .bool r.y.all, .int .i64 r.z.lo, .int .i64 r.z.hi, .bool r.z.all] [(b3, #[.int .i64 r.x.lo, .int .i64 r.x.hi, .bool r.x.all, .int .i64 r.y.lo, .int .i64 r.y.hi, .bool r.y.all, .int .i64 r.z.lo, .int .i64 r.z.hi, .bool r.z.all], 29), (b2, #[.int .i64 s.lo, .int .i64 s.hi, .bool s.all], 27), (b1, #[.int .i64 v.x.lo, .int .i64 v.x.hi, .bool v.x.all, .int .i64 v.y.lo, .int .i64 v.y.hi, .bool v.y.all, .int .i64 v.z.lo, .int .i64 v.z.hi, .bool v.z.all], 29)] rfl rfl rfl rfl sz29 hJ4 rfl rfl (Nat.le_of_ble_eq_true (by kernel_rfl)) (by kernel_rfl) (by kernel_rfl) (by kernel_rfl) (fun W5 hJ5 => ?_))
 clear hJ4
 unfold Stop
 try simp only [Act.put, List.setIfInBounds_toArray, List.set_cons_succ, List.set_cons_zero]
 have f0 : W5.cell? ⟨b3, 0, none⟩ = some (.int .i64 r.x.lo) := hJ5.cell 0 rfl 0 rfl
 have f1 : W5.cell? ⟨b3, 1, none⟩ = some (.int .i64 r.x.hi) := hJ5.cell 0 rfl 1 rfl
 have f2 : W5.cell? ⟨b3, 2, none⟩ = some (.bool r.x.all) := hJ5.cell 0 rfl 2 rfl
 have f3 : W5.cell? ⟨b3, 3, none⟩ = some (.int .i64 r.y.lo) := hJ5.cell 0 rfl 3 rfl
 have f4 : W5.cell? ⟨b3, 4, none⟩ = some (.int .i64 r.y.hi) := hJ5.cell 0 rfl 4 rfl
 have f5 : W5.cell? ⟨b3, 5, none⟩ = some (.bool r.y.all) := hJ5.cell 0 rfl 5 rfl
 have f6 : W5.cell? ⟨b3, 6, none⟩ = some (.int .i64 r.z.lo) := hJ5.cell 0 rfl 6 rfl
 have f7 : W5.cell? ⟨b3, 7, none⟩ = some (.int .i64 r.z.hi) := hJ5.cell 0 rfl 7 rfl
 have f8 : W5.cell? ⟨b3, 8, none⟩ = some (.bool r.z.all) := hJ5.cell 0 rfl 8 rfl
 go_wp2
 exact bodyPost_ret (v := .agg #[.int .i64 r.x.lo, .int .i64 r.x.hi, .bool r.x.all, .int .i64 r.y.lo, .int .i64 r.y.hi, .bool r.y.all, .int .i64 r.z.lo, .int .i64 r.z.hi, .bool r.z.all]) (by simp [results, Try.results21, go_sem, f0, f1, f2, f3, f4, f5, f6, f7, f8]) rfl ⟨rfl, hJ5.below⟩
theorem dScale_any (v : Vc) (s : Sp) (w : World) : Calls Try.prog 21 #[.agg #[.int .i64 v.x.lo, .int .i64 v.x.hi, .bool v.x.all, .int .i64 v.y.lo, .int .i64 v.y.hi, .bool v.y.all, .int .i64 v.z.lo, .int .i64 v.z.hi, .bool v.z.all], .agg #[.int .i64 s.lo, .int .i64 s.hi, .bool s.all]] w (PVal (.agg #[.int .i64 ((scaV v s).x.lo), .int .i64 ((scaV v s).x.hi), .bool ((scaV v s).x.all), .int .i64 ((scaV v s).y.lo), .int .i64 ((scaV v s).y.hi), .bool ((scaV v s).y.all), .int .i64 ((scaV v s).z.lo), .int .i64 ((scaV v s).z.hi), .bool ((scaV v s).z.all)]) w) :=
 dScale_w v (scaV v s) s (rdMul_any v.x s) (rdMul_any v.y s) (rdMul_any v.z s) w
set_option maxRecDepth 100000 in
set_option maxHeartbeats 12800000 in
theorem dDot_w (v u p : Vc) (q r : Sp) (hH0 : ∀ W : World, Calls Try.prog 56 #[.agg #[.int .i64 v.x.lo, .int .i64 v.x.hi, .bool v.x.all], .agg #[.int .i64 u.x.lo, .int .i64 u.x.hi, .bool u.x.all]] W (PVal (.agg #[.int .i64 p.x.lo, .int .i64 p.x.hi, .bool p.x.all]) W)) (hH1 : ∀ W : World, Calls Try.prog 56 #[.agg #[.int .i64 v.y.lo, .int .i64 v.y.hi, .bool v.y.all], .agg #[.int .i64 u.y.lo, .int .i64 u.y.hi, .bool u.y.all]] W (PVal (.agg #[.int .i64 p.y.lo, .int .i64 p.y.hi, .bool p.y.all]) W)) (hH2 : ∀ W : World, Calls Try.prog 56 #[.agg #[.int .i64 v.z.lo, .int .i64 v.z.hi, .bool v.z.all], .agg #[.int .i64 u.z.lo, .int .i64 u.z.hi, .bool u.z.all]] W (PVal (.agg #[.int .i64 p.z.lo, .int .i64 p.z.hi, .bool p.z.all]) W)) (hHs : ∀ W : World, Calls Try.prog 54 #[.agg #[.int .i64 p.x.lo, .int .i64 p.x.hi, .bool p.x.all], .agg #[.int .i64 p.y.lo, .int .i64 p.y.hi, .bool p.y.all]] W (PVal (.agg #[.int .i64 q.lo, .int .i64 q.hi, .bool q.all]) W)) (hHt : ∀ W : World, Calls Try.prog 54 #[.agg #[.int .i64 q.lo, .int .i64 q.hi, .bool q.all], .agg #[.int .i64 p.z.lo, .int .i64 p.z.hi, .bool p.z.all]] W (PVal (.agg #[.int .i64 r.lo, .int .i64 r.hi, .bool r.all]) W))  (w : World) : Calls Try.prog 22 #[.agg #[.int .i64 v.x.lo, .int .i64 v.x.hi, .bool v.x.all, .int .i64 v.y.lo, .int .i64 v.y.hi, .bool v.y.all, .int .i64 v.z.lo, .int .i64 v.z.hi, .bool v.z.all], .agg #[.int .i64 u.x.lo, .int .i64 u.x.hi, .bool u.x.all, .int .i64 u.y.lo, .int .i64 u.y.hi, .bool u.y.all, .int .i64 u.z.lo, .int .i64 u.z.hi, .bool u.z.all]] w (PVal (.agg #[.int .i64 r.lo, .int .i64 r.hi, .bool r.all]) w) := by
 have H0 := Lib.hid hH0
 have H1 := Lib.hid hH1
 have H2 := Lib.hid hH2
 have Hs := Lib.hid hHs
 have Ht := Lib.hid hHt
 clear hH0 hH1 hH2 hHs hHt
 have hJ0 := es_nil w
 go_enter Try.func22, Try.ntmps22
 go_wp2_with (refine stop_box 29 (.tmp 0) #[.int .i64 v.x.lo, .int .i64 v.x.hi, .bool v.x.all, .int .i64 v.y.lo, .int .i64 v.y.hi, .bool v.y.all, .int .i64 v.z.lo, .int .i64 v.z.hi, .bool v.z.all] rfl rfl rfl hJ0 (fun b1 W1 hJ1 => ?_))
 clear hJ0
 unfold Stop
 try simp only [Act.put, List.setIfInBounds_toArray, List.set_cons_succ, List.set_cons_zero]
 go_wp2_with (refine stop_box 29 (.tmp 1) #[.int .i64 u.x.lo, .int .i64 u.x.hi, .bool u.x.all, .int .i64 u.y.lo, .int .i64 u.y.hi, .bool u.y.all, .int .i64 u.z.lo, .int .i64 u.z.hi, .bool u.z.all] rfl rfl rfl hJ1 (fun b2 W2 hJ2 => ?_))
 clear hJ1
 unfold Stop
 try simp only [Act.put, List.setIfInBounds_toArray, List.set_cons_succ, List.set_cons_zero]
 go_wp2_with (refine stop_alloc 27 #[.int .i64 0, .int .i64 0, .bool false] (.agg #[.int .i64 0, .int .i64 0, .bool false]) rfl rfl zv27 rfl hJ2 (fun b3 W3 hJ3 => ?_))
 clear hJ2
 unfold Stop
 try simp only [Act.put, List.setIfInBounds_toArray, List.set_cons_succ, List.set_cons_zero]
 go_wp2
 obtain ⟨m1_3, hm⟩ : ∃ m, m = W3.heap.size := ⟨_, rfl⟩
 have hM := hJ3.em
 rw [← hm] at hM
 clear hm hJ3
 refine wp_region_z 17 [some 5, some 6, some 7, some 8, some 9, some 10, some 11, some 12, some 13, some 14, some 15, some 16, some 17, some 18, some 19, some 20, some 21] (veL m1_3 [.eq (.pointer (some ⟨b1, 0, none⟩)), .eq (.agg #[.int .i64 v.x.lo, .int .i64 v.x.hi, .bool v.x.all]), .eq (.pointer (some ⟨b2, 0, none⟩)), .eq (.agg #[.int .i64 u.x.lo, .int .i64 u.x.hi, .bool u.x.all]), .eq (.agg #[.int .i64 p.x.lo, .int .i64 p.x.hi, .bool p.x.all]), .eq (.pointer (some ⟨b1, 3, none⟩)), .eq (.agg #[.int .i64 v.y.lo, .int .i64 v.y.hi, .bool v.y.all]), .eq (.pointer (some ⟨b2, 3, none⟩)), .eq (.agg #[.int .i64 u.y.lo, .int .i64 u.y.hi, .bool u.y.all]), .eq (.agg #[.int .i64 p.y.lo, .int .i64 p.y.hi, .bool p.y.all]), .eq (.agg #[.int .i64 q.lo, .int .i64 q.hi, .bool q.all]), .eq (.pointer (some ⟨b1, 6, none⟩)), .eq (.agg #[.int .i64 v.z.lo, .int .i64 v.z.hi, .bool v.z.all]), .eq (.pointer (some ⟨b2, 6, none⟩)), .eq (.agg #[.int .i64 u.z.lo, .int .i64 u.z.hi, .bool u.z.all]), .eq (.agg #[.int .i64 p.z.lo, .int .i64 p.z.hi, .bool p.z.all]), .eq (.agg #[.int .i64 r.lo, .int .i64 r.hi, .bool r.all])]) (Em w m1_3 [(b3, #[.int .i64 0, .int .i64 0, .bool false], 27), (b2, #[.int .i64 u.x.lo, .int .i64 u.x.hi, .bool u.x.all, .int .i64 u.y.lo, .int .i64 u.y.hi, .bool u.y.all, .int .i64 u.z.lo, .int .i64 u.z.hi, .bool u.z.all], 29), (b1, #[.int .i64 v.x.lo, .int .i64 v.x.hi, .bool v.x.all, .int .i64 v.y.lo, .int .i64 v.y.hi, .bool v.y.all, .int .i64 v.z.lo, .int .i64 v.z.hi, .bool v.z.all], 29)]) (by kernel_rfl) (by kernel_rfl) (by rfl) (by decide) (by rfl) hM ?_ ?_
 ·
  intro i hl hi uu ww aa hJ hd hev hin
  clear hM
  obtain rfl | rfl | rfl | rfl | rfl | rfl | rfl | rfl | rfl | rfl | rfl | rfl | rfl | rfl | rfl | rfl | rfl : i = 0 ∨ i = 1 ∨ i = 2 ∨ i = 3 ∨ i = 4 ∨ i = 5 ∨ i = 6 ∨ i = 7 ∨ i = 8 ∨ i = 9 ∨ i = 10 ∨ i = 11 ∨ i = 12 ∨ i = 13 ∨ i = 14 ∨ i = 15 ∨ i = 16 := by omega
  ·
   have x2 : aa.tmps[2]? = some (.pointer (some ⟨b1, 0, none⟩)) := (hev 2 (by decide)).trans rfl
   clear hd hev hin
   simp only [List.getElem_cons_succ, List.getElem_cons_zero]
   clear hl
   refine .inr ⟨rfl, fun K' hK => ?_⟩
   have HK := Lib.hid hK
   clear hK
   go_simp
   exact HK.out (.pointer (some ⟨b1, 0, none⟩)) _ hJ rfl veL_same
  ·
   have x5 : aa.tmps[5]? = some (.pointer (some ⟨b1, 0, none⟩)) := (hin 0 5 rfl).trans (congrArg some (show uu 0 = .pointer (some ⟨b1, 0, none⟩) from hd 0 (by decide) (by kernel_rfl)))
   clear hd hev hin
   simp only [List.getElem_cons_succ, List.getElem_cons_zero]
   clear hl
   refine .inr ⟨rfl, fun K' hK => ?_⟩
   have HK := Lib.hid hK
   clear hK
   have f0 : ww.cell? ⟨b1, 0, none⟩ = some (.int .i64 v.x.lo) := hJ.es.cell 2 rfl 0 rfl
   have f1 : ww.cell? ⟨b1, 1, none⟩ = some (.int .i64 v.x.hi) := hJ.es.cell 2 rfl 1 rfl
   have f2 : ww.cell? ⟨b1, 2, none⟩ = some (.bool v.x.all) := hJ.es.cell 2 rfl 2 rfl
   go_simp
   exact HK.out (.agg #[.int .i64 v.x.lo, .int .i64 v.x.hi, .bool v.x.all]) _ hJ rfl veL_same
  ·
   have x3 : aa.tmps[3]? = some (.pointer (some ⟨b2, 0, none⟩)) := (hev 3 (by decide)).trans rfl
   clear hd hev hin
   simp only [List.getElem_cons_succ, List.getElem_cons_zero]
   clear hl
   refine .inr ⟨rfl, fun K' hK => ?_⟩
   have HK := Lib.hid hK
   clear hK
   go_simp
   exact HK.out (.pointer (some ⟨b2, 0, none⟩)) _ hJ rfl veL_same
  ·
   have x7 : aa.tmps[7]? = some (.pointer (some ⟨b2, 0, none⟩)) := (hin 2 7 rfl).trans (congrArg some (show uu 2 = .pointer (some ⟨b2, 0, none⟩) from hd 2 (by decide) (by kernel_rfl)))
   clear hd hev hin
   simp only [List.getElem_cons_succ, List.getElem_cons_zero]
   clear hl
   refine .inr ⟨rfl, fun K' hK => ?_⟩
   have HK := Lib.hid hK
   clear hK
   have f0 : ww.cell? ⟨b2, 0, none⟩ = some (.int .i64 u.x.lo) := hJ.es.cell 1 rfl 0 rfl
   have f1 : ww.cell? ⟨b2, 1, none⟩ = some (.int .i64 u.x.hi) := hJ.es.cell 1 rfl 1 rfl
   have f2 : ww.cell? ⟨b2, 2, none⟩ = some (.bool u.x.all) := hJ.es.cell 1 rfl 2 rfl
   go_simp
   exact HK.out (.agg #[.int .i64 u.x.lo, .int .i64 u.x.hi, .bool u.x.all]) _ hJ rfl veL_same
  ·
   have x6 : aa.tmps[6]? = some (.agg #[.int .i64 v.x.lo, .int .i64 v.x.hi, .bool v.x.all]) := (hin 1 6 rfl).trans (congrArg some (show uu 1 = .agg #[.int .i64 v.x.lo, .int .i64 v.x.hi, .bool v.x.all] from hd 1 (by decide) (by kernel_rfl)))
   have x8 : aa.tmps[8]? = some (.agg #[.int .i64 u.x.lo, .int .i64 u.x.hi, .bool u.x.all]) := (hin 3 8 rfl).trans (congrArg some (show uu 3 = .agg #[.int .i64 u.x.lo, .int .i64 u.x.hi, .bool u.x.all] from hd 3 (by decide) (by kernel_rfl)))
   clear hd hev hin
   simp only [List.getElem_cons_succ, List.getElem_cons_zero]
   clear hl
   refine .inr ⟨rfl, fun K' hK => ?_⟩
   have HK := Lib.hid hK
   clear hK
   go_simp
   refine (H0.out ww).mono ?_
   rintro e W' ⟨rfl, hB⟩
   exact HK.out (.agg #[.int .i64 p.x.lo, .int .i64 p.x.hi, .bool p.x.all]) _ (hJ.later hB) rfl (veL_later hB)
  ·
   have x2 : aa.tmps[2]? = some (.pointer (some ⟨b1, 0, none⟩)) := (hev 2 (by decide)).trans rfl
   clear hd hev hin
   simp only [List.getElem_cons_succ, List.getElem_cons_zero]
   clear hl
   refine .inr ⟨rfl, fun K' hK => ?_⟩
   have HK := Lib.hid hK
   clear hK
   go_simp
   exact HK.out (.pointer (some ⟨b1, 3, none⟩)) _ hJ rfl veL_same
  ·
   have x10 : aa.tmps[10]? = some (.pointer (some ⟨b1, 3, none⟩)) := (hin 5 10 rfl).trans (congrArg some (show uu 5 = .pointer (some ⟨b1, 3, none⟩) from hd 5 (by decide) (by kernel_rfl)))
   clear hd hev hin
   simp only [List.getElem_cons_succ, List.getElem_cons_zero]
   clear hl
   refine .inr ⟨rfl, fun K' hK => ?_⟩
   have HK := Lib.hid hK
   clear hK
   have f0 : ww.cell? ⟨b1, 3, none⟩ = some (.int .i64 v.y.lo) := hJ.es.cell 2 rfl 3 rfl
   have f1 : ww.cell? ⟨b1, 4, none⟩ = some (.int .i64 v.y.hi) := hJ.es.cell 2 rfl 4 rfl
   have f2 : ww.cell? ⟨b1, 5, none⟩ = some (.bool v.y.all) := hJ.es.cell 2 rfl 5 rfl
   go_simp
   exact HK.out (.agg #[.int .i64 v.y.lo, .int .i64 v.y.hi, .bool v.y.all]) _ hJ rfl veL_same
  ·
   have x3 : aa.tmps[3]? = some (.pointer (some ⟨b2, 0, none⟩)) := (hev 3 (by decide)).trans rfl
   clear hd hev hin
   simp only [List.getElem_cons_succ, List.getElem_cons_zero]
   clear hl
   refine .inr ⟨rfl, fun K' hK => ?_⟩
   have HK := Lib.hid hK
   clear hK
   go_simp
   exact HK.out (.pointer (some ⟨b2, 3, none⟩)) _ hJ rfl veL_same
  ·
   have x12 : aa.tmps[12]? = some (.pointer (some ⟨b2, 3, none⟩)) := (hin 7 12 rfl).trans (congrArg some (show uu 7 = .pointer (some ⟨b2, 3, none⟩) from hd 7 (by decide) (by kernel_rfl)))
   clear hd hev hin
   simp only [List.getElem_cons_succ, List.getElem_cons_zero]
   clear hl
   refine .inr ⟨rfl, fun K' hK => ?_⟩
   have HK := Lib.hid hK
   clear hK
   have f0 : ww.cell? ⟨b2, 3, none⟩ = some (.int .i64 u.y.lo) := hJ.es.cell 1 rfl 3 rfl
   have f1 : ww.cell? ⟨b2, 4, none⟩ = some (.int .i64 u.y.hi) := hJ.es.cell 1 rfl 4 rfl
   have f2 : ww.cell? ⟨b2, 5, none⟩ = some (.bool u.y.all) := hJ.es.cell 1 rfl 5 rfl
   go_simp
   exact HK.out (.agg #[.int .i64 u.y.lo, .int .i64 u.y.hi, .bool u.y.all]) _ hJ rfl veL_same
  ·
   have x11 : aa.tmps[11]? = some (.agg #[.int .i64 v.y.lo, .int .i64 v.y.hi, .bool v.y.all]) := (hin 6 11 rfl).trans (congrArg some (show uu 6 = .agg #[.int .i64 v.y.lo, .int .i64 v.y.hi, .bool v.y.all] from hd 6 (by decide) (by kernel_rfl)))
   have x13 : aa.tmps[13]? = some (.agg #[.int .i64 u.y.lo, .int .i64 u.y.hi, .bool u.y.all]) := (hin 8 13 rfl).trans (congrArg some (show uu 8 = .agg #[.int .i64 u.y.lo, .int .i64 u.y.hi, .bool u.y.all] from hd 8 (by decide) (by kernel_rfl)))
   clear hd hev hin
   simp only [List.getElem_cons_succ, List.getElem_cons_zero]
   clear hl
   refine .inr ⟨rfl, fun K' hK => ?_⟩
   have HK := Lib.hid hK
   clear hK
   go_simp
   refine (H1.out ww).mono ?_
   rintro e W' ⟨rfl, hB⟩
   exact HK.out (.agg #[.int .i64 p.y.lo, .int .i64 p.y.hi, .bool p.y.all]) _ (hJ.later hB) rfl (veL_later hB)
  ·
   have x9 : aa.tmps[9]? = some (.agg #[.int .i64 p.x.lo, .int .i64 p.x.hi, .bool p.x.all]) := (hin 4 9 rfl).trans (congrArg some (show uu 4 = .agg #[.int .i64 p.x.lo, .int .i64 p.x.hi, .bool p.x.all] from hd 4 (by decide) (by kernel_rfl)))
   have x14 : aa.tmps[14]? = some (.agg #[.int .i64 p.y.lo, .int .i64 p.y.hi, .bool p.y.all]) := (hin 9 14 rfl).trans (congrArg some (show uu 9 = .agg #[.int .i64 p.y.lo, .int .i64 p.y.hi, .bool p.y.all] from hd 9 (by decide) (by kernel_rfl)))
   clear hd hev hin
   simp only [List.getElem_cons_succ, List.getElem_cons_zero]
   clear hl
   refine .inr ⟨rfl, fun K' hK => ?_⟩
   have HK := Lib.hid hK
   clear hK
   go_simp
   refine (Hs.out ww).mono ?_
   rintro e W' ⟨rfl, hB⟩
   exact HK.out (.agg #[.int .i64 q.lo, .int .i64 q.hi, .bool q.all]) _ (hJ.later hB) rfl (veL_later hB)
  ·
   have x2 : aa.tmps[2]? = some (.pointer (some ⟨b1, 0, none⟩)) := (hev 2 (by decide)).trans rfl
   clear hd hev hin
   simp only [List.getElem_cons_succ, List.getElem_cons_zero]
   clear hl
   refine .inr ⟨rfl, fun K' hK => ?_⟩
   have HK := Lib.hid hK
   clear hK
   go_simp
   exact HK.out (.pointer (some ⟨b1, 6, none⟩)) _ hJ rfl veL_same
  ·
   have x16 : aa.tmps[16]? = some (.pointer (some ⟨b1, 6, none⟩)) := (hin 11 16 rfl).trans (congrArg some (show uu 11 = .pointer (some ⟨b1, 6, none⟩) from hd 11 (by decide) (by kernel_rfl)))
   clear hd hev hin
   simp only [List.getElem_cons_succ, List.getElem_cons_zero]
   clear hl
   refine .inr ⟨rfl, fun K' hK => ?_⟩
   have HK := Lib.hid hK
   clear hK
   have f0 : ww.cell? ⟨b1, 6, none⟩ = some (.int .i64 v.z.lo) := hJ.es.cell 2 rfl 6 rfl
   have f1 : ww.cell? ⟨b1, 7, none⟩ = some (.int .i64 v.z.hi) := hJ.es.cell 2 rfl 7 rfl
   have f2 : ww.cell? ⟨b1, 8, none⟩ = some (.bool v.z.all) := hJ.es.cell 2 rfl 8 rfl
   go_simp
   exact HK.out (.agg #[.int .i64 v.z.lo, .int .i64 v.z.hi, .bool v.z.all]) _ hJ rfl veL_same
  ·
   have x3 : aa.tmps[3]? = some (.pointer (some ⟨b2, 0, none⟩)) := (hev 3 (by decide)).trans rfl
   clear hd hev hin
   simp only [List.getElem_cons_succ, List.getElem_cons_zero]
   clear hl
   refine .inr ⟨rfl, fun K' hK => ?_⟩
   have HK := Lib.hid hK
   clear hK
   go_simp
   exact HK.out (.pointer (some ⟨b2, 6, none⟩)) _ hJ rfl veL_same
  ·
   have x18 : aa.tmps[18]? = some (.pointer (some ⟨b2, 6, none⟩)) := (hin 13 18 rfl).trans (congrArg some (show uu 13 = .pointer (some ⟨b2, 6, none⟩) from hd 13 (by decide) (by kernel_rfl)))
   clear hd hev hin
   simp only [List.getElem_cons_succ, List.getElem_cons_zero]
   clear hl
   refine .inr ⟨rfl, fun K' hK => ?_⟩
   have HK := Lib.hid hK
   clear hK
   have f0 : ww.cell? ⟨b2, 6, none⟩ = some (.int .i64 u.z.lo) := hJ.es.cell 1 rfl 6 rfl
   have f1 : ww.cell? ⟨b2, 7, none⟩ = some (.int .i64 u.z.hi) := hJ.es.cell 1 rfl 7 rfl
   have f2 : ww.cell? ⟨b2, 8, none⟩ = some (.bool u.z.all) := hJ.es.cell 1 rfl 8 rfl
   go_simp
   exact HK.out (.agg #[.int .i64 u.z.lo, .int .i64 u.z.hi, .bool u.z.all]) _ hJ rfl veL_same
  ·
   have x17 : aa.tmps[17]? = some (.agg #[.int .i64 v.z.lo, .int .i64 v.z.hi, .bool v.z.all]) := (hin 12 17 rfl).trans (congrArg some (show uu 12 = .agg #[.int .i64 v.z.lo, .int .i64 v.z.hi, .bool v.z.all] from hd 12 (by decide) (by kernel_rfl)))
   have x19 : aa.tmps[19]? = some (.agg #[.int .i64 u.z.lo, .int .i64 u.z.hi, .bool u.z.all]) := (hin 14 19 rfl).trans (congrArg some (show uu 14 = .agg #[.int .i64 u.z.lo, .int .i64 u.z.hi, .bool u.z.all] from hd 14 (by decide) (by kernel_rfl)))
   clear hd hev hin
   simp only [List.getElem_cons_succ, List.getElem_cons_zero]
   clear hl
   refine .inr ⟨rfl, fun K' hK => ?_⟩
   have HK := Lib.hid hK
   clear hK
   go_simp
   refine (H2.out ww).mono ?_
   rintro e W' ⟨rfl, hB⟩
   exact HK.out (.agg #[.int .i64 p.z.lo, .int .i64 p.z.hi, .bool p.z.all]) _ (hJ.later hB) rfl (veL_later hB)
  ·
   have x15 : aa.tmps[15]? = some (.agg #[.int .i64 q.lo, .int .i64 q.hi, .bool q.all]) := (hin 10 15 rfl).trans (congrArg some (show uu 10 = .agg #[.int .i64 q.lo, .int .i64 q.hi, .bool q.all] from hd 10 (by decide) (by kernel_rfl)))
   have x20 : aa.tmps[20]? = some (.agg #[.int .i64 p.z.lo, .int .i64 p.z.hi, .bool p.z.all]) := (hin 15 20 rfl).trans (congrArg some (show uu 15 = .agg #[.int .i64 p.z.lo, .int .i64 p.z.hi, .bool p.z.all] from hd 15 (by decide) (by kernel_rfl)))
   clear hd hev hin
   simp only [List.getElem_cons_succ, List.getElem_cons_zero]
   clear hl
   refine .inr ⟨rfl, fun K' hK => ?_⟩
   have HK := Lib.hid hK
   clear hK
   go_simp
   refine (Ht.out ww).mono ?_
   rintro e W' ⟨rfl, hB⟩
   exact HK.out (.agg #[.int .i64 r.lo, .int .i64 r.hi, .bool r.all]) _ (hJ.later hB) rfl (veL_later hB)
 clear hM
 intro uu W4 hJm hd
 have e_0 : uu 0 = .pointer (some ⟨b1, 0, none⟩) := hd 0 (by decide)
 have e_1 : uu 1 = .agg #[.int .i64 v.x.lo, .int .i64 v.x.hi, .bool v.x.all] := hd 1 (by decide)
 have e_2 : uu 2 = .pointer (some ⟨b2, 0, none⟩) := hd 2 (by decide)
 have e_3 : uu 3 = .agg #[.int .i64 u.x.lo, .int .i64 u.x.hi, .bool u.x.all] := hd 3 (by decide)
 have e_4 : uu 4 = .agg #[.int .i64 p.x.lo, .int .i64 p.x.hi, .bool p.x.all] := hd 4 (by decide)
 have e_5 : uu 5 = .pointer (some ⟨b1, 3, none⟩) := hd 5 (by decide)
 have e_6 : uu 6 = .agg #[.int .i64 v.y.lo, .int .i64 v.y.hi, .bool v.y.all] := hd 6 (by decide)
 have e_7 : uu 7 = .pointer (some ⟨b2, 3, none⟩) := hd 7 (by decide)
 have e_8 : uu 8 = .agg #[.int .i64 u.y.lo, .int .i64 u.y.hi, .bool u.y.all] := hd 8 (by decide)
 have e_9 : uu 9 = .agg #[.int .i64 p.y.lo, .int .i64 p.y.hi, .bool p.y.all] := hd 9 (by decide)
 have e_10 : uu 10 = .agg #[.int .i64 q.lo, .int .i64 q.hi, .bool q.all] := hd 10 (by decide)
 have e_11 : uu 11 = .pointer (some ⟨b1, 6, none⟩) := hd 11 (by decide)
 have e_12 : uu 12 = .agg #[.int .i64 v.z.lo, .int .i64 v.z.hi, .bool v.z.all] := hd 12 (by decide)
 have e_13 : uu 13 = .pointer (some ⟨b2, 6, none⟩) := hd 13 (by decide)
 have e_14 : uu 14 = .agg #[.int .i64 u.z.lo, .int .i64 u.z.hi, .bool u.z.all] := hd 14 (by decide)
 have e_15 : uu 15 = .agg #[.int .i64 p.z.lo, .int .i64 p.z.hi, .bool p.z.all] := hd 15 (by decide)
 have e_16 : uu 16 = .agg #[.int .i64 r.lo, .int .i64 r.hi, .bool r.all] := hd 16 (by decide)
 clear hd
 simp only [layS, Act.put, List.setIfInBounds_toArray, List.set_cons_succ, List.set_cons_zero, Nat.zero_add, Nat.reduceAdd, List.drop_succ_cons, List.drop_zero, List.drop_nil, e_0, e_1, e_2, e_3, e_4, e_5, e_6, e_7, e_8, e_9, e_10, e_11, e_12, e_13, e_14, e_15, e_16]
 clear e_0 e_1 e_2 e_3 e_4 e_5 e_6 e_7 e_8 e_9 e_10 e_11 e_12 e_13 e_14 e_15 e_16
 have hJ4 := hJm.es
 clear hJm
 go_wp2_with (refine stop_store 27 (.tmp 4) (.tmp 21) 0 b3 0 #[.int .i64 0, .int .i64 0, .bool false] 27 3 [.int .i64 r.lo, .int .i64 r.hi, .bool r.all] #[.int .i64 r.lo, .int .i64 r.hi, .bool r.all] [(b3, #[.int .i64 r.lo, .int .i64 r.hi, .bool r.all], 27), (b2, #[.int .i64 u.x.lo, .int .i64 u.x.hi, .bool u.x.all, .int .i64 u.y.lo, .int .i64 u.y.hi, .bool u.y.all, .int .i64 u.z.lo, .int .i64 u.z.hi, .bool u.z.all], 29), (b1, #[.int .i64 v.x.lo, .int .i64 v.x.hi, .bool v.x.all, .int .i64 v.y.lo, .int .i64 v.y.hi, .bool v.y.all, .int .i64 v.z.lo, .int .i64 v.z.hi, .bool v.z.all], 29)] rfl rfl rfl rfl sz27 hJ4 rfl rfl (Nat.le_of_ble_eq_true (by kernel_rfl)) (by kernel_rfl) (by kernel_rfl) (by kernel_rfl) (fun W5 hJ5 => ?_))
 clear hJ4
 unfold Stop
 try simp only [Act.put, List.setIfInBounds_toArray, List.set_cons_succ, List.set_cons_zero]
 have f0 : W5.cell? ⟨b3, 0, none⟩ = some (.int .i64 r.lo) := hJ5.cell 0 rfl 0 rfl
 have f1 : W5.cell? ⟨b3, 1, none⟩ = some (.int .i64 r.hi) := hJ5.cell 0 rfl 1 rfl
 have f2 : W5.cell? ⟨b3, 2, none⟩ = some (.bool r.all) := hJ5.cell 0 rfl 2 rfl
 go_wp2
 exact bodyPost_ret (v := .agg #[.int .i64 r.lo, .int .i64 r.hi, .bool r.all]) (by simp [results, Try.results22, go_sem, f0, f1, f2]) rfl ⟨rfl, hJ5.below⟩
theorem dDot_any (v u : Vc) (w : World) : Calls Try.prog 22 #[.agg #[.int .i64 v.x.lo, .int .i64 v.x.hi, .bool v.x.all, .int .i64 v.y.lo, .int .i64 v.y.hi, .bool v.y.all, .int .i64 v.z.lo, .int .i64 v.z.hi, .bool v.z.all], .agg #[.int .i64 u.x.lo, .int .i64 u.x.hi, .bool u.x.all, .int .i64 u.y.lo, .int .i64 u.y.hi, .bool u.y.all, .int .i64 u.z.lo, .int .i64 u.z.hi, .bool u.z.all]] w (PVal (.agg #[.int .i64 ((dotV v u).lo), .int .i64 ((dotV v u).hi), .bool ((dotV v u).all)]) w) :=
 dDot_w v u (mulV v u) (addS (mulS v.x u.x) (mulS v.y u.y)) (dotV v u) (rdMul_any v.x u.x) (rdMul_any v.y u.y) (rdMul_any v.z u.z) (rdAdd_any _ _) (rdAdd_any _ _) w
set_option maxRecDepth 100000 in
set_option maxHeartbeats 12800000 in
theorem dNorm_w (v p : Vc) (q r : Sp) (hH0 : ∀ W : World, Calls Try.prog 57 #[.agg #[.int .i64 v.x.lo, .int .i64 v.x.hi, .bool v.x.all]] W (PVal (.agg #[.int .i64 p.x.lo, .int .i64 p.x.hi, .bool p.x.all]) W)) (hH1 : ∀ W : World, Calls Try.prog 57 #[.agg #[.int .i64 v.y.lo, .int .i64 v.y.hi, .bool v.y.all]] W (PVal (.agg #[.int .i64 p.y.lo, .int .i64 p.y.hi, .bool p.y.all]) W)) (hH2 : ∀ W : World, Calls Try.prog 57 #[.agg #[.int .i64 v.z.lo, .int .i64 v.z.hi, .bool v.z.all]] W (PVal (.agg #[.int .i64 p.z.lo, .int .i64 p.z.hi, .bool p.z.all]) W)) (hHs : ∀ W : World, Calls Try.prog 54 #[.agg #[.int .i64 p.x.lo, .int .i64 p.x.hi, .bool p.x.all], .agg #[.int .i64 p.y.lo, .int .i64 p.y.hi, .bool p.y.all]] W (PVal (.agg #[.int .i64 q.lo, .int .i64 q.hi, .bool q.all]) W)) (hHt : ∀ W : World, Calls Try.prog 54 #[.agg #[.int .i64 q.lo, .int .i64 q.hi, .bool q.all], .agg #[.int .i64 p.z.lo, .int .i64 p.z.hi, .bool p.z.all]] W (PVal (.agg #[.int .i64 r.lo, .int .i64 r.hi, .bool r.all]) W))  (w : World) : Calls Try.prog 24 #[.agg #[.int .i64 v.x.lo, .int .i64 v.x.hi, .bool v.x.all, .int .i64 v.y.lo, .int .i64 v.y.hi, .bool v.y.all, .int .i64 v.z.lo, .int .i64 v.z.hi, .bool v.z.all]] w (PVal (.agg #[.int .i64 r.lo, .int .i64 r.hi, .bool r.all]) w) := by
 have H0 := Lib.hid hH0
 have H1 := Lib.hid hH1
 have H2 := Lib.hid hH2
 have Hs := Lib.hid hHs
 have Ht := Lib.hid hHt
 clear hH0 hH1 hH2 hHs hHt
 have hJ0 := es_nil w
 go_enter Try.func24, Try.ntmps24
 go_wp2_with (refine stop_box 29 (.tmp 0) #[.int .i64 v.x.lo, .int .i64 v.x.hi, .bool v.x.all, .int .i64 v.y.lo, .int .i64 v.y.hi, .bool v.y.all, .int .i64 v.z.lo, .int .i64 v.z.hi, .bool v.z.all] rfl rfl rfl hJ0 (fun b1 W1 hJ1 => ?_))
 clear hJ0
 unfold Stop
 try simp only [Act.put, List.setIfInBounds_toArray, List.set_cons_succ, List.set_cons_zero]
 go_wp2_with (refine stop_alloc 27 #[.int .i64 0, .int .i64 0, .bool false] (.agg #[.int .i64 0, .int .i64 0, .bool false]) rfl rfl zv27 rfl hJ1 (fun b2 W2 hJ2 => ?_))
 clear hJ1
 unfold Stop
 try simp only [Act.put, List.setIfInBounds_toArray, List.set_cons_succ, List.set_cons_zero]
 go_wp2
 obtain ⟨m1_2, hm⟩ : ∃ m, m = W2.heap.size := ⟨_, rfl⟩
 have hM := hJ2.em
 rw [← hm] at hM
 clear hm hJ2
 refine wp_region_z 11 [some 3, some 4, some 5, some 6, some 7, some 8, some 9, some 10, some 11, some 12, some 13] (veL m1_2 [.eq (.pointer (some ⟨b1, 0, none⟩)), .eq (.agg #[.int .i64 v.x.lo, .int .i64 v.x.hi, .bool v.x.all]), .eq (.agg #[.int .i64 p.x.lo, .int .i64 p.x.hi, .bool p.x.all]), .eq (.pointer (some ⟨b1, 3, none⟩)), .eq (.agg #[.int .i64 v.y.lo, .int .i64 v.y.hi, .bool v.y.all]), .eq (.agg #[.int .i64 p.y.lo, .int .i64 p.y.hi, .bool p.y.all]), .eq (.agg #[.int .i64 q.lo, .int .i64 q.hi, .bool q.all]), .eq (.pointer (some ⟨b1, 6, none⟩)), .eq (.agg #[.int .i64 v.z.lo, .int .i64 v.z.hi, .bool v.z.all]), .eq (.agg #[.int .i64 p.z.lo, .int .i64 p.z.hi, .bool p.z.all]), .eq (.agg #[.int .i64 r.lo, .int .i64 r.hi, .bool r.all])]) (Em w m1_2 [(b2, #[.int .i64 0, .int .i64 0, .bool false], 27), (b1, #[.int .i64 v.x.lo, .int .i64 v.x.hi, .bool v.x.all, .int .i64 v.y.lo, .int .i64 v.y.hi, .bool v.y.all, .int .i64 v.z.lo, .int .i64 v.z.hi, .bool v.z.all], 29)]) (by kernel_rfl) (by kernel_rfl) (by rfl) (by decide) (by rfl) hM ?_ ?_
 ·
  intro i hl hi uu ww aa hJ hd hev hin
  clear hM
  obtain rfl | rfl | rfl | rfl | rfl | rfl | rfl | rfl | rfl | rfl | rfl : i = 0 ∨ i = 1 ∨ i = 2 ∨ i = 3 ∨ i = 4 ∨ i = 5 ∨ i = 6 ∨ i = 7 ∨ i = 8 ∨ i = 9 ∨ i = 10 := by omega
  ·
   have x1 : aa.tmps[1]? = some (.pointer (some ⟨b1, 0, none⟩)) := (hev 1 (by decide)).trans rfl
   clear hd hev hin
   simp only [List.getElem_cons_succ, List.getElem_cons_zero]
   clear hl
   refine .inr ⟨rfl, fun K' hK => ?_⟩
   have HK := Lib.hid hK
   clear hK
   go_simp
   exact HK.out (.pointer (some ⟨b1, 0, none⟩)) _ hJ rfl veL_same
  ·
   have x3 : aa.tmps[3]? = some (.pointer (some ⟨b1, 0, none⟩)) := (hin 0 3 rfl).trans (congrArg some (show uu 0 = .pointer (some ⟨b1, 0, none⟩) from hd 0 (by decide) (by kernel_rfl)))
   clear hd hev hin
   simp only [List.getElem_cons_succ, List.getElem_cons_zero]
   clear hl
   refine .inr ⟨rfl, fun K' hK => ?_⟩
   have HK := Lib.hid hK
   clear hK
   have f0 : ww.cell? ⟨b1, 0, none⟩ = some (.int .i64 v.x.lo) := hJ.es.cell 1 rfl 0 rfl
   have f1 : ww.cell? ⟨b1, 1, none⟩ = some (.int .i64 v.x.hi) := hJ.es.cell 1 rfl 1 rfl
   have f2 : ww.cell? ⟨b1, 2, none⟩ = some (.bool v.x.all) := hJ.es.cell 1 rfl 2 rfl
   go_simp
   exact HK.out (.agg #[.int .i64 v.x.lo, .int .i64 v.x.hi, .bool v.x.all]) _ hJ rfl veL_same
  ·
   have x4 : aa.tmps[4]? = some (.agg #[.int .i64 v.x.lo, .int .i64 v.x.hi, .bool v.x.all]) := (hin 1 4 rfl).trans (congrArg some (show uu 1 = .agg #[.int .i64 v.x.lo, .int .i64 v.x.hi, .bool v.x.all] from hd 1 (by decide) (by kernel_rfl)))
   clear hd hev hin
   simp only [List.getElem_cons_succ, List.getElem_cons_zero]
   clear hl
   refine .inr ⟨rfl, fun K' hK => ?_⟩
   have HK := Lib.hid hK
   clear hK
   go_simp
   refine (H0.out ww).mono ?_
   rintro e W' ⟨rfl, hB⟩
   exact HK.out (.agg #[.int .i64 p.x.lo, .int .i64 p.x.hi, .bool p.x.all]) _ (hJ.later hB) rfl (veL_later hB)
  ·
   have x1 : aa.tmps[1]? = some (.pointer (some ⟨b1, 0, none⟩)) := (hev 1 (by decide)).trans rfl
   clear hd hev hin
   simp only [List.getElem_cons_succ, List.getElem_cons_zero]
   clear hl
   refine .inr ⟨rfl, fun K' hK => ?_⟩
   have HK := Lib.hid hK
   clear hK
   go_simp
   exact HK.out (.pointer (some ⟨b1, 3, none⟩)) _ hJ rfl veL_same
  ·
   have x6 : aa.tmps[6]? = some (.pointer (some ⟨b1, 3, none⟩)) := (hin 3 6 rfl).trans (congrArg some (show uu 3 = .pointer (some ⟨b1, 3, none⟩) from hd 3 (by decide) (by kernel_rfl)))
   clear hd hev hin
   simp only [List.getElem_cons_succ, List.getElem_cons_zero]
   clear hl
   refine .inr ⟨rfl, fun K' hK => ?_⟩
   have HK := Lib.hid hK
   clear hK
   have f0 : ww.cell? ⟨b1, 3, none⟩ = some (.int .i64 v.y.lo) := hJ.es.cell 1 rfl 3 rfl
   have f1 : ww.cell? ⟨b1, 4, none⟩ = some (.int .i64 v.y.hi) := hJ.es.cell 1 rfl 4 rfl
   have f2 : ww.cell? ⟨b1, 5, none⟩ = some (.bool v.y.all) := hJ.es.cell 1 rfl 5 rfl
   go_simp
   exact HK.out (.agg #[.int .i64 v.y.lo, .int .i64 v.y.hi, .bool v.y.all]) _ hJ rfl veL_same
  ·
   have x7 : aa.tmps[7]? = some (.agg #[.int .i64 v.y.lo, .int .i64 v.y.hi, .bool v.y.all]) := (hin 4 7 rfl).trans (congrArg some (show uu 4 = .agg #[.int .i64 v.y.lo, .int .i64 v.y.hi, .bool v.y.all] from hd 4 (by decide) (by kernel_rfl)))
   clear hd hev hin
   simp only [List.getElem_cons_succ, List.getElem_cons_zero]
   clear hl
   refine .inr ⟨rfl, fun K' hK => ?_⟩
   have HK := Lib.hid hK
   clear hK
   go_simp
   refine (H1.out ww).mono ?_
   rintro e W' ⟨rfl, hB⟩
   exact HK.out (.agg #[.int .i64 p.y.lo, .int .i64 p.y.hi, .bool p.y.all]) _ (hJ.later hB) rfl (veL_later hB)
  ·
   have x5 : aa.tmps[5]? = some (.agg #[.int .i64 p.x.lo, .int .i64 p.x.hi, .bool p.x.all]) := (hin 2 5 rfl).trans (congrArg some (show uu 2 = .agg #[.int .i64 p.x.lo, .int .i64 p.x.hi, .bool p.x.all] from hd 2 (by decide) (by kernel_rfl)))
   have x8 : aa.tmps[8]? = some (.agg #[.int .i64 p.y.lo, .int .i64 p.y.hi, .bool p.y.all]) := (hin 5 8 rfl).trans (congrArg some (show uu 5 = .agg #[.int .i64 p.y.lo, .int .i64 p.y.hi, .bool p.y.all] from hd 5 (by decide) (by kernel_rfl)))
   clear hd hev hin
   simp only [List.getElem_cons_succ, List.getElem_cons_zero]
   clear hl
   refine .inr ⟨rfl, fun K' hK => ?_⟩
   have HK := Lib.hid hK
   clear hK
   go_simp
   refine (Hs.out ww).mono ?_
   rintro e W' ⟨rfl, hB⟩
   exact HK.out (.agg #[.int .i64 q.lo, .int .i64 q.hi, .bool q.all]) _ (hJ.later hB) rfl (veL_later hB)
  ·
   have x1 : aa.tmps[1]? = some (.pointer (some ⟨b1, 0, none⟩)) := (hev 1 (by decide)).trans rfl
   clear hd hev hin
   simp only [List.getElem_cons_succ, List.getElem_cons_zero]
   clear hl
   refine .inr ⟨rfl, fun K' hK => ?_⟩
   have HK := Lib.hid hK
   clear hK
   go_simp
   exact HK.out (.pointer (some ⟨b1, 6, none⟩)) _ hJ rfl veL_same
  ·
   have x10 : aa.tmps[10]? = some (.pointer (some ⟨b1, 6, none⟩)) := (hin 7 10 rfl).trans (congrArg some (show uu 7 = .pointer (some ⟨b1, 6, none⟩) from hd 7 (by decide) (by kernel_rfl)))
   clear hd hev hin
   simp only [List.getElem_cons_succ, List.getElem_cons_zero]
   clear hl
   refine .inr ⟨rfl, fun K' hK => ?_⟩
   have HK := Lib.hid hK
   clear hK
   have f0 : ww.cell? ⟨b1, 6, none⟩ = some (.int .i64 v.z.lo) := hJ.es.cell 1 rfl 6 rfl
   have f1 : ww.cell? ⟨b1, 7, none⟩ = some (.int .i64 v.z.hi) := hJ.es.cell 1 rfl 7 rfl
   have f2 : ww.cell? ⟨b1, 8, none⟩ = some (.bool v.z.all) := hJ.es.cell 1 rfl 8 rfl
   go_simp
   exact HK.out (.agg #[.int .i64 v.z.lo, .int .i64 v.z.hi, .bool v.z.all]) _ hJ rfl veL_same
  ·
   have x11 : aa.tmps[11]? = some (.agg #[.int .i64 v.z.lo, .int .i64 v.z.hi, .bool v.z.all]) := (hin 8 11 rfl).trans (congrArg some (show uu 8 = .agg #[.int .i64 v.z.lo, .int .i64 v.z.hi, .bool v.z.all] from hd 8 (by decide) (by kernel_rfl)))
   clear hd hev hin
   simp only [List.getElem_cons_succ, List.getElem_cons_zero]
   clear hl
   refine .inr ⟨rfl, fun K' hK => ?_⟩
   have HK := Lib.hid hK
   clear hK
   go_simp
   refine (H2.out ww).mono ?_
   rintro e W' ⟨rfl, hB⟩
   exact HK.out (.agg #[.int .i64 p.z.lo, .int .i64 p.z.hi, .bool p.z.all]) _ (hJ.later hB) rfl (veL_later hB)
  ·
   have x9 : aa.tmps[9]? = some (.agg #[.int .i64 q.lo, .int .i64 q.hi, .bool q.all]) := (hin 6 9 rfl).trans (congrArg some (show uu 6 = .agg #[.int .i64 q.lo, .int .i64 q.hi, .bool q.all] from hd 6 (by decide) (by kernel_rfl)))
   have x12 : aa.tmps[12]? = some (.agg #[.int .i64 p.z.lo, .int .i64 p.z.hi, .bool p.z.all]) := (hin 9 12 rfl).trans (congrArg some (show uu 9 = .agg #[.int .i64 p.z.lo, .int .i64 p.z.hi, .bool p.z.all] from hd 9 (by decide) (by kernel_rfl)))
   clear hd hev hin
   simp only [List.getElem_cons_succ, List.getElem_cons_zero]
   clear hl
   refine .inr ⟨rfl, fun K' hK => ?_⟩
   have HK := Lib.hid hK
   clear hK
   go_simp
   refine (Ht.out ww).mono ?_
   rintro e W' ⟨rfl, hB⟩
   exact HK.out (.agg #[.int .i64 r.lo, .int .i64 r.hi, .bool r.all]) _ (hJ.later hB) rfl (veL_later hB)
 clear hM
 intro uu W3 hJm hd
 have e_0 : uu 0 = .pointer (some ⟨b1, 0, none⟩) := hd 0 (by decide)
 have e_1 : uu 1 = .agg #[.int .i64 v.x.lo, .int .i64 v.x.hi, .bool v.x.all] := hd 1 (by decide)
 have e_2 : uu 2 = .agg #[.int .i64 p.x.lo, .int .i64 p.x.hi, .bool p.x.all] := hd 2 (by decide)
 have e_3 : uu 3 = .pointer (some ⟨b1, 3, none⟩) := hd 3 (by decide)
 have e_4 : uu 4 = .agg #[.int .i64 v.y.lo, .int .i64 v.y.hi, .bool v.y.all] := hd 4 (by decide)
 have e_5 : uu 5 = .agg #[.int .i64 p.y.lo, .int .i64 p.y.hi, .bool p.y.all] := hd 5 (by decide)
 have e_6 : uu 6 = .agg #[.int .i64 q.lo, .int .i64 q.hi, .bool q.all] := hd 6 (by decide)
 have e_7 : uu 7 = .pointer (some ⟨b1, 6, none⟩) := hd 7 (by decide)
 have e_8 : uu 8 = .agg #[.int .i64 v.z.lo, .int .i64 v.z.hi, .bool v.z.all] := hd 8 (by decide)
 have e_9 : uu 9 = .agg #[.int .i64 p.z.lo, .int .i64 p.z.hi, .bool p.z.all] := hd 9 (by decide)
 have e_10 : uu 10 = .agg #[.int .i64 r.lo, .int .i64 r.hi, .bool r.all] := hd 10 (by decide)
 clear hd
 simp only [layS, Act.put, List.setIfInBounds_toArray, List.set_cons_succ, List.set_cons_zero, Nat.zero_add, Nat.reduceAdd, List.drop_succ_cons, List.drop_zero, List.drop_nil, e_0, e_1, e_2, e_3, e_4, e_5, e_6, e_7, e_8, e_9, e_10]
 clear e_0 e_1 e_2 e_3 e_4 e_5 e_6 e_7 e_8 e_9 e_10
 have hJ3 := hJm.es
 clear hJm
 go_wp2_with (refine stop_store 27 (.tmp 2) (.tmp 13) 0 b2 0 #[.int .i64 0, .int .i64 0, .bool false] 27 3 [.int .i64 r.lo, .int .i64 r.hi, .bool r.all] #[.int .i64 r.lo, .int .i64 r.hi, .bool r.all] [(b2, #[.int .i64 r.lo, .int .i64 r.hi, .bool r.all], 27), (b1, #[.int .i64 v.x.lo, .int .i64 v.x.hi, .bool v.x.all, .int .i64 v.y.lo, .int .i64 v.y.hi, .bool v.y.all, .int .i64 v.z.lo, .int .i64 v.z.hi, .bool v.z.all], 29)] rfl rfl rfl rfl sz27 hJ3 rfl rfl (Nat.le_of_ble_eq_true (by kernel_rfl)) (by kernel_rfl) (by kernel_rfl) (by kernel_rfl) (fun W4 hJ4 => ?_))
 clear hJ3
 unfold Stop
 try simp only [Act.put, List.setIfInBounds_toArray, List.set_cons_succ, List.set_cons_zero]
 have f0 : W4.cell? ⟨b2, 0, none⟩ = some (.int .i64 r.lo) := hJ4.cell 0 rfl 0 rfl
 have f1 : W4.cell? ⟨b2, 1, none⟩ = some (.int .i64 r.hi) := hJ4.cell 0 rfl 1 rfl
 have f2 : W4.cell? ⟨b2, 2, none⟩ = some (.bool r.all) := hJ4.cell 0 rfl 2 rfl
 go_wp2
 exact bodyPost_ret (v := .agg #[.int .i64 r.lo, .int .i64 r.hi, .bool r.all]) (by simp [results, Try.results24, go_sem, f0, f1, f2]) rfl ⟨rfl, hJ4.below⟩
theorem dNorm_any (v : Vc) (w : World) : Calls Try.prog 24 #[.agg #[.int .i64 v.x.lo, .int .i64 v.x.hi, .bool v.x.all, .int .i64 v.y.lo, .int .i64 v.y.hi, .bool v.y.all, .int .i64 v.z.lo, .int .i64 v.z.hi, .bool v.z.all]] w (PVal (.agg #[.int .i64 ((normV v).lo), .int .i64 ((normV v).hi), .bool ((normV v).all)]) w) :=
 dNorm_w v (sqrV v) (addS (sqrS v.x) (sqrS v.y)) (normV v) (rdSqr_any v.x) (rdSqr_any v.y) (rdSqr_any v.z) (rdAdd_any _ _) (rdAdd_any _ _) w
set_option maxRecDepth 100000 in
set_option maxHeartbeats 12800000 in
theorem dCross_w (v u r : Vc) (p0 p1 p2 q0 q1 q2 : Sp) (hHp0 : ∀ W : World, Calls Try.prog 56 #[.agg #[.int .i64 v.y.lo, .int .i64 v.y.hi, .bool v.y.all], .agg #[.int .i64 u.z.lo, .int .i64 u.z.hi, .bool u.z.all]] W (PVal (.agg #[.int .i64 p0.lo, .int .i64 p0.hi, .bool p0.all]) W)) (hHq0 : ∀ W : World, Calls Try.prog 56 #[.agg #[.int .i64 v.z.lo, .int .i64 v.z.hi, .bool v.z.all], .agg #[.int .i64 u.y.lo, .int .i64 u.y.hi, .bool u.y.all]] W (PVal (.agg #[.int .i64 q0.lo, .int .i64 q0.hi, .bool q0.all]) W)) (hHr0 : ∀ W : World, Calls Try.prog 55 #[.agg #[.int .i64 p0.lo, .int .i64 p0.hi, .bool p0.all], .agg #[.int .i64 q0.lo, .int .i64 q0.hi, .bool q0.all]] W (PVal (.agg #[.int .i64 r.x.lo, .int .i64 r.x.hi, .bool r.x.all]) W)) (hHp1 : ∀ W : World, Calls Try.prog 56 #[.agg #[.int .i64 v.z.lo, .int .i64 v.z.hi, .bool v.z.all], .agg #[.int .i64 u.x.lo, .int .i64 u.x.hi, .bool u.x.all]] W (PVal (.agg #[.int .i64 p1.lo, .int .i64 p1.hi, .bool p1.all]) W)) (hHq1 : ∀ W : World, Calls Try.prog 56 #[.agg #[.int .i64 v.x.lo, .int .i64 v.x.hi, .bool v.x.all], .agg #[.int .i64 u.z.lo, .int .i64 u.z.hi, .bool u.z.all]] W (PVal (.agg #[.int .i64 q1.lo, .int .i64 q1.hi, .bool q1.all]) W)) (hHr1 : ∀ W : World, Calls Try.prog 55 #[.agg #[.int .i64 p1.lo, .int .i64 p1.hi, .bool p1.all], .agg #[.int .i64 q1.lo, .int .i64 q1.hi, .bool q1.all]] W (PVal (.agg #[.int .i64 r.y.lo, .int .i64 r.y.hi, .bool r.y.all]) W)) (hHp2 : ∀ W : World, Calls Try.prog 56 #[.agg #[.int .i64 v.x.lo, .int .i64 v.x.hi, .bool v.x.all], .agg #[.int .i64 u.y.lo, .int .i64 u.y.hi, .bool u.y.all]] W (PVal (.agg #[.int .i64 p2.lo, .int .i64 p2.hi, .bool p2.all]) W)) (hHq2 : ∀ W : World, Calls Try.prog 56 #[.agg #[.int .i64 v.y.lo, .int .i64 v.y.hi, .bool v.y.all], .agg #[.int .i64 u.x.lo, .int .i64 u.x.hi, .bool u.x.all]] W (PVal (.agg #[.int .i64 q2.lo, .int .i64 q2.hi, .bool q2.all]) W)) (hHr2 : ∀ W : World, Calls Try.prog 55 #[.agg #[.int .i64 p2.lo, .int .i64 p2.hi, .bool p2.all], .agg #[.int .i64 q2.lo, .int .i64 q2.hi, .bool q2.all]] W (PVal (.agg #[.int .i64 r.z.lo, .int .i64 r.z.hi, .bool r.z.all]) W))  (w : World) : Calls Try.prog 23 #[.agg #[.int .i64 v.x.lo, .int .i64 v.x.hi, .bool v.x.all, .int .i64 v.y.lo, .int .i64 v.y.hi, .bool v.y.all, .int .i64 v.z.lo, .int .i64 v.z.hi, .bool v.z.all], .agg #[.int .i64 u.x.lo, .int .i64 u.x.hi, .bool u.x.all, .int .i64 u.y.lo, .int .i64 u.y.hi, .bool u.y.all, .int .i64 u.z.lo, .int .i64 u.z.hi, .bool u.z.all]] w (PVal (.agg #[.int .i64 r.x.lo, .int .i64 r.x.hi, .bool r.x.all, .int .i64 r.y.lo, .int .i64 r.y.hi, .bool r.y.all, .int .i64 r.z.lo, .int .i64 r.z.hi, .bool r.z.all]) w) := by
 have Hp0 := Lib.hid hHp0
 have Hq0 := Lib.hid hHq0
 have Hr0 := Lib.hid hHr0
 have Hp1 := Lib.hid hHp1
 have Hq1 := Lib.hid hHq1
 have Hr1 := Lib.hid hHr1
 have Hp2 := Lib.hid hHp2
 have Hq2 := Lib.hid hHq2
 have Hr2 := Lib.hid hHr2
 clear hHp0 hHq0 hHr0 hHp1 hHq1 hHr1 hHp2 hHq2 hHr2
 have hJ0 := es_nil w
 go_enter Try.func23, Try.ntmps23
 go_wp2_with (refine stop_box 29 (.tmp 0) #[.int .i64 v.x.lo, .int .i64 v.x.hi, .bool v.x.all, .int .i64 v.y.lo, .int .i64 v.y.hi, .bool v.y.all, .int .i64 v.z.lo, .int .i64 v.z.hi, .bool v.z.all] rfl rfl rfl hJ0 (fun b1 W1 hJ1 => ?_))
 clear hJ0
 unfold Stop
 try simp only [Act.put, List.setIfInBounds_toArray, List.set_cons_succ, List.set_cons_zero]
 go_wp2_with (refine stop_box 29 (.tmp 1) #[.int .i64 u.x.lo, .int .i64 u.x.hi, .bool u.x.all, .int .i64 u.y.lo, .int .i64 u.y.hi, .bool u.y.all, .int .i64 u.z.lo, .int .i64 u.z.hi, .bool u.z.all] rfl rfl rfl hJ1 (fun b2 W2 hJ2 => ?_))
 clear hJ1
 unfold Stop
 try simp only [Act.put, List.setIfInBounds_toArray, List.set_cons_succ, List.set_cons_zero]
 go_wp2_with (refine stop_alloc 29 #[.int .i64 0, .int .i64 0, .bool false, .int .i64 0, .int .i64 0, .bool false, .int .i64 0, .int .i64 0, .bool false] (.agg #[.int .i64 0, .int .i64 0, .bool false, .int .i64 0, .int .i64 0, .bool false, .int .i64 0, .int .i64 0, .bool false]) rfl rfl zv29 rfl hJ2 (fun b3 W3 hJ3 => ?_))
 clear hJ2
 unfold Stop
 try simp only [Act.put, List.setIfInBounds_toArray, List.set_cons_succ, List.set_cons_zero]
 go_wp2
 obtain ⟨m1_3, hm⟩ : ∃ m, m = W3.heap.size := ⟨_, rfl⟩
 have hM := hJ3.em
 rw [← hm] at hM
 clear hm hJ3
 refine wp_region_z 34 [some 5, some 6, some 7, some 8, some 9, some 10, some 11, some 12, some 13, some 14, some 15, some 16, some 17, some 18, some 19, some 20, some 21, some 22, some 23, some 24, some 25, some 26, some 27, some 28, some 29, some 30, some 31, some 32, some 33, some 34, some 35, some 36, some 37, some 38] (veL m1_3 [.eq (.pointer (some ⟨b1, 3, none⟩)), .eq (.agg #[.int .i64 v.y.lo, .int .i64 v.y.hi, .bool v.y.all]), .eq (.pointer (some ⟨b2, 6, none⟩)), .eq (.agg #[.int .i64 u.z.lo, .int .i64 u.z.hi, .bool u.z.all]), .eq (.agg #[.int .i64 p0.lo, .int .i64 p0.hi, .bool p0.all]), .eq (.pointer (some ⟨b1, 6, none⟩)), .eq (.agg #[.int .i64 v.z.lo, .int .i64 v.z.hi, .bool v.z.all]), .eq (.pointer (some ⟨b2, 3, none⟩)), .eq (.agg #[.int .i64 u.y.lo, .int .i64 u.y.hi, .bool u.y.all]), .eq (.agg #[.int .i64 q0.lo, .int .i64 q0.hi, .bool q0.all]), .eq (.agg #[.int .i64 r.x.lo, .int .i64 r.x.hi, .bool r.x.all]), .eq (.pointer (some ⟨b1, 6, none⟩)), .eq (.agg #[.int .i64 v.z.lo, .int .i64 v.z.hi, .bool v.z.all]), .eq (.pointer (some ⟨b2, 0, none⟩)), .eq (.agg #[.int .i64 u.x.lo, .int .i64 u.x.hi, .bool u.x.all]), .eq (.agg #[.int .i64 p1.lo, .int .i64 p1.hi, .bool p1.all]), .eq (.pointer (some ⟨b1, 0, none⟩)), .eq (.agg #[.int .i64 v.x.lo, .int .i64 v.x.hi, .bool v.x.all]), .eq (.pointer (some ⟨b2, 6, none⟩)), .eq (.agg #[.int .i64 u.z.lo, .int .i64 u.z.hi, .bool u.z.all]), .eq (.agg #[.int .i64 q1.lo, .int .i64 q1.hi, .bool q1.all]), .eq (.agg #[.int .i64 r.y.lo, .int .i64 r.y.hi, .bool r.y.all]), .eq (.pointer (some ⟨b1, 0, none⟩)), .eq (.agg #[.int .i64 v.x.lo, .int .i64 v.x.hi, .bool v.x.all]), .eq (.pointer (some ⟨b2, 3, none⟩)), .eq (.agg #[.int .i64 u.y.lo, .int .i64 u.y.hi, .bool u.y.all]), .eq (.agg #[.int .i64 p2.lo, .int .i64 p2.hi, .bool p2.all]), .eq (.pointer (some ⟨b1, 3, none⟩)), .eq (.agg #[.int .i64 v.y.lo, .int .i64 v.y.hi, .bool v.y.all]), .eq (.pointer (some ⟨b2, 0, none⟩)), .eq (.agg #[.int .i64 u.x.lo, .int .i64 u.x.hi, .bool u.x.all]), .eq (.agg #[.int .i64 q2.lo, .int .i64 q2.hi, .bool q2.all]), .eq (.agg #[.int .i64 r.z.lo, .int .i64 r.z.hi, .bool r.z.all]), .eq (.agg #[.int .i64 r.x.lo, .int .i64 r.x.hi, .bool r.x.all, .int .i64 r.y.lo, .int .i64 r.y.hi, .bool r.y.all, .int .i64 r.z.lo, .int .i64 r.z.hi, .bool r.z.all])]) (Em w m1_3 [(b3, #[.int .i64 0, .int .i64 0, .bool false, .int .i64 0, .int .i64 0, .bool false, .int .i64 0, .int .i64 0, .bool false], 29), (b2, #[.int .i64 u.x.lo, .int .i64 u.x.hi, .bool u.x.all, .int .i64 u.y.lo, .int .i64 u.y.hi, .bool u.y.all, .int .i64 u.z.lo, .int .i64 u.z.hi, .bool u.z.all], 29), (b1, #[.int .i64 v.x.lo, .int .i64 v.x.hi, .bool v.x.all, .int .i64 v.y.lo, .int .i64 v.y.hi, .bool v.y.all, .int .i64 v.z.lo, .int .i64 v.z.hi, .bool v.z.all], 29)]) (by kernel_rfl) (by kernel_rfl) (by rfl) (by decide) (by rfl) hM ?_ ?_
 ·
  intro i hl hi uu ww aa hJ hd hev hin
  clear hM
  obtain rfl | rfl | rfl | rfl | rfl | rfl | rfl | rfl | rfl | rfl | rfl | rfl | rfl | rfl | rfl | rfl | rfl | rfl | rfl | rfl | rfl | rfl | rfl | rfl | rfl | rfl | rfl | rfl | rfl | rfl | rfl | rfl | rfl | rfl : i = 0 ∨ i = 1 ∨ i = 2 ∨ i = 3 ∨ i = 4 ∨ i = 5 ∨ i = 6 ∨ i = 7 ∨ i = 8 ∨ i = 9 ∨ i = 10 ∨ i = 11 ∨ i = 12 ∨ i = 13 ∨ i = 14 ∨ i = 15 ∨ i = 16 ∨ i = 17 ∨ i = 18 ∨ i = 19 ∨ i = 20 ∨ i = 21 ∨ i = 22 ∨ i = 23 ∨ i = 24 ∨ i = 25 ∨ i = 26 ∨ i = 27 ∨ i = 28 ∨ i = 29 ∨ i = 30 ∨ i = 31 ∨ i = 32 ∨ i = 33 := by omega
  ·
   have x2 : aa.tmps[2]? = some (.pointer (some ⟨b1, 0, none⟩)) := (hev 2 (by decide)).trans rfl
   clear hd hev hin
   simp only [List.getElem_cons_succ, List.getElem_cons_zero]
   clear hl
   refine .inr ⟨rfl, fun K' hK => ?_⟩
   have HK := Lib.hid hK
   clear hK
   go_simp
   exact HK.out (.pointer (some ⟨b1, 3, none⟩)) _ hJ rfl veL_same
  ·
   have x5 : aa.tmps[5]? = some (.pointer (some ⟨b1, 3, none⟩)) := (hin 0 5 rfl).trans (congrArg some (show uu 0 = .pointer (some ⟨b1, 3, none⟩) from hd 0 (by decide) (by kernel_rfl)))
   clear hd hev hin
   simp only [List.getElem_cons_succ, List.getElem_cons_zero]
   clear hl
   refine .inr ⟨rfl, fun K' hK => ?_⟩
   have HK := Lib.hid hK
   clear hK
   have f0 : ww.cell? ⟨b1, 3, none⟩ = some (.int .i64 v.y.lo) := hJ.es.cell 2 rfl 3 rfl
   have f1 : ww.cell? ⟨b1, 4, none⟩ = some (.int .i64 v.y.hi) := hJ.es.cell 2 rfl 4 rfl
   have f2 : ww.cell? ⟨b1, 5, none⟩ = some (.bool v.y.all) := hJ.es.cell 2 rfl 5 rfl
   go_simp
   exact HK.out (.agg #[.int .i64 v.y.lo, .int .i64 v.y.hi, .bool v.y.all]) _ hJ rfl veL_same
  ·
   have x3 : aa.tmps[3]? = some (.pointer (some ⟨b2, 0, none⟩)) := (hev 3 (by decide)).trans rfl
   clear hd hev hin
   simp only [List.getElem_cons_succ, List.getElem_cons_zero]
   clear hl
   refine .inr ⟨rfl, fun K' hK => ?_⟩
   have HK := Lib.hid hK
   clear hK
   go_simp
   exact HK.out (.pointer (some ⟨b2, 6, none⟩)) _ hJ rfl veL_same
  ·
   have x7 : aa.tmps[7]? = some (.pointer (some ⟨b2, 6, none⟩)) := (hin 2 7 rfl).trans (congrArg some (show uu 2 = .pointer (some ⟨b2, 6, none⟩) from hd 2 (by decide) (by kernel_rfl)))
   clear hd hev hin
   simp only [List.getElem_cons_succ, List.getElem_cons_zero]
   clear hl
   refine .inr ⟨rfl, fun K' hK => ?_⟩
   have HK := Lib.hid hK
   clear hK
   have f0 : ww.cell? ⟨b2, 6, none⟩ = some (.int .i64 u.z.lo) := hJ.es.cell 1 rfl 6 rfl
   have f1 : ww.cell? ⟨b2, 7, none⟩ = some (.int .i64 u.z.hi) := hJ.es.cell 1 rfl 7 rfl
   have f2 : ww.cell? ⟨b2, 8, none⟩ = some (.bool u.z.all) := hJ.es.cell 1 rfl 8 rfl
   go_simp
   exact HK.out (.agg #[.int .i64 u.z.lo, .int .i64 u.z.hi, .bool u.z.all]) _ hJ rfl veL_same
  ·
   have x6 : aa.tmps[6]? = some (.agg #[.int .i64 v.y.lo, .int .i64 v.y.hi, .bool v.y.all]) := (hin 1 6 rfl).trans (congrArg some (show uu 1 = .agg #[.int .i64 v.y.lo, .int .i64 v.y.hi, .bool v.y.all] from hd 1 (by decide) (by kernel_rfl)))
   have x8 : aa.tmps[8]? = some (.agg #[.int .i64 u.z.lo, .int .i64 u.z.hi, .bool u.z.all]) := (hin 3 8 rfl).trans (congrArg some (show uu 3 = .agg #[.int .i64 u.z.lo, .int .i64 u.z.hi, .bool u.z.all] from hd 3 (by decide) (by kernel_rfl)))
   clear hd hev hin
   simp only [List.getElem_cons_succ, List.getElem_cons_zero]
   clear hl
   refine .inr ⟨rfl, fun K' hK => ?_⟩
   have HK := Lib.hid hK
   clear hK
   go_simp
   refine (Hp0.out ww).mono ?_
   rintro e W' ⟨rfl, hB⟩
   exact HK.out (.agg #[.int .i64 p0.lo, .int .i64 p0.hi, .bool p0.all]) _ (hJ.later hB) rfl (veL_later hB)
  ·
   have x2 : aa.tmps[2]? = some (.pointer (some ⟨b1, 0, none⟩)) := (hev 2 (by decide)).trans rfl
   clear hd hev hin
   simp only [List.getElem_cons_succ, List.getElem_cons_zero]
   clear hl
   refine .inr ⟨rfl, fun K' hK => ?_⟩
   have HK := Lib.hid hK
   clear hK
   go_simp
   exact HK.out (.pointer (some ⟨b1, 6, none⟩)) _ hJ rfl veL_same
  ·
   have x10 : aa.tmps[10]? = some (.pointer (some ⟨b1, 6, none⟩)) := (hin 5 10 rfl).trans (congrArg some (show uu 5 = .pointer (some ⟨b1, 6, none⟩) from hd 5 (by decide) (by kernel_rfl)))
   clear hd hev hin
   simp only [List.getElem_cons_succ, List.getElem_cons_zero]
   clear hl
   refine .inr ⟨rfl, fun K' hK => ?_⟩
   have HK := Lib.hid hK
   clear hK
   have f0 : ww.cell? ⟨b1, 6, none⟩ = some (.int .i64 v.z.lo) := hJ.es.cell 2 rfl 6 rfl
   have f1 : ww.cell? ⟨b1, 7, none⟩ = some (.int .i64 v.z.hi) := hJ.es.cell 2 rfl 7 rfl
   have f2 : ww.cell? ⟨b1, 8, none⟩ = some (.bool v.z.all) := hJ.es.cell 2 rfl 8 rfl
   go_simp
   exact HK.out (.agg #[.int .i64 v.z.lo, .int .i64 v.z.hi, .bool v.z.all]) _ hJ rfl veL_same
  ·
   have x3 : aa.tmps[3]? = some (.pointer (some ⟨b2, 0, none⟩)) := (hev 3 (by decide)).trans rfl
   clear hd hev hin
   simp only [List.getElem_cons_succ, List.getElem_cons_zero]
   clear hl
   refine .inr ⟨rfl, fun K' hK => ?_⟩
   have HK := Lib.hid hK
   clear hK
   go_simp
   exact HK.out (.pointer (some ⟨b2, 3, none⟩)) _ hJ rfl veL_same
  ·
   have x12 : aa.tmps[12]? = some (.pointer (some ⟨b2, 3, none⟩)) := (hin 7 12 rfl).trans (congrArg some (show uu 7 = .pointer (some ⟨b2, 3, none⟩) from hd 7 (by decide) (by kernel_rfl)))
   clear hd hev hin
   simp only [List.getElem_cons_succ, List.getElem_cons_zero]
   clear hl
   refine .inr ⟨rfl, fun K' hK => ?_⟩
   have HK := Lib.hid hK
   clear hK
   have f0 : ww.cell? ⟨b2, 3, none⟩ = some (.int .i64 u.y.lo) := hJ.es.cell 1 rfl 3 rfl
   have f1 : ww.cell? ⟨b2, 4, none⟩ = some (.int .i64 u.y.hi) := hJ.es.cell 1 rfl 4 rfl
   have f2 : ww.cell? ⟨b2, 5, none⟩ = some (.bool u.y.all) := hJ.es.cell 1 rfl 5 rfl
   go_simp
   exact HK.out (.agg #[.int .i64 u.y.lo, .int .i64 u.y.hi, .bool u.y.all]) _ hJ rfl veL_same
  ·
   have x11 : aa.tmps[11]? = some (.agg #[.int .i64 v.z.lo, .int .i64 v.z.hi, .bool v.z.all]) := (hin 6 11 rfl).trans (congrArg some (show uu 6 = .agg #[.int .i64 v.z.lo, .int .i64 v.z.hi, .bool v.z.all] from hd 6 (by decide) (by kernel_rfl)))
   have x13 : aa.tmps[13]? = some (.agg #[.int .i64 u.y.lo, .int .i64 u.y.hi, .bool u.y.all]) := (hin 8 13 rfl).trans (congrArg some (show uu 8 = .agg #[.int .i64 u.y.lo, .int .i64 u.y.hi, .bool u.y.all] from hd 8 (by decide) (by kernel_rfl)))
   clear hd hev hin
   simp only [List.getElem_cons_succ, List.getElem_cons_zero]
   clear hl
   refine .inr ⟨rfl, fun K' hK => ?_⟩
   have HK := Lib.hid hK
   clear hK
   go_simp
   refine (Hq0.out ww).mono ?_
   rintro e W' ⟨rfl, hB⟩
   exact HK.out (.agg #[.int .i64 q0.lo, .int .i64 q0.hi, .bool q0.all]) _ (hJ.later hB) rfl (veL_later hB)
  ·
   have x9 : aa.tmps[9]? = some (.agg #[.int .i64 p0.lo, .int .i64 p0.hi, .bool p0.all]) := (hin 4 9 rfl).trans (congrArg some (show uu 4 = .agg #[.int .i64 p0.lo, .int .i64 p0.hi, .bool p0.all] from hd 4 (by decide) (by kernel_rfl)))
   have x14 : aa.tmps[14]? = some (.agg #[.int .i64 q0.lo, .int .i64 q0.hi, .bool q0.all]) := (hin 9 14 rfl).trans (congrArg some (show uu 9 = .agg #[.int .i64 q0.lo, .int .i64 q0.hi, .bool q0.all] from hd 9 (by decide) (by kernel_rfl)))
   clear hd hev hin
   simp only [List.getElem_cons_succ, List.getElem_cons_zero]
   clear hl
   refine .inr ⟨rfl, fun K' hK => ?_⟩
   have HK := Lib.hid hK
   clear hK
   go_simp
   refine (Hr0.out ww).mono ?_
   rintro e W' ⟨rfl, hB⟩
   exact HK.out (.agg #[.int .i64 r.x.lo, .int .i64 r.x.hi, .bool r.x.all]) _ (hJ.later hB) rfl (veL_later hB)
  ·
   have x2 : aa.tmps[2]? = some (.pointer (some ⟨b1, 0, none⟩)) := (hev 2 (by decide)).trans rfl
   clear hd hev hin
   simp only [List.getElem_cons_succ, List.getElem_cons_zero]
   clear hl
   refine .inr ⟨rfl, fun K' hK => ?_⟩
   have HK := Lib.hid hK
   clear hK
   go_simp
   exact HK.out (.pointer (some ⟨b1, 6, none⟩)) _ hJ rfl veL_same
  ·
   have x16 : aa.tmps[16]? = some (.pointer (some ⟨b1, 6, none⟩)) := (hin 11 16 rfl).trans (congrArg some (show uu 11 = .pointer (some ⟨b1, 6, none⟩) from hd 11 (by decide) (by kernel_rfl)))
   clear hd hev hin
   simp only [List.getElem_cons_succ, List.getElem_cons_zero]
   clear hl
   refine .inr ⟨rfl, fun K' hK => ?_⟩
   have HK := Lib.hid hK
   clear hK
   have f0 : ww.cell? ⟨b1, 6, none⟩ = some (.int .i64 v.z.lo) := hJ.es.cell 2 rfl 6 rfl
   have f1 : ww.cell? ⟨b1, 7, none⟩ = some (.int .i64 v.z.hi) := hJ.es.cell 2 rfl 7 rfl
   have f2 : ww.cell? ⟨b1, 8, none⟩ = some (.bool v.z.all) := hJ.es.cell 2 rfl 8 rfl
   go_simp
   exact HK.out (.agg #[.int .i64 v.z.lo, .int .i64 v.z.hi, .bool v.z.all]) _ hJ rfl veL_same
  ·
   have x3 : aa.tmps[3]? = some (.pointer (some ⟨b2, 0, none⟩)) := (hev 3 (by decide)).trans rfl
   clear hd hev hin
   simp only [List.getElem_cons_succ, List.getElem_cons_zero]
   clear hl
   refine .inr ⟨rfl, fun K' hK => ?_⟩
   have HK := Lib.hid hK
   clear hK
   go_simp
   exact HK.out (.pointer (some ⟨b2, 0, none⟩)) _ hJ rfl veL_same
  ·
   have x18 : aa.tmps[18]? = some (.pointer (some ⟨b2, 0, none⟩)) := (hin 13 18 rfl).trans (congrArg some (show uu 13 = .pointer (some ⟨b2, 0, none⟩) from hd 13 (by decide) (by kernel_rfl)))
   clear hd hev hin
   simp only [List.getElem_cons_succ, List.getElem_cons_zero]
   clear hl
   refine .inr ⟨rfl, fun K' hK => ?_⟩
   have HK := Lib.hid hK
   clear hK
   have f0 : ww.cell? ⟨b2, 0, none⟩ = some (.int .i64 u.x.lo) := hJ.es.cell 1 rfl 0 rfl
   have f1 : ww.cell? ⟨b2, 1, none⟩ = some (.int .i64 u.x.hi) := hJ.es.cell 1 rfl 1 rfl
   have f2 : ww.cell? ⟨b2, 2, none⟩ = some (.bool u.x.all) := hJ.es.cell 1 rfl 2 rfl
   go_simp
   exact HK.out (.agg #[.int .i64 u.x.lo, .int .i64 u.x.hi, .bool u.x.all]) _ hJ rfl veL_same
  ·
   have x17 : aa.tmps[17]? = some (.agg #[.int .i64 v.z.lo, .int .i64 v.z.hi, .bool v.z.all]) := (hin 12 17 rfl).trans (congrArg some (show uu 12 = .agg #[.int .i64 v.z.lo, .int .i64 v.z.hi, .bool v.z.all] from hd 12 (by decide) (by kernel_rfl)))
   have x19 : aa.tmps[19]? = some (.agg #[.int .i64 u.x.lo, .int .i64 u.x.hi, .bool u.x.all]) := (hin 14 19 rfl).trans (congrArg some (show uu 14 = .agg #[.int .i64 u.x.lo, .int .i64 u.x.hi, .bool u.x.all] from hd 14 (by decide) (by kernel_rfl)))
   clear hd hev hin
   simp only [List.getElem_cons_succ, List.getElem_cons_zero]
   clear hl
   refine .inr ⟨rfl, fun K' hK => ?_⟩
   have HK := Lib.hid hK
   clear hK
   go_simp
   refine (Hp1.out ww).mono ?_
   rintro e W' ⟨rfl, hB⟩
   exact HK.out (.agg #[.int .i64 p1.lo, .int .i64 p1.hi, .bool p1.all]) _ (hJ.later hB) rfl (veL_later hB)
  ·
   have x2 : aa.tmps[2]? = some (.pointer (some ⟨b1, 0, none⟩)) := (hev 2 (by decide)).trans rfl
   clear hd hev hin
   simp only [List.getElem_cons_succ, List.getElem_cons_zero]
   clear hl
   refine .inr ⟨rfl, fun K' hK => ?_⟩
   have HK := Lib.hid hK
   clear hK
   go_simp
   exact HK.out (.pointer (some ⟨b1, 0, none⟩)) _ hJ rfl veL_same
  ·
   have x21 : aa.tmps[21]? = some (.pointer (some ⟨b1, 0, none⟩)) := (hin 16 21 rfl).trans (congrArg some (show uu 16 = .pointer (some ⟨b1, 0, none⟩) from hd 16 (by decide) (by kernel_rfl)))
   clear hd hev hin
   simp only [List.getElem_cons_succ, List.getElem_cons_zero]
   clear hl
   refine .inr ⟨rfl, fun K' hK => ?_⟩
   have HK := Lib.hid hK
   clear hK
   have f0 : ww.cell? ⟨b1, 0, none⟩ = some (.int .i64 v.x.lo) := hJ.es.cell 2 rfl 0 rfl
   have f1 : ww.cell? ⟨b1, 1, none⟩ = some (.int .i64 v.x.hi) := hJ.es.cell 2 rfl 1 rfl
   have f2 : ww.cell? ⟨b1, 2, none⟩ = some (.bool v.x.all) := hJ.es.cell 2 rfl 2 rfl
   go_simp
   exact HK.out (.agg #[.int .i64 v.x.lo, .int .i64 v.x.hi, .bool v.x.all]) _ hJ rfl veL_same
  ·
   have x3 : aa.tmps[3]? = some (.pointer (some ⟨b2, 0, none⟩)) := (hev 3 (by decide)).trans rfl
   clear hd hev hin
   simp only [List.getElem_cons_succ, List.getElem_cons_zero]
   clear hl
   refine .inr ⟨rfl, fun K' hK => ?_⟩
   have HK := Lib.hid hK
   clear hK
   go_simp
   exact HK.out (.pointer (some ⟨b2, 6, none⟩)) _ hJ rfl veL_same
  ·
   have x23 : aa.tmps[23]? = some (.pointer (some ⟨b2, 6, none⟩)) := (hin 18 23 rfl).trans (congrArg some (show uu 18 = .pointer (some ⟨b2, 6, none⟩) from hd 18 (by decide) (by kernel_rfl)))
   clear hd hev hin
   simp only [List.getElem_cons_succ, List.getElem_cons_zero]
   clear hl
   refine .inr ⟨rfl, fun K' hK => ?_⟩
   have HK := Lib.hid hK
   clear hK
   have f0 : ww.cell? ⟨b2, 6, none⟩ = some (.int .i64 u.z.lo) := hJ.es.cell 1 rfl 6 rfl
   have f1 : ww.cell? ⟨b2, 7, none⟩ = some (.int .i64 u.z.hi) := hJ.es.cell 1 rfl 7 rfl
   have f2 : ww.cell? ⟨b2, 8, none⟩ = some (.bool u.z.all) := hJ.es.cell 1 rfl 8 rfl
   go_simp
   exact HK.out (.agg #[.int .i64 u.z.lo, .int .i64 u.z.hi, .bool u.z.all]) _ hJ rfl veL_same
  ·
   have x22 : aa.tmps[22]? = some (.agg #[.int .i64 v.x.lo, .int .i64 v.x.hi, .bool v.x.all]) := (hin 17 22 rfl).trans (congrArg some (show uu 17 = .agg #[.int .i64 v.x.lo, .int .i64 v.x.hi, .bool v.x.all] from hd 17 (by decide) (by kernel_rfl)))
   have x24 : aa.tmps[24]? = some (.agg #[.int .i64 u.z.lo, .int .i64 u.z.hi, .bool u.z.all]) := (hin 19 24 rfl).trans (congrArg some (show uu 19 = .agg #[.int .i64 u.z.lo, .int .i64 u.z.hi, .bool u.z.all] from hd 19 (by decide) (by kernel_rfl)))
   clear hd hev hin
   simp only [List.getElem_cons_succ, List.getElem_cons_zero]
   clear hl
   refine .inr ⟨rfl, fun K' hK => ?_⟩
   have HK := Lib.hid hK
   clear hK
   go_simp
   refine (Hq1.out ww).mono ?_
   rintro e W' ⟨rfl, hB⟩
   exact HK.out (.agg #[.int .i64 q1.lo, .int .i64 q1.hi, .bool q1.all]) _ (hJ.later hB) rfl (veL_later hB)
  ·
   have x20 : aa.tmps[20]? = some (.agg #[.int .i64 p1.lo, .int .i64 p1.hi, .bool p1.all]) := (hin 15 20 rfl).trans (congrArg some (show uu 15 = .agg #[.int .i64 p1.lo, .int .i64 p1.hi, .bool p1.all] from hd 15 (by decide) (by kernel_rfl)))
   have x25 : aa.tmps[25]? = some (.agg #[.int .i64 q1.lo, .int .i64 q1.hi, .bool q1.all]) := (hin 20 25 rfl).trans (congrArg some (show uu 20 = .agg #[.int .i64 q1.lo, .int .i64 q1.hi, .bool q1.all] from hd 20 (by decide) (by kernel_rfl)))
   clear hd hev hin
   simp only [List.getElem_cons_succ, List.getElem_cons_zero]
   clear hl
   refine .inr ⟨rfl, fun K' hK => ?_⟩
   have HK := Lib.hid hK
   clear hK
   go_simp
   refine (Hr1.out ww).mono ?_
   rintro e W' ⟨rfl, hB⟩
   exact HK.out (.agg #[.int .i64 r.y.lo, .int .i64 r.y.hi, .bool r.y.all]) _ (hJ.later hB) rfl (veL_later hB)
  ·
   have x2 : aa.tmps[2]? = some (.pointer (some ⟨b1, 0, none⟩)) := (hev 2 (by decide)).trans rfl
   clear hd hev hin
   simp only [List.getElem_cons_succ, List.getElem_cons_zero]
   clear hl
   refine .inr ⟨rfl, fun K' hK => ?_⟩
   have HK := Lib.hid hK
   clear hK
   go_simp
   exact HK.out (.pointer (some ⟨b1, 0, none⟩)) _ hJ rfl veL_same
  ·
   have x27 : aa.tmps[27]? = some (.pointer (some ⟨b1, 0, none⟩)) := (hin 22 27 rfl).trans (congrArg some (show uu 22 = .pointer (some ⟨b1, 0, none⟩) from hd 22 (by decide) (by kernel_rfl)))
   clear hd hev hin
   simp only [List.getElem_cons_succ, List.getElem_cons_zero]
   clear hl
   refine .inr ⟨rfl, fun K' hK => ?_⟩
   have HK := Lib.hid hK
   clear hK
   have f0 : ww.cell? ⟨b1, 0, none⟩ = some (.int .i64 v.x.lo) := hJ.es.cell 2 rfl 0 rfl
   have f1 : ww.cell? ⟨b1, 1, none⟩ = some (.int .i64 v.x.hi) := hJ.es.cell 2 rfl 1 rfl
   have f2 : ww.cell? ⟨b1, 2, none⟩ = some (.bool v.x.all) := hJ.es.cell 2 rfl 2 rfl
   go_simp
   exact HK.out (.agg #[.int .i64 v.x.lo, .int .i64 v.x.hi, .bool v.x.all]) _ hJ rfl veL_same
  ·
   have x3 : aa.tmps[3]? = some (.pointer (some ⟨b2, 0, none⟩)) := (hev 3 (by decide)).trans rfl
   clear hd hev hin
   simp only [List.getElem_cons_succ, List.getElem_cons_zero]
   clear hl
   refine .inr ⟨rfl, fun K' hK => ?_⟩
   have HK := Lib.hid hK
   clear hK
   go_simp
   exact HK.out (.pointer (some ⟨b2, 3, none⟩)) _ hJ rfl veL_same
  ·
   have x29 : aa.tmps[29]? = some (.pointer (some ⟨b2, 3, none⟩)) := (hin 24 29 rfl).trans (congrArg some (show uu 24 = .pointer (some ⟨b2, 3, none⟩) from hd 24 (by decide) (by kernel_rfl)))
   clear hd hev hin
   simp only [List.getElem_cons_succ, List.getElem_cons_zero]
   clear hl
   refine .inr ⟨rfl, fun K' hK => ?_⟩
   have HK := Lib.hid hK
   clear hK
   have f0 : ww.cell? ⟨b2, 3, none⟩ = some (.int .i64 u.y.lo) := hJ.es.cell 1 rfl 3 rfl
   have f1 : ww.cell? ⟨b2, 4, none⟩ = some (.int .i64 u.y.hi) := hJ.es.cell 1 rfl 4 rfl
   have f2 : ww.cell? ⟨b2, 5, none⟩ = some (.bool u.y.all) := hJ.es.cell 1 rfl 5 rfl
   go_simp
   exact HK.out (.agg #[.int .i64 u.y.lo, .int .i64 u.y.hi, .bool u.y.all]) _ hJ rfl veL_same
  ·
   have x28 : aa.tmps[28]? = some (.agg #[.int .i64 v.x.lo, .int .i64 v.x.hi, .bool v.x.all]) := (hin 23 28 rfl).trans (congrArg some (show uu 23 = .agg #[.int .i64 v.x.lo, .int .i64 v.x.hi, .bool v.x.all] from hd 23 (by decide) (by kernel_rfl)))
   have x30 : aa.tmps[30]? = some (.agg #[.int .i64 u.y.lo, .int .i64 u.y.hi, .bool u.y.all]) := (hin 25 30 rfl).trans (congrArg some (show uu 25 = .agg #[.int .i64 u.y.lo, .int .i64 u.y.hi, .bool u.y.all] from hd 25 (by decide) (by kernel_rfl)))
   clear hd hev hin
   simp only [List.getElem_cons_succ, List.getElem_cons_zero]
   clear hl
   refine .inr ⟨rfl, fun K' hK => ?_⟩
   have HK := Lib.hid hK
   clear hK
   go_simp
   refine (Hp2.out ww).mono ?_
   rintro e W' ⟨rfl, hB⟩
   exact HK.out (.agg #[.int .i64 p2.lo, .int .i64 p2.hi, .bool p2.all]) _ (hJ.later hB) rfl (veL_later hB)
  ·
   have x2 : aa.tmps[2]? = some (.pointer (some ⟨b1, 0, none⟩)) := (hev 2 (by decide)).trans rfl
   clear hd hev hin
   simp only [List.getElem_cons_succ, List.getElem_cons_zero]
   clear hl
   refine .inr ⟨rfl, fun K' hK => ?_⟩
   have HK := Lib.hid hK
   clear hK
   go_simp
   exact HK.out (.pointer (some ⟨b1, 3, none⟩)) _ hJ rfl veL_same
  ·
   have x32 : aa.tmps[32]? = some (.pointer (some ⟨b1, 3, none⟩)) := (hin 27 32 rfl).trans (congrArg some (show uu 27 = .pointer (some ⟨b1, 3, none⟩) from hd 27 (by decide) (by kernel_rfl)))
   clear hd hev hin
   simp only [List.getElem_cons_succ, List.getElem_cons_zero]
   clear hl
   refine .inr ⟨rfl, fun K' hK => ?_⟩
   have HK := Lib.hid hK
   clear hK
   have f0 : ww.cell? ⟨b1, 3, none⟩ = some (.int .i64 v.y.lo) := hJ.es.cell 2 rfl 3 rfl
   have f1 : ww.cell? ⟨b1, 4, none⟩ = some (.int .i64 v.y.hi) := hJ.es.cell 2 rfl 4 rfl
   have f2 : ww.cell? ⟨b1, 5, none⟩ = some (.bool v.y.all) := hJ.es.cell 2 rfl 5 rfl
   go_simp
   exact HK.out (.agg #[.int .i64 v.y.lo, .int .i64 v.y.hi, .bool v.y.all]) _ hJ rfl veL_same
  ·
   have x3 : aa.tmps[3]? = some (.pointer (some ⟨b2, 0, none⟩)) := (hev 3 (by decide)).trans rfl
   clear hd hev hin
   simp only [List.getElem_cons_succ, List.getElem_cons_zero]
   clear hl
   refine .inr ⟨rfl, fun K' hK => ?_⟩
   have HK := Lib.hid hK
   clear hK
   go_simp
   exact HK.out (.pointer (some ⟨b2, 0, none⟩)) _ hJ rfl veL_same
  ·
   have x34 : aa.tmps[34]? = some (.pointer (some ⟨b2, 0, none⟩)) := (hin 29 34 rfl).trans (congrArg some (show uu 29 = .pointer (some ⟨b2, 0, none⟩) from hd 29 (by decide) (by kernel_rfl)))
   clear hd hev hin
   simp only [List.getElem_cons_succ, List.getElem_cons_zero]
   clear hl
   refine .inr ⟨rfl, fun K' hK => ?_⟩
   have HK := Lib.hid hK
   clear hK
   have f0 : ww.cell? ⟨b2, 0, none⟩ = some (.int .i64 u.x.lo) := hJ.es.cell 1 rfl 0 rfl
   have f1 : ww.cell? ⟨b2, 1, none⟩ = some (.int .i64 u.x.hi) := hJ.es.cell 1 rfl 1 rfl
   have f2 : ww.cell? ⟨b2, 2, none⟩ = some (.bool u.x.all) := hJ.es.cell 1 rfl 2 rfl
   go_simp
   exact HK.out (.agg #[.int .i64 u.x.lo, .int .i64 u.x.hi, .bool u.x.all]) _ hJ rfl veL_same
  ·
   have x33 : aa.tmps[33]? = some (.agg #[.int .i64 v.y.lo, .int .i64 v.y.hi, .bool v.y.all]) := (hin 28 33 rfl).trans (congrArg some (show uu 28 = .agg #[.int .i64 v.y.lo, .int .i64 v.y.hi, .bool v.y.all] from hd 28 (by decide) (by kernel_rfl)))
   have x35 : aa.tmps[35]? = some (.agg #[.int .i64 u.x.lo, .int .i64 u.x.hi, .bool u.x.all]) := (hin 30 35 rfl).trans (congrArg some (show uu 30 = .agg #[.int .i64 u.x.lo, .int .i64 u.x.hi, .bool u.x.all] from hd 30 (by decide) (by kernel_rfl)))
   clear hd hev hin
   simp only [List.getElem_cons_succ, List.getElem_cons_zero]
   clear hl
   refine .inr ⟨rfl, fun K' hK => ?_⟩
   have HK := Lib.hid hK
   clear hK
   go_simp
   refine (Hq2.out ww).mono ?_
   rintro e W' ⟨rfl, hB⟩
   exact HK.out (.agg #[.int .i64 q2.lo, .int .i64 q2.hi, .bool q2.all]) _ (hJ.later hB) rfl (veL_later hB)
  ·
   have x31 : aa.tmps[31]? = some (.agg #[.int .i64 p2.lo, .int .i64 p2.hi, .bool p2.all]) := (hin 26 31 rfl).trans (congrArg some (show uu 26 = .agg #[.int .i64 p2.lo, .int .i64 p2.hi, .bool p2.all] from hd 26 (by decide) (by kernel_rfl)))
   have x36 : aa.tmps[36]? = some (.agg #[.int .i64 q2.lo, .int .i64 q2.hi, .bool q2.all]) := (hin 31 36 rfl).trans (congrArg some (show uu 31 = .agg #[.int .i64 q2.lo, .int .i64 q2.hi, .bool q2.all] from hd 31 (by decide) (by kernel_rfl)))
   clear hd hev hin
   simp only [List.getElem_cons_succ, List.getElem_cons_zero]
   clear hl
   refine .inr ⟨rfl, fun K' hK => ?_⟩
   have HK := Lib.hid hK
   clear hK
   go_simp
   refine (Hr2.out ww).mono ?_
   rintro e W' ⟨rfl, hB⟩
   exact HK.out (.agg #[.int .i64 r.z.lo, .int .i64 r.z.hi, .bool r.z.all]) _ (hJ.later hB) rfl (veL_later hB)
  ·
   have x15 : aa.tmps[15]? = some (.agg #[.int .i64 r.x.lo, .int .i64 r.x.hi, .bool r.x.all]) := (hin 10 15 rfl).trans (congrArg some (show uu 10 = .agg #[.int .i64 r.x.lo, .int .i64 r.x.hi, .bool r.x.all] from hd 10 (by decide) (by kernel_rfl)))
   have x26 : aa.tmps[26]? = some (.agg #[.int .i64 r.y.lo, .int .i64 r.y.hi, .bool r.y.all]) := (hin 21 26 rfl).trans (congrArg some (show uu 21 = .agg #[.int .i64 r.y.lo, .int .i64 r.y.hi, .bool r.y.all] from hd 21 (by decide) (by kernel_rfl)))
   have x37 : aa.tmps[37]? = some (.agg #[.int .i64 r.z.lo, .int .i64 r.z.hi, .bool r.z.all]) := (hin 32 37 rfl).trans (congrArg some (show uu 32 = .agg #[.int .i64 r.z.lo, .int .i64 r.z.hi, .bool r.z.all] from hd 32 (by decide) (by kernel_rfl)))
   clear hd hev hin
   simp only [List.getElem_cons_succ, List.getElem_cons_zero]
   clear hl
   refine .inr ⟨rfl, fun K' hK => ?_⟩
   have HK := Lib.hid hK
   clear hK
   go_simp
   exact HK.out (.agg #[.int .i64 r.x.lo, .int .i64 r.x.hi, .bool r.x.all, .int .i64 r.y.lo, .int .i64 r.y.hi, .bool r.y.all, .int .i64 r.z.lo, .int .i64 r.z.hi, .bool r.z.all]) _ hJ rfl veL_same
 clear hM
 intro uu W4 hJm hd
 have e_0 : uu 0 = .pointer (some ⟨b1, 3, none⟩) := hd 0 (by decide)
 have e_1 : uu 1 = .agg #[.int .i64 v.y.lo, .int .i64 v.y.hi, .bool v.y.all] := hd 1 (by decide)
 have e_2 : uu 2 = .pointer (some ⟨b2, 6, none⟩) := hd 2 (by decide)
 have e_3 : uu 3 = .agg #[.int .i64 u.z.lo, .int .i64 u.z.hi, .bool u.z.all] := hd 3 (by decide)
 have e_4 : uu 4 = .agg #[.int .i64 p0.lo, .int .i64 p0.hi, .bool p0.all] := hd 4 (by decide)
 have e_5 : uu 5 = .pointer (some ⟨b1, 6, none⟩) := hd 5 (by decide)
 have e_6 : uu 6 = .agg #[.int .i64 v.z.lo, .int .i64 v.z.hi, .bool v.z.all] := hd 6 (by decide)
 have e_7 : uu 7 = .pointer (some ⟨b2, 3, none⟩) := hd 7 (by decide)
 have e_8 : uu 8 = .agg #[.int .i64 u.y.lo, .int .i64 u.y.hi, .bool u.y.all] := hd 8 (by decide)
 have e_9 : uu 9 = .agg #[.int .i64 q0.lo, .int .i64 q0.hi, .bool q0.all] := hd 9 (by decide)
 have e_10 : uu 10 = .agg #[.int .i64 r.x.lo, .int .i64 r.x.hi, .bool r.x.all] := hd 10 (by decide)
 have e_11 : uu 11 = .pointer (some ⟨b1, 6, none⟩) := hd 11 (by decide)
 have e_12 : uu 12 = .agg #[.int .i64 v.z.lo, .int .i64 v.z.hi, .bool v.z.all] := hd 12 (by decide)
 have e_13 : uu 13 = .pointer (some ⟨b2, 0, none⟩) := hd 13 (by decide)
 have e_14 : uu 14 = .agg #[.int .i64 u.x.lo, .int .i64 u.x.hi, .bool u.x.all] := hd 14 (by decide)
 have e_15 : uu 15 = .agg #[.int .i64 p1.lo, .int .i64 p1.hi, .bool p1.all] := hd 15 (by decide)
 have e_16 : uu 16 = .pointer (some ⟨b1, 0, none⟩) := hd 16 (by decide)
 have e_17 : uu 17 = .agg #[.int .i64 v.x.lo, .int .i64 v.x.hi, .bool v.x.all] := hd 17 (by decide)
 have e_18 : uu 18 = .pointer (some ⟨b2, 6, none⟩) := hd 18 (by decide)
 have e_19 : uu 19 = .agg #[.int .i64 u.z.lo, .int .i64 u.z.hi, .bool u.z.all] := hd 19 (by decide)
 have e_20 : uu 20 = .agg #[.int .i64 q1.lo, .int .i64 q1.hi, .bool q1.all] := hd 20 (by decide)
 have e_21 : uu 21 = .agg #[.int .i64 r.y.lo, .int .i64 r.y.hi, .bool r.y.all] := hd 21 (by decide)
 have e_22 : uu 22 = .pointer (some ⟨b1, 0, none⟩) := hd 22 (by decide)
 have e_23 : uu 23 = .agg #[.int .i64 v.x.lo, .int .i64 v.x.hi, .bool v.x.all] := hd 23 (by decide)
 have e_24 : uu 24 = .pointer (some ⟨b2, 3, none⟩) := hd 24 (by decide)
 have e_25 : uu 25 = .agg #[.int .i64 u.y.lo, .int .i64 u.y.hi, .bool u.y.all] := hd 25 (by decide)
 have e_26 : uu 26 = .agg #[.int .i64 p2.lo, .int .i64 p2.hi, .bool p2.all] := hd 26 (by decide)
 have e_27 : uu 27 = .pointer (some ⟨b1, 3, none⟩) := hd 27 (by decide)
 have e_28 : uu 28 = .agg #[.int .i64 v.y.lo, .int .i64 v.y.hi, .bool v.y.all] := hd 28 (by decide)
 have e_29 : uu 29 = .pointer (some ⟨b2, 0, none⟩) := hd 29 (by decide)
 have e_30 : uu 30 = .agg #[.int .i64 u.x.lo, .int .i64 u.x.hi, .bool u.x.all] := hd 30 (by decide)
 have e_31 : uu 31 = .agg #[.int .i64 q2.lo, .int .i64 q2.hi, .bool q2.all] := hd 31 (by decide)
 have e_32 : uu 32 = .agg #[.int .i64 r.z.lo, .int .i64 r.z.hi, .bool r.z.all] := hd 32 (by decide)
 have e_33 : uu 33 = .agg #[.int .i64 r.x.lo, .int .i64 r.x.hi, .bool r.x.all, .int .i64 r.y.lo, .int .i64 r.y.hi, .bool r.y.all, .int .i64 r.z.lo, .int .i64 r.z.hi, .bool r.z.all] := hd 33 (by decide)
 clear hd
 simp only [layS, Act.put, List.setIfInBounds_toArray, List.set_cons_succ, List.set_cons_zero, Nat.zero_add, Nat.reduceAdd, List.drop_succ_cons, List.drop_zero, List.drop_nil, e_0, e_1, e_2, e_3, e_4, e_5, e_6, e_7, e_8, e_9, e_10, e_11, e_12, e_13, e_14, e_15, e_16, e_17, e_18, e_19, e_20, e_21, e_22, e_23, e_24, e_25, e_26, e_27, e_28, e_29, e_30, e_31, e_32, e_33]
 clear e_0 e_1 e_2 e_3 e_4 e_5 e_6 e_7 e_8 e_9 e_10 e_11 e_12 e_13 e_14 e_15 e_16 e_17 e_18 e_19 e_20 e_21 e_22 e_23 e_24 e_25 e_26 e_27 e_28 e_29 e_30 e_31 e_32 e_33
 have hJ4 := hJm.es
 clear hJm
 go_wp2_with (refine stop_store 29 (.tmp 4) (.tmp 38) 0 b3 0 #[.int .i64 0, .int .i64 0, .bool false, .int .i64 0, .int .i64 0, .bool false, .int .i64 0, .int .i64 0, .bool false] 29 9 [.int .i64 r.x.lo, .int .i64 r.x.hi, .bool r.x.all, .int .i64 r.y.lo, .int .i64 r.y.hi, .bool r.y.all, .int .i64 r.z.lo, .int .i64 r.z.hi, .bool r.z.all] #[.int .i64 r.x.lo, .int .i64 r.x.hi, .bool r.x.all, .int .i64 r.y.lo, .int .i64 r.y.hi, .bool r.y.all, .int .i64 r.z.lo, .int .i64 r.z.hi, .bool r.z.all] [(b3, #[.int .i64 r.x.lo, .int .i64 r.x.hi, .bool r.x.all, .int .i64 r.y.lo, .int .i64 r.y.hi, .bool r.y.all, .int .i64 r.z.lo, .int .i64 r.z.hi, .bool r.z.all], 29), (b2, #[.int .i64 u.x.lo, .int .i64 u.x.hi, .bool u.x.all, .int .i64 u.y.lo, .int .i64 u.y.hi, .bool u.y.all, .int .i64 u.z.lo, .int .i64 u.z.hi, .bool u.z.all], 29), (b1, #[.int .i64 v.x.lo, .int .i64 v.x.hi, .bool v.x.all, .int .i64 v.y.lo, .int .i64 v.y.hi, .bool v.y.all, .int .i64 v.z.lo, .int .i64 v.z.hi, .bool v.z.all], 29)] rfl rfl rfl rfl sz29 hJ4 rfl rfl (Nat.le_of_ble_eq_true (by kernel_rfl)) (by kernel_rfl) (by kernel_rfl) (by kernel_rfl) (fun W5 hJ5 => ?_))
 clear hJ4
 unfold Stop
 try simp only [Act.put, List.setIfInBounds_toArray, List.set_cons_succ, List.set_cons_zero]
 have f0 : W5.cell? ⟨b3, 0, none⟩ = some (.int .i64 r.x.lo) := hJ5.cell 0 rfl 0 rfl
 have f1 : W5.cell? ⟨b3, 1, none⟩ = some (.int .i64 r.x.hi) := hJ5.cell 0 rfl 1 rfl
 have f2 : W5.cell? ⟨b3, 2, none⟩ = some (.bool r.x.all) := hJ5.cell 0 rfl 2 rfl
 have f3 : W5.cell? ⟨b3, 3, none⟩ = some (.int .i64 r.y.lo) := hJ5.cell 0 rfl 3 rfl
 have f4 : W5.cell? ⟨b3, 4, none⟩ = some (.int .i64 r.y.hi) := hJ5.cell 0 rfl 4 rfl
 have f5 : W5.cell? ⟨b3, 5, none⟩ = some (.bool r.y.all) := hJ5.cell 0 rfl 5 rfl
 have f6 : W5.cell? ⟨b3, 6, none⟩ = some (.int .i64 r.z.lo) := hJ5.cell 0 rfl 6 rfl
 have f7 : W5.cell? ⟨b3, 7, none⟩ = some (.int .i64 r.z.hi) := hJ5.cell 0 rfl 7 rfl
 have f8 : W5.cell? ⟨b3, 8, none⟩ = some (.bool r.z.all) := hJ5.cell 0 rfl 8 rfl
 go_wp2
 exact bodyPost_ret (v := .agg #[.int .i64 r.x.lo, .int .i64 r.x.hi, .bool r.x.all, .int .i64 r.y.lo, .int .i64 r.y.hi, .bool r.y.all, .int .i64 r.z.lo, .int .i64 r.z.hi, .bool r.z.all]) (by simp [results, Try.results23, go_sem, f0, f1, f2, f3, f4, f5, f6, f7, f8]) rfl ⟨rfl, hJ5.below⟩
theorem dCross_any (v u : Vc) (w : World) : Calls Try.prog 23 #[.agg #[.int .i64 v.x.lo, .int .i64 v.x.hi, .bool v.x.all, .int .i64 v.y.lo, .int .i64 v.y.hi, .bool v.y.all, .int .i64 v.z.lo, .int .i64 v.z.hi, .bool v.z.all], .agg #[.int .i64 u.x.lo, .int .i64 u.x.hi, .bool u.x.all, .int .i64 u.y.lo, .int .i64 u.y.hi, .bool u.y.all, .int .i64 u.z.lo, .int .i64 u.z.hi, .bool u.z.all]] w (PVal (.agg #[.int .i64 ((crossV v u).x.lo), .int .i64 ((crossV v u).x.hi), .bool ((crossV v u).x.all), .int .i64 ((crossV v u).y.lo), .int .i64 ((crossV v u).y.hi), .bool ((crossV v u).y.all), .int .i64 ((crossV v u).z.lo), .int .i64 ((crossV v u).z.hi), .bool ((crossV v u).z.all)]) w) :=
 dCross_w v u (crossV v u) _ _ _ _ _ _ (rdMul_any v.y u.z) (rdMul_any v.z u.y) (rdSub_any _ _) (rdMul_any v.z u.x) (rdMul_any v.x u.z) (rdSub_any _ _) (rdMul_any v.x u.y) (rdMul_any v.y u.x) (rdSub_any _ _) w
set_option maxRecDepth 100000 in
set_option maxHeartbeats 12800000 in
theorem dIn_f (v u : Vc) (r1 r2 : Bool) (hH0 : ∀ W : World, Calls Try.prog 62 #[.agg #[.int .i64 v.x.lo, .int .i64 v.x.hi, .bool v.x.all], .agg #[.int .i64 u.x.lo, .int .i64 u.x.hi, .bool u.x.all]] W (PVal (.bool false) W)) (hH1 : ∀ W : World, Calls Try.prog 62 #[.agg #[.int .i64 v.y.lo, .int .i64 v.y.hi, .bool v.y.all], .agg #[.int .i64 u.y.lo, .int .i64 u.y.hi, .bool u.y.all]] W (PVal (.bool r1) W)) (hH2 : ∀ W : World, Calls Try.prog 62 #[.agg #[.int .i64 v.z.lo, .int .i64 v.z.hi, .bool v.z.all], .agg #[.int .i64 u.z.lo, .int .i64 u.z.hi, .bool u.z.all]] W (PVal (.bool r2) W))  (w : World) : Calls Try.prog 29 #[.agg #[.int .i64 v.x.lo, .int .i64 v.x.hi, .bool v.x.all, .int .i64 v.y.lo, .int .i64 v.y.hi, .bool v.y.all, .int .i64 v.z.lo, .int .i64 v.z.hi, .bool v.z.all], .agg #[.int .i64 u.x.lo, .int .i64 u.x.hi, .bool u.x.all, .int .i64 u.y.lo, .int .i64 u.y.hi, .bool u.y.all, .int .i64 u.z.lo, .int .i64 u.z.hi, .bool u.z.all]] w (PVal (.bool false) w) := by
 have H0 := Lib.hid hH0
 have H1 := Lib.hid hH1
 have H2 := Lib.hid hH2
 clear hH0 hH1 hH2
 have hJ0 := es_nil w
 go_enter Try.func29, Try.ntmps29
 go_wp2_with (refine stop_box 29 (.tmp 0) #[.int .i64 v.x.lo, .int .i64 v.x.hi, .bool v.x.all, .int .i64 v.y.lo, .int .i64 v.y.hi, .bool v.y.all, .int .i64 v.z.lo, .int .i64 v.z.hi, .bool v.z.all] rfl rfl rfl hJ0 (fun b1 W1 hJ1 => ?_))
 clear hJ0
 unfold Stop
 try simp only [Act.put, List.setIfInBounds_toArray, List.set_cons_succ, List.set_cons_zero]
 go_wp2_with (refine stop_box 29 (.tmp 1) #[.int .i64 u.x.lo, .int .i64 u.x.hi, .bool u.x.all, .int .i64 u.y.lo, .int .i64 u.y.hi, .bool u.y.all, .int .i64 u.z.lo, .int .i64 u.z.hi, .bool u.z.all] rfl rfl rfl hJ1 (fun b2 W2 hJ2 => ?_))
 clear hJ1
 unfold Stop
 try simp only [Act.put, List.setIfInBounds_toArray, List.set_cons_succ, List.set_cons_zero]
 have f0 : W2.cell? ⟨b1, 0, none⟩ = some (.int .i64 v.x.lo) := hJ2.cell 1 rfl 0 rfl
 have f1 : W2.cell? ⟨b1, 1, none⟩ = some (.int .i64 v.x.hi) := hJ2.cell 1 rfl 1 rfl
 have f2 : W2.cell? ⟨b1, 2, none⟩ = some (.bool v.x.all) := hJ2.cell 1 rfl 2 rfl
 have f3 : W2.cell? ⟨b2, 0, none⟩ = some (.int .i64 u.x.lo) := hJ2.cell 0 rfl 0 rfl
 have f4 : W2.cell? ⟨b2, 1, none⟩ = some (.int .i64 u.x.hi) := hJ2.cell 0 rfl 1 rfl
 have f5 : W2.cell? ⟨b2, 2, none⟩ = some (.bool u.x.all) := hJ2.cell 0 rfl 2 rfl
 go_wp2_with fail
 refine (H0.out _).mono ?_
 rintro e W3 ⟨rfl, hB⟩
 have hJ3 := hJ2.later hB
 clear hB
 clear f0 f1 f2 f3 f4 f5
 clear hJ2
 have f0 : W3.cell? ⟨b1, 3, none⟩ = some (.int .i64 v.y.lo) := hJ3.cell 1 rfl 3 rfl
 have f1 : W3.cell? ⟨b1, 4, none⟩ = some (.int .i64 v.y.hi) := hJ3.cell 1 rfl 4 rfl
 have f2 : W3.cell? ⟨b1, 5, none⟩ = some (.bool v.y.all) := hJ3.cell 1 rfl 5 rfl
 have f3 : W3.cell? ⟨b2, 3, none⟩ = some (.int .i64 u.y.lo) := hJ3.cell 0 rfl 3 rfl
 have f4 : W3.cell? ⟨b2, 4, none⟩ = some (.int .i64 u.y.hi) := hJ3.cell 0 rfl 4 rfl
 have f5 : W3.cell? ⟨b2, 5, none⟩ = some (.bool u.y.all) := hJ3.cell 0 rfl 5 rfl
 go_wp2_with fail
 refine (H1.out _).mono ?_
 rintro e W4 ⟨rfl, hB⟩
 have hJ4 := hJ3.later hB
 clear hB
 clear f0 f1 f2 f3 f4 f5
 clear hJ3
 have f0 : W4.cell? ⟨b1, 6, none⟩ = some (.int .i64 v.z.lo) := hJ4.cell 1 rfl 6 rfl
 have f1 : W4.cell? ⟨b1, 7, none⟩ = some (.int .i64 v.z.hi) := hJ4.cell 1 rfl 7 rfl
 have f2 : W4.cell? ⟨b1, 8, none⟩ = some (.bool v.z.all) := hJ4.cell 1 rfl 8 rfl
 have f3 : W4.cell? ⟨b2, 6, none⟩ = some (.int .i64 u.z.lo) := hJ4.cell 0 rfl 6 rfl
 have f4 : W4.cell? ⟨b2, 7, none⟩ = some (.int .i64 u.z.hi) := hJ4.cell 0 rfl 7 rfl
 have f5 : W4.cell? ⟨b2, 8, none⟩ = some (.bool u.z.all) := hJ4.cell 0 rfl 8 rfl
 go_wp2_with fail
 refine (H2.out _).mono ?_
 rintro e W5 ⟨rfl, hB⟩
 have hJ5 := hJ4.later hB
 clear hB
 clear f0 f1 f2 f3 f4 f5
 clear hJ4
 go_wp2
 go_ret
 exact ⟨rfl, hJ5.below⟩
set_option maxRecDepth 100000 in
set_option maxHeartbeats 12800000 in
theorem dIn_tf (v u : Vc) (r2 : Bool) (hH0 : ∀ W : World, Calls Try.prog 62 #[.agg #[.int .i64 v.x.lo, .int .i64 v.x.hi, .bool v.x.all], .agg #[.int .i64 u.x.lo, .int .i64 u.x.hi, .bool u.x.all]] W (PVal (.bool true) W)) (hH1 : ∀ W : World, Calls Try.prog 62 #[.agg #[.int .i64 v.y.lo, .int .i64 v.y.hi, .bool v.y.all], .agg #[.int .i64 u.y.lo, .int .i64 u.y.hi, .bool u.y.all]] W (PVal (.bool false) W)) (hH2 : ∀ W : World, Calls Try.prog 62 #[.agg #[.int .i64 v.z.lo, .int .i64 v.z.hi, .bool v.z.all], .agg #[.int .i64 u.z.lo, .int .i64 u.z.hi, .bool u.z.all]] W (PVal (.bool r2) W))  (w : World) : Calls Try.prog 29 #[.agg #[.int .i64 v.x.lo, .int .i64 v.x.hi, .bool v.x.all, .int .i64 v.y.lo, .int .i64 v.y.hi, .bool v.y.all, .int .i64 v.z.lo, .int .i64 v.z.hi, .bool v.z.all], .agg #[.int .i64 u.x.lo, .int .i64 u.x.hi, .bool u.x.all, .int .i64 u.y.lo, .int .i64 u.y.hi, .bool u.y.all, .int .i64 u.z.lo, .int .i64 u.z.hi, .bool u.z.all]] w (PVal (.bool false) w) := by
 have H0 := Lib.hid hH0
 have H1 := Lib.hid hH1
 have H2 := Lib.hid hH2
 clear hH0 hH1 hH2
 have hJ0 := es_nil w
 go_enter Try.func29, Try.ntmps29
 go_wp2_with (refine stop_box 29 (.tmp 0) #[.int .i64 v.x.lo, .int .i64 v.x.hi, .bool v.x.all, .int .i64 v.y.lo, .int .i64 v.y.hi, .bool v.y.all, .int .i64 v.z.lo, .int .i64 v.z.hi, .bool v.z.all] rfl rfl rfl hJ0 (fun b1 W1 hJ1 => ?_))
 clear hJ0
 unfold Stop
 try simp only [Act.put, List.setIfInBounds_toArray, List.set_cons_succ, List.set_cons_zero]
 go_wp2_with (refine stop_box 29 (.tmp 1) #[.int .i64 u.x.lo, .int .i64 u.x.hi, .bool u.x.all, .int .i64 u.y.lo, .int .i64 u.y.hi, .bool u.y.all, .int .i64 u.z.lo, .int .i64 u.z.hi, .bool u.z.all] rfl rfl rfl hJ1 (fun b2 W2 hJ2 => ?_))
 clear hJ1
 unfold Stop
 try simp only [Act.put, List.setIfInBounds_toArray, List.set_cons_succ, List.set_cons_zero]
 have f0 : W2.cell? ⟨b1, 0, none⟩ = some (.int .i64 v.x.lo) := hJ2.cell 1 rfl 0 rfl
 have f1 : W2.cell? ⟨b1, 1, none⟩ = some (.int .i64 v.x.hi) := hJ2.cell 1 rfl 1 rfl
 have f2 : W2.cell? ⟨b1, 2, none⟩ = some (.bool v.x.all) := hJ2.cell 1 rfl 2 rfl
 have f3 : W2.cell? ⟨b2, 0, none⟩ = some (.int .i64 u.x.lo) := hJ2.cell 0 rfl 0 rfl
 have f4 : W2.cell? ⟨b2, 1, none⟩ = some (.int .i64 u.x.hi) := hJ2.cell 0 rfl 1 rfl
 have f5 : W2.cell? ⟨b2, 2, none⟩ = some (.bool u.x.all) := hJ2.cell 0 rfl 2 rfl
 go_wp2_with fail
 refine (H0.out _).mono ?_
 rintro e W3 ⟨rfl, hB⟩
 have hJ3 := hJ2.later hB
 clear hB
 clear f0 f1 f2 f3 f4 f5
 clear hJ2
 have f0 : W3.cell? ⟨b1, 3, none⟩ = some (.int .i64 v.y.lo) := hJ3.cell 1 rfl 3 rfl
 have f1 : W3.cell? ⟨b1, 4, none⟩ = some (.int .i64 v.y.hi) := hJ3.cell 1 rfl 4 rfl
 have f2 : W3.cell? ⟨b1, 5, none⟩ = some (.bool v.y.all) := hJ3.cell 1 rfl 5 rfl
 have f3 : W3.cell? ⟨b2, 3, none⟩ = some (.int .i64 u.y.lo) := hJ3.cell 0 rfl 3 rfl
 have f4 : W3.cell? ⟨b2, 4, none⟩ = some (.int .i64 u.y.hi) := hJ3.cell 0 rfl 4 rfl
 have f5 : W3.cell? ⟨b2, 5, none⟩ = some (.bool u.y.all) := hJ3.cell 0 rfl 5 rfl
 go_wp2_with fail
 refine (H1.out _).mono ?_
 rintro e W4 ⟨rfl, hB⟩
 have hJ4 := hJ3.later hB
 clear hB
 clear f0 f1 f2 f3 f4 f5
 clear hJ3
 have f0 : W4.cell? ⟨b1, 6, none⟩ = some (.int .i64 v.z.lo) := hJ4.cell 1 rfl 6 rfl
 have f1 : W4.cell? ⟨b1, 7, none⟩ = some (.int .i64 v.z.hi) := hJ4.cell 1 rfl 7 rfl
 have f2 : W4.cell? ⟨b1, 8, none⟩ = some (.bool v.z.all) := hJ4.cell 1 rfl 8 rfl
 have f3 : W4.cell? ⟨b2, 6, none⟩ = some (.int .i64 u.z.lo) := hJ4.cell 0 rfl 6 rfl
 have f4 : W4.cell? ⟨b2, 7, none⟩ = some (.int .i64 u.z.hi) := hJ4.cell 0 rfl 7 rfl
 have f5 : W4.cell? ⟨b2, 8, none⟩ = some (.bool u.z.all) := hJ4.cell 0 rfl 8 rfl
 go_wp2_with fail
 refine (H2.out _).mono ?_
 rintro e W5 ⟨rfl, hB⟩
 have hJ5 := hJ4.later hB
 clear hB
 clear f0 f1 f2 f3 f4 f5
 clear hJ4
 go_wp2
 go_ret
 exact ⟨rfl, hJ5.below⟩
set_option maxRecDepth 100000 in
set_option maxHeartbeats 12800000 in
theorem dIn_tt (v u : Vc) (r2 : Bool) (hH0 : ∀ W : World, Calls Try.prog 62 #[.agg #[.int .i64 v.x.lo, .int .i64 v.x.hi, .bool v.x.all], .agg #[.int .i64 u.x.lo, .int .i64 u.x.hi, .bool u.x.all]] W (PVal (.bool true) W)) (hH1 : ∀ W : World, Calls Try.prog 62 #[.agg #[.int .i64 v.y.lo, .int .i64 v.y.hi, .bool v.y.all], .agg #[.int .i64 u.y.lo, .int .i64 u.y.hi, .bool u.y.all]] W (PVal (.bool true) W)) (hH2 : ∀ W : World, Calls Try.prog 62 #[.agg #[.int .i64 v.z.lo, .int .i64 v.z.hi, .bool v.z.all], .agg #[.int .i64 u.z.lo, .int .i64 u.z.hi, .bool u.z.all]] W (PVal (.bool r2) W))  (w : World) : Calls Try.prog 29 #[.agg #[.int .i64 v.x.lo, .int .i64 v.x.hi, .bool v.x.all, .int .i64 v.y.lo, .int .i64 v.y.hi, .bool v.y.all, .int .i64 v.z.lo, .int .i64 v.z.hi, .bool v.z.all], .agg #[.int .i64 u.x.lo, .int .i64 u.x.hi, .bool u.x.all, .int .i64 u.y.lo, .int .i64 u.y.hi, .bool u.y.all, .int .i64 u.z.lo, .int .i64 u.z.hi, .bool u.z.all]] w (PVal (.bool r2) w) := by
 have H0 := Lib.hid hH0
 have H1 := Lib.hid hH1
 have H2 := Lib.hid hH2
 clear hH0 hH1 hH2
 have hJ0 := es_nil w
 go_enter Try.func29, Try.ntmps29
 go_wp2_with (refine stop_box 29 (.tmp 0) #[.int .i64 v.x.lo, .int .i64 v.x.hi, .bool v.x.all, .int .i64 v.y.lo, .int .i64 v.y.hi, .bool v.y.all, .int .i64 v.z.lo, .int .i64 v.z.hi, .bool v.z.all] rfl rfl rfl hJ0 (fun b1 W1 hJ1 => ?_))
 clear hJ0
 unfold Stop
 try simp only [Act.put, List.setIfInBounds_toArray, List.set_cons_succ, List.set_cons_zero]
 go_wp2_with (refine stop_box 29 (.tmp 1) #[.int .i64 u.x.lo, .int .i64 u.x.hi, .bool u.x.all, .int .i64 u.y.lo, .int .i64 u.y.hi, .bool u.y.all, .int .i64 u.z.lo, .int .i64 u.z.hi, .bool u.z.all] rfl rfl rfl hJ1 (fun b2 W2 hJ2 => ?_))
 clear hJ1
 unfold Stop
 try simp only [Act.put, List.setIfInBounds_toArray, List.set_cons_succ, List.set_cons_zero]
 have f0 : W2.cell? ⟨b1, 0, none⟩ = some (.int .i64 v.x.lo) := hJ2.cell 1 rfl 0 rfl
 have f1 : W2.cell? ⟨b1, 1, none⟩ = some (.int .i64 v.x.hi) := hJ2.cell 1 rfl 1 rfl
 have f2 : W2.cell? ⟨b1, 2, none⟩ = some (.bool v.x.all) := hJ2.cell 1 rfl 2 rfl
 have f3 : W2.cell? ⟨b2, 0, none⟩ = some (.int .i64 u.x.lo) := hJ2.cell 0 rfl 0 rfl
 have f4 : W2.cell? ⟨b2, 1, none⟩ = some (.int .i64 u.x.hi) := hJ2.cell 0 rfl 1 rfl
 have f5 : W2.cell? ⟨b2, 2, none⟩ = some (.bool u.x.all) := hJ2.cell 0 rfl 2 rfl
 go_wp2_with fail
 refine (H0.out _).mono ?_
 rintro e W3 ⟨rfl, hB⟩
 have hJ3 := hJ2.later hB
 clear hB
 clear f0 f1 f2 f3 f4 f5
 clear hJ2
 have f0 : W3.cell? ⟨b1, 3, none⟩ = some (.int .i64 v.y.lo) := hJ3.cell 1 rfl 3 rfl
 have f1 : W3.cell? ⟨b1, 4, none⟩ = some (.int .i64 v.y.hi) := hJ3.cell 1 rfl 4 rfl
 have f2 : W3.cell? ⟨b1, 5, none⟩ = some (.bool v.y.all) := hJ3.cell 1 rfl 5 rfl
 have f3 : W3.cell? ⟨b2, 3, none⟩ = some (.int .i64 u.y.lo) := hJ3.cell 0 rfl 3 rfl
 have f4 : W3.cell? ⟨b2, 4, none⟩ = some (.int .i64 u.y.hi) := hJ3.cell 0 rfl 4 rfl
 have f5 : W3.cell? ⟨b2, 5, none⟩ = some (.bool u.y.all) := hJ3.cell 0 rfl 5 rfl
 go_wp2_with fail
 refine (H1.out _).mono ?_
 rintro e W4 ⟨rfl, hB⟩
 have hJ4 := hJ3.later hB
 clear hB
 clear f0 f1 f2 f3 f4 f5
 clear hJ3
 have f0 : W4.cell? ⟨b1, 6, none⟩ = some (.int .i64 v.z.lo) := hJ4.cell 1 rfl 6 rfl
 have f1 : W4.cell? ⟨b1, 7, none⟩ = some (.int .i64 v.z.hi) := hJ4.cell 1 rfl 7 rfl
 have f2 : W4.cell? ⟨b1, 8, none⟩ = some (.bool v.z.all) := hJ4.cell 1 rfl 8 rfl
 have f3 : W4.cell? ⟨b2, 6, none⟩ = some (.int .i64 u.z.lo) := hJ4.cell 0 rfl 6 rfl
 have f4 : W4.cell? ⟨b2, 7, none⟩ = some (.int .i64 u.z.hi) := hJ4.cell 0 rfl 7 rfl
 have f5 : W4.cell? ⟨b2, 8, none⟩ = some (.bool u.z.all) := hJ4.cell 0 rfl 8 rfl
 go_wp2_with fail
 refine (H2.out _).mono ?_
 rintro e W5 ⟨rfl, hB⟩
 have hJ5 := hJ4.later hB
 clear hB
 clear f0 f1 f2 f3 f4 f5
 clear hJ4
 go_wp2
 go_ret
 exact ⟨rfl, hJ5.below⟩
theorem dIn_any (v u : Vc) (w : World) : Calls Try.prog 29 #[.agg #[.int .i64 v.x.lo, .int .i64 v.x.hi, .bool v.x.all, .int .i64 v.y.lo, .int .i64 v.y.hi, .bool v.y.all, .int .i64 v.z.lo, .int .i64 v.z.hi, .bool v.z.all], .agg #[.int .i64 u.x.lo, .int .i64 u.x.hi, .bool u.x.all, .int .i64 u.y.lo, .int .i64 u.y.hi, .bool u.y.all, .int .i64 u.z.lo, .int .i64 u.z.hi, .bool u.z.all]] w (PVal (.bool (inV v u)) w) := by
 unfold inV
 have h0 := rdIn_any v.x u.x
 have h1 := rdIn_any v.y u.y
 have h2 := rdIn_any v.z u.z
 cases e0 : inB v.x u.x
 ·
  exact dIn_f v u _ _ (e0 ▸ h0) h1 h2 w
 ·
  cases e1 : inB v.y u.y
  ·
   exact dIn_tf v u _ (e0 ▸ h0) (e1 ▸ h1) h2 w
  ·
   exact dIn_tt v u _ (e0 ▸ h0) (e1 ▸ h1) h2 w
set_option maxRecDepth 100000 in
set_option maxHeartbeats 12800000 in
theorem dMid_w (v : Vc) (r0 r1 r2 : Int) (hH0 : ∀ W : World, Calls Try.prog 63 #[.agg #[.int .i64 v.x.lo, .int .i64 v.x.hi, .bool v.x.all]] W (PVal (.int .i64 r0) W)) (hH1 : ∀ W : World, Calls Try.prog 63 #[.agg #[.int .i64 v.y.lo, .int .i64 v.y.hi, .bool v.y.all]] W (PVal (.int .i64 r1) W)) (hH2 : ∀ W : World, Calls Try.prog 63 #[.agg #[.int .i64 v.z.lo, .int .i64 v.z.hi, .bool v.z.all]] W (PVal (.int .i64 r2) W))  (w : World) : Calls Try.prog 30 #[.agg #[.int .i64 v.x.lo, .int .i64 v.x.hi, .bool v.x.all, .int .i64 v.y.lo, .int .i64 v.y.hi, .bool v.y.all, .int .i64 v.z.lo, .int .i64 v.z.hi, .bool v.z.all]] w (PVal (.agg #[.int .i64 r0, .int .i64 r1, .int .i64 r2]) w) := by
 have H0 := Lib.hid hH0
 have H1 := Lib.hid hH1
 have H2 := Lib.hid hH2
 clear hH0 hH1 hH2
 have hJ0 := es_nil w
 go_enter Try.func30, Try.ntmps30
 go_wp2_with (refine stop_box 29 (.tmp 0) #[.int .i64 v.x.lo, .int .i64 v.x.hi, .bool v.x.all, .int .i64 v.y.lo, .int .i64 v.y.hi, .bool v.y.all, .int .i64 v.z.lo, .int .i64 v.z.hi, .bool v.z.all] rfl rfl rfl hJ0 (fun b1 W1 hJ1 => ?_))
 clear hJ0
 unfold Stop
 try simp only [Act.put, List.setIfInBounds_toArray, List.set_cons_succ, List.set_cons_zero]
 go_wp2_with (refine stop_alloc 42 #[.int .i64 0, .int .i64 0, .int .i64 0] (.agg #[.int .i64 0, .int .i64 0, .int .i64 0]) rfl rfl zv42 rfl hJ1 (fun b2 W2 hJ2 => ?_))
 clear hJ1
 unfold Stop
 try simp only [Act.put, List.setIfInBounds_toArray, List.set_cons_succ, List.set_cons_zero]
 go_wp2
 obtain ⟨m1_2, hm⟩ : ∃ m, m = W2.heap.size := ⟨_, rfl⟩
 have hM := hJ2.em
 rw [← hm] at hM
 clear hm hJ2
 refine wp_region_z 10 [some 3, some 4, some 5, some 6, some 7, some 8, some 9, some 10, some 11, some 12] (veL m1_2 [.eq (.pointer (some ⟨b1, 0, none⟩)), .eq (.agg #[.int .i64 v.x.lo, .int .i64 v.x.hi, .bool v.x.all]), .eq (.int .i64 r0), .eq (.pointer (some ⟨b1, 3, none⟩)), .eq (.agg #[.int .i64 v.y.lo, .int .i64 v.y.hi, .bool v.y.all]), .eq (.int .i64 r1), .eq (.pointer (some ⟨b1, 6, none⟩)), .eq (.agg #[.int .i64 v.z.lo, .int .i64 v.z.hi, .bool v.z.all]), .eq (.int .i64 r2), .eq (.agg #[.int .i64 r0, .int .i64 r1, .int .i64 r2])]) (Em w m1_2 [(b2, #[.int .i64 0, .int .i64 0, .int .i64 0], 42), (b1, #[.int .i64 v.x.lo, .int .i64 v.x.hi, .bool v.x.all, .int .i64 v.y.lo, .int .i64 v.y.hi, .bool v.y.all, .int .i64 v.z.lo, .int .i64 v.z.hi, .bool v.z.all], 29)]) (by kernel_rfl) (by kernel_rfl) (by rfl) (by decide) (by rfl) hM ?_ ?_
 ·
  intro i hl hi uu ww aa hJ hd hev hin
  clear hM
  obtain rfl | rfl | rfl | rfl | rfl | rfl | rfl | rfl | rfl | rfl : i = 0 ∨ i = 1 ∨ i = 2 ∨ i = 3 ∨ i = 4 ∨ i = 5 ∨ i = 6 ∨ i = 7 ∨ i = 8 ∨ i = 9 := by omega
  ·
   have x1 : aa.tmps[1]? = some (.pointer (some ⟨b1, 0, none⟩)) := (hev 1 (by decide)).trans rfl
   clear hd hev hin
   simp only [List.getElem_cons_succ, List.getElem_cons_zero]
   clear hl
   refine .inr ⟨rfl, fun K' hK => ?_⟩
   have HK := Lib.hid hK
   clear hK
   go_simp
   exact HK.out (.pointer (some ⟨b1, 0, none⟩)) _ hJ rfl veL_same
  ·
   have x3 : aa.tmps[3]? = some (.pointer (some ⟨b1, 0, none⟩)) := (hin 0 3 rfl).trans (congrArg some (show uu 0 = .pointer (some ⟨b1, 0, none⟩) from hd 0 (by decide) (by kernel_rfl)))
   clear hd hev hin
   simp only [List.getElem_cons_succ, List.getElem_cons_zero]
   clear hl
   refine .inr ⟨rfl, fun K' hK => ?_⟩
   have HK := Lib.hid hK
   clear hK
   have f0 : ww.cell? ⟨b1, 0, none⟩ = some (.int .i64 v.x.lo) := hJ.es.cell 1 rfl 0 rfl
   have f1 : ww.cell? ⟨b1, 1, none⟩ = some (.int .i64 v.x.hi) := hJ.es.cell 1 rfl 1 rfl
   have f2 : ww.cell? ⟨b1, 2, none⟩ = some (.bool v.x.all) := hJ.es.cell 1 rfl 2 rfl
   go_simp
   exact HK.out (.agg #[.int .i64 v.x.lo, .int .i64 v.x.hi, .bool v.x.all]) _ hJ rfl veL_same
  ·
   have x4 : aa.tmps[4]? = some (.agg #[.int .i64 v.x.lo, .int .i64 v.x.hi, .bool v.x.all]) := (hin 1 4 rfl).trans (congrArg some (show uu 1 = .agg #[.int .i64 v.x.lo, .int .i64 v.x.hi, .bool v.x.all] from hd 1 (by decide) (by kernel_rfl)))
   clear hd hev hin
   simp only [List.getElem_cons_succ, List.getElem_cons_zero]
   clear hl
   refine .inr ⟨rfl, fun K' hK => ?_⟩
   have HK := Lib.hid hK
   clear hK
   go_simp
   refine (H0.out ww).mono ?_
   rintro e W' ⟨rfl, hB⟩
   exact HK.out (.int .i64 r0) _ (hJ.later hB) rfl (veL_later hB)
  ·
   have x1 : aa.tmps[1]? = some (.pointer (some ⟨b1, 0, none⟩)) := (hev 1 (by decide)).trans rfl
   clear hd hev hin
   simp only [List.getElem_cons_succ, List.getElem_cons_zero]
   clear hl
   refine .inr ⟨rfl, fun K' hK => ?_⟩
   have HK := Lib.hid hK
   clear hK
   go_simp
   exact HK.out (.pointer (some ⟨b1, 3, none⟩)) _ hJ rfl veL_same
  ·
   have x6 : aa.tmps[6]? = some (.pointer (some ⟨b1, 3, none⟩)) := (hin 3 6 rfl).trans (congrArg some (show uu 3 = .pointer (some ⟨b1, 3, none⟩) from hd 3 (by decide) (by kernel_rfl)))
   clear hd hev hin
   simp only [List.getElem_cons_succ, List.getElem_cons_zero]
   clear hl
   refine .inr ⟨rfl, fun K' hK => ?_⟩
   have HK := Lib.hid hK
   clear hK
   have f0 : ww.cell? ⟨b1, 3, none⟩ = some (.int .i64 v.y.lo) := hJ.es.cell 1 rfl 3 rfl
   have f1 : ww.cell? ⟨b1, 4, none⟩ = some (.int .i64 v.y.hi) := hJ.es.cell 1 rfl 4 rfl
   have f2 : ww.cell? ⟨b1, 5, none⟩ = some (.bool v.y.all) := hJ.es.cell 1 rfl 5 rfl
   go_simp
   exact HK.out (.agg #[.int .i64 v.y.lo, .int .i64 v.y.hi, .bool v.y.all]) _ hJ rfl veL_same
  ·
   have x7 : aa.tmps[7]? = some (.agg #[.int .i64 v.y.lo, .int .i64 v.y.hi, .bool v.y.all]) := (hin 4 7 rfl).trans (congrArg some (show uu 4 = .agg #[.int .i64 v.y.lo, .int .i64 v.y.hi, .bool v.y.all] from hd 4 (by decide) (by kernel_rfl)))
   clear hd hev hin
   simp only [List.getElem_cons_succ, List.getElem_cons_zero]
   clear hl
   refine .inr ⟨rfl, fun K' hK => ?_⟩
   have HK := Lib.hid hK
   clear hK
   go_simp
   refine (H1.out ww).mono ?_
   rintro e W' ⟨rfl, hB⟩
   exact HK.out (.int .i64 r1) _ (hJ.later hB) rfl (veL_later hB)
  ·
   have x1 : aa.tmps[1]? = some (.pointer (some ⟨b1, 0, none⟩)) := (hev 1 (by decide)).trans rfl
   clear hd hev hin
   simp only [List.getElem_cons_succ, List.getElem_cons_zero]
   clear hl
   refine .inr ⟨rfl, fun K' hK => ?_⟩
   have HK := Lib.hid hK
   clear hK
   go_simp
   exact HK.out (.pointer (some ⟨b1, 6, none⟩)) _ hJ rfl veL_same
  ·
   have x9 : aa.tmps[9]? = some (.pointer (some ⟨b1, 6, none⟩)) := (hin 6 9 rfl).trans (congrArg some (show uu 6 = .pointer (some ⟨b1, 6, none⟩) from hd 6 (by decide) (by kernel_rfl)))
   clear hd hev hin
   simp only [List.getElem_cons_succ, List.getElem_cons_zero]
   clear hl
   refine .inr ⟨rfl, fun K' hK => ?_⟩
   have HK := Lib.hid hK
   clear hK
   have f0 : ww.cell? ⟨b1, 6, none⟩ = some (.int .i64 v.z.lo) := hJ.es.cell 1 rfl 6 rfl
   have f1 : ww.cell? ⟨b1, 7, none⟩ = some (.int .i64 v.z.hi) := hJ.es.cell 1 rfl 7 rfl
   have f2 : ww.cell? ⟨b1, 8, none⟩ = some (.bool v.z.all) := hJ.es.cell 1 rfl 8 rfl
   go_simp
   exact HK.out (.agg #[.int .i64 v.z.lo, .int .i64 v.z.hi, .bool v.z.all]) _ hJ rfl veL_same
  ·
   have x10 : aa.tmps[10]? = some (.agg #[.int .i64 v.z.lo, .int .i64 v.z.hi, .bool v.z.all]) := (hin 7 10 rfl).trans (congrArg some (show uu 7 = .agg #[.int .i64 v.z.lo, .int .i64 v.z.hi, .bool v.z.all] from hd 7 (by decide) (by kernel_rfl)))
   clear hd hev hin
   simp only [List.getElem_cons_succ, List.getElem_cons_zero]
   clear hl
   refine .inr ⟨rfl, fun K' hK => ?_⟩
   have HK := Lib.hid hK
   clear hK
   go_simp
   refine (H2.out ww).mono ?_
   rintro e W' ⟨rfl, hB⟩
   exact HK.out (.int .i64 r2) _ (hJ.later hB) rfl (veL_later hB)
  ·
   have x5 : aa.tmps[5]? = some (.int .i64 r0) := (hin 2 5 rfl).trans (congrArg some (show uu 2 = .int .i64 r0 from hd 2 (by decide) (by kernel_rfl)))
   have x8 : aa.tmps[8]? = some (.int .i64 r1) := (hin 5 8 rfl).trans (congrArg some (show uu 5 = .int .i64 r1 from hd 5 (by decide) (by kernel_rfl)))
   have x11 : aa.tmps[11]? = some (.int .i64 r2) := (hin 8 11 rfl).trans (congrArg some (show uu 8 = .int .i64 r2 from hd 8 (by decide) (by kernel_rfl)))
   clear hd hev hin
   simp only [List.getElem_cons_succ, List.getElem_cons_zero]
   clear hl
   refine .inr ⟨rfl, fun K' hK => ?_⟩
   have HK := Lib.hid hK
   clear hK
   go_simp
   exact HK.out (.agg #[.int .i64 r0, .int .i64 r1, .int .i64 r2]) _ hJ rfl veL_same
 clear hM
 intro uu W3 hJm hd
 have e_0 : uu 0 = .pointer (some ⟨b1, 0, none⟩) := hd 0 (by decide)
 have e_1 : uu 1 = .agg #[.int .i64 v.x.lo, .int .i64 v.x.hi, .bool v.x.all] := hd 1 (by decide)
 have e_2 : uu 2 = .int .i64 r0 := hd 2 (by decide)
 have e_3 : uu 3 = .pointer (some ⟨b1, 3, none⟩) := hd 3 (by decide)
 have e_4 : uu 4 = .agg #[.int .i64 v.y.lo, .int .i64 v.y.hi, .bool v.y.all] := hd 4 (by decide)
 have e_5 : uu 5 = .int .i64 r1 := hd 5 (by decide)
 have e_6 : uu 6 = .pointer (some ⟨b1, 6, none⟩) := hd 6 (by decide)
 have e_7 : uu 7 = .agg #[.int .i64 v.z.lo, .int .i64 v.z.hi, .bool v.z.all] := hd 7 (by decide)
 have e_8 : uu 8 = .int .i64 r2 := hd 8 (by decide)
 have e_9 : uu 9 = .agg #[.int .i64 r0, .int .i64 r1, .int .i64 r2] := hd 9 (by decide)
 clear hd
 simp only [layS, Act.put, List.setIfInBounds_toArray, List.set_cons_succ, List.set_cons_zero, Nat.zero_add, Nat.reduceAdd, List.drop_succ_cons, List.drop_zero, List.drop_nil, e_0, e_1, e_2, e_3, e_4, e_5, e_6, e_7, e_8, e_9]
 clear e_0 e_1 e_2 e_3 e_4 e_5 e_6 e_7 e_8 e_9
 have hJ3 := hJm.es
 clear hJm
 go_wp2_with (refine stop_store 42 (.tmp 2) (.tmp 12) 0 b2 0 #[.int .i64 0, .int .i64 0, .int .i64 0] 42 3 [.int .i64 r0, .int .i64 r1, .int .i64 r2] #[.int .i64 r0, .int .i64 r1, .int .i64 r2] [(b2, #[.int .i64 r0, .int .i64 r1, .int .i64 r2], 42), (b1, #[.int .i64 v.x.lo, .int .i64 v.x.hi, .bool v.x.all, .int .i64 v.y.lo, .int .i64 v.y.hi, .bool v.y.all, .int .i64 v.z.lo, .int .i64 v.z.hi, .bool v.z.all], 29)] rfl rfl rfl rfl sz42 hJ3 rfl rfl (Nat.le_of_ble_eq_true (by kernel_rfl)) (by kernel_rfl) (by kernel_rfl) (by kernel_rfl) (fun W4 hJ4 => ?_))
 clear hJ3
 unfold Stop
 try simp only [Act.put, List.setIfInBounds_toArray, List.set_cons_succ, List.set_cons_zero]
 have f0 : W4.cell? ⟨b2, 0, none⟩ = some (.int .i64 r0) := hJ4.cell 0 rfl 0 rfl
 have f1 : W4.cell? ⟨b2, 1, none⟩ = some (.int .i64 r1) := hJ4.cell 0 rfl 1 rfl
 have f2 : W4.cell? ⟨b2, 2, none⟩ = some (.int .i64 r2) := hJ4.cell 0 rfl 2 rfl
 go_wp2
 exact bodyPost_ret (v := .agg #[.int .i64 r0, .int .i64 r1, .int .i64 r2]) (by simp [results, Try.results30, go_sem, f0, f1, f2]) rfl ⟨rfl, hJ4.below⟩
theorem dMid_any (v : Vc) (w : World) : Calls Try.prog 30 #[.agg #[.int .i64 v.x.lo, .int .i64 v.x.hi, .bool v.x.all, .int .i64 v.y.lo, .int .i64 v.y.hi, .bool v.y.all, .int .i64 v.z.lo, .int .i64 v.z.hi, .bool v.z.all]] w (PVal (.agg #[.int .i64 (midS v.x), .int .i64 (midS v.y), .int .i64 (midS v.z)]) w) :=
 dMid_w v (midS v.x) (midS v.y) (midS v.z) (rdMid_any v.x) (rdMid_any v.y) (rdMid_any v.z) w
set_option maxRecDepth 100000 in
set_option maxHeartbeats 12800000 in
theorem dRad_w (v : Vc) (r0 r1 r2 : Int) (hH0 : ∀ W : World, Calls Try.prog 64 #[.agg #[.int .i64 v.x.lo, .int .i64 v.x.hi, .bool v.x.all]] W (PVal (.int .i64 r0) W)) (hH1 : ∀ W : World, Calls Try.prog 64 #[.agg #[.int .i64 v.y.lo, .int .i64 v.y.hi, .bool v.y.all]] W (PVal (.int .i64 r1) W)) (hH2 : ∀ W : World, Calls Try.prog 64 #[.agg #[.int .i64 v.z.lo, .int .i64 v.z.hi, .bool v.z.all]] W (PVal (.int .i64 r2) W))  (w : World) : Calls Try.prog 31 #[.agg #[.int .i64 v.x.lo, .int .i64 v.x.hi, .bool v.x.all, .int .i64 v.y.lo, .int .i64 v.y.hi, .bool v.y.all, .int .i64 v.z.lo, .int .i64 v.z.hi, .bool v.z.all]] w (PVal (.int .i64 (max (max r0 r1) r2)) w) := by
 have H0 := Lib.hid hH0
 have H1 := Lib.hid hH1
 have H2 := Lib.hid hH2
 clear hH0 hH1 hH2
 have hJ0 := es_nil w
 go_enter Try.func31, Try.ntmps31
 go_wp2_with (refine stop_box 29 (.tmp 0) #[.int .i64 v.x.lo, .int .i64 v.x.hi, .bool v.x.all, .int .i64 v.y.lo, .int .i64 v.y.hi, .bool v.y.all, .int .i64 v.z.lo, .int .i64 v.z.hi, .bool v.z.all] rfl rfl rfl hJ0 (fun b1 W1 hJ1 => ?_))
 clear hJ0
 unfold Stop
 try simp only [Act.put, List.setIfInBounds_toArray, List.set_cons_succ, List.set_cons_zero]
 have f0 : W1.cell? ⟨b1, 0, none⟩ = some (.int .i64 v.x.lo) := hJ1.cell 0 rfl 0 rfl
 have f1 : W1.cell? ⟨b1, 1, none⟩ = some (.int .i64 v.x.hi) := hJ1.cell 0 rfl 1 rfl
 have f2 : W1.cell? ⟨b1, 2, none⟩ = some (.bool v.x.all) := hJ1.cell 0 rfl 2 rfl
 go_wp2_with fail
 refine (H0.out _).mono ?_
 rintro e W2 ⟨rfl, hB⟩
 have hJ2 := hJ1.later hB
 clear hB
 clear f0 f1 f2
 clear hJ1
 have f0 : W2.cell? ⟨b1, 3, none⟩ = some (.int .i64 v.y.lo) := hJ2.cell 0 rfl 3 rfl
 have f1 : W2.cell? ⟨b1, 4, none⟩ = some (.int .i64 v.y.hi) := hJ2.cell 0 rfl 4 rfl
 have f2 : W2.cell? ⟨b1, 5, none⟩ = some (.bool v.y.all) := hJ2.cell 0 rfl 5 rfl
 go_wp2_with fail
 refine (H1.out _).mono ?_
 rintro e W3 ⟨rfl, hB⟩
 have hJ3 := hJ2.later hB
 clear hB
 clear f0 f1 f2
 clear hJ2
 have f0 : W3.cell? ⟨b1, 6, none⟩ = some (.int .i64 v.z.lo) := hJ3.cell 0 rfl 6 rfl
 have f1 : W3.cell? ⟨b1, 7, none⟩ = some (.int .i64 v.z.hi) := hJ3.cell 0 rfl 7 rfl
 have f2 : W3.cell? ⟨b1, 8, none⟩ = some (.bool v.z.all) := hJ3.cell 0 rfl 8 rfl
 go_wp2_with fail
 refine (H2.out _).mono ?_
 rintro e W4 ⟨rfl, hB⟩
 have hJ4 := hJ3.later hB
 clear hB
 clear f0 f1 f2
 clear hJ3
 go_wp2
 all_goals go_ret
 all_goals refine ⟨?_, hJ4.below⟩
 all_goals (refine congrArg Ending.returned ?_)
 all_goals (refine congrArg (Value.int .i64) ?_)
 all_goals omega
theorem dRad_any (v : Vc) (w : World) : Calls Try.prog 31 #[.agg #[.int .i64 v.x.lo, .int .i64 v.x.hi, .bool v.x.all, .int .i64 v.y.lo, .int .i64 v.y.hi, .bool v.y.all, .int .i64 v.z.lo, .int .i64 v.z.hi, .bool v.z.all]] w (PVal (.int .i64 (radV v)) w) :=
 dRad_w v (radS v.x) (radS v.y) (radS v.z) (rdRad_any v.x) (rdRad_any v.y) (rdRad_any v.z) w
set_option maxRecDepth 100000 in
set_option maxHeartbeats 12800000 in
theorem dOf_w (a b c : Int) (p q r : Sp) (hHa : ∀ W : World, Calls Try.prog 65 #[.int .i64 a, .int .i64 a] W (PVal (.agg #[.int .i64 p.lo, .int .i64 p.hi, .bool p.all]) W)) (hHb : ∀ W : World, Calls Try.prog 65 #[.int .i64 b, .int .i64 b] W (PVal (.agg #[.int .i64 q.lo, .int .i64 q.hi, .bool q.all]) W)) (hHc : ∀ W : World, Calls Try.prog 65 #[.int .i64 c, .int .i64 c] W (PVal (.agg #[.int .i64 r.lo, .int .i64 r.hi, .bool r.all]) W))  (w : World) : Calls Try.prog 32 #[.int .i64 a, .int .i64 b, .int .i64 c] w (PVal (.agg #[.int .i64 p.lo, .int .i64 p.hi, .bool p.all, .int .i64 q.lo, .int .i64 q.hi, .bool q.all, .int .i64 r.lo, .int .i64 r.hi, .bool r.all]) w) := by
 have Ha := Lib.hid hHa
 have Hb := Lib.hid hHb
 have Hc := Lib.hid hHc
 clear hHa hHb hHc
 have hJ0 := es_nil w
 go_enter Try.func32, Try.ntmps32
 go_wp2_with (refine stop_alloc 29 #[.int .i64 0, .int .i64 0, .bool false, .int .i64 0, .int .i64 0, .bool false, .int .i64 0, .int .i64 0, .bool false] (.agg #[.int .i64 0, .int .i64 0, .bool false, .int .i64 0, .int .i64 0, .bool false, .int .i64 0, .int .i64 0, .bool false]) rfl rfl zv29 rfl hJ0 (fun b1 W1 hJ1 => ?_))
 clear hJ0
 unfold Stop
 try simp only [Act.put, List.setIfInBounds_toArray, List.set_cons_succ, List.set_cons_zero]
 go_wp2_with fail
 refine (Ha.out _).mono ?_
 rintro e W2 ⟨rfl, hB⟩
 have hJ2 := hJ1.later hB
 clear hB
 clear hJ1
 go_wp2_with fail
 refine (Hb.out _).mono ?_
 rintro e W3 ⟨rfl, hB⟩
 have hJ3 := hJ2.later hB
 clear hB
 clear hJ2
 go_wp2_with fail
 refine (Hc.out _).mono ?_
 rintro e W4 ⟨rfl, hB⟩
 have hJ4 := hJ3.later hB
 clear hB
 clear hJ3
 go_wp2_with (refine stop_store 29 (.tmp 6) (.tmp 16) 0 b1 0 #[.int .i64 0, .int .i64 0, .bool false, .int .i64 0, .int .i64 0, .bool false, .int .i64 0, .int .i64 0, .bool false] 29 9 [.int .i64 p.lo, .int .i64 p.hi, .bool p.all, .int .i64 q.lo, .int .i64 q.hi, .bool q.all, .int .i64 r.lo, .int .i64 r.hi, .bool r.all] #[.int .i64 p.lo, .int .i64 p.hi, .bool p.all, .int .i64 q.lo, .int .i64 q.hi, .bool q.all, .int .i64 r.lo, .int .i64 r.hi, .bool r.all] [(b1, #[.int .i64 p.lo, .int .i64 p.hi, .bool p.all, .int .i64 q.lo, .int .i64 q.hi, .bool q.all, .int .i64 r.lo, .int .i64 r.hi, .bool r.all], 29)] rfl rfl rfl rfl sz29 hJ4 rfl rfl (Nat.le_of_ble_eq_true (by kernel_rfl)) (by kernel_rfl) (by kernel_rfl) (by kernel_rfl) (fun W5 hJ5 => ?_))
 clear hJ4
 unfold Stop
 try simp only [Act.put, List.setIfInBounds_toArray, List.set_cons_succ, List.set_cons_zero]
 have f0 : W5.cell? ⟨b1, 0, none⟩ = some (.int .i64 p.lo) := hJ5.cell 0 rfl 0 rfl
 have f1 : W5.cell? ⟨b1, 1, none⟩ = some (.int .i64 p.hi) := hJ5.cell 0 rfl 1 rfl
 have f2 : W5.cell? ⟨b1, 2, none⟩ = some (.bool p.all) := hJ5.cell 0 rfl 2 rfl
 have f3 : W5.cell? ⟨b1, 3, none⟩ = some (.int .i64 q.lo) := hJ5.cell 0 rfl 3 rfl
 have f4 : W5.cell? ⟨b1, 4, none⟩ = some (.int .i64 q.hi) := hJ5.cell 0 rfl 4 rfl
 have f5 : W5.cell? ⟨b1, 5, none⟩ = some (.bool q.all) := hJ5.cell 0 rfl 5 rfl
 have f6 : W5.cell? ⟨b1, 6, none⟩ = some (.int .i64 r.lo) := hJ5.cell 0 rfl 6 rfl
 have f7 : W5.cell? ⟨b1, 7, none⟩ = some (.int .i64 r.hi) := hJ5.cell 0 rfl 7 rfl
 have f8 : W5.cell? ⟨b1, 8, none⟩ = some (.bool r.all) := hJ5.cell 0 rfl 8 rfl
 go_wp2
 exact bodyPost_ret (v := .agg #[.int .i64 p.lo, .int .i64 p.hi, .bool p.all, .int .i64 q.lo, .int .i64 q.hi, .bool q.all, .int .i64 r.lo, .int .i64 r.hi, .bool r.all]) (by simp [results, Try.results32, go_sem, f0, f1, f2, f3, f4, f5, f6, f7, f8]) rfl ⟨rfl, hJ5.below⟩
theorem dOf_any (a b c : Int) (w : World) : Calls Try.prog 32 #[.int .i64 a, .int .i64 b, .int .i64 c] w (PVal (.agg #[.int .i64 ((ofV a b c).x.lo), .int .i64 ((ofV a b c).x.hi), .bool ((ofV a b c).x.all), .int .i64 ((ofV a b c).y.lo), .int .i64 ((ofV a b c).y.hi), .bool ((ofV a b c).y.all), .int .i64 ((ofV a b c).z.lo), .int .i64 ((ofV a b c).z.hi), .bool ((ofV a b c).z.all)]) w) :=
 dOf_w a b c (ofS a a) (ofS b b) (ofS c c) (rdOf_any a a) (rdOf_any b b) (rdOf_any c c) w
end Go.Proofs.Ytdochhhepmlapaa
