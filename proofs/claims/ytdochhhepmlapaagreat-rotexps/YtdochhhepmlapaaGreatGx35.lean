/- Parts of the proof. -/
import Derived.Test.YtdochhhepmlapaaGreatGx30
import Derived.Test.YtdochhhepmlapaaGreatGx18
import Derived.ChangeKeysEq
import Derived.Test.YtdochhhepmlapaaGreatGx24
import Derived.Test.YtdochhhepmlapaaGreatGx21
import Derived.LoopN
import Derived.Test.YtdochhhepmlapaaGreatGx31
import Derived.Test.YtdochhhepmlapaaGreatGx28
import Derived.Test.YtdochhhepmlapaaGreatGx20
/- Equality of vectors, of arrays. No statement of the seat is proved here. -/
namespace Go.Proofs.YtdochhhepmlapaaGreat
open Go Go.RowKit
theorem run_sameS (d : Nat) (a b : Int) (c : Bool) (w : World) : (Op.equalIn (d + 2) 23 (.agg #[.int .i64 a, .int .i64 b, .bool c]) (.agg #[.int .i64 a, .int .i64 b, .bool c])).run Tryz.prog w = .ok true w := by
 have ht : Tryz.prog.underlying 23 = some (.struct (Tryz.prog.fieldsOf 23)) := by kernel_rfl
 have hp : Tryz.prog.stoodInHeld 23 = false := by kernel_rfl
 have u1 := Tryz.underlying2
 have u2 := Tryz.underlying4
 have a1 := Tryz.isAgg2
 have a2 := Tryz.isAgg4
 have z1 := Tryz.sizeOf2
 have z2 := Tryz.sizeOf4
 rw [run_equalIn_struct w (d + 1) 23 _ _ ht hp]
 simp only [Program.fieldsOf, Tryz.underlying23]
 go_simp
theorem run_sameD (d : Nat) (a b : Int) (c : Bool) (w : World) : (Op.equalIn (d + 2) 27 (.agg #[.int .i64 a, .int .i64 b, .bool c]) (.agg #[.int .i64 a, .int .i64 b, .bool c])).run Tryz.prog w = .ok true w := by
 have ht : Tryz.prog.underlying 27 = some (.struct (Tryz.prog.fieldsOf 27)) := by kernel_rfl
 have hp : Tryz.prog.stoodInHeld 27 = false := by kernel_rfl
 have u1 := Tryz.underlying2
 have u2 := Tryz.underlying4
 have a1 := Tryz.isAgg2
 have a2 := Tryz.isAgg4
 have z1 := Tryz.sizeOf2
 have z2 := Tryz.sizeOf4
 rw [run_equalIn_struct w (d + 1) 27 _ _ ht hp]
 simp only [Program.fieldsOf, Tryz.underlying27]
 go_simp
section
variable (a0 b0 : Int) (c0 : Bool) (a1 b1 : Int) (c1 : Bool) (a2 b2 : Int) (c2 : Bool) (w : World)
theorem part_v0 : (part 23 #[.int .i64 a0, .int .i64 b0, .bool c0, .int .i64 a1, .int .i64 b1, .bool c1, .int .i64 a2, .int .i64 b2, .bool c2] 0).run Tryz.prog w = .ok (.agg #[.int .i64 a0, .int .i64 b0, .bool c0]) w := by kernel_rfl
theorem part_v1 : (part 23 #[.int .i64 a0, .int .i64 b0, .bool c0, .int .i64 a1, .int .i64 b1, .bool c1, .int .i64 a2, .int .i64 b2, .bool c2] 3).run Tryz.prog w = .ok (.agg #[.int .i64 a1, .int .i64 b1, .bool c1]) w := by kernel_rfl
theorem part_v2 : (part 23 #[.int .i64 a0, .int .i64 b0, .bool c0, .int .i64 a1, .int .i64 b1, .bool c1, .int .i64 a2, .int .i64 b2, .bool c2] 6).run Tryz.prog w = .ok (.agg #[.int .i64 a2, .int .i64 b2, .bool c2]) w := by kernel_rfl
theorem part_d0 : (part 27 #[.int .i64 a0, .int .i64 b0, .bool c0, .int .i64 a1, .int .i64 b1, .bool c1, .int .i64 a2, .int .i64 b2, .bool c2] 0).run Tryz.prog w = .ok (.agg #[.int .i64 a0, .int .i64 b0, .bool c0]) w := by kernel_rfl
theorem part_d1 : (part 27 #[.int .i64 a0, .int .i64 b0, .bool c0, .int .i64 a1, .int .i64 b1, .bool c1, .int .i64 a2, .int .i64 b2, .bool c2] 3).run Tryz.prog w = .ok (.agg #[.int .i64 a1, .int .i64 b1, .bool c1]) w := by kernel_rfl
theorem part_d2 : (part 27 #[.int .i64 a0, .int .i64 b0, .bool c0, .int .i64 a1, .int .i64 b1, .bool c1, .int .i64 a2, .int .i64 b2, .bool c2] 6).run Tryz.prog w = .ok (.agg #[.int .i64 a2, .int .i64 b2, .bool c2]) w := by kernel_rfl
theorem run_eqlB (a b c : Bool) : (binOp .eql 84 (.agg #[.bool a, .bool b, .bool c]) (.agg #[.bool true, .bool true, .bool true])).run Tryz.prog w = .ok (.bool (a && (b && c))) w := by
 cases a <;> cases b <;> cases c <;> kernel_rfl
end
end Go.Proofs.YtdochhhepmlapaaGreat

/- Equality of turns. No statement of the seat is proved here. -/
namespace Go.Proofs.YtdochhhepmlapaaGreat
open Go Go.RowKit
theorem run_sameV (d : Nat) (v : Vc) (w : World) : (Op.equalIn (d + 3) 25 (.agg (cV v)) (.agg (cV v))).run Tryz.prog w = .ok true w := by
 have hu : Tryz.prog.underlying 25 = some (.array 3 23) := by kernel_rfl
 obtain ⟨i, hi⟩ := Option.isSome_iff_exists.1 (show (Tryz.prog.info? 23).isSome = true by kernel_rfl)
 have hc : Tryz.prog.cellsOf 23 = 3 := by kernel_rfl
 rw [run_equalIn_array w (d + 2) _ _ hu hi, hc, show List.range 3 = [0, 1, 2] from rfl]
 have hs := run_sameS d
 unfold cV
 simp [Op.eqItems, part_v0, part_v1, part_v2, hs]
theorem part_t0 (r : Tu) (w : World) : (part 25 (cT r) 0).run Tryz.prog w = .ok (.agg (cV r.a)) w := by kernel_rfl
theorem part_t1 (r : Tu) (w : World) : (part 25 (cT r) 9).run Tryz.prog w = .ok (.agg (cV r.b)) w := by kernel_rfl
theorem part_t2 (r : Tu) (w : World) : (part 25 (cT r) 18).run Tryz.prog w = .ok (.agg (cV r.c)) w := by kernel_rfl
theorem run_eqlT (r : Tu) (w : World) : (binOp .eql 34 (.agg (cT r)) (.agg (cT r))).run Tryz.prog w = .ok (.bool true) w := by
 have hu : Tryz.prog.underlying 34 = some (.array 3 25) := by kernel_rfl
 obtain ⟨i, hi⟩ := Option.isSome_iff_exists.1 (show (Tryz.prog.info? 25).isSome = true by kernel_rfl)
 have hc : Tryz.prog.cellsOf 25 = 9 := by kernel_rfl
 rw [run_eql_struct, show (10000 : Nat) = 9999 + 1 from rfl, run_equalIn_array w 9999 _ _ hu hi, hc, show List.range 3 = [0, 1, 2] from rfl]
 have hs : ∀ (v : Vc) (w : World), (Op.equalIn 9999 25 (.agg (cV v)) (.agg (cV v))).run Tryz.prog w = .ok true w := run_sameV 9996
 generalize 9999 = d at hs ⊢
 simp [Op.eqItems, part_t0, part_t1, part_t2, hs]
theorem run_eqlS1 (x : Sp) (w : World) : (binOp .eql 23 (.agg (cS x)) (.agg (cS x))).run Tryz.prog w = .ok (.bool true) w := by
 have hs : (Op.equalIn 10000 23 (.agg (cS x)) (.agg (cS x))).run Tryz.prog w = .ok true w := run_sameS 9998 x.lo x.hi x.all w
 unfold cS at *
 rw [run_eql_struct]
 simp [hs]
section
variable {P : Program} {Q : Exit → Act → World → Prop} {a : Act} {W : World} {o : Oper} {next : Act → World → Prop} {v : Value}
theorem wp_eqlA (T T2 : TypeId) (x y : Operand) (ho : o.op = .binOp .eql T x y T2) (C D : Array Value) (hx : a.eval x = .agg C) (hy : a.eval y = .agg D) (hg : P.eqGuardType P.depth T = false) (hr : ∀ W, (binOp .eql T (.agg C) (.agg D)).run P W = .ok v W) (k : next (a.put o.dst v) W) : o.wp P a W next Q := by
 refine wp_run ?_ k
 have he : (eqGuard .eql T x y (.agg C) (.agg D)).run P W = .ok () W := by
  simp [eqGuard, hg, go_sem]
 unfold execOp
 rw [ho]
 simp only [hx, hy, Sem.run_bind, he, hr, Result.andThen]
 rfl
end
theorem gd_T : Tryz.prog.eqGuardType Tryz.prog.depth 34 = false := by kernel_rfl
theorem gd_S : Tryz.prog.eqGuardType Tryz.prog.depth 23 = false := by kernel_rfl
theorem eql_T {r q : Tu} (h : r = q) (W : World) : (binOp .eql 34 (.agg (cT r)) (.agg (cT q))).run Tryz.prog W = .ok (.bool true) W := h ▸ run_eqlT r W
theorem eql_S {x y : Sp} (h : x = y) (W : World) : (binOp .eql 23 (.agg (cS x)) (.agg (cS y))).run Tryz.prog W = .ok (.bool true) W := h ▸ run_eqlS1 x W
end Go.Proofs.YtdochhhepmlapaaGreat

/- The document's turns in memory. No statement of the seat is proved here. -/
namespace Go.Proofs.YtdochhhepmlapaaGreat
open Go Go.RowKit
theorem zv31 (W : World) : (zeroValue 31).run Tryz.prog W = .ok (.agg (cT zT)) W := by kernel_rfl
theorem sz31 (W : World) : (sizeOf 31).run Tryz.prog W = .ok 27 W := by kernel_rfl
theorem ag31 (W : World) : (isAgg 31).run Tryz.prog W = .ok true W := by kernel_rfl
theorem ag29 (W : World) : (isAgg 29).run Tryz.prog W = .ok true W := by kernel_rfl
theorem ag27 (W : World) : (isAgg 27).run Tryz.prog W = .ok true W := by kernel_rfl
theorem gd_R : Tryz.prog.eqGuardType Tryz.prog.depth 31 = false := by kernel_rfl
theorem run_sameW (d : Nat) (v : Vc) (w : World) : (Op.equalIn (d + 3) 29 (.agg (cV v)) (.agg (cV v))).run Tryz.prog w = .ok true w := by
 have ht : Tryz.prog.underlying 29 = some (.struct (Tryz.prog.fieldsOf 29)) := by kernel_rfl
 have hp : Tryz.prog.stoodInHeld 29 = false := by kernel_rfl
 rw [run_equalIn_struct w (d + 2) 29 _ _ ht hp]
 simp only [Program.fieldsOf, Tryz.underlying29]
 unfold cV
 simp [Op.eqFields, part_d0, part_d1, part_d2, run_sameD d]
theorem part_r0 (r : Tu) (w : World) : (part 29 (cT r) 0).run Tryz.prog w = .ok (.agg (cV r.a)) w := by kernel_rfl
theorem part_r1 (r : Tu) (w : World) : (part 29 (cT r) 9).run Tryz.prog w = .ok (.agg (cV r.b)) w := by kernel_rfl
theorem part_r2 (r : Tu) (w : World) : (part 29 (cT r) 18).run Tryz.prog w = .ok (.agg (cV r.c)) w := by kernel_rfl
theorem run_eqlR (r : Tu) (w : World) : (binOp .eql 31 (.agg (cT r)) (.agg (cT r))).run Tryz.prog w = .ok (.bool true) w := by
 have ht : Tryz.prog.underlying 31 = some (.struct (Tryz.prog.fieldsOf 31)) := by kernel_rfl
 have hp : Tryz.prog.stoodInHeld 31 = false := by kernel_rfl
 rw [run_eql_struct, show (10000 : Nat) = 9999 + 1 from rfl, run_equalIn_struct w 9999 31 _ _ ht hp]
 simp only [Program.fieldsOf, Tryz.underlying31]
 simp [Op.eqFields, part_r0, part_r1, part_r2, run_sameW 9996]
theorem eql_R {r q : Tu} (h : r = q) (W : World) : (binOp .eql 31 (.agg (cT r)) (.agg (cT q))).run Tryz.prog W = .ok (.bool true) W := h ▸ run_eqlR r W
end Go.Proofs.YtdochhhepmlapaaGreat

/- The document's vectors: the walks of their methods. No statement of the seat is proved here. -/
namespace Go.Proofs.YtdochhhepmlapaaGreat
open Go Go.RowKit
attribute [local go_sem ↓] run_vbuild run_dbuild run_eqlB
set_option maxRecDepth 100000 in
set_option maxHeartbeats 12800000 in
theorem dNorm_w (v p : Vc) (q r : Sp) (hH0 : ∀ W : World, Calls Tryz.prog 40 #[.agg #[.int .i64 v.x.lo, .int .i64 v.x.hi, .bool v.x.all]] W (PVal (.agg #[.int .i64 p.x.lo, .int .i64 p.x.hi, .bool p.x.all]) W)) (hH1 : ∀ W : World, Calls Tryz.prog 40 #[.agg #[.int .i64 v.y.lo, .int .i64 v.y.hi, .bool v.y.all]] W (PVal (.agg #[.int .i64 p.y.lo, .int .i64 p.y.hi, .bool p.y.all]) W)) (hH2 : ∀ W : World, Calls Tryz.prog 40 #[.agg #[.int .i64 v.z.lo, .int .i64 v.z.hi, .bool v.z.all]] W (PVal (.agg #[.int .i64 p.z.lo, .int .i64 p.z.hi, .bool p.z.all]) W)) (hHs : ∀ W : World, Calls Tryz.prog 41 #[.agg #[.int .i64 p.x.lo, .int .i64 p.x.hi, .bool p.x.all], .agg #[.int .i64 p.y.lo, .int .i64 p.y.hi, .bool p.y.all]] W (PVal (.agg #[.int .i64 q.lo, .int .i64 q.hi, .bool q.all]) W)) (hHt : ∀ W : World, Calls Tryz.prog 41 #[.agg #[.int .i64 q.lo, .int .i64 q.hi, .bool q.all], .agg #[.int .i64 p.z.lo, .int .i64 p.z.hi, .bool p.z.all]] W (PVal (.agg #[.int .i64 r.lo, .int .i64 r.hi, .bool r.all]) W))  (w : World) : Calls Tryz.prog 35 #[.agg #[.int .i64 v.x.lo, .int .i64 v.x.hi, .bool v.x.all, .int .i64 v.y.lo, .int .i64 v.y.hi, .bool v.y.all, .int .i64 v.z.lo, .int .i64 v.z.hi, .bool v.z.all]] w (PVal (.agg #[.int .i64 r.lo, .int .i64 r.hi, .bool r.all]) w) := by
 have H0 := Lib.hid hH0
 have H1 := Lib.hid hH1
 have H2 := Lib.hid hH2
 have Hs := Lib.hid hHs
 have Ht := Lib.hid hHt
 clear hH0 hH1 hH2 hHs hHt
 have hJ0 := es_nil w
 go_enter Tryz.func35, Tryz.ntmps35
 go_wp2_with (refine stop_box 29 (.tmp 0) #[.int .i64 v.x.lo, .int .i64 v.x.hi, .bool v.x.all, .int .i64 v.y.lo, .int .i64 v.y.hi, .bool v.y.all, .int .i64 v.z.lo, .int .i64 v.z.hi, .bool v.z.all] rfl rfl rfl hJ0 (fun b1 W1 hJ1 => ?_))
 clear hJ0
 unfold Stop
 try simp only [Act.put, List.setIfInBounds_toArray, List.set_cons_succ, List.set_cons_zero]
 go_wp2_with (refine stop_alloc 27 #[.int .i64 0, .int .i64 0, .bool false] (.agg #[.int .i64 0, .int .i64 0, .bool false]) rfl rfl zv27 rfl hJ1 (fun b2 W2 hJ2 => ?_))
 clear hJ1
 unfold Stop
 try simp only [Act.put, List.setIfInBounds_toArray, List.set_cons_succ, List.set_cons_zero]
 go_wp2
 obtain ⟨m1_2, hm⟩ : ∃ m, m = W2.heap.size := ⟨_, rfl⟩
 have hM := hJ2.em
 rw [← hm] at hM
 clear hm hJ2
 refine wp_region_z 11 [some 3, some 4, some 5, some 6, some 7, some 8, some 9, some 10, some 11, some 12, some 13] (veL m1_2 [.eq (.pointer (some ⟨b1, 0, none⟩)), .eq (.agg #[.int .i64 v.x.lo, .int .i64 v.x.hi, .bool v.x.all]), .eq (.agg #[.int .i64 p.x.lo, .int .i64 p.x.hi, .bool p.x.all]), .eq (.pointer (some ⟨b1, 3, none⟩)), .eq (.agg #[.int .i64 v.y.lo, .int .i64 v.y.hi, .bool v.y.all]), .eq (.agg #[.int .i64 p.y.lo, .int .i64 p.y.hi, .bool p.y.all]), .eq (.agg #[.int .i64 q.lo, .int .i64 q.hi, .bool q.all]), .eq (.pointer (some ⟨b1, 6, none⟩)), .eq (.agg #[.int .i64 v.z.lo, .int .i64 v.z.hi, .bool v.z.all]), .eq (.agg #[.int .i64 p.z.lo, .int .i64 p.z.hi, .bool p.z.all]), .eq (.agg #[.int .i64 r.lo, .int .i64 r.hi, .bool r.all])]) (Em w m1_2 [(b2, #[.int .i64 0, .int .i64 0, .bool false], 27), (b1, #[.int .i64 v.x.lo, .int .i64 v.x.hi, .bool v.x.all, .int .i64 v.y.lo, .int .i64 v.y.hi, .bool v.y.all, .int .i64 v.z.lo, .int .i64 v.z.hi, .bool v.z.all], 29)]) (by kernel_rfl) (by kernel_rfl) (by rfl) (by decide) (by rfl) hM ?_ ?_
 ·
  intro i hl hi uu ww aa hJ hd hev hin
  clear hM
  obtain rfl | rfl | rfl | rfl | rfl | rfl | rfl | rfl | rfl | rfl | rfl : i = 0 ∨ i = 1 ∨ i = 2 ∨ i = 3 ∨ i = 4 ∨ i = 5 ∨ i = 6 ∨ i = 7 ∨ i = 8 ∨ i = 9 ∨ i = 10 := by omega
  ·
   have x1 : aa.tmps[1]? = some (.pointer (some ⟨b1, 0, none⟩)) := (hev 1 (by decide)).trans rfl
   clear hd hev hin
   simp only [List.getElem_cons_succ, List.getElem_cons_zero]
   clear hl
   refine .inr ⟨rfl, fun K' hK => ?_⟩
   have HK := Lib.hid hK
   clear hK
   go_simp
   exact HK.out (.pointer (some ⟨b1, 0, none⟩)) _ hJ rfl veL_same
  ·
   have x3 : aa.tmps[3]? = some (.pointer (some ⟨b1, 0, none⟩)) := (hin 0 3 rfl).trans (congrArg some (show uu 0 = .pointer (some ⟨b1, 0, none⟩) from hd 0 (by decide) (by kernel_rfl)))
   clear hd hev hin
   simp only [List.getElem_cons_succ, List.getElem_cons_zero]
   clear hl
   refine .inr ⟨rfl, fun K' hK => ?_⟩
   have HK := Lib.hid hK
   clear hK
   have f0 : ww.cell? ⟨b1, 0, none⟩ = some (.int .i64 v.x.lo) := hJ.es.cell 1 rfl 0 rfl
   have f1 : ww.cell? ⟨b1, 1, none⟩ = some (.int .i64 v.x.hi) := hJ.es.cell 1 rfl 1 rfl
   have f2 : ww.cell? ⟨b1, 2, none⟩ = some (.bool v.x.all) := hJ.es.cell 1 rfl 2 rfl
   go_simp
   exact HK.out (.agg #[.int .i64 v.x.lo, .int .i64 v.x.hi, .bool v.x.all]) _ hJ rfl veL_same
  ·
   have x4 : aa.tmps[4]? = some (.agg #[.int .i64 v.x.lo, .int .i64 v.x.hi, .bool v.x.all]) := (hin 1 4 rfl).trans (congrArg some (show uu 1 = .agg #[.int .i64 v.x.lo, .int .i64 v.x.hi, .bool v.x.all] from hd 1 (by decide) (by kernel_rfl)))
   clear hd hev hin
   simp only [List.getElem_cons_succ, List.getElem_cons_zero]
   clear hl
   refine .inr ⟨rfl, fun K' hK => ?_⟩
   have HK := Lib.hid hK
   clear hK
   go_simp
   refine (H0.out ww).mono ?_
   rintro e W' ⟨rfl, hB⟩
   exact HK.out (.agg #[.int .i64 p.x.lo, .int .i64 p.x.hi, .bool p.x.all]) _ (hJ.later hB) rfl (veL_later hB)
  ·
   have x1 : aa.tmps[1]? = some (.pointer (some ⟨b1, 0, none⟩)) := (hev 1 (by decide)).trans rfl
   clear hd hev hin
   simp only [List.getElem_cons_succ, List.getElem_cons_zero]
   clear hl
   refine .inr ⟨rfl, fun K' hK => ?_⟩
   have HK := Lib.hid hK
   clear hK
   go_simp
   exact HK.out (.pointer (some ⟨b1, 3, none⟩)) _ hJ rfl veL_same
  ·
   have x6 : aa.tmps[6]? = some (.pointer (some ⟨b1, 3, none⟩)) := (hin 3 6 rfl).trans (congrArg some (show uu 3 = .pointer (some ⟨b1, 3, none⟩) from hd 3 (by decide) (by kernel_rfl)))
   clear hd hev hin
   simp only [List.getElem_cons_succ, List.getElem_cons_zero]
   clear hl
   refine .inr ⟨rfl, fun K' hK => ?_⟩
   have HK := Lib.hid hK
   clear hK
   have f0 : ww.cell? ⟨b1, 3, none⟩ = some (.int .i64 v.y.lo) := hJ.es.cell 1 rfl 3 rfl
   have f1 : ww.cell? ⟨b1, 4, none⟩ = some (.int .i64 v.y.hi) := hJ.es.cell 1 rfl 4 rfl
   have f2 : ww.cell? ⟨b1, 5, none⟩ = some (.bool v.y.all) := hJ.es.cell 1 rfl 5 rfl
   go_simp
   exact HK.out (.agg #[.int .i64 v.y.lo, .int .i64 v.y.hi, .bool v.y.all]) _ hJ rfl veL_same
  ·
   have x7 : aa.tmps[7]? = some (.agg #[.int .i64 v.y.lo, .int .i64 v.y.hi, .bool v.y.all]) := (hin 4 7 rfl).trans (congrArg some (show uu 4 = .agg #[.int .i64 v.y.lo, .int .i64 v.y.hi, .bool v.y.all] from hd 4 (by decide) (by kernel_rfl)))
   clear hd hev hin
   simp only [List.getElem_cons_succ, List.getElem_cons_zero]
   clear hl
   refine .inr ⟨rfl, fun K' hK => ?_⟩
   have HK := Lib.hid hK
   clear hK
   go_simp
   refine (H1.out ww).mono ?_
   rintro e W' ⟨rfl, hB⟩
   exact HK.out (.agg #[.int .i64 p.y.lo, .int .i64 p.y.hi, .bool p.y.all]) _ (hJ.later hB) rfl (veL_later hB)
  ·
   have x5 : aa.tmps[5]? = some (.agg #[.int .i64 p.x.lo, .int .i64 p.x.hi, .bool p.x.all]) := (hin 2 5 rfl).trans (congrArg some (show uu 2 = .agg #[.int .i64 p.x.lo, .int .i64 p.x.hi, .bool p.x.all] from hd 2 (by decide) (by kernel_rfl)))
   have x8 : aa.tmps[8]? = some (.agg #[.int .i64 p.y.lo, .int .i64 p.y.hi, .bool p.y.all]) := (hin 5 8 rfl).trans (congrArg some (show uu 5 = .agg #[.int .i64 p.y.lo, .int .i64 p.y.hi, .bool p.y.all] from hd 5 (by decide) (by kernel_rfl)))
   clear hd hev hin
   simp only [List.getElem_cons_succ, List.getElem_cons_zero]
   clear hl
   refine .inr ⟨rfl, fun K' hK => ?_⟩
   have HK := Lib.hid hK
   clear hK
   go_simp
   refine (Hs.out ww).mono ?_
   rintro e W' ⟨rfl, hB⟩
   exact HK.out (.agg #[.int .i64 q.lo, .int .i64 q.hi, .bool q.all]) _ (hJ.later hB) rfl (veL_later hB)
  ·
   have x1 : aa.tmps[1]? = some (.pointer (some ⟨b1, 0, none⟩)) := (hev 1 (by decide)).trans rfl
   clear hd hev hin
   simp only [List.getElem_cons_succ, List.getElem_cons_zero]
   clear hl
   refine .inr ⟨rfl, fun K' hK => ?_⟩
   have HK := Lib.hid hK
   clear hK
   go_simp
   exact HK.out (.pointer (some ⟨b1, 6, none⟩)) _ hJ rfl veL_same
  ·
   have x10 : aa.tmps[10]? = some (.pointer (some ⟨b1, 6, none⟩)) := (hin 7 10 rfl).trans (congrArg some (show uu 7 = .pointer (some ⟨b1, 6, none⟩) from hd 7 (by decide) (by kernel_rfl)))
   clear hd hev hin
   simp only [List.getElem_cons_succ, List.getElem_cons_zero]
   clear hl
   refine .inr ⟨rfl, fun K' hK => ?_⟩
   have HK := Lib.hid hK
   clear hK
   have f0 : ww.cell? ⟨b1, 6, none⟩ = some (.int .i64 v.z.lo) := hJ.es.cell 1 rfl 6 rfl
   have f1 : ww.cell? ⟨b1, 7, none⟩ = some (.int .i64 v.z.hi) := hJ.es.cell 1 rfl 7 rfl
   have f2 : ww.cell? ⟨b1, 8, none⟩ = some (.bool v.z.all) := hJ.es.cell 1 rfl 8 rfl
   go_simp
   exact HK.out (.agg #[.int .i64 v.z.lo, .int .i64 v.z.hi, .bool v.z.all]) _ hJ rfl veL_same
  ·
   have x11 : aa.tmps[11]? = some (.agg #[.int .i64 v.z.lo, .int .i64 v.z.hi, .bool v.z.all]) := (hin 8 11 rfl).trans (congrArg some (show uu 8 = .agg #[.int .i64 v.z.lo, .int .i64 v.z.hi, .bool v.z.all] from hd 8 (by decide) (by kernel_rfl)))
   clear hd hev hin
   simp only [List.getElem_cons_succ, List.getElem_cons_zero]
   clear hl
   refine .inr ⟨rfl, fun K' hK => ?_⟩
   have HK := Lib.hid hK
   clear hK
   go_simp
   refine (H2.out ww).mono ?_
   rintro e W' ⟨rfl, hB⟩
   exact HK.out (.agg #[.int .i64 p.z.lo, .int .i64 p.z.hi, .bool p.z.all]) _ (hJ.later hB) rfl (veL_later hB)
  ·
   have x9 : aa.tmps[9]? = some (.agg #[.int .i64 q.lo, .int .i64 q.hi, .bool q.all]) := (hin 6 9 rfl).trans (congrArg some (show uu 6 = .agg #[.int .i64 q.lo, .int .i64 q.hi, .bool q.all] from hd 6 (by decide) (by kernel_rfl)))
   have x12 : aa.tmps[12]? = some (.agg #[.int .i64 p.z.lo, .int .i64 p.z.hi, .bool p.z.all]) := (hin 9 12 rfl).trans (congrArg some (show uu 9 = .agg #[.int .i64 p.z.lo, .int .i64 p.z.hi, .bool p.z.all] from hd 9 (by decide) (by kernel_rfl)))
   clear hd hev hin
   simp only [List.getElem_cons_succ, List.getElem_cons_zero]
   clear hl
   refine .inr ⟨rfl, fun K' hK => ?_⟩
   have HK := Lib.hid hK
   clear hK
   go_simp
   refine (Ht.out ww).mono ?_
   rintro e W' ⟨rfl, hB⟩
   exact HK.out (.agg #[.int .i64 r.lo, .int .i64 r.hi, .bool r.all]) _ (hJ.later hB) rfl (veL_later hB)
 clear hM
 intro uu W3 hJm hd
 have e_0 : uu 0 = .pointer (some ⟨b1, 0, none⟩) := hd 0 (by decide)
 have e_1 : uu 1 = .agg #[.int .i64 v.x.lo, .int .i64 v.x.hi, .bool v.x.all] := hd 1 (by decide)
 have e_2 : uu 2 = .agg #[.int .i64 p.x.lo, .int .i64 p.x.hi, .bool p.x.all] := hd 2 (by decide)
 have e_3 : uu 3 = .pointer (some ⟨b1, 3, none⟩) := hd 3 (by decide)
 have e_4 : uu 4 = .agg #[.int .i64 v.y.lo, .int .i64 v.y.hi, .bool v.y.all] := hd 4 (by decide)
 have e_5 : uu 5 = .agg #[.int .i64 p.y.lo, .int .i64 p.y.hi, .bool p.y.all] := hd 5 (by decide)
 have e_6 : uu 6 = .agg #[.int .i64 q.lo, .int .i64 q.hi, .bool q.all] := hd 6 (by decide)
 have e_7 : uu 7 = .pointer (some ⟨b1, 6, none⟩) := hd 7 (by decide)
 have e_8 : uu 8 = .agg #[.int .i64 v.z.lo, .int .i64 v.z.hi, .bool v.z.all] := hd 8 (by decide)
 have e_9 : uu 9 = .agg #[.int .i64 p.z.lo, .int .i64 p.z.hi, .bool p.z.all] := hd 9 (by decide)
 have e_10 : uu 10 = .agg #[.int .i64 r.lo, .int .i64 r.hi, .bool r.all] := hd 10 (by decide)
 clear hd
 simp only [layS, Act.put, List.setIfInBounds_toArray, List.set_cons_succ, List.set_cons_zero, Nat.zero_add, Nat.reduceAdd, List.drop_succ_cons, List.drop_zero, List.drop_nil, e_0, e_1, e_2, e_3, e_4, e_5, e_6, e_7, e_8, e_9, e_10]
 clear e_0 e_1 e_2 e_3 e_4 e_5 e_6 e_7 e_8 e_9 e_10
 have hJ3 := hJm.es
 clear hJm
 go_wp2_with (refine stop_store 27 (.tmp 2) (.tmp 13) 0 b2 0 #[.int .i64 0, .int .i64 0, .bool false] 27 3 [.int .i64 r.lo, .int .i64 r.hi, .bool r.all] #[.int .i64 r.lo, .int .i64 r.hi, .bool r.all] [(b2, #[.int .i64 r.lo, .int .i64 r.hi, .bool r.all], 27), (b1, #[.int .i64 v.x.lo, .int .i64 v.x.hi, .bool v.x.all, .int .i64 v.y.lo, .int .i64 v.y.hi, .bool v.y.all, .int .i64 v.z.lo, .int .i64 v.z.hi, .bool v.z.all], 29)] rfl rfl rfl rfl sz27 hJ3 rfl rfl (Nat.le_of_ble_eq_true (by kernel_rfl)) (by kernel_rfl) (by kernel_rfl) (by kernel_rfl) (fun W4 hJ4 => ?_))
 clear hJ3
 unfold Stop
 try simp only [Act.put, List.setIfInBounds_toArray, List.set_cons_succ, List.set_cons_zero]
 have f0 : W4.cell? ⟨b2, 0, none⟩ = some (.int .i64 r.lo) := hJ4.cell 0 rfl 0 rfl
 have f1 : W4.cell? ⟨b2, 1, none⟩ = some (.int .i64 r.hi) := hJ4.cell 0 rfl 1 rfl
 have f2 : W4.cell? ⟨b2, 2, none⟩ = some (.bool r.all) := hJ4.cell 0 rfl 2 rfl
 go_wp2
 exact bodyPost_ret (v := .agg #[.int .i64 r.lo, .int .i64 r.hi, .bool r.all]) (by simp [results, Tryz.results35, go_sem, f0, f1, f2]) rfl ⟨rfl, hJ4.below⟩
theorem dNorm_any (v : Vc) (w : World) : Calls Tryz.prog 35 #[.agg #[.int .i64 v.x.lo, .int .i64 v.x.hi, .bool v.x.all, .int .i64 v.y.lo, .int .i64 v.y.hi, .bool v.y.all, .int .i64 v.z.lo, .int .i64 v.z.hi, .bool v.z.all]] w (PVal (.agg #[.int .i64 ((normV v).lo), .int .i64 ((normV v).hi), .bool ((normV v).all)]) w) :=
 dNorm_w v (sqrV v) (addS (sqrS v.x) (sqrS v.y)) (normV v) (rdSqr_any v.x) (rdSqr_any v.y) (rdSqr_any v.z) (rdAdd_any _ _) (rdAdd_any _ _) w
end Go.Proofs.YtdochhhepmlapaaGreat

/- Package vec: the walks of its methods. No statement of the seat is proved here. -/
namespace Go.Proofs.YtdochhhepmlapaaGreat
open Go Go.RowKit
attribute [local go_sem ↓] run_vbuild run_dbuild run_eqlB
theorem vsum_any (v : Vc) (w : World) : Calls Tryz.prog 58 #[.agg #[.int .i64 v.x.lo, .int .i64 v.x.hi, .bool v.x.all, .int .i64 v.y.lo, .int .i64 v.y.hi, .bool v.y.all, .int .i64 v.z.lo, .int .i64 v.z.hi, .bool v.z.all]] w (PVal (.agg #[.int .i64 ((sumV v).lo), .int .i64 ((sumV v).hi), .bool ((sumV v).all)]) w) :=
 sum_w v (addS v.x v.y) (sumV v) (sAdd_any v.x v.y) (sAdd_any (addS v.x v.y) v.z) w
set_option maxRecDepth 100000 in
set_option maxHeartbeats 12800000 in
theorem vNorm_w (v p : Vc) (r : Sp) (hH : ∀ W : World, Calls Tryz.prog 59 #[.agg #[.int .i64 v.x.lo, .int .i64 v.x.hi, .bool v.x.all, .int .i64 v.y.lo, .int .i64 v.y.hi, .bool v.y.all, .int .i64 v.z.lo, .int .i64 v.z.hi, .bool v.z.all], .func (.func 60) #[] #[]] W (PVal (.agg #[.int .i64 p.x.lo, .int .i64 p.x.hi, .bool p.x.all, .int .i64 p.y.lo, .int .i64 p.y.hi, .bool p.y.all, .int .i64 p.z.lo, .int .i64 p.z.hi, .bool p.z.all]) W)) (hH1 : ∀ W : World, Calls Tryz.prog 58 #[.agg #[.int .i64 p.x.lo, .int .i64 p.x.hi, .bool p.x.all, .int .i64 p.y.lo, .int .i64 p.y.hi, .bool p.y.all, .int .i64 p.z.lo, .int .i64 p.z.hi, .bool p.z.all]] W (PVal (.agg #[.int .i64 r.lo, .int .i64 r.hi, .bool r.all]) W))  (w : World) : Calls Tryz.prog 26 #[.agg #[.int .i64 v.x.lo, .int .i64 v.x.hi, .bool v.x.all, .int .i64 v.y.lo, .int .i64 v.y.hi, .bool v.y.all, .int .i64 v.z.lo, .int .i64 v.z.hi, .bool v.z.all]] w (PVal (.agg #[.int .i64 r.lo, .int .i64 r.hi, .bool r.all]) w) := by
 have H := Lib.hid hH
 have H1 := Lib.hid hH1
 clear hH hH1
 have hJ0 := es_nil w
 go_enter Tryz.func26, Tryz.ntmps26
 go_wp2_with (refine stop_box 25 (.tmp 0) #[.int .i64 v.x.lo, .int .i64 v.x.hi, .bool v.x.all, .int .i64 v.y.lo, .int .i64 v.y.hi, .bool v.y.all, .int .i64 v.z.lo, .int .i64 v.z.hi, .bool v.z.all] rfl rfl rfl hJ0 (fun b1 W1 hJ1 => ?_))
 clear hJ0
 unfold Stop
 try simp only [Act.put, List.setIfInBounds_toArray, List.set_cons_succ, List.set_cons_zero]
 go_wp2_with (refine stop_alloc 23 #[.int .i64 0, .int .i64 0, .bool false] (.agg #[.int .i64 0, .int .i64 0, .bool false]) rfl rfl zv23 rfl hJ1 (fun b2 W2 hJ2 => ?_))
 clear hJ1
 unfold Stop
 try simp only [Act.put, List.setIfInBounds_toArray, List.set_cons_succ, List.set_cons_zero]
 have f0 : W2.cell? ⟨b1, 0, none⟩ = some (.int .i64 v.x.lo) := hJ2.cell 1 rfl 0 rfl
 have f1 : W2.cell? ⟨b1, 1, none⟩ = some (.int .i64 v.x.hi) := hJ2.cell 1 rfl 1 rfl
 have f2 : W2.cell? ⟨b1, 2, none⟩ = some (.bool v.x.all) := hJ2.cell 1 rfl 2 rfl
 have f3 : W2.cell? ⟨b1, 3, none⟩ = some (.int .i64 v.y.lo) := hJ2.cell 1 rfl 3 rfl
 have f4 : W2.cell? ⟨b1, 4, none⟩ = some (.int .i64 v.y.hi) := hJ2.cell 1 rfl 4 rfl
 have f5 : W2.cell? ⟨b1, 5, none⟩ = some (.bool v.y.all) := hJ2.cell 1 rfl 5 rfl
 have f6 : W2.cell? ⟨b1, 6, none⟩ = some (.int .i64 v.z.lo) := hJ2.cell 1 rfl 6 rfl
 have f7 : W2.cell? ⟨b1, 7, none⟩ = some (.int .i64 v.z.hi) := hJ2.cell 1 rfl 7 rfl
 have f8 : W2.cell? ⟨b1, 8, none⟩ = some (.bool v.z.all) := hJ2.cell 1 rfl 8 rfl
 go_wp2_with fail
 refine (H.out _).mono ?_
 rintro e W3 ⟨rfl, hB⟩
 have hJ3 := hJ2.later hB
 clear hB
 clear f0 f1 f2 f3 f4 f5 f6 f7 f8
 clear hJ2
 go_wp2_with fail
 refine (H1.out _).mono ?_
 rintro e W4 ⟨rfl, hB⟩
 have hJ4 := hJ3.later hB
 clear hB
 clear hJ3
 go_wp2_with (refine stop_store 23 (.tmp 2) (.tmp 5) 0 b2 0 #[.int .i64 0, .int .i64 0, .bool false] 23 3 [.int .i64 r.lo, .int .i64 r.hi, .bool r.all] #[.int .i64 r.lo, .int .i64 r.hi, .bool r.all] [(b2, #[.int .i64 r.lo, .int .i64 r.hi, .bool r.all], 23), (b1, #[.int .i64 v.x.lo, .int .i64 v.x.hi, .bool v.x.all, .int .i64 v.y.lo, .int .i64 v.y.hi, .bool v.y.all, .int .i64 v.z.lo, .int .i64 v.z.hi, .bool v.z.all], 25)] rfl rfl rfl rfl sz23 hJ4 rfl rfl (Nat.le_of_ble_eq_true (by kernel_rfl)) (by kernel_rfl) (by kernel_rfl) (by kernel_rfl) (fun W5 hJ5 => ?_))
 clear hJ4
 unfold Stop
 try simp only [Act.put, List.setIfInBounds_toArray, List.set_cons_succ, List.set_cons_zero]
 have f0 : W5.cell? ⟨b2, 0, none⟩ = some (.int .i64 r.lo) := hJ5.cell 0 rfl 0 rfl
 have f1 : W5.cell? ⟨b2, 1, none⟩ = some (.int .i64 r.hi) := hJ5.cell 0 rfl 1 rfl
 have f2 : W5.cell? ⟨b2, 2, none⟩ = some (.bool r.all) := hJ5.cell 0 rfl 2 rfl
 go_wp2
 exact bodyPost_ret (v := .agg #[.int .i64 r.lo, .int .i64 r.hi, .bool r.all]) (by simp [results, Tryz.results26, go_sem, f0, f1, f2]) rfl ⟨rfl, hJ5.below⟩
theorem vNorm_any (v : Vc) (w : World) : Calls Tryz.prog 26 #[.agg #[.int .i64 v.x.lo, .int .i64 v.x.hi, .bool v.x.all, .int .i64 v.y.lo, .int .i64 v.y.hi, .bool v.y.all, .int .i64 v.z.lo, .int .i64 v.z.hi, .bool v.z.all]] w (PVal (.agg #[.int .i64 ((normV v).lo), .int .i64 ((normV v).hi), .bool ((normV v).all)]) w) :=
 vNorm_w v (sqrV v) (normV v) (each_s _ v (sqrV v) (sSqr_any v.x) (sSqr_any v.y) (sSqr_any v.z) (fun _ _ => by kernel_rfl)) (vsum_any (sqrV v)) w
set_option maxRecDepth 100000 in
set_option maxHeartbeats 12800000 in
theorem vOf_w (a b c : Int) (p q r : Sp) (hHa : ∀ W : World, Calls Tryz.prog 25 #[.int .i64 a, .int .i64 a] W (PVal (.agg #[.int .i64 p.lo, .int .i64 p.hi, .bool p.all]) W)) (hHb : ∀ W : World, Calls Tryz.prog 25 #[.int .i64 b, .int .i64 b] W (PVal (.agg #[.int .i64 q.lo, .int .i64 q.hi, .bool q.all]) W)) (hHc : ∀ W : World, Calls Tryz.prog 25 #[.int .i64 c, .int .i64 c] W (PVal (.agg #[.int .i64 r.lo, .int .i64 r.hi, .bool r.all]) W))  (w : World) : Calls Tryz.prog 23 #[.int .i64 a, .int .i64 b, .int .i64 c] w (PVal (.agg #[.int .i64 p.lo, .int .i64 p.hi, .bool p.all, .int .i64 q.lo, .int .i64 q.hi, .bool q.all, .int .i64 r.lo, .int .i64 r.hi, .bool r.all]) w) := by
 have Ha := Lib.hid hHa
 have Hb := Lib.hid hHb
 have Hc := Lib.hid hHc
 clear hHa hHb hHc
 have hJ0 := es_nil w
 go_enter Tryz.func23, Tryz.ntmps23
 go_wp2_with (refine stop_alloc 25 #[.int .i64 0, .int .i64 0, .bool false, .int .i64 0, .int .i64 0, .bool false, .int .i64 0, .int .i64 0, .bool false] (.agg #[.int .i64 0, .int .i64 0, .bool false, .int .i64 0, .int .i64 0, .bool false, .int .i64 0, .int .i64 0, .bool false]) rfl rfl zv25 rfl hJ0 (fun b1 W1 hJ1 => ?_))
 clear hJ0
 unfold Stop
 try simp only [Act.put, List.setIfInBounds_toArray, List.set_cons_succ, List.set_cons_zero]
 go_wp2_with fail
 refine (Ha.out _).mono ?_
 rintro e W2 ⟨rfl, hB⟩
 have hJ2 := hJ1.later hB
 clear hB
 clear hJ1
 go_wp2_with fail
 refine (Hb.out _).mono ?_
 rintro e W3 ⟨rfl, hB⟩
 have hJ3 := hJ2.later hB
 clear hB
 clear hJ2
 go_wp2_with fail
 refine (Hc.out _).mono ?_
 rintro e W4 ⟨rfl, hB⟩
 have hJ4 := hJ3.later hB
 clear hB
 clear hJ3
 go_wp2_with (refine stop_store 25 (.tmp 6) (.tmp 16) 0 b1 0 #[.int .i64 0, .int .i64 0, .bool false, .int .i64 0, .int .i64 0, .bool false, .int .i64 0, .int .i64 0, .bool false] 25 9 [.int .i64 p.lo, .int .i64 p.hi, .bool p.all, .int .i64 q.lo, .int .i64 q.hi, .bool q.all, .int .i64 r.lo, .int .i64 r.hi, .bool r.all] #[.int .i64 p.lo, .int .i64 p.hi, .bool p.all, .int .i64 q.lo, .int .i64 q.hi, .bool q.all, .int .i64 r.lo, .int .i64 r.hi, .bool r.all] [(b1, #[.int .i64 p.lo, .int .i64 p.hi, .bool p.all, .int .i64 q.lo, .int .i64 q.hi, .bool q.all, .int .i64 r.lo, .int .i64 r.hi, .bool r.all], 25)] rfl rfl rfl rfl sz25 hJ4 rfl rfl (Nat.le_of_ble_eq_true (by kernel_rfl)) (by kernel_rfl) (by kernel_rfl) (by kernel_rfl) (fun W5 hJ5 => ?_))
 clear hJ4
 unfold Stop
 try simp only [Act.put, List.setIfInBounds_toArray, List.set_cons_succ, List.set_cons_zero]
 have f0 : W5.cell? ⟨b1, 0, none⟩ = some (.int .i64 p.lo) := hJ5.cell 0 rfl 0 rfl
 have f1 : W5.cell? ⟨b1, 1, none⟩ = some (.int .i64 p.hi) := hJ5.cell 0 rfl 1 rfl
 have f2 : W5.cell? ⟨b1, 2, none⟩ = some (.bool p.all) := hJ5.cell 0 rfl 2 rfl
 have f3 : W5.cell? ⟨b1, 3, none⟩ = some (.int .i64 q.lo) := hJ5.cell 0 rfl 3 rfl
 have f4 : W5.cell? ⟨b1, 4, none⟩ = some (.int .i64 q.hi) := hJ5.cell 0 rfl 4 rfl
 have f5 : W5.cell? ⟨b1, 5, none⟩ = some (.bool q.all) := hJ5.cell 0 rfl 5 rfl
 have f6 : W5.cell? ⟨b1, 6, none⟩ = some (.int .i64 r.lo) := hJ5.cell 0 rfl 6 rfl
 have f7 : W5.cell? ⟨b1, 7, none⟩ = some (.int .i64 r.hi) := hJ5.cell 0 rfl 7 rfl
 have f8 : W5.cell? ⟨b1, 8, none⟩ = some (.bool r.all) := hJ5.cell 0 rfl 8 rfl
 go_wp2
 exact bodyPost_ret (v := .agg #[.int .i64 p.lo, .int .i64 p.hi, .bool p.all, .int .i64 q.lo, .int .i64 q.hi, .bool q.all, .int .i64 r.lo, .int .i64 r.hi, .bool r.all]) (by simp [results, Tryz.results23, go_sem, f0, f1, f2, f3, f4, f5, f6, f7, f8]) rfl ⟨rfl, hJ5.below⟩
theorem vOf_any (a b c : Int) (w : World) : Calls Tryz.prog 23 #[.int .i64 a, .int .i64 b, .int .i64 c] w (PVal (.agg #[.int .i64 ((ofV a b c).x.lo), .int .i64 ((ofV a b c).x.hi), .bool ((ofV a b c).x.all), .int .i64 ((ofV a b c).y.lo), .int .i64 ((ofV a b c).y.hi), .bool ((ofV a b c).y.all), .int .i64 ((ofV a b c).z.lo), .int .i64 ((ofV a b c).z.hi), .bool ((ofV a b c).z.all)]) w) :=
 vOf_w a b c (ofS a a) (ofS b b) (ofS c c) (sOf_any a a) (sOf_any b b) (sOf_any c c) w
end Go.Proofs.YtdochhhepmlapaaGreat

/- The document's turns, and how a turn is told in its words. No statement of the seat is proved here. -/
namespace Go.Proofs.YtdochhhepmlapaaGreat
open Go Go.RowKit
set_option maxRecDepth 100000 in
set_option maxHeartbeats 12800000 in
theorem oneT_any (x : Sp)  (w : World)   : Calls Tryz.prog 13 #[.agg (cS x)] w (PVal (.agg (cS x)) w) := by
 have hJ0 := es_nil w
 go_enter Tryz.func13, Tryz.ntmps13
 go_wp2_with (refine stop_box 23 (.tmp 0) (cS x) rfl rfl rfl hJ0 (fun bk1 W1 hJ1 => ?_))
 clear hJ0
 unfold Stop
 try simp only [Act.put, List.setIfInBounds_toArray, List.set_cons_succ, List.set_cons_zero]
 go_wp2_with (refine stop_alloc 27 (cS zS) (.agg (cS zS)) rfl rfl zv27 rfl hJ1 (fun bk2 W2 hJ2 => ?_))
 clear hJ1
 unfold Stop
 try simp only [Act.put, List.setIfInBounds_toArray, List.set_cons_succ, List.set_cons_zero]
 go_wp2_with (refine stop_op rfl (fun K hK => wp_load1 (v := .int .i64 x.lo) 2 (.tmp 3) rfl bk1 0 (cS x) 23 (hJ2.at' _ (List.mem_of_getElem? (i := 1) rfl)) rfl ag2 (by kernel_rfl) (hK _ _ ?_)))
 unfold Stop
 try simp only [Act.put, List.setIfInBounds_toArray, List.set_cons_succ, List.set_cons_zero]
 go_wp2_with (refine stop_op rfl (fun K hK => wp_load1 (v := .int .i64 x.hi) 2 (.tmp 5) rfl bk1 1 (cS x) 23 (hJ2.at' _ (List.mem_of_getElem? (i := 1) rfl)) rfl ag2 (by kernel_rfl) (hK _ _ ?_)))
 unfold Stop
 try simp only [Act.put, List.setIfInBounds_toArray, List.set_cons_succ, List.set_cons_zero]
 go_wp2_with (refine stop_op rfl (fun K hK => wp_load1 (v := .bool x.all) 4 (.tmp 7) rfl bk1 2 (cS x) 23 (hJ2.at' _ (List.mem_of_getElem? (i := 1) rfl)) rfl ag4 (by kernel_rfl) (hK _ _ ?_)))
 unfold Stop
 try simp only [Act.put, List.setIfInBounds_toArray, List.set_cons_succ, List.set_cons_zero]
 go_wp2_with (refine stop_op rfl (fun K hK => wp_bld (v := .agg (cS x)) (pv := #[(0, .int .i64 x.lo), (1, .int .i64 x.hi), (2, .bool x.all)]) 27 #[(0, .tmp 4), (1, .tmp 6), (2, .tmp 8)] rfl (bmap3 rfl rfl rfl) (fun _ => by kernel_rfl) (hK _ _ ?_)))
 unfold Stop
 try simp only [Act.put, List.setIfInBounds_toArray, List.set_cons_succ, List.set_cons_zero]
 go_wp2_with (refine stop_store 27 (.tmp 2) (.tmp 9) 0 bk2 0 (cS zS) 27 3 (cS x).toList (cS x) [(bk2, (cS x), 27), (bk1, (cS x), 23)] rfl rfl rfl rfl sz27 hJ2 rfl (by kernel_rfl) (Nat.le_of_ble_eq_true (by kernel_rfl)) (by kernel_rfl) (by kernel_rfl) (by kernel_rfl) (fun W3 hJ3 => ?_))
 clear hJ2
 unfold Stop
 try simp only [Act.put, List.setIfInBounds_toArray, List.set_cons_succ, List.set_cons_zero]
 go_wp2
 exact bodyPost_ret (v := .agg (cS x)) (results_cell 0 Tryz.results13 hJ3 rfl ag27 sz27 (Nat.le_of_ble_eq_true (by kernel_rfl)) rfl (by kernel_rfl)) rfl ⟨rfl, hJ3.below⟩
set_option maxRecDepth 100000 in
set_option maxHeartbeats 12800000 in
theorem rowT_any (v : Vc)  (w : World)   : Calls Tryz.prog 9 #[.agg (cV v)] w (PVal (.agg (cV v)) w) := by
 have hJ0 := es_nil w
 go_enter Tryz.func9, Tryz.ntmps9
 go_wp2_with (refine stop_box 25 (.tmp 0) (cV v) rfl rfl rfl hJ0 (fun bk1 W1 hJ1 => ?_))
 clear hJ0
 unfold Stop
 try simp only [Act.put, List.setIfInBounds_toArray, List.set_cons_succ, List.set_cons_zero]
 go_wp2_with (refine stop_alloc 29 (cV zV) (.agg (cV zV)) rfl rfl zv29 rfl hJ1 (fun bk2 W2 hJ2 => ?_))
 clear hJ1
 unfold Stop
 try simp only [Act.put, List.setIfInBounds_toArray, List.set_cons_succ, List.set_cons_zero]
 go_wp2
 obtain ⟨m1_2, hm⟩ : ∃ m, m = W2.heap.size := ⟨_, rfl⟩
 have hM := hJ2.em
 rw [← hm] at hM
 clear hm hJ2
 refine wp_region_z 10 [some 3, some 4, some 5, some 6, some 7, some 8, some 9, some 10, some 11, some 12] (veL m1_2 [.eq (.pointer (some ⟨bk1, 0, none⟩)), .eq (.agg (cS v.x)), .eq (.agg (cS v.x)), .eq (.pointer (some ⟨bk1, 3, none⟩)), .eq (.agg (cS v.y)), .eq (.agg (cS v.y)), .eq (.pointer (some ⟨bk1, 6, none⟩)), .eq (.agg (cS v.z)), .eq (.agg (cS v.z)), .eq (.agg (cV v))]) (Em w m1_2 [(bk2, (cV zV), 29), (bk1, (cV v), 25)]) (by kernel_rfl) (by kernel_rfl) (by rfl) (by decide) (by rfl) hM ?_ ?_
 ·
  intro i hl hi uu ww aa hJ hd hev hin
  clear hM
  obtain rfl | rfl | rfl | rfl | rfl | rfl | rfl | rfl | rfl | rfl : i = 0 ∨ i = 1 ∨ i = 2 ∨ i = 3 ∨ i = 4 ∨ i = 5 ∨ i = 6 ∨ i = 7 ∨ i = 8 ∨ i = 9 := by omega
  ·
   exact .inr ⟨rfl, fun K' hK => wp_ixa 25 (.tmp 1) (.const (.int .i64 0)) rfl (eval_tmp ((hev 1 (by decide)).trans rfl)) rfl (fun _ => by kernel_rfl) (hK _ _ hJ rfl veL_same)⟩
  ·
   exact .inr ⟨rfl, fun K' hK => wp_load 23 (.tmp 3) rfl bk1 0 3 (cV v) (cS v.x) 25 (hJ.es.at' _ (List.mem_of_getElem? (i := 1) rfl)) (eval_tmp ((hin 0 3 rfl).trans (congrArg some (show uu 0 = .pointer (some ⟨bk1, 0, none⟩) from hd 0 (by decide) (by kernel_rfl))))) ag23 sz23 (Nat.le_of_ble_eq_true (by kernel_rfl)) (by kernel_rfl) (hK _ _ hJ rfl veL_same)⟩
  ·
   exact .inr ⟨rfl, fun K' hK => wp_callv (.func 13) #[.tmp 4] _ 13 #[] #[.agg (cS v.x)] #[.agg (cS v.x)] rfl rfl (map1 (eval_tmp ((hin 1 4 rfl).trans (congrArg some (show uu 1 = .agg (cS v.x) from hd 1 (by decide) (by kernel_rfl)))))) (by kernel_rfl) (fun _ _ => by kernel_rfl) (oneT_any v.x ww) (fun _ hB => (hK _ _ (hJ.later hB) rfl (veL_later hB)))⟩
  ·
   exact .inr ⟨rfl, fun K' hK => wp_ixa 25 (.tmp 1) (.const (.int .i64 1)) rfl (eval_tmp ((hev 1 (by decide)).trans rfl)) rfl (fun _ => by kernel_rfl) (hK _ _ hJ rfl veL_same)⟩
  ·
   exact .inr ⟨rfl, fun K' hK => wp_load 23 (.tmp 6) rfl bk1 3 3 (cV v) (cS v.y) 25 (hJ.es.at' _ (List.mem_of_getElem? (i := 1) rfl)) (eval_tmp ((hin 3 6 rfl).trans (congrArg some (show uu 3 = .pointer (some ⟨bk1, 3, none⟩) from hd 3 (by decide) (by kernel_rfl))))) ag23 sz23 (Nat.le_of_ble_eq_true (by kernel_rfl)) (by kernel_rfl) (hK _ _ hJ rfl veL_same)⟩
  ·
   exact .inr ⟨rfl, fun K' hK => wp_callv (.func 13) #[.tmp 7] _ 13 #[] #[.agg (cS v.y)] #[.agg (cS v.y)] rfl rfl (map1 (eval_tmp ((hin 4 7 rfl).trans (congrArg some (show uu 4 = .agg (cS v.y) from hd 4 (by decide) (by kernel_rfl)))))) (by kernel_rfl) (fun _ _ => by kernel_rfl) (oneT_any v.y ww) (fun _ hB => (hK _ _ (hJ.later hB) rfl (veL_later hB)))⟩
  ·
   exact .inr ⟨rfl, fun K' hK => wp_ixa 25 (.tmp 1) (.const (.int .i64 2)) rfl (eval_tmp ((hev 1 (by decide)).trans rfl)) rfl (fun _ => by kernel_rfl) (hK _ _ hJ rfl veL_same)⟩
  ·
   exact .inr ⟨rfl, fun K' hK => wp_load 23 (.tmp 9) rfl bk1 6 3 (cV v) (cS v.z) 25 (hJ.es.at' _ (List.mem_of_getElem? (i := 1) rfl)) (eval_tmp ((hin 6 9 rfl).trans (congrArg some (show uu 6 = .pointer (some ⟨bk1, 6, none⟩) from hd 6 (by decide) (by kernel_rfl))))) ag23 sz23 (Nat.le_of_ble_eq_true (by kernel_rfl)) (by kernel_rfl) (hK _ _ hJ rfl veL_same)⟩
  ·
   exact .inr ⟨rfl, fun K' hK => wp_callv (.func 13) #[.tmp 10] _ 13 #[] #[.agg (cS v.z)] #[.agg (cS v.z)] rfl rfl (map1 (eval_tmp ((hin 7 10 rfl).trans (congrArg some (show uu 7 = .agg (cS v.z) from hd 7 (by decide) (by kernel_rfl)))))) (by kernel_rfl) (fun _ _ => by kernel_rfl) (oneT_any v.z ww) (fun _ hB => (hK _ _ (hJ.later hB) rfl (veL_later hB)))⟩
  ·
   exact .inr ⟨rfl, fun K' hK => wp_bld 29 #[(0, .tmp 5), (1, .tmp 8), (2, .tmp 11)] rfl (bmap3 (eval_tmp ((hin 2 5 rfl).trans (congrArg some (show uu 2 = .agg (cS v.x) from hd 2 (by decide) (by kernel_rfl))))) (eval_tmp ((hin 5 8 rfl).trans (congrArg some (show uu 5 = .agg (cS v.y) from hd 5 (by decide) (by kernel_rfl))))) (eval_tmp ((hin 8 11 rfl).trans (congrArg some (show uu 8 = .agg (cS v.z) from hd 8 (by decide) (by kernel_rfl)))))) (fun _ => by kernel_rfl) (hK _ _ hJ rfl veL_same)⟩
 clear hM
 intro uu W3 hJm hd
 have e_0 : uu 0 = .pointer (some ⟨bk1, 0, none⟩) := hd 0 (by decide)
 have e_1 : uu 1 = .agg (cS v.x) := hd 1 (by decide)
 have e_2 : uu 2 = .agg (cS v.x) := hd 2 (by decide)
 have e_3 : uu 3 = .pointer (some ⟨bk1, 3, none⟩) := hd 3 (by decide)
 have e_4 : uu 4 = .agg (cS v.y) := hd 4 (by decide)
 have e_5 : uu 5 = .agg (cS v.y) := hd 5 (by decide)
 have e_6 : uu 6 = .pointer (some ⟨bk1, 6, none⟩) := hd 6 (by decide)
 have e_7 : uu 7 = .agg (cS v.z) := hd 7 (by decide)
 have e_8 : uu 8 = .agg (cS v.z) := hd 8 (by decide)
 have e_9 : uu 9 = .agg (cV v) := hd 9 (by decide)
 clear hd
 simp only [layS, Act.put, List.setIfInBounds_toArray, List.set_cons_succ, List.set_cons_zero, Nat.zero_add, Nat.reduceAdd, List.drop_succ_cons, List.drop_zero, List.drop_nil, e_0, e_1, e_2, e_3, e_4, e_5, e_6, e_7, e_8, e_9]
 clear e_0 e_1 e_2 e_3 e_4 e_5 e_6 e_7 e_8 e_9
 have hJ3 := hJm.es
 clear hJm
 go_wp2_with (refine stop_store 29 (.tmp 2) (.tmp 12) 0 bk2 0 (cV zV) 29 9 (cV v).toList (cV v) [(bk2, (cV v), 29), (bk1, (cV v), 25)] rfl rfl rfl rfl sz29 hJ3 rfl (by kernel_rfl) (Nat.le_of_ble_eq_true (by kernel_rfl)) (by kernel_rfl) (by kernel_rfl) (by kernel_rfl) (fun W4 hJ4 => ?_))
 clear hJ3
 unfold Stop
 try simp only [Act.put, List.setIfInBounds_toArray, List.set_cons_succ, List.set_cons_zero]
 go_wp2
 exact bodyPost_ret (v := .agg (cV v)) (results_cell 0 Tryz.results9 hJ4 rfl ag29 sz29 (Nat.le_of_ble_eq_true (by kernel_rfl)) rfl (by kernel_rfl)) rfl ⟨rfl, hJ4.below⟩
set_option maxRecDepth 100000 in
set_option maxHeartbeats 12800000 in
theorem docT_any (r : Tu)  (w : World)   : Calls Tryz.prog 6 #[.agg (cT r)] w (PVal (.agg (cT r)) w) := by
 have hJ0 := es_nil w
 go_enter Tryz.func6, Tryz.ntmps6
 go_wp2_with (refine stop_box 34 (.tmp 0) (cT r) rfl rfl rfl hJ0 (fun bk1 W1 hJ1 => ?_))
 clear hJ0
 unfold Stop
 try simp only [Act.put, List.setIfInBounds_toArray, List.set_cons_succ, List.set_cons_zero]
 go_wp2_with (refine stop_alloc 31 (cT zT) (.agg (cT zT)) rfl rfl zv31 rfl hJ1 (fun bk2 W2 hJ2 => ?_))
 clear hJ1
 unfold Stop
 try simp only [Act.put, List.setIfInBounds_toArray, List.set_cons_succ, List.set_cons_zero]
 go_wp2
 obtain ⟨m1_2, hm⟩ : ∃ m, m = W2.heap.size := ⟨_, rfl⟩
 have hM := hJ2.em
 rw [← hm] at hM
 clear hm hJ2
 refine wp_region_z 10 [some 3, some 4, some 5, some 6, some 7, some 8, some 9, some 10, some 11, some 12] (veL m1_2 [.eq (.pointer (some ⟨bk1, 0, none⟩)), .eq (.agg (cV r.a)), .eq (.agg (cV r.a)), .eq (.pointer (some ⟨bk1, 9, none⟩)), .eq (.agg (cV r.b)), .eq (.agg (cV r.b)), .eq (.pointer (some ⟨bk1, 18, none⟩)), .eq (.agg (cV r.c)), .eq (.agg (cV r.c)), .eq (.agg (cT r))]) (Em w m1_2 [(bk2, (cT zT), 31), (bk1, (cT r), 34)]) (by kernel_rfl) (by kernel_rfl) (by rfl) (by decide) (by rfl) hM ?_ ?_
 ·
  intro i hl hi uu ww aa hJ hd hev hin
  clear hM
  obtain rfl | rfl | rfl | rfl | rfl | rfl | rfl | rfl | rfl | rfl : i = 0 ∨ i = 1 ∨ i = 2 ∨ i = 3 ∨ i = 4 ∨ i = 5 ∨ i = 6 ∨ i = 7 ∨ i = 8 ∨ i = 9 := by omega
  ·
   exact .inr ⟨rfl, fun K' hK => wp_ixa 34 (.tmp 1) (.const (.int .i64 0)) rfl (eval_tmp ((hev 1 (by decide)).trans rfl)) rfl (fun _ => by kernel_rfl) (hK _ _ hJ rfl veL_same)⟩
  ·
   exact .inr ⟨rfl, fun K' hK => wp_load 25 (.tmp 3) rfl bk1 0 9 (cT r) (cV r.a) 34 (hJ.es.at' _ (List.mem_of_getElem? (i := 1) rfl)) (eval_tmp ((hin 0 3 rfl).trans (congrArg some (show uu 0 = .pointer (some ⟨bk1, 0, none⟩) from hd 0 (by decide) (by kernel_rfl))))) ag25 sz25 (Nat.le_of_ble_eq_true (by kernel_rfl)) (by kernel_rfl) (hK _ _ hJ rfl veL_same)⟩
  ·
   exact .inr ⟨rfl, fun K' hK => wp_callv (.func 9) #[.tmp 4] _ 9 #[] #[.agg (cV r.a)] #[.agg (cV r.a)] rfl rfl (map1 (eval_tmp ((hin 1 4 rfl).trans (congrArg some (show uu 1 = .agg (cV r.a) from hd 1 (by decide) (by kernel_rfl)))))) (by kernel_rfl) (fun _ _ => by kernel_rfl) (rowT_any r.a ww) (fun _ hB => (hK _ _ (hJ.later hB) rfl (veL_later hB)))⟩
  ·
   exact .inr ⟨rfl, fun K' hK => wp_ixa 34 (.tmp 1) (.const (.int .i64 1)) rfl (eval_tmp ((hev 1 (by decide)).trans rfl)) rfl (fun _ => by kernel_rfl) (hK _ _ hJ rfl veL_same)⟩
  ·
   exact .inr ⟨rfl, fun K' hK => wp_load 25 (.tmp 6) rfl bk1 9 9 (cT r) (cV r.b) 34 (hJ.es.at' _ (List.mem_of_getElem? (i := 1) rfl)) (eval_tmp ((hin 3 6 rfl).trans (congrArg some (show uu 3 = .pointer (some ⟨bk1, 9, none⟩) from hd 3 (by decide) (by kernel_rfl))))) ag25 sz25 (Nat.le_of_ble_eq_true (by kernel_rfl)) (by kernel_rfl) (hK _ _ hJ rfl veL_same)⟩
  ·
   exact .inr ⟨rfl, fun K' hK => wp_callv (.func 9) #[.tmp 7] _ 9 #[] #[.agg (cV r.b)] #[.agg (cV r.b)] rfl rfl (map1 (eval_tmp ((hin 4 7 rfl).trans (congrArg some (show uu 4 = .agg (cV r.b) from hd 4 (by decide) (by kernel_rfl)))))) (by kernel_rfl) (fun _ _ => by kernel_rfl) (rowT_any r.b ww) (fun _ hB => (hK _ _ (hJ.later hB) rfl (veL_later hB)))⟩
  ·
   exact .inr ⟨rfl, fun K' hK => wp_ixa 34 (.tmp 1) (.const (.int .i64 2)) rfl (eval_tmp ((hev 1 (by decide)).trans rfl)) rfl (fun _ => by kernel_rfl) (hK _ _ hJ rfl veL_same)⟩
  ·
   exact .inr ⟨rfl, fun K' hK => wp_load 25 (.tmp 9) rfl bk1 18 9 (cT r) (cV r.c) 34 (hJ.es.at' _ (List.mem_of_getElem? (i := 1) rfl)) (eval_tmp ((hin 6 9 rfl).trans (congrArg some (show uu 6 = .pointer (some ⟨bk1, 18, none⟩) from hd 6 (by decide) (by kernel_rfl))))) ag25 sz25 (Nat.le_of_ble_eq_true (by kernel_rfl)) (by kernel_rfl) (hK _ _ hJ rfl veL_same)⟩
  ·
   exact .inr ⟨rfl, fun K' hK => wp_callv (.func 9) #[.tmp 10] _ 9 #[] #[.agg (cV r.c)] #[.agg (cV r.c)] rfl rfl (map1 (eval_tmp ((hin 7 10 rfl).trans (congrArg some (show uu 7 = .agg (cV r.c) from hd 7 (by decide) (by kernel_rfl)))))) (by kernel_rfl) (fun _ _ => by kernel_rfl) (rowT_any r.c ww) (fun _ hB => (hK _ _ (hJ.later hB) rfl (veL_later hB)))⟩
  ·
   exact .inr ⟨rfl, fun K' hK => wp_bld 31 #[(0, .tmp 5), (1, .tmp 8), (2, .tmp 11)] rfl (bmap3 (eval_tmp ((hin 2 5 rfl).trans (congrArg some (show uu 2 = .agg (cV r.a) from hd 2 (by decide) (by kernel_rfl))))) (eval_tmp ((hin 5 8 rfl).trans (congrArg some (show uu 5 = .agg (cV r.b) from hd 5 (by decide) (by kernel_rfl))))) (eval_tmp ((hin 8 11 rfl).trans (congrArg some (show uu 8 = .agg (cV r.c) from hd 8 (by decide) (by kernel_rfl)))))) (fun _ => by kernel_rfl) (hK _ _ hJ rfl veL_same)⟩
 clear hM
 intro uu W3 hJm hd
 have e_0 : uu 0 = .pointer (some ⟨bk1, 0, none⟩) := hd 0 (by decide)
 have e_1 : uu 1 = .agg (cV r.a) := hd 1 (by decide)
 have e_2 : uu 2 = .agg (cV r.a) := hd 2 (by decide)
 have e_3 : uu 3 = .pointer (some ⟨bk1, 9, none⟩) := hd 3 (by decide)
 have e_4 : uu 4 = .agg (cV r.b) := hd 4 (by decide)
 have e_5 : uu 5 = .agg (cV r.b) := hd 5 (by decide)
 have e_6 : uu 6 = .pointer (some ⟨bk1, 18, none⟩) := hd 6 (by decide)
 have e_7 : uu 7 = .agg (cV r.c) := hd 7 (by decide)
 have e_8 : uu 8 = .agg (cV r.c) := hd 8 (by decide)
 have e_9 : uu 9 = .agg (cT r) := hd 9 (by decide)
 clear hd
 simp only [layS, Act.put, List.setIfInBounds_toArray, List.set_cons_succ, List.set_cons_zero, Nat.zero_add, Nat.reduceAdd, List.drop_succ_cons, List.drop_zero, List.drop_nil, e_0, e_1, e_2, e_3, e_4, e_5, e_6, e_7, e_8, e_9]
 clear e_0 e_1 e_2 e_3 e_4 e_5 e_6 e_7 e_8 e_9
 have hJ3 := hJm.es
 clear hJm
 go_wp2_with (refine stop_store 31 (.tmp 2) (.tmp 12) 0 bk2 0 (cT zT) 31 27 (cT r).toList (cT r) [(bk2, (cT r), 31), (bk1, (cT r), 34)] rfl rfl rfl rfl sz31 hJ3 rfl (by kernel_rfl) (Nat.le_of_ble_eq_true (by kernel_rfl)) (by kernel_rfl) (by kernel_rfl) (by kernel_rfl) (fun W4 hJ4 => ?_))
 clear hJ3
 unfold Stop
 try simp only [Act.put, List.setIfInBounds_toArray, List.set_cons_succ, List.set_cons_zero]
 go_wp2
 exact bodyPost_ret (v := .agg (cT r)) (results_cell 0 Tryz.results6 hJ4 rfl ag31 sz31 (Nat.le_of_ble_eq_true (by kernel_rfl)) rfl (by kernel_rfl)) rfl ⟨rfl, hJ4.below⟩
end Go.Proofs.YtdochhhepmlapaaGreat
