/- Parts of the proof. -/
import Derived.Test.YtolpfibihialkaaGreatGr0
import Derived.Test.YtolpfibihialkaaGreatGr29
import Derived.Test.YtolpfibihialkaaGreatGr18
import Derived.ChangeKeysEq
import Derived.Test.YtolpfibihialkaaGreatGr30
import Derived.Test.YtolpfibihialkaaGreatGr23
import Derived.Test.YtolpfibihialkaaGreatGr21
/- Equality of vectors, of arrays. No statement of the seat is proved here. -/
namespace Go.Proofs.YtolpfibihialkaaGreat
open Go Go.RowKit
theorem run_sameS (d : Nat) (a b : Int) (c : Bool) (w : World) : (Op.equalIn (d + 2) 23 (.agg #[.int .i64 a, .int .i64 b, .bool c]) (.agg #[.int .i64 a, .int .i64 b, .bool c])).run Tryz.prog w = .ok true w := by
 have ht : Tryz.prog.underlying 23 = some (.struct (Tryz.prog.fieldsOf 23)) := by kernel_rfl
 have hp : Tryz.prog.stoodInHeld 23 = false := by kernel_rfl
 have u1 := Tryz.underlying2
 have u2 := Tryz.underlying4
 have a1 := Tryz.isAgg2
 have a2 := Tryz.isAgg4
 have z1 := Tryz.sizeOf2
 have z2 := Tryz.sizeOf4
 rw [run_equalIn_struct w (d + 1) 23 _ _ ht hp]
 simp only [Program.fieldsOf, Tryz.underlying23]
 go_simp
theorem run_sameD (d : Nat) (a b : Int) (c : Bool) (w : World) : (Op.equalIn (d + 2) 29 (.agg #[.int .i64 a, .int .i64 b, .bool c]) (.agg #[.int .i64 a, .int .i64 b, .bool c])).run Tryz.prog w = .ok true w := by
 have ht : Tryz.prog.underlying 29 = some (.struct (Tryz.prog.fieldsOf 29)) := by kernel_rfl
 have hp : Tryz.prog.stoodInHeld 29 = false := by kernel_rfl
 have u1 := Tryz.underlying2
 have u2 := Tryz.underlying4
 have a1 := Tryz.isAgg2
 have a2 := Tryz.isAgg4
 have z1 := Tryz.sizeOf2
 have z2 := Tryz.sizeOf4
 rw [run_equalIn_struct w (d + 1) 29 _ _ ht hp]
 simp only [Program.fieldsOf, Tryz.underlying29]
 go_simp
section
variable (a0 b0 : Int) (c0 : Bool) (a1 b1 : Int) (c1 : Bool) (a2 b2 : Int) (c2 : Bool) (w : World)
theorem part_v0 : (part 23 #[.int .i64 a0, .int .i64 b0, .bool c0, .int .i64 a1, .int .i64 b1, .bool c1, .int .i64 a2, .int .i64 b2, .bool c2] 0).run Tryz.prog w = .ok (.agg #[.int .i64 a0, .int .i64 b0, .bool c0]) w := by kernel_rfl
theorem part_v1 : (part 23 #[.int .i64 a0, .int .i64 b0, .bool c0, .int .i64 a1, .int .i64 b1, .bool c1, .int .i64 a2, .int .i64 b2, .bool c2] 3).run Tryz.prog w = .ok (.agg #[.int .i64 a1, .int .i64 b1, .bool c1]) w := by kernel_rfl
theorem part_v2 : (part 23 #[.int .i64 a0, .int .i64 b0, .bool c0, .int .i64 a1, .int .i64 b1, .bool c1, .int .i64 a2, .int .i64 b2, .bool c2] 6).run Tryz.prog w = .ok (.agg #[.int .i64 a2, .int .i64 b2, .bool c2]) w := by kernel_rfl
theorem part_d0 : (part 29 #[.int .i64 a0, .int .i64 b0, .bool c0, .int .i64 a1, .int .i64 b1, .bool c1, .int .i64 a2, .int .i64 b2, .bool c2] 0).run Tryz.prog w = .ok (.agg #[.int .i64 a0, .int .i64 b0, .bool c0]) w := by kernel_rfl
theorem part_d1 : (part 29 #[.int .i64 a0, .int .i64 b0, .bool c0, .int .i64 a1, .int .i64 b1, .bool c1, .int .i64 a2, .int .i64 b2, .bool c2] 3).run Tryz.prog w = .ok (.agg #[.int .i64 a1, .int .i64 b1, .bool c1]) w := by kernel_rfl
theorem part_d2 : (part 29 #[.int .i64 a0, .int .i64 b0, .bool c0, .int .i64 a1, .int .i64 b1, .bool c1, .int .i64 a2, .int .i64 b2, .bool c2] 6).run Tryz.prog w = .ok (.agg #[.int .i64 a2, .int .i64 b2, .bool c2]) w := by kernel_rfl
theorem run_eqlW : (binOp .eql 31 (.agg #[.int .i64 a0, .int .i64 b0, .bool c0, .int .i64 a1, .int .i64 b1, .bool c1, .int .i64 a2, .int .i64 b2, .bool c2]) (.agg #[.int .i64 a0, .int .i64 b0, .bool c0, .int .i64 a1, .int .i64 b1, .bool c1, .int .i64 a2, .int .i64 b2, .bool c2])).run Tryz.prog w = .ok (.bool true) w := by
 have ht : Tryz.prog.underlying 31 = some (.struct (Tryz.prog.fieldsOf 31)) := by kernel_rfl
 have hp : Tryz.prog.stoodInHeld 31 = false := by kernel_rfl
 rw [run_eql_struct, show (10000 : Nat) = 9999 + 1 from rfl, run_equalIn_struct w 9999 31 _ _ ht hp]
 simp only [Program.fieldsOf, Tryz.underlying31]
 simp [Op.eqFields, part_d0, part_d1, part_d2, run_sameD 9997]
theorem run_eqlB (a b c : Bool) : (binOp .eql 64 (.agg #[.bool a, .bool b, .bool c]) (.agg #[.bool true, .bool true, .bool true])).run Tryz.prog w = .ok (.bool (a && (b && c))) w := by
 cases a <;> cases b <;> cases c <;> kernel_rfl
end
end Go.Proofs.YtolpfibihialkaaGreat

/- Equality of turns. No statement of the seat is proved here. -/
namespace Go.Proofs.YtolpfibihialkaaGreat
open Go Go.RowKit
theorem run_sameV (d : Nat) (v : Vc) (w : World) : (Op.equalIn (d + 3) 25 (.agg (cV v)) (.agg (cV v))).run Tryz.prog w = .ok true w := by
 have hu : Tryz.prog.underlying 25 = some (.array 3 23) := by kernel_rfl
 obtain ⟨i, hi⟩ := Option.isSome_iff_exists.1 (show (Tryz.prog.info? 23).isSome = true by kernel_rfl)
 have hc : Tryz.prog.cellsOf 23 = 3 := by kernel_rfl
 rw [run_equalIn_array w (d + 2) _ _ hu hi, hc, show List.range 3 = [0, 1, 2] from rfl]
 have hs := run_sameS d
 unfold cV
 simp [Op.eqItems, part_v0, part_v1, part_v2, hs]
theorem part_t0 (r : Tu) (w : World) : (part 25 (cT r) 0).run Tryz.prog w = .ok (.agg (cV r.a)) w := by kernel_rfl
theorem part_t1 (r : Tu) (w : World) : (part 25 (cT r) 9).run Tryz.prog w = .ok (.agg (cV r.b)) w := by kernel_rfl
theorem part_t2 (r : Tu) (w : World) : (part 25 (cT r) 18).run Tryz.prog w = .ok (.agg (cV r.c)) w := by kernel_rfl
theorem run_eqlT (r : Tu) (w : World) : (binOp .eql 27 (.agg (cT r)) (.agg (cT r))).run Tryz.prog w = .ok (.bool true) w := by
 have hu : Tryz.prog.underlying 27 = some (.array 3 25) := by kernel_rfl
 obtain ⟨i, hi⟩ := Option.isSome_iff_exists.1 (show (Tryz.prog.info? 25).isSome = true by kernel_rfl)
 have hc : Tryz.prog.cellsOf 25 = 9 := by kernel_rfl
 rw [run_eql_struct, show (10000 : Nat) = 9999 + 1 from rfl, run_equalIn_array w 9999 _ _ hu hi, hc, show List.range 3 = [0, 1, 2] from rfl]
 have hs : ∀ (v : Vc) (w : World), (Op.equalIn 9999 25 (.agg (cV v)) (.agg (cV v))).run Tryz.prog w = .ok true w := run_sameV 9996
 generalize 9999 = d at hs ⊢
 simp [Op.eqItems, part_t0, part_t1, part_t2, hs]
theorem run_eqlS1 (x : Sp) (w : World) : (binOp .eql 23 (.agg (cS x)) (.agg (cS x))).run Tryz.prog w = .ok (.bool true) w := by
 have hs : (Op.equalIn 10000 23 (.agg (cS x)) (.agg (cS x))).run Tryz.prog w = .ok true w := run_sameS 9998 x.lo x.hi x.all w
 unfold cS at *
 rw [run_eql_struct]
 simp [hs]
section
variable {P : Program} {Q : Exit → Act → World → Prop} {a : Act} {W : World} {o : Oper} {next : Act → World → Prop} {v : Value}
theorem wp_eqlA (T T2 : TypeId) (x y : Operand) (ho : o.op = .binOp .eql T x y T2) (C D : Array Value) (hx : a.eval x = .agg C) (hy : a.eval y = .agg D) (hg : P.eqGuardType P.depth T = false) (hr : ∀ W, (binOp .eql T (.agg C) (.agg D)).run P W = .ok v W) (k : next (a.put o.dst v) W) : o.wp P a W next Q := by
 refine wp_run ?_ k
 have he : (eqGuard .eql T x y (.agg C) (.agg D)).run P W = .ok () W := by
  simp [eqGuard, hg, go_sem]
 unfold execOp
 rw [ho]
 simp only [hx, hy, Sem.run_bind, he, hr, Result.andThen]
 rfl
end
theorem gd_T : Tryz.prog.eqGuardType Tryz.prog.depth 27 = false := by kernel_rfl
theorem gd_S : Tryz.prog.eqGuardType Tryz.prog.depth 23 = false := by kernel_rfl
theorem eql_T {r q : Tu} (h : r = q) (W : World) : (binOp .eql 27 (.agg (cT r)) (.agg (cT q))).run Tryz.prog W = .ok (.bool true) W := h ▸ run_eqlT r W
theorem eql_S {x y : Sp} (h : x = y) (W : World) : (binOp .eql 23 (.agg (cS x)) (.agg (cS y))).run Tryz.prog W = .ok (.bool true) W := h ▸ run_eqlS1 x W
end Go.Proofs.YtolpfibihialkaaGreat

/- The document's turns in memory. No statement of the seat is proved here. -/
namespace Go.Proofs.YtolpfibihialkaaGreat
open Go Go.RowKit
theorem zv33 (W : World) : (zeroValue 33).run Tryz.prog W = .ok (.agg (cT zT)) W := by kernel_rfl
theorem sz33 (W : World) : (sizeOf 33).run Tryz.prog W = .ok 27 W := by kernel_rfl
theorem ag33 (W : World) : (isAgg 33).run Tryz.prog W = .ok true W := by kernel_rfl
theorem gd_D : Tryz.prog.eqGuardType Tryz.prog.depth 29 = false := by kernel_rfl
theorem gd_W : Tryz.prog.eqGuardType Tryz.prog.depth 31 = false := by kernel_rfl
theorem gd_R : Tryz.prog.eqGuardType Tryz.prog.depth 33 = false := by kernel_rfl
theorem run_eqlD1 (x : Sp) (w : World) : (binOp .eql 29 (.agg (cS x)) (.agg (cS x))).run Tryz.prog w = .ok (.bool true) w := by
 have hs : (Op.equalIn 10000 29 (.agg (cS x)) (.agg (cS x))).run Tryz.prog w = .ok true w := run_sameD 9998 x.lo x.hi x.all w
 unfold cS at *
 rw [run_eql_struct]
 simp [hs]
theorem run_sameW (d : Nat) (v : Vc) (w : World) : (Op.equalIn (d + 3) 31 (.agg (cV v)) (.agg (cV v))).run Tryz.prog w = .ok true w := by
 have ht : Tryz.prog.underlying 31 = some (.struct (Tryz.prog.fieldsOf 31)) := by kernel_rfl
 have hp : Tryz.prog.stoodInHeld 31 = false := by kernel_rfl
 rw [run_equalIn_struct w (d + 2) 31 _ _ ht hp]
 simp only [Program.fieldsOf, Tryz.underlying31]
 unfold cV
 simp [Op.eqFields, part_d0, part_d1, part_d2, run_sameD d]
theorem part_r0 (r : Tu) (w : World) : (part 31 (cT r) 0).run Tryz.prog w = .ok (.agg (cV r.a)) w := by kernel_rfl
theorem part_r1 (r : Tu) (w : World) : (part 31 (cT r) 9).run Tryz.prog w = .ok (.agg (cV r.b)) w := by kernel_rfl
theorem part_r2 (r : Tu) (w : World) : (part 31 (cT r) 18).run Tryz.prog w = .ok (.agg (cV r.c)) w := by kernel_rfl
theorem run_eqlR (r : Tu) (w : World) : (binOp .eql 33 (.agg (cT r)) (.agg (cT r))).run Tryz.prog w = .ok (.bool true) w := by
 have ht : Tryz.prog.underlying 33 = some (.struct (Tryz.prog.fieldsOf 33)) := by kernel_rfl
 have hp : Tryz.prog.stoodInHeld 33 = false := by kernel_rfl
 rw [run_eql_struct, show (10000 : Nat) = 9999 + 1 from rfl, run_equalIn_struct w 9999 33 _ _ ht hp]
 simp only [Program.fieldsOf, Tryz.underlying33]
 simp [Op.eqFields, part_r0, part_r1, part_r2, run_sameW 9996]
theorem eql_D {x y : Sp} (h : x = y) (W : World) : (binOp .eql 29 (.agg (cS x)) (.agg (cS y))).run Tryz.prog W = .ok (.bool true) W := h ▸ run_eqlD1 x W
theorem eql_W {x y : Vc} (h : x = y) (W : World) : (binOp .eql 31 (.agg (cV x)) (.agg (cV y))).run Tryz.prog W = .ok (.bool true) W := by
 subst h
 exact run_eqlW _ _ _ _ _ _ _ _ _ W
theorem eql_R {r q : Tu} (h : r = q) (W : World) : (binOp .eql 33 (.agg (cT r)) (.agg (cT q))).run Tryz.prog W = .ok (.bool true) W := h ▸ run_eqlR r W
end Go.Proofs.YtolpfibihialkaaGreat

/- The document's vectors: the walks of their methods. No statement of the seat is proved here. -/
namespace Go.Proofs.YtolpfibihialkaaGreat
open Go Go.RowKit
attribute [local go_sem ↓] run_vbuild run_dbuild run_eqlB
set_option maxRecDepth 100000 in
set_option maxHeartbeats 12800000 in
theorem dDot_w (v u p : Vc) (q r : Sp) (hH0 : ∀ W : World, Calls Tryz.prog 54 #[.agg (cS v.x), .agg (cS u.x)] W (PVal (.agg (cS p.x)) W)) (hH1 : ∀ W : World, Calls Tryz.prog 54 #[.agg (cS v.y), .agg (cS u.y)] W (PVal (.agg (cS p.y)) W)) (hH2 : ∀ W : World, Calls Tryz.prog 54 #[.agg (cS v.z), .agg (cS u.z)] W (PVal (.agg (cS p.z)) W)) (hHs : ∀ W : World, Calls Tryz.prog 55 #[.agg (cS p.x), .agg (cS p.y)] W (PVal (.agg (cS q)) W)) (hHt : ∀ W : World, Calls Tryz.prog 55 #[.agg (cS q), .agg (cS p.z)] W (PVal (.agg (cS r)) W))  (w : World)   : Calls Tryz.prog 31 #[.agg (cV v), .agg (cV u)] w (PVal (.agg (cS r)) w) := by
 have H0 := Lib.hid hH0
 have H1 := Lib.hid hH1
 have H2 := Lib.hid hH2
 have Hs := Lib.hid hHs
 have Ht := Lib.hid hHt
 clear hH0 hH1 hH2 hHs hHt
 have hJ0 := es_nil w
 go_enter Tryz.func31, Tryz.ntmps31
 go_wp2_with (refine stop_box 31 (.tmp 0) (cV v) rfl rfl rfl hJ0 (fun bk1 W1 hJ1 => ?_))
 clear hJ0
 unfold Stop
 try simp only [Act.put, zzC, zzD, zzE]
 go_wp2_with (refine stop_box 31 (.tmp 1) (cV u) rfl rfl rfl hJ1 (fun bk2 W2 hJ2 => ?_))
 clear hJ1
 unfold Stop
 try simp only [Act.put, zzC, zzD, zzE]
 go_wp2_with (refine stop_alloc 29 (cS zS) (.agg (cS zS)) rfl rfl zv29 rfl hJ2 (fun bk3 W3 hJ3 => ?_))
 clear hJ2
 unfold Stop
 try simp only [Act.put, zzC, zzD, zzE]
 go_wp2
 obtain ⟨m1_3, hm⟩ : ∃ m, m = W3.heap.size := ⟨_, rfl⟩
 have hM := hJ3.em
 rw [← hm] at hM
 clear hm hJ3
 refine wp_region_z 17 [some 5, some 6, some 7, some 8, some 9, some 10, some 11, some 12, some 13, some 14, some 15, some 16, some 17, some 18, some 19, some 20, some 21] (veL m1_3 [.eq (.pointer (some ⟨bk1, 0, none⟩)), .eq (.agg (cS v.x)), .eq (.pointer (some ⟨bk2, 0, none⟩)), .eq (.agg (cS u.x)), .eq (.agg (cS p.x)), .eq (.pointer (some ⟨bk1, 3, none⟩)), .eq (.agg (cS v.y)), .eq (.pointer (some ⟨bk2, 3, none⟩)), .eq (.agg (cS u.y)), .eq (.agg (cS p.y)), .eq (.agg (cS q)), .eq (.pointer (some ⟨bk1, 6, none⟩)), .eq (.agg (cS v.z)), .eq (.pointer (some ⟨bk2, 6, none⟩)), .eq (.agg (cS u.z)), .eq (.agg (cS p.z)), .eq (.agg (cS r))]) (Em w m1_3 [(bk3, (cS zS), 29), (bk2, (cV u), 31), (bk1, (cV v), 31)]) (by kernel_rfl) (by kernel_rfl) (by rfl) (by decide) (by rfl) hM ?_ ?_
 ·
  intro i hl hi uu ww aa hJ hd hev hin
  clear hM
  obtain rfl | rfl | rfl | rfl | rfl | rfl | rfl | rfl | rfl | rfl | rfl | rfl | rfl | rfl | rfl | rfl | rfl : i = 0 ∨ i = 1 ∨ i = 2 ∨ i = 3 ∨ i = 4 ∨ i = 5 ∨ i = 6 ∨ i = 7 ∨ i = 8 ∨ i = 9 ∨ i = 10 ∨ i = 11 ∨ i = 12 ∨ i = 13 ∨ i = 14 ∨ i = 15 ∨ i = 16 := by omega
  ·
   exact .inr ⟨rfl, fun K' hK => wp_fda 31 (.tmp 2) 0 rfl (eval_tmp ((hev 2 (by decide)).trans rfl)) (fun _ => by kernel_rfl) (hK _ _ hJ rfl veL_same)⟩
  ·
   exact .inr ⟨rfl, fun K' hK => wp_load 29 (.tmp 5) rfl bk1 0 3 (cV v) (cS v.x) 31 (hJ.es.at' _ (zzG (i := 2) rfl)) (eval_tmp ((hin 0 5 rfl).trans (congrArg some (show uu 0 = .pointer (some ⟨bk1, 0, none⟩) from hd 0 (by decide) (by kernel_rfl))))) ag29 sz29 (zzF (by kernel_rfl)) (by kernel_rfl) (hK _ _ hJ rfl veL_same)⟩
  ·
   exact .inr ⟨rfl, fun K' hK => wp_fda 31 (.tmp 3) 0 rfl (eval_tmp ((hev 3 (by decide)).trans rfl)) (fun _ => by kernel_rfl) (hK _ _ hJ rfl veL_same)⟩
  ·
   exact .inr ⟨rfl, fun K' hK => wp_load 29 (.tmp 7) rfl bk2 0 3 (cV u) (cS u.x) 31 (hJ.es.at' _ (zzG (i := 1) rfl)) (eval_tmp ((hin 2 7 rfl).trans (congrArg some (show uu 2 = .pointer (some ⟨bk2, 0, none⟩) from hd 2 (by decide) (by kernel_rfl))))) ag29 sz29 (zzF (by kernel_rfl)) (by kernel_rfl) (hK _ _ hJ rfl veL_same)⟩
  ·
   exact .inr ⟨rfl, fun K' hK => wp_callv (.func 54) #[.tmp 6, .tmp 8] _ 54 #[] #[.agg (cS v.x), .agg (cS u.x)] #[.agg (cS v.x), .agg (cS u.x)] rfl rfl (map2 (eval_tmp ((hin 1 6 rfl).trans (congrArg some (show uu 1 = .agg (cS v.x) from hd 1 (by decide) (by kernel_rfl))))) (eval_tmp ((hin 3 8 rfl).trans (congrArg some (show uu 3 = .agg (cS u.x) from hd 3 (by decide) (by kernel_rfl)))))) (by kernel_rfl) (fun _ _ => by kernel_rfl) (H0.out ww) (fun _ hB => (hK _ _ (hJ.later hB) rfl (veL_later hB)))⟩
  ·
   exact .inr ⟨rfl, fun K' hK => wp_fda 31 (.tmp 2) 1 rfl (eval_tmp ((hev 2 (by decide)).trans rfl)) (fun _ => by kernel_rfl) (hK _ _ hJ rfl veL_same)⟩
  ·
   exact .inr ⟨rfl, fun K' hK => wp_load 29 (.tmp 10) rfl bk1 3 3 (cV v) (cS v.y) 31 (hJ.es.at' _ (zzG (i := 2) rfl)) (eval_tmp ((hin 5 10 rfl).trans (congrArg some (show uu 5 = .pointer (some ⟨bk1, 3, none⟩) from hd 5 (by decide) (by kernel_rfl))))) ag29 sz29 (zzF (by kernel_rfl)) (by kernel_rfl) (hK _ _ hJ rfl veL_same)⟩
  ·
   exact .inr ⟨rfl, fun K' hK => wp_fda 31 (.tmp 3) 1 rfl (eval_tmp ((hev 3 (by decide)).trans rfl)) (fun _ => by kernel_rfl) (hK _ _ hJ rfl veL_same)⟩
  ·
   exact .inr ⟨rfl, fun K' hK => wp_load 29 (.tmp 12) rfl bk2 3 3 (cV u) (cS u.y) 31 (hJ.es.at' _ (zzG (i := 1) rfl)) (eval_tmp ((hin 7 12 rfl).trans (congrArg some (show uu 7 = .pointer (some ⟨bk2, 3, none⟩) from hd 7 (by decide) (by kernel_rfl))))) ag29 sz29 (zzF (by kernel_rfl)) (by kernel_rfl) (hK _ _ hJ rfl veL_same)⟩
  ·
   exact .inr ⟨rfl, fun K' hK => wp_callv (.func 54) #[.tmp 11, .tmp 13] _ 54 #[] #[.agg (cS v.y), .agg (cS u.y)] #[.agg (cS v.y), .agg (cS u.y)] rfl rfl (map2 (eval_tmp ((hin 6 11 rfl).trans (congrArg some (show uu 6 = .agg (cS v.y) from hd 6 (by decide) (by kernel_rfl))))) (eval_tmp ((hin 8 13 rfl).trans (congrArg some (show uu 8 = .agg (cS u.y) from hd 8 (by decide) (by kernel_rfl)))))) (by kernel_rfl) (fun _ _ => by kernel_rfl) (H1.out ww) (fun _ hB => (hK _ _ (hJ.later hB) rfl (veL_later hB)))⟩
  ·
   exact .inr ⟨rfl, fun K' hK => wp_callv (.func 55) #[.tmp 9, .tmp 14] _ 55 #[] #[.agg (cS p.x), .agg (cS p.y)] #[.agg (cS p.x), .agg (cS p.y)] rfl rfl (map2 (eval_tmp ((hin 4 9 rfl).trans (congrArg some (show uu 4 = .agg (cS p.x) from hd 4 (by decide) (by kernel_rfl))))) (eval_tmp ((hin 9 14 rfl).trans (congrArg some (show uu 9 = .agg (cS p.y) from hd 9 (by decide) (by kernel_rfl)))))) (by kernel_rfl) (fun _ _ => by kernel_rfl) (Hs.out ww) (fun _ hB => (hK _ _ (hJ.later hB) rfl (veL_later hB)))⟩
  ·
   exact .inr ⟨rfl, fun K' hK => wp_fda 31 (.tmp 2) 2 rfl (eval_tmp ((hev 2 (by decide)).trans rfl)) (fun _ => by kernel_rfl) (hK _ _ hJ rfl veL_same)⟩
  ·
   exact .inr ⟨rfl, fun K' hK => wp_load 29 (.tmp 16) rfl bk1 6 3 (cV v) (cS v.z) 31 (hJ.es.at' _ (zzG (i := 2) rfl)) (eval_tmp ((hin 11 16 rfl).trans (congrArg some (show uu 11 = .pointer (some ⟨bk1, 6, none⟩) from hd 11 (by decide) (by kernel_rfl))))) ag29 sz29 (zzF (by kernel_rfl)) (by kernel_rfl) (hK _ _ hJ rfl veL_same)⟩
  ·
   exact .inr ⟨rfl, fun K' hK => wp_fda 31 (.tmp 3) 2 rfl (eval_tmp ((hev 3 (by decide)).trans rfl)) (fun _ => by kernel_rfl) (hK _ _ hJ rfl veL_same)⟩
  ·
   exact .inr ⟨rfl, fun K' hK => wp_load 29 (.tmp 18) rfl bk2 6 3 (cV u) (cS u.z) 31 (hJ.es.at' _ (zzG (i := 1) rfl)) (eval_tmp ((hin 13 18 rfl).trans (congrArg some (show uu 13 = .pointer (some ⟨bk2, 6, none⟩) from hd 13 (by decide) (by kernel_rfl))))) ag29 sz29 (zzF (by kernel_rfl)) (by kernel_rfl) (hK _ _ hJ rfl veL_same)⟩
  ·
   exact .inr ⟨rfl, fun K' hK => wp_callv (.func 54) #[.tmp 17, .tmp 19] _ 54 #[] #[.agg (cS v.z), .agg (cS u.z)] #[.agg (cS v.z), .agg (cS u.z)] rfl rfl (map2 (eval_tmp ((hin 12 17 rfl).trans (congrArg some (show uu 12 = .agg (cS v.z) from hd 12 (by decide) (by kernel_rfl))))) (eval_tmp ((hin 14 19 rfl).trans (congrArg some (show uu 14 = .agg (cS u.z) from hd 14 (by decide) (by kernel_rfl)))))) (by kernel_rfl) (fun _ _ => by kernel_rfl) (H2.out ww) (fun _ hB => (hK _ _ (hJ.later hB) rfl (veL_later hB)))⟩
  ·
   exact .inr ⟨rfl, fun K' hK => wp_callv (.func 55) #[.tmp 15, .tmp 20] _ 55 #[] #[.agg (cS q), .agg (cS p.z)] #[.agg (cS q), .agg (cS p.z)] rfl rfl (map2 (eval_tmp ((hin 10 15 rfl).trans (congrArg some (show uu 10 = .agg (cS q) from hd 10 (by decide) (by kernel_rfl))))) (eval_tmp ((hin 15 20 rfl).trans (congrArg some (show uu 15 = .agg (cS p.z) from hd 15 (by decide) (by kernel_rfl)))))) (by kernel_rfl) (fun _ _ => by kernel_rfl) (Ht.out ww) (fun _ hB => (hK _ _ (hJ.later hB) rfl (veL_later hB)))⟩
 clear hM
 intro uu W4 hJm hd
 have e_0 : uu 0 = .pointer (some ⟨bk1, 0, none⟩) := hd 0 (by decide)
 have e_1 : uu 1 = .agg (cS v.x) := hd 1 (by decide)
 have e_2 : uu 2 = .pointer (some ⟨bk2, 0, none⟩) := hd 2 (by decide)
 have e_3 : uu 3 = .agg (cS u.x) := hd 3 (by decide)
 have e_4 : uu 4 = .agg (cS p.x) := hd 4 (by decide)
 have e_5 : uu 5 = .pointer (some ⟨bk1, 3, none⟩) := hd 5 (by decide)
 have e_6 : uu 6 = .agg (cS v.y) := hd 6 (by decide)
 have e_7 : uu 7 = .pointer (some ⟨bk2, 3, none⟩) := hd 7 (by decide)
 have e_8 : uu 8 = .agg (cS u.y) := hd 8 (by decide)
 have e_9 : uu 9 = .agg (cS p.y) := hd 9 (by decide)
 have e_10 : uu 10 = .agg (cS q) := hd 10 (by decide)
 have e_11 : uu 11 = .pointer (some ⟨bk1, 6, none⟩) := hd 11 (by decide)
 have e_12 : uu 12 = .agg (cS v.z) := hd 12 (by decide)
 have e_13 : uu 13 = .pointer (some ⟨bk2, 6, none⟩) := hd 13 (by decide)
 have e_14 : uu 14 = .agg (cS u.z) := hd 14 (by decide)
 have e_15 : uu 15 = .agg (cS p.z) := hd 15 (by decide)
 have e_16 : uu 16 = .agg (cS r) := hd 16 (by decide)
 clear hd
 simp only [layS, Act.put, zzC, zzD, zzE, Nat.zero_add, Nat.reduceAdd, List.drop_succ_cons, List.drop_zero, List.drop_nil, e_0, e_1, e_2, e_3, e_4, e_5, e_6, e_7, e_8, e_9, e_10, e_11, e_12, e_13, e_14, e_15, e_16]
 clear e_0 e_1 e_2 e_3 e_4 e_5 e_6 e_7 e_8 e_9 e_10 e_11 e_12 e_13 e_14 e_15 e_16
 have hJ4 := hJm.es
 clear hJm
 go_wp2_with (refine stop_store 29 (.tmp 4) (.tmp 21) 0 bk3 0 (cS zS) 29 3 (cS r).toList (cS r) [(bk3, (cS r), 29), (bk2, (cV u), 31), (bk1, (cV v), 31)] rfl rfl rfl rfl sz29 hJ4 rfl (by kernel_rfl) (zzF (by kernel_rfl)) (by kernel_rfl) (by kernel_rfl) (by kernel_rfl) (fun W5 hJ5 => ?_))
 clear hJ4
 unfold Stop
 try simp only [Act.put, zzC, zzD, zzE]
 go_wp2
 exact bodyPost_ret (v := .agg (cS r)) (results_cell 0 Tryz.results31 hJ5 rfl ag29 sz29 (zzF (by kernel_rfl)) rfl (by kernel_rfl)) rfl ⟨rfl, hJ5.below⟩
theorem dDot_any (v u : Vc) (w : World) : Calls Tryz.prog 31 #[.agg (cV v), .agg (cV u)] w (PVal (.agg (cS (dotV v u))) w) :=
 dDot_w v u (mulV v u) (addS (mulS v.x u.x) (mulS v.y u.y)) (dotV v u) (rdMul_any v.x u.x) (rdMul_any v.y u.y) (rdMul_any v.z u.z) (rdAdd_any _ _) (rdAdd_any _ _) w
set_option maxRecDepth 100000 in
set_option maxHeartbeats 12800000 in
theorem dCross_w (v u r : Vc) (p0 p1 p2 q0 q1 q2 : Sp) (hHp0 : ∀ W : World, Calls Tryz.prog 54 #[.agg (cS v.y), .agg (cS u.z)] W (PVal (.agg (cS p0)) W)) (hHq0 : ∀ W : World, Calls Tryz.prog 54 #[.agg (cS v.z), .agg (cS u.y)] W (PVal (.agg (cS q0)) W)) (hHr0 : ∀ W : World, Calls Tryz.prog 56 #[.agg (cS p0), .agg (cS q0)] W (PVal (.agg (cS r.x)) W)) (hHp1 : ∀ W : World, Calls Tryz.prog 54 #[.agg (cS v.z), .agg (cS u.x)] W (PVal (.agg (cS p1)) W)) (hHq1 : ∀ W : World, Calls Tryz.prog 54 #[.agg (cS v.x), .agg (cS u.z)] W (PVal (.agg (cS q1)) W)) (hHr1 : ∀ W : World, Calls Tryz.prog 56 #[.agg (cS p1), .agg (cS q1)] W (PVal (.agg (cS r.y)) W)) (hHp2 : ∀ W : World, Calls Tryz.prog 54 #[.agg (cS v.x), .agg (cS u.y)] W (PVal (.agg (cS p2)) W)) (hHq2 : ∀ W : World, Calls Tryz.prog 54 #[.agg (cS v.y), .agg (cS u.x)] W (PVal (.agg (cS q2)) W)) (hHr2 : ∀ W : World, Calls Tryz.prog 56 #[.agg (cS p2), .agg (cS q2)] W (PVal (.agg (cS r.z)) W))  (w : World)   : Calls Tryz.prog 32 #[.agg (cV v), .agg (cV u)] w (PVal (.agg (cV r)) w) := by
 have Hp0 := Lib.hid hHp0
 have Hq0 := Lib.hid hHq0
 have Hr0 := Lib.hid hHr0
 have Hp1 := Lib.hid hHp1
 have Hq1 := Lib.hid hHq1
 have Hr1 := Lib.hid hHr1
 have Hp2 := Lib.hid hHp2
 have Hq2 := Lib.hid hHq2
 have Hr2 := Lib.hid hHr2
 clear hHp0 hHq0 hHr0 hHp1 hHq1 hHr1 hHp2 hHq2 hHr2
 have hJ0 := es_nil w
 go_enter Tryz.func32, Tryz.ntmps32
 go_wp2_with (refine stop_box 31 (.tmp 0) (cV v) rfl rfl rfl hJ0 (fun bk1 W1 hJ1 => ?_))
 clear hJ0
 unfold Stop
 try simp only [Act.put, zzC, zzD, zzE]
 go_wp2_with (refine stop_box 31 (.tmp 1) (cV u) rfl rfl rfl hJ1 (fun bk2 W2 hJ2 => ?_))
 clear hJ1
 unfold Stop
 try simp only [Act.put, zzC, zzD, zzE]
 go_wp2_with (refine stop_alloc 31 (cV zV) (.agg (cV zV)) rfl rfl zv31 rfl hJ2 (fun bk3 W3 hJ3 => ?_))
 clear hJ2
 unfold Stop
 try simp only [Act.put, zzC, zzD, zzE]
 go_wp2
 obtain ⟨m1_3, hm⟩ : ∃ m, m = W3.heap.size := ⟨_, rfl⟩
 have hM := hJ3.em
 rw [← hm] at hM
 clear hm hJ3
 refine wp_region_z 34 [some 5, some 6, some 7, some 8, some 9, some 10, some 11, some 12, some 13, some 14, some 15, some 16, some 17, some 18, some 19, some 20, some 21, some 22, some 23, some 24, some 25, some 26, some 27, some 28, some 29, some 30, some 31, some 32, some 33, some 34, some 35, some 36, some 37, some 38] (veL m1_3 [.eq (.pointer (some ⟨bk1, 3, none⟩)), .eq (.agg (cS v.y)), .eq (.pointer (some ⟨bk2, 6, none⟩)), .eq (.agg (cS u.z)), .eq (.agg (cS p0)), .eq (.pointer (some ⟨bk1, 6, none⟩)), .eq (.agg (cS v.z)), .eq (.pointer (some ⟨bk2, 3, none⟩)), .eq (.agg (cS u.y)), .eq (.agg (cS q0)), .eq (.agg (cS r.x)), .eq (.pointer (some ⟨bk1, 6, none⟩)), .eq (.agg (cS v.z)), .eq (.pointer (some ⟨bk2, 0, none⟩)), .eq (.agg (cS u.x)), .eq (.agg (cS p1)), .eq (.pointer (some ⟨bk1, 0, none⟩)), .eq (.agg (cS v.x)), .eq (.pointer (some ⟨bk2, 6, none⟩)), .eq (.agg (cS u.z)), .eq (.agg (cS q1)), .eq (.agg (cS r.y)), .eq (.pointer (some ⟨bk1, 0, none⟩)), .eq (.agg (cS v.x)), .eq (.pointer (some ⟨bk2, 3, none⟩)), .eq (.agg (cS u.y)), .eq (.agg (cS p2)), .eq (.pointer (some ⟨bk1, 3, none⟩)), .eq (.agg (cS v.y)), .eq (.pointer (some ⟨bk2, 0, none⟩)), .eq (.agg (cS u.x)), .eq (.agg (cS q2)), .eq (.agg (cS r.z)), .eq (.agg (cV r))]) (Em w m1_3 [(bk3, (cV zV), 31), (bk2, (cV u), 31), (bk1, (cV v), 31)]) (by kernel_rfl) (by kernel_rfl) (by rfl) (by decide) (by rfl) hM ?_ ?_
 ·
  intro i hl hi uu ww aa hJ hd hev hin
  clear hM
  obtain rfl | rfl | rfl | rfl | rfl | rfl | rfl | rfl | rfl | rfl | rfl | rfl | rfl | rfl | rfl | rfl | rfl | rfl | rfl | rfl | rfl | rfl | rfl | rfl | rfl | rfl | rfl | rfl | rfl | rfl | rfl | rfl | rfl | rfl : i = 0 ∨ i = 1 ∨ i = 2 ∨ i = 3 ∨ i = 4 ∨ i = 5 ∨ i = 6 ∨ i = 7 ∨ i = 8 ∨ i = 9 ∨ i = 10 ∨ i = 11 ∨ i = 12 ∨ i = 13 ∨ i = 14 ∨ i = 15 ∨ i = 16 ∨ i = 17 ∨ i = 18 ∨ i = 19 ∨ i = 20 ∨ i = 21 ∨ i = 22 ∨ i = 23 ∨ i = 24 ∨ i = 25 ∨ i = 26 ∨ i = 27 ∨ i = 28 ∨ i = 29 ∨ i = 30 ∨ i = 31 ∨ i = 32 ∨ i = 33 := by omega
  ·
   exact .inr ⟨rfl, fun K' hK => wp_fda 31 (.tmp 2) 1 rfl (eval_tmp ((hev 2 (by decide)).trans rfl)) (fun _ => by kernel_rfl) (hK _ _ hJ rfl veL_same)⟩
  ·
   exact .inr ⟨rfl, fun K' hK => wp_load 29 (.tmp 5) rfl bk1 3 3 (cV v) (cS v.y) 31 (hJ.es.at' _ (zzG (i := 2) rfl)) (eval_tmp ((hin 0 5 rfl).trans (congrArg some (show uu 0 = .pointer (some ⟨bk1, 3, none⟩) from hd 0 (by decide) (by kernel_rfl))))) ag29 sz29 (zzF (by kernel_rfl)) (by kernel_rfl) (hK _ _ hJ rfl veL_same)⟩
  ·
   exact .inr ⟨rfl, fun K' hK => wp_fda 31 (.tmp 3) 2 rfl (eval_tmp ((hev 3 (by decide)).trans rfl)) (fun _ => by kernel_rfl) (hK _ _ hJ rfl veL_same)⟩
  ·
   exact .inr ⟨rfl, fun K' hK => wp_load 29 (.tmp 7) rfl bk2 6 3 (cV u) (cS u.z) 31 (hJ.es.at' _ (zzG (i := 1) rfl)) (eval_tmp ((hin 2 7 rfl).trans (congrArg some (show uu 2 = .pointer (some ⟨bk2, 6, none⟩) from hd 2 (by decide) (by kernel_rfl))))) ag29 sz29 (zzF (by kernel_rfl)) (by kernel_rfl) (hK _ _ hJ rfl veL_same)⟩
  ·
   exact .inr ⟨rfl, fun K' hK => wp_callv (.func 54) #[.tmp 6, .tmp 8] _ 54 #[] #[.agg (cS v.y), .agg (cS u.z)] #[.agg (cS v.y), .agg (cS u.z)] rfl rfl (map2 (eval_tmp ((hin 1 6 rfl).trans (congrArg some (show uu 1 = .agg (cS v.y) from hd 1 (by decide) (by kernel_rfl))))) (eval_tmp ((hin 3 8 rfl).trans (congrArg some (show uu 3 = .agg (cS u.z) from hd 3 (by decide) (by kernel_rfl)))))) (by kernel_rfl) (fun _ _ => by kernel_rfl) (Hp0.out ww) (fun _ hB => (hK _ _ (hJ.later hB) rfl (veL_later hB)))⟩
  ·
   exact .inr ⟨rfl, fun K' hK => wp_fda 31 (.tmp 2) 2 rfl (eval_tmp ((hev 2 (by decide)).trans rfl)) (fun _ => by kernel_rfl) (hK _ _ hJ rfl veL_same)⟩
  ·
   exact .inr ⟨rfl, fun K' hK => wp_load 29 (.tmp 10) rfl bk1 6 3 (cV v) (cS v.z) 31 (hJ.es.at' _ (zzG (i := 2) rfl)) (eval_tmp ((hin 5 10 rfl).trans (congrArg some (show uu 5 = .pointer (some ⟨bk1, 6, none⟩) from hd 5 (by decide) (by kernel_rfl))))) ag29 sz29 (zzF (by kernel_rfl)) (by kernel_rfl) (hK _ _ hJ rfl veL_same)⟩
  ·
   exact .inr ⟨rfl, fun K' hK => wp_fda 31 (.tmp 3) 1 rfl (eval_tmp ((hev 3 (by decide)).trans rfl)) (fun _ => by kernel_rfl) (hK _ _ hJ rfl veL_same)⟩
  ·
   exact .inr ⟨rfl, fun K' hK => wp_load 29 (.tmp 12) rfl bk2 3 3 (cV u) (cS u.y) 31 (hJ.es.at' _ (zzG (i := 1) rfl)) (eval_tmp ((hin 7 12 rfl).trans (congrArg some (show uu 7 = .pointer (some ⟨bk2, 3, none⟩) from hd 7 (by decide) (by kernel_rfl))))) ag29 sz29 (zzF (by kernel_rfl)) (by kernel_rfl) (hK _ _ hJ rfl veL_same)⟩
  ·
   exact .inr ⟨rfl, fun K' hK => wp_callv (.func 54) #[.tmp 11, .tmp 13] _ 54 #[] #[.agg (cS v.z), .agg (cS u.y)] #[.agg (cS v.z), .agg (cS u.y)] rfl rfl (map2 (eval_tmp ((hin 6 11 rfl).trans (congrArg some (show uu 6 = .agg (cS v.z) from hd 6 (by decide) (by kernel_rfl))))) (eval_tmp ((hin 8 13 rfl).trans (congrArg some (show uu 8 = .agg (cS u.y) from hd 8 (by decide) (by kernel_rfl)))))) (by kernel_rfl) (fun _ _ => by kernel_rfl) (Hq0.out ww) (fun _ hB => (hK _ _ (hJ.later hB) rfl (veL_later hB)))⟩
  ·
   exact .inr ⟨rfl, fun K' hK => wp_callv (.func 56) #[.tmp 9, .tmp 14] _ 56 #[] #[.agg (cS p0), .agg (cS q0)] #[.agg (cS p0), .agg (cS q0)] rfl rfl (map2 (eval_tmp ((hin 4 9 rfl).trans (congrArg some (show uu 4 = .agg (cS p0) from hd 4 (by decide) (by kernel_rfl))))) (eval_tmp ((hin 9 14 rfl).trans (congrArg some (show uu 9 = .agg (cS q0) from hd 9 (by decide) (by kernel_rfl)))))) (by kernel_rfl) (fun _ _ => by kernel_rfl) (Hr0.out ww) (fun _ hB => (hK _ _ (hJ.later hB) rfl (veL_later hB)))⟩
  ·
   exact .inr ⟨rfl, fun K' hK => wp_fda 31 (.tmp 2) 2 rfl (eval_tmp ((hev 2 (by decide)).trans rfl)) (fun _ => by kernel_rfl) (hK _ _ hJ rfl veL_same)⟩
  ·
   exact .inr ⟨rfl, fun K' hK => wp_load 29 (.tmp 16) rfl bk1 6 3 (cV v) (cS v.z) 31 (hJ.es.at' _ (zzG (i := 2) rfl)) (eval_tmp ((hin 11 16 rfl).trans (congrArg some (show uu 11 = .pointer (some ⟨bk1, 6, none⟩) from hd 11 (by decide) (by kernel_rfl))))) ag29 sz29 (zzF (by kernel_rfl)) (by kernel_rfl) (hK _ _ hJ rfl veL_same)⟩
  ·
   exact .inr ⟨rfl, fun K' hK => wp_fda 31 (.tmp 3) 0 rfl (eval_tmp ((hev 3 (by decide)).trans rfl)) (fun _ => by kernel_rfl) (hK _ _ hJ rfl veL_same)⟩
  ·
   exact .inr ⟨rfl, fun K' hK => wp_load 29 (.tmp 18) rfl bk2 0 3 (cV u) (cS u.x) 31 (hJ.es.at' _ (zzG (i := 1) rfl)) (eval_tmp ((hin 13 18 rfl).trans (congrArg some (show uu 13 = .pointer (some ⟨bk2, 0, none⟩) from hd 13 (by decide) (by kernel_rfl))))) ag29 sz29 (zzF (by kernel_rfl)) (by kernel_rfl) (hK _ _ hJ rfl veL_same)⟩
  ·
   exact .inr ⟨rfl, fun K' hK => wp_callv (.func 54) #[.tmp 17, .tmp 19] _ 54 #[] #[.agg (cS v.z), .agg (cS u.x)] #[.agg (cS v.z), .agg (cS u.x)] rfl rfl (map2 (eval_tmp ((hin 12 17 rfl).trans (congrArg some (show uu 12 = .agg (cS v.z) from hd 12 (by decide) (by kernel_rfl))))) (eval_tmp ((hin 14 19 rfl).trans (congrArg some (show uu 14 = .agg (cS u.x) from hd 14 (by decide) (by kernel_rfl)))))) (by kernel_rfl) (fun _ _ => by kernel_rfl) (Hp1.out ww) (fun _ hB => (hK _ _ (hJ.later hB) rfl (veL_later hB)))⟩
  ·
   exact .inr ⟨rfl, fun K' hK => wp_fda 31 (.tmp 2) 0 rfl (eval_tmp ((hev 2 (by decide)).trans rfl)) (fun _ => by kernel_rfl) (hK _ _ hJ rfl veL_same)⟩
  ·
   exact .inr ⟨rfl, fun K' hK => wp_load 29 (.tmp 21) rfl bk1 0 3 (cV v) (cS v.x) 31 (hJ.es.at' _ (zzG (i := 2) rfl)) (eval_tmp ((hin 16 21 rfl).trans (congrArg some (show uu 16 = .pointer (some ⟨bk1, 0, none⟩) from hd 16 (by decide) (by kernel_rfl))))) ag29 sz29 (zzF (by kernel_rfl)) (by kernel_rfl) (hK _ _ hJ rfl veL_same)⟩
  ·
   exact .inr ⟨rfl, fun K' hK => wp_fda 31 (.tmp 3) 2 rfl (eval_tmp ((hev 3 (by decide)).trans rfl)) (fun _ => by kernel_rfl) (hK _ _ hJ rfl veL_same)⟩
  ·
   exact .inr ⟨rfl, fun K' hK => wp_load 29 (.tmp 23) rfl bk2 6 3 (cV u) (cS u.z) 31 (hJ.es.at' _ (zzG (i := 1) rfl)) (eval_tmp ((hin 18 23 rfl).trans (congrArg some (show uu 18 = .pointer (some ⟨bk2, 6, none⟩) from hd 18 (by decide) (by kernel_rfl))))) ag29 sz29 (zzF (by kernel_rfl)) (by kernel_rfl) (hK _ _ hJ rfl veL_same)⟩
  ·
   exact .inr ⟨rfl, fun K' hK => wp_callv (.func 54) #[.tmp 22, .tmp 24] _ 54 #[] #[.agg (cS v.x), .agg (cS u.z)] #[.agg (cS v.x), .agg (cS u.z)] rfl rfl (map2 (eval_tmp ((hin 17 22 rfl).trans (congrArg some (show uu 17 = .agg (cS v.x) from hd 17 (by decide) (by kernel_rfl))))) (eval_tmp ((hin 19 24 rfl).trans (congrArg some (show uu 19 = .agg (cS u.z) from hd 19 (by decide) (by kernel_rfl)))))) (by kernel_rfl) (fun _ _ => by kernel_rfl) (Hq1.out ww) (fun _ hB => (hK _ _ (hJ.later hB) rfl (veL_later hB)))⟩
  ·
   exact .inr ⟨rfl, fun K' hK => wp_callv (.func 56) #[.tmp 20, .tmp 25] _ 56 #[] #[.agg (cS p1), .agg (cS q1)] #[.agg (cS p1), .agg (cS q1)] rfl rfl (map2 (eval_tmp ((hin 15 20 rfl).trans (congrArg some (show uu 15 = .agg (cS p1) from hd 15 (by decide) (by kernel_rfl))))) (eval_tmp ((hin 20 25 rfl).trans (congrArg some (show uu 20 = .agg (cS q1) from hd 20 (by decide) (by kernel_rfl)))))) (by kernel_rfl) (fun _ _ => by kernel_rfl) (Hr1.out ww) (fun _ hB => (hK _ _ (hJ.later hB) rfl (veL_later hB)))⟩
  ·
   exact .inr ⟨rfl, fun K' hK => wp_fda 31 (.tmp 2) 0 rfl (eval_tmp ((hev 2 (by decide)).trans rfl)) (fun _ => by kernel_rfl) (hK _ _ hJ rfl veL_same)⟩
  ·
   exact .inr ⟨rfl, fun K' hK => wp_load 29 (.tmp 27) rfl bk1 0 3 (cV v) (cS v.x) 31 (hJ.es.at' _ (zzG (i := 2) rfl)) (eval_tmp ((hin 22 27 rfl).trans (congrArg some (show uu 22 = .pointer (some ⟨bk1, 0, none⟩) from hd 22 (by decide) (by kernel_rfl))))) ag29 sz29 (zzF (by kernel_rfl)) (by kernel_rfl) (hK _ _ hJ rfl veL_same)⟩
  ·
   exact .inr ⟨rfl, fun K' hK => wp_fda 31 (.tmp 3) 1 rfl (eval_tmp ((hev 3 (by decide)).trans rfl)) (fun _ => by kernel_rfl) (hK _ _ hJ rfl veL_same)⟩
  ·
   exact .inr ⟨rfl, fun K' hK => wp_load 29 (.tmp 29) rfl bk2 3 3 (cV u) (cS u.y) 31 (hJ.es.at' _ (zzG (i := 1) rfl)) (eval_tmp ((hin 24 29 rfl).trans (congrArg some (show uu 24 = .pointer (some ⟨bk2, 3, none⟩) from hd 24 (by decide) (by kernel_rfl))))) ag29 sz29 (zzF (by kernel_rfl)) (by kernel_rfl) (hK _ _ hJ rfl veL_same)⟩
  ·
   exact .inr ⟨rfl, fun K' hK => wp_callv (.func 54) #[.tmp 28, .tmp 30] _ 54 #[] #[.agg (cS v.x), .agg (cS u.y)] #[.agg (cS v.x), .agg (cS u.y)] rfl rfl (map2 (eval_tmp ((hin 23 28 rfl).trans (congrArg some (show uu 23 = .agg (cS v.x) from hd 23 (by decide) (by kernel_rfl))))) (eval_tmp ((hin 25 30 rfl).trans (congrArg some (show uu 25 = .agg (cS u.y) from hd 25 (by decide) (by kernel_rfl)))))) (by kernel_rfl) (fun _ _ => by kernel_rfl) (Hp2.out ww) (fun _ hB => (hK _ _ (hJ.later hB) rfl (veL_later hB)))⟩
  ·
   exact .inr ⟨rfl, fun K' hK => wp_fda 31 (.tmp 2) 1 rfl (eval_tmp ((hev 2 (by decide)).trans rfl)) (fun _ => by kernel_rfl) (hK _ _ hJ rfl veL_same)⟩
  ·
   exact .inr ⟨rfl, fun K' hK => wp_load 29 (.tmp 32) rfl bk1 3 3 (cV v) (cS v.y) 31 (hJ.es.at' _ (zzG (i := 2) rfl)) (eval_tmp ((hin 27 32 rfl).trans (congrArg some (show uu 27 = .pointer (some ⟨bk1, 3, none⟩) from hd 27 (by decide) (by kernel_rfl))))) ag29 sz29 (zzF (by kernel_rfl)) (by kernel_rfl) (hK _ _ hJ rfl veL_same)⟩
  ·
   exact .inr ⟨rfl, fun K' hK => wp_fda 31 (.tmp 3) 0 rfl (eval_tmp ((hev 3 (by decide)).trans rfl)) (fun _ => by kernel_rfl) (hK _ _ hJ rfl veL_same)⟩
  ·
   exact .inr ⟨rfl, fun K' hK => wp_load 29 (.tmp 34) rfl bk2 0 3 (cV u) (cS u.x) 31 (hJ.es.at' _ (zzG (i := 1) rfl)) (eval_tmp ((hin 29 34 rfl).trans (congrArg some (show uu 29 = .pointer (some ⟨bk2, 0, none⟩) from hd 29 (by decide) (by kernel_rfl))))) ag29 sz29 (zzF (by kernel_rfl)) (by kernel_rfl) (hK _ _ hJ rfl veL_same)⟩
  ·
   exact .inr ⟨rfl, fun K' hK => wp_callv (.func 54) #[.tmp 33, .tmp 35] _ 54 #[] #[.agg (cS v.y), .agg (cS u.x)] #[.agg (cS v.y), .agg (cS u.x)] rfl rfl (map2 (eval_tmp ((hin 28 33 rfl).trans (congrArg some (show uu 28 = .agg (cS v.y) from hd 28 (by decide) (by kernel_rfl))))) (eval_tmp ((hin 30 35 rfl).trans (congrArg some (show uu 30 = .agg (cS u.x) from hd 30 (by decide) (by kernel_rfl)))))) (by kernel_rfl) (fun _ _ => by kernel_rfl) (Hq2.out ww) (fun _ hB => (hK _ _ (hJ.later hB) rfl (veL_later hB)))⟩
  ·
   exact .inr ⟨rfl, fun K' hK => wp_callv (.func 56) #[.tmp 31, .tmp 36] _ 56 #[] #[.agg (cS p2), .agg (cS q2)] #[.agg (cS p2), .agg (cS q2)] rfl rfl (map2 (eval_tmp ((hin 26 31 rfl).trans (congrArg some (show uu 26 = .agg (cS p2) from hd 26 (by decide) (by kernel_rfl))))) (eval_tmp ((hin 31 36 rfl).trans (congrArg some (show uu 31 = .agg (cS q2) from hd 31 (by decide) (by kernel_rfl)))))) (by kernel_rfl) (fun _ _ => by kernel_rfl) (Hr2.out ww) (fun _ hB => (hK _ _ (hJ.later hB) rfl (veL_later hB)))⟩
  ·
   exact .inr ⟨rfl, fun K' hK => wp_bld 31 #[(0, .tmp 15), (1, .tmp 26), (2, .tmp 37)] rfl (bmap3 (eval_tmp ((hin 10 15 rfl).trans (congrArg some (show uu 10 = .agg (cS r.x) from hd 10 (by decide) (by kernel_rfl))))) (eval_tmp ((hin 21 26 rfl).trans (congrArg some (show uu 21 = .agg (cS r.y) from hd 21 (by decide) (by kernel_rfl))))) (eval_tmp ((hin 32 37 rfl).trans (congrArg some (show uu 32 = .agg (cS r.z) from hd 32 (by decide) (by kernel_rfl)))))) (fun _ => by kernel_rfl) (hK _ _ hJ rfl veL_same)⟩
 clear hM
 intro uu W4 hJm hd
 have e_0 : uu 0 = .pointer (some ⟨bk1, 3, none⟩) := hd 0 (by decide)
 have e_1 : uu 1 = .agg (cS v.y) := hd 1 (by decide)
 have e_2 : uu 2 = .pointer (some ⟨bk2, 6, none⟩) := hd 2 (by decide)
 have e_3 : uu 3 = .agg (cS u.z) := hd 3 (by decide)
 have e_4 : uu 4 = .agg (cS p0) := hd 4 (by decide)
 have e_5 : uu 5 = .pointer (some ⟨bk1, 6, none⟩) := hd 5 (by decide)
 have e_6 : uu 6 = .agg (cS v.z) := hd 6 (by decide)
 have e_7 : uu 7 = .pointer (some ⟨bk2, 3, none⟩) := hd 7 (by decide)
 have e_8 : uu 8 = .agg (cS u.y) := hd 8 (by decide)
 have e_9 : uu 9 = .agg (cS q0) := hd 9 (by decide)
 have e_10 : uu 10 = .agg (cS r.x) := hd 10 (by decide)
 have e_11 : uu 11 = .pointer (some ⟨bk1, 6, none⟩) := hd 11 (by decide)
 have e_12 : uu 12 = .agg (cS v.z) := hd 12 (by decide)
 have e_13 : uu 13 = .pointer (some ⟨bk2, 0, none⟩) := hd 13 (by decide)
 have e_14 : uu 14 = .agg (cS u.x) := hd 14 (by decide)
 have e_15 : uu 15 = .agg (cS p1) := hd 15 (by decide)
 have e_16 : uu 16 = .pointer (some ⟨bk1, 0, none⟩) := hd 16 (by decide)
 have e_17 : uu 17 = .agg (cS v.x) := hd 17 (by decide)
 have e_18 : uu 18 = .pointer (some ⟨bk2, 6, none⟩) := hd 18 (by decide)
 have e_19 : uu 19 = .agg (cS u.z) := hd 19 (by decide)
 have e_20 : uu 20 = .agg (cS q1) := hd 20 (by decide)
 have e_21 : uu 21 = .agg (cS r.y) := hd 21 (by decide)
 have e_22 : uu 22 = .pointer (some ⟨bk1, 0, none⟩) := hd 22 (by decide)
 have e_23 : uu 23 = .agg (cS v.x) := hd 23 (by decide)
 have e_24 : uu 24 = .pointer (some ⟨bk2, 3, none⟩) := hd 24 (by decide)
 have e_25 : uu 25 = .agg (cS u.y) := hd 25 (by decide)
 have e_26 : uu 26 = .agg (cS p2) := hd 26 (by decide)
 have e_27 : uu 27 = .pointer (some ⟨bk1, 3, none⟩) := hd 27 (by decide)
 have e_28 : uu 28 = .agg (cS v.y) := hd 28 (by decide)
 have e_29 : uu 29 = .pointer (some ⟨bk2, 0, none⟩) := hd 29 (by decide)
 have e_30 : uu 30 = .agg (cS u.x) := hd 30 (by decide)
 have e_31 : uu 31 = .agg (cS q2) := hd 31 (by decide)
 have e_32 : uu 32 = .agg (cS r.z) := hd 32 (by decide)
 have e_33 : uu 33 = .agg (cV r) := hd 33 (by decide)
 clear hd
 simp only [layS, Act.put, zzC, zzD, zzE, Nat.zero_add, Nat.reduceAdd, List.drop_succ_cons, List.drop_zero, List.drop_nil, e_0, e_1, e_2, e_3, e_4, e_5, e_6, e_7, e_8, e_9, e_10, e_11, e_12, e_13, e_14, e_15, e_16, e_17, e_18, e_19, e_20, e_21, e_22, e_23, e_24, e_25, e_26, e_27, e_28, e_29, e_30, e_31, e_32, e_33]
 clear e_0 e_1 e_2 e_3 e_4 e_5 e_6 e_7 e_8 e_9 e_10 e_11 e_12 e_13 e_14 e_15 e_16 e_17 e_18 e_19 e_20 e_21 e_22 e_23 e_24 e_25 e_26 e_27 e_28 e_29 e_30 e_31 e_32 e_33
 have hJ4 := hJm.es
 clear hJm
 go_wp2_with (refine stop_store 31 (.tmp 4) (.tmp 38) 0 bk3 0 (cV zV) 31 9 (cV r).toList (cV r) [(bk3, (cV r), 31), (bk2, (cV u), 31), (bk1, (cV v), 31)] rfl rfl rfl rfl sz31 hJ4 rfl (by kernel_rfl) (zzF (by kernel_rfl)) (by kernel_rfl) (by kernel_rfl) (by kernel_rfl) (fun W5 hJ5 => ?_))
 clear hJ4
 unfold Stop
 try simp only [Act.put, zzC, zzD, zzE]
 go_wp2
 exact bodyPost_ret (v := .agg (cV r)) (results_cell 0 Tryz.results32 hJ5 rfl ag31 sz31 (zzF (by kernel_rfl)) rfl (by kernel_rfl)) rfl ⟨rfl, hJ5.below⟩
theorem dCross_any (v u : Vc) (w : World) : Calls Tryz.prog 32 #[.agg (cV v), .agg (cV u)] w (PVal (.agg (cV (crossV v u))) w) :=
 dCross_w v u (crossV v u) _ _ _ _ _ _ (rdMul_any v.y u.z) (rdMul_any v.z u.y) (rdSub_any _ _) (rdMul_any v.z u.x) (rdMul_any v.x u.z) (rdSub_any _ _) (rdMul_any v.x u.y) (rdMul_any v.y u.x) (rdSub_any _ _) w
set_option maxRecDepth 100000 in
set_option maxHeartbeats 12800000 in
theorem dIn_f (v u : Vc) (r1 r2 : Bool) (hH0 : ∀ W : World, Calls Tryz.prog 57 #[.agg (cS v.x), .agg (cS u.x)] W (PVal (.bool false) W)) (hH1 : ∀ W : World, Calls Tryz.prog 57 #[.agg (cS v.y), .agg (cS u.y)] W (PVal (.bool r1) W)) (hH2 : ∀ W : World, Calls Tryz.prog 57 #[.agg (cS v.z), .agg (cS u.z)] W (PVal (.bool r2) W))  (w : World)   : Calls Tryz.prog 33 #[.agg (cV v), .agg (cV u)] w (PVal (.bool false) w) := by
 have H0 := Lib.hid hH0
 have H1 := Lib.hid hH1
 have H2 := Lib.hid hH2
 clear hH0 hH1 hH2
 have hJ0 := es_nil w
 go_enter Tryz.func33, Tryz.ntmps33
 go_wp2_with (refine stop_box 31 (.tmp 0) (cV v) rfl rfl rfl hJ0 (fun bk1 W1 hJ1 => ?_))
 clear hJ0
 unfold Stop
 try simp only [Act.put, zzC, zzD, zzE]
 go_wp2_with (refine stop_box 31 (.tmp 1) (cV u) rfl rfl rfl hJ1 (fun bk2 W2 hJ2 => ?_))
 clear hJ1
 unfold Stop
 try simp only [Act.put, zzC, zzD, zzE]
 go_wp2_with (refine stop_op rfl (fun K hK => wp_load 29 (.tmp 8) rfl bk1 0 3 (cV v) (cS v.x) 31 (hJ2.at' _ (zzG (i := 1) rfl)) rfl ag29 sz29 (zzF (by kernel_rfl)) (by kernel_rfl) (hK _ _ ?_)))
 unfold Stop
 try simp only [Act.put, zzC, zzD, zzE]
 go_wp2_with (refine stop_op rfl (fun K hK => wp_load 29 (.tmp 10) rfl bk2 0 3 (cV u) (cS u.x) 31 (hJ2.at' _ (zzG (i := 0) rfl)) rfl ag29 sz29 (zzF (by kernel_rfl)) (by kernel_rfl) (hK _ _ ?_)))
 unfold Stop
 try simp only [Act.put, zzC, zzD, zzE]
 go_wp2_with fail
 refine (H0.out _).mono ?_
 rintro zz W3 ⟨rfl, hB⟩
 have hJ3 := hJ2.later hB
 clear hB
 clear hJ2
 go_wp2_with (refine stop_op rfl (fun K hK => wp_load 29 (.tmp 13) rfl bk1 3 3 (cV v) (cS v.y) 31 (hJ3.at' _ (zzG (i := 1) rfl)) rfl ag29 sz29 (zzF (by kernel_rfl)) (by kernel_rfl) (hK _ _ ?_)))
 unfold Stop
 try simp only [Act.put, zzC, zzD, zzE]
 go_wp2_with (refine stop_op rfl (fun K hK => wp_load 29 (.tmp 15) rfl bk2 3 3 (cV u) (cS u.y) 31 (hJ3.at' _ (zzG (i := 0) rfl)) rfl ag29 sz29 (zzF (by kernel_rfl)) (by kernel_rfl) (hK _ _ ?_)))
 unfold Stop
 try simp only [Act.put, zzC, zzD, zzE]
 go_wp2_with fail
 refine (H1.out _).mono ?_
 rintro zz W4 ⟨rfl, hB⟩
 have hJ4 := hJ3.later hB
 clear hB
 clear hJ3
 go_wp2_with (refine stop_op rfl (fun K hK => wp_load 29 (.tmp 18) rfl bk1 6 3 (cV v) (cS v.z) 31 (hJ4.at' _ (zzG (i := 1) rfl)) rfl ag29 sz29 (zzF (by kernel_rfl)) (by kernel_rfl) (hK _ _ ?_)))
 unfold Stop
 try simp only [Act.put, zzC, zzD, zzE]
 go_wp2_with (refine stop_op rfl (fun K hK => wp_load 29 (.tmp 20) rfl bk2 6 3 (cV u) (cS u.z) 31 (hJ4.at' _ (zzG (i := 0) rfl)) rfl ag29 sz29 (zzF (by kernel_rfl)) (by kernel_rfl) (hK _ _ ?_)))
 unfold Stop
 try simp only [Act.put, zzC, zzD, zzE]
 go_wp2_with fail
 refine (H2.out _).mono ?_
 rintro zz W5 ⟨rfl, hB⟩
 have hJ5 := hJ4.later hB
 clear hB
 clear hJ4
 go_wp2
 go_ret
 exact ⟨rfl, hJ5.below⟩
set_option maxRecDepth 100000 in
set_option maxHeartbeats 12800000 in
theorem dIn_tf (v u : Vc) (r2 : Bool) (hH0 : ∀ W : World, Calls Tryz.prog 57 #[.agg (cS v.x), .agg (cS u.x)] W (PVal (.bool true) W)) (hH1 : ∀ W : World, Calls Tryz.prog 57 #[.agg (cS v.y), .agg (cS u.y)] W (PVal (.bool false) W)) (hH2 : ∀ W : World, Calls Tryz.prog 57 #[.agg (cS v.z), .agg (cS u.z)] W (PVal (.bool r2) W))  (w : World)   : Calls Tryz.prog 33 #[.agg (cV v), .agg (cV u)] w (PVal (.bool false) w) := by
 have H0 := Lib.hid hH0
 have H1 := Lib.hid hH1
 have H2 := Lib.hid hH2
 clear hH0 hH1 hH2
 have hJ0 := es_nil w
 go_enter Tryz.func33, Tryz.ntmps33
 go_wp2_with (refine stop_box 31 (.tmp 0) (cV v) rfl rfl rfl hJ0 (fun bk1 W1 hJ1 => ?_))
 clear hJ0
 unfold Stop
 try simp only [Act.put, zzC, zzD, zzE]
 go_wp2_with (refine stop_box 31 (.tmp 1) (cV u) rfl rfl rfl hJ1 (fun bk2 W2 hJ2 => ?_))
 clear hJ1
 unfold Stop
 try simp only [Act.put, zzC, zzD, zzE]
 go_wp2_with (refine stop_op rfl (fun K hK => wp_load 29 (.tmp 8) rfl bk1 0 3 (cV v) (cS v.x) 31 (hJ2.at' _ (zzG (i := 1) rfl)) rfl ag29 sz29 (zzF (by kernel_rfl)) (by kernel_rfl) (hK _ _ ?_)))
 unfold Stop
 try simp only [Act.put, zzC, zzD, zzE]
 go_wp2_with (refine stop_op rfl (fun K hK => wp_load 29 (.tmp 10) rfl bk2 0 3 (cV u) (cS u.x) 31 (hJ2.at' _ (zzG (i := 0) rfl)) rfl ag29 sz29 (zzF (by kernel_rfl)) (by kernel_rfl) (hK _ _ ?_)))
 unfold Stop
 try simp only [Act.put, zzC, zzD, zzE]
 go_wp2_with fail
 refine (H0.out _).mono ?_
 rintro zz W3 ⟨rfl, hB⟩
 have hJ3 := hJ2.later hB
 clear hB
 clear hJ2
 go_wp2_with (refine stop_op rfl (fun K hK => wp_load 29 (.tmp 13) rfl bk1 3 3 (cV v) (cS v.y) 31 (hJ3.at' _ (zzG (i := 1) rfl)) rfl ag29 sz29 (zzF (by kernel_rfl)) (by kernel_rfl) (hK _ _ ?_)))
 unfold Stop
 try simp only [Act.put, zzC, zzD, zzE]
 go_wp2_with (refine stop_op rfl (fun K hK => wp_load 29 (.tmp 15) rfl bk2 3 3 (cV u) (cS u.y) 31 (hJ3.at' _ (zzG (i := 0) rfl)) rfl ag29 sz29 (zzF (by kernel_rfl)) (by kernel_rfl) (hK _ _ ?_)))
 unfold Stop
 try simp only [Act.put, zzC, zzD, zzE]
 go_wp2_with fail
 refine (H1.out _).mono ?_
 rintro zz W4 ⟨rfl, hB⟩
 have hJ4 := hJ3.later hB
 clear hB
 clear hJ3
 go_wp2_with (refine stop_op rfl (fun K hK => wp_load 29 (.tmp 18) rfl bk1 6 3 (cV v) (cS v.z) 31 (hJ4.at' _ (zzG (i := 1) rfl)) rfl ag29 sz29 (zzF (by kernel_rfl)) (by kernel_rfl) (hK _ _ ?_)))
 unfold Stop
 try simp only [Act.put, zzC, zzD, zzE]
 go_wp2_with (refine stop_op rfl (fun K hK => wp_load 29 (.tmp 20) rfl bk2 6 3 (cV u) (cS u.z) 31 (hJ4.at' _ (zzG (i := 0) rfl)) rfl ag29 sz29 (zzF (by kernel_rfl)) (by kernel_rfl) (hK _ _ ?_)))
 unfold Stop
 try simp only [Act.put, zzC, zzD, zzE]
 go_wp2_with fail
 refine (H2.out _).mono ?_
 rintro zz W5 ⟨rfl, hB⟩
 have hJ5 := hJ4.later hB
 clear hB
 clear hJ4
 go_wp2
 go_ret
 exact ⟨rfl, hJ5.below⟩
set_option maxRecDepth 100000 in
set_option maxHeartbeats 12800000 in
theorem dIn_tt (v u : Vc) (r2 : Bool) (hH0 : ∀ W : World, Calls Tryz.prog 57 #[.agg (cS v.x), .agg (cS u.x)] W (PVal (.bool true) W)) (hH1 : ∀ W : World, Calls Tryz.prog 57 #[.agg (cS v.y), .agg (cS u.y)] W (PVal (.bool true) W)) (hH2 : ∀ W : World, Calls Tryz.prog 57 #[.agg (cS v.z), .agg (cS u.z)] W (PVal (.bool r2) W))  (w : World)   : Calls Tryz.prog 33 #[.agg (cV v), .agg (cV u)] w (PVal (.bool r2) w) := by
 have H0 := Lib.hid hH0
 have H1 := Lib.hid hH1
 have H2 := Lib.hid hH2
 clear hH0 hH1 hH2
 have hJ0 := es_nil w
 go_enter Tryz.func33, Tryz.ntmps33
 go_wp2_with (refine stop_box 31 (.tmp 0) (cV v) rfl rfl rfl hJ0 (fun bk1 W1 hJ1 => ?_))
 clear hJ0
 unfold Stop
 try simp only [Act.put, zzC, zzD, zzE]
 go_wp2_with (refine stop_box 31 (.tmp 1) (cV u) rfl rfl rfl hJ1 (fun bk2 W2 hJ2 => ?_))
 clear hJ1
 unfold Stop
 try simp only [Act.put, zzC, zzD, zzE]
 go_wp2_with (refine stop_op rfl (fun K hK => wp_load 29 (.tmp 8) rfl bk1 0 3 (cV v) (cS v.x) 31 (hJ2.at' _ (zzG (i := 1) rfl)) rfl ag29 sz29 (zzF (by kernel_rfl)) (by kernel_rfl) (hK _ _ ?_)))
 unfold Stop
 try simp only [Act.put, zzC, zzD, zzE]
 go_wp2_with (refine stop_op rfl (fun K hK => wp_load 29 (.tmp 10) rfl bk2 0 3 (cV u) (cS u.x) 31 (hJ2.at' _ (zzG (i := 0) rfl)) rfl ag29 sz29 (zzF (by kernel_rfl)) (by kernel_rfl) (hK _ _ ?_)))
 unfold Stop
 try simp only [Act.put, zzC, zzD, zzE]
 go_wp2_with fail
 refine (H0.out _).mono ?_
 rintro zz W3 ⟨rfl, hB⟩
 have hJ3 := hJ2.later hB
 clear hB
 clear hJ2
 go_wp2_with (refine stop_op rfl (fun K hK => wp_load 29 (.tmp 13) rfl bk1 3 3 (cV v) (cS v.y) 31 (hJ3.at' _ (zzG (i := 1) rfl)) rfl ag29 sz29 (zzF (by kernel_rfl)) (by kernel_rfl) (hK _ _ ?_)))
 unfold Stop
 try simp only [Act.put, zzC, zzD, zzE]
 go_wp2_with (refine stop_op rfl (fun K hK => wp_load 29 (.tmp 15) rfl bk2 3 3 (cV u) (cS u.y) 31 (hJ3.at' _ (zzG (i := 0) rfl)) rfl ag29 sz29 (zzF (by kernel_rfl)) (by kernel_rfl) (hK _ _ ?_)))
 unfold Stop
 try simp only [Act.put, zzC, zzD, zzE]
 go_wp2_with fail
 refine (H1.out _).mono ?_
 rintro zz W4 ⟨rfl, hB⟩
 have hJ4 := hJ3.later hB
 clear hB
 clear hJ3
 go_wp2_with (refine stop_op rfl (fun K hK => wp_load 29 (.tmp 18) rfl bk1 6 3 (cV v) (cS v.z) 31 (hJ4.at' _ (zzG (i := 1) rfl)) rfl ag29 sz29 (zzF (by kernel_rfl)) (by kernel_rfl) (hK _ _ ?_)))
 unfold Stop
 try simp only [Act.put, zzC, zzD, zzE]
 go_wp2_with (refine stop_op rfl (fun K hK => wp_load 29 (.tmp 20) rfl bk2 6 3 (cV u) (cS u.z) 31 (hJ4.at' _ (zzG (i := 0) rfl)) rfl ag29 sz29 (zzF (by kernel_rfl)) (by kernel_rfl) (hK _ _ ?_)))
 unfold Stop
 try simp only [Act.put, zzC, zzD, zzE]
 go_wp2_with fail
 refine (H2.out _).mono ?_
 rintro zz W5 ⟨rfl, hB⟩
 have hJ5 := hJ4.later hB
 clear hB
 clear hJ4
 go_wp2
 go_ret
 exact ⟨rfl, hJ5.below⟩
theorem dIn_any (v u : Vc) (w : World) : Calls Tryz.prog 33 #[.agg (cV v), .agg (cV u)] w (PVal (.bool (inV v u)) w) := by
 unfold inV
 have h0 := rdIn_any v.x u.x
 have h1 := rdIn_any v.y u.y
 have h2 := rdIn_any v.z u.z
 cases e0 : inB v.x u.x
 ·
  exact dIn_f v u _ _ (e0 ▸ h0) h1 h2 w
 ·
  cases e1 : inB v.y u.y
  ·
   exact dIn_tf v u _ (e0 ▸ h0) (e1 ▸ h1) h2 w
  ·
   exact dIn_tt v u _ (e0 ▸ h0) (e1 ▸ h1) h2 w
set_option maxRecDepth 100000 in
set_option maxHeartbeats 12800000 in
theorem dRad_w (v : Vc) (r0 r1 r2 : Int) (hH0 : ∀ W : World, Calls Tryz.prog 58 #[.agg (cS v.x)] W (PVal (.int .i64 r0) W)) (hH1 : ∀ W : World, Calls Tryz.prog 58 #[.agg (cS v.y)] W (PVal (.int .i64 r1) W)) (hH2 : ∀ W : World, Calls Tryz.prog 58 #[.agg (cS v.z)] W (PVal (.int .i64 r2) W))  (w : World)   : Calls Tryz.prog 34 #[.agg (cV v)] w (PVal (.int .i64 (max (max r0 r1) r2)) w) := by
 have H0 := Lib.hid hH0
 have H1 := Lib.hid hH1
 have H2 := Lib.hid hH2
 clear hH0 hH1 hH2
 have hJ0 := es_nil w
 go_enter Tryz.func34, Tryz.ntmps34
 go_wp2_with (refine stop_box 31 (.tmp 0) (cV v) rfl rfl rfl hJ0 (fun bk1 W1 hJ1 => ?_))
 clear hJ0
 unfold Stop
 try simp only [Act.put, zzC, zzD, zzE]
 go_wp2_with (refine stop_op rfl (fun K hK => wp_load 29 (.tmp 6) rfl bk1 0 3 (cV v) (cS v.x) 31 (hJ1.at' _ (zzG (i := 0) rfl)) rfl ag29 sz29 (zzF (by kernel_rfl)) (by kernel_rfl) (hK _ _ ?_)))
 unfold Stop
 try simp only [Act.put, zzC, zzD, zzE]
 go_wp2_with fail
 refine (H0.out _).mono ?_
 rintro zz W2 ⟨rfl, hB⟩
 have hJ2 := hJ1.later hB
 clear hB
 clear hJ1
 go_wp2_with (refine stop_op rfl (fun K hK => wp_load 29 (.tmp 9) rfl bk1 3 3 (cV v) (cS v.y) 31 (hJ2.at' _ (zzG (i := 0) rfl)) rfl ag29 sz29 (zzF (by kernel_rfl)) (by kernel_rfl) (hK _ _ ?_)))
 unfold Stop
 try simp only [Act.put, zzC, zzD, zzE]
 go_wp2_with fail
 refine (H1.out _).mono ?_
 rintro zz W3 ⟨rfl, hB⟩
 have hJ3 := hJ2.later hB
 clear hB
 clear hJ2
 go_wp2_with (refine stop_op rfl (fun K hK => wp_load 29 (.tmp 12) rfl bk1 6 3 (cV v) (cS v.z) 31 (hJ3.at' _ (zzG (i := 0) rfl)) rfl ag29 sz29 (zzF (by kernel_rfl)) (by kernel_rfl) (hK _ _ ?_)))
 unfold Stop
 try simp only [Act.put, zzC, zzD, zzE]
 go_wp2_with fail
 refine (H2.out _).mono ?_
 rintro zz W4 ⟨rfl, hB⟩
 have hJ4 := hJ3.later hB
 clear hB
 clear hJ3
 go_wp2
 all_goals go_ret
 all_goals refine ⟨?_, hJ4.below⟩
 all_goals (refine congrArg Ending.returned ?_)
 all_goals (refine congrArg (Value.int .i64) ?_)
 all_goals omega
theorem dRad_any (v : Vc) (w : World) : Calls Tryz.prog 34 #[.agg (cV v)] w (PVal (.int .i64 (radV v)) w) :=
 dRad_w v (radS v.x) (radS v.y) (radS v.z) (rdRad_any v.x) (rdRad_any v.y) (rdRad_any v.z) w
end Go.Proofs.YtolpfibihialkaaGreat
