/- Parts of the proof. -/
import Derived.Test.YtncbajehmdnibaaHp0
import Derived.Test.YtncbajehmdnibaaHp14
set_option linter.unusedSimpArgs false
set_option linter.unusedVariables false
/- Package huber: what its functions tell; the document's. No statement of the seat is proved here. -/
namespace Go.Proofs.Ytncbajehmdnibaa
open Go Go.RowKit
/-- A residual's cost with a knee, half of how steep it is, its weight, what the parabola is at 0. -/
def rho (r k:Int):Int:=rhA (aC r) (kC k)
def slp (r k:Int):Int:=if r < 0 then -slA (aC r) (kC k) else slA (aC r) (kC k)
def wN (r k:Int):Int:=if aC r≤kC k then 1 else kC k
def wD (r k:Int):Int:=if aC r≤kC k then 1 else aC r
def lft (r k:Int):Int:=if aC r≤kC k then 0 else aC r*(kC k*aC r - kC k*kC k)
theorem sq1 {a:Int} (k:Int) (h:0≤a∧a≤2147483647) (w:World):Calls Try.prog 21 #[.int .i64 a,.int .i64 k] w (PVal (.int .i64 (a*a)) w) :=
 sq1_w a k w (by have:=mul_up h.1 h.1 h.2 h.2; omega)
theorem ln1 {a k:Int} (h:0≤a∧a≤2147483647) (hk:0≤k∧k≤2147483647) (w:World):Calls Try.prog 25 #[.int .i64 a,.int .i64 k] w (PVal (.int .i64 (2*k*a - k*k)) w):=by
 have h1:=mul_up (show 0≤2*k by omega) h.1 (show 2*k≤4294967294 by omega) h.2
 have h2:=mul_up hk.1 hk.1 hk.2 hk.2
 exact ln1_w a k w (by omega) (by omega) (by omega) (by omega)
theorem rho_any (r k:Int) (w:World):Calls Try.prog 11 #[.int .i64 r,.int .i64 k] w (PVal (.int .i64 (rho r k)) w):=by
 by_cases h:aC r≤kC k
 ·
  have e:rho r k=aC r*aC r:=if_pos h
  rw [e]
  exact rho_square r k _ _ _ (hcut_any r k) (fun W=>hrule_sq _ _ W (decide_eq_true h)) (sq1 _ (aC_bd r)) w
 ·
  have e:rho r k=2*kC k*aC r - kC k*kC k:=if_neg h
  rw [e]
  exact rho_line r k _ _ _ (hcut_any r k) (fun W=>hrule_ln _ _ W (decide_eq_false h)) (ln1 (aC_bd r) (kC_bd k)) w
theorem slope_any (r k:Int) (w:World):Calls Try.prog 13 #[.int .i64 r,.int .i64 k] w (PVal (.int .i64 (slp r k)) w):=by
 have ha:=aC_bd r
 have hk:=kC_bd k
 unfold slp slA
 by_cases h:aC r≤kC k <;> by_cases hr:r < 0
 ·
  rw [if_pos hr,if_pos h]
  exact slope_square1 r k _ _ _ (hcut_any r k) (fun W=>hrule_sq _ _ W (decide_eq_true h)) (sq2 _ _) w (decide_eq_true hr) ha.1 ha.2
 ·
  rw [if_neg hr,if_pos h]
  exact slope_square0 r k _ _ _ (hcut_any r k) (fun W=>hrule_sq _ _ W (decide_eq_true h)) (sq2 _ _) w (decide_eq_false hr)
 ·
  rw [if_pos hr,if_neg h]
  exact slope_line1 r k _ _ _ (hcut_any r k) (fun W=>hrule_ln _ _ W (decide_eq_false h)) (ln2 _ _) w (decide_eq_true hr) hk.1 hk.2
 ·
  rw [if_neg hr,if_neg h]
  exact slope_line0 r k _ _ _ (hcut_any r k) (fun W=>hrule_ln _ _ W (decide_eq_false h)) (ln2 _ _) w (decide_eq_false hr)
theorem weight_any (r k:Int) (w:World):Calls Try.prog 12 #[.int .i64 r,.int .i64 k] w (PVal (.tuple #[.int .i64 (wN r k),.int .i64 (wD r k)]) w):=by
 unfold wN wD
 by_cases h:aC r≤kC k
 ·
  rw [if_pos h,if_pos h]
  exact weight_square r k _ _ _ _ (hcut_any r k) (fun W=>hrule_sq _ _ W (decide_eq_true h)) (sq3 _ _) w
 ·
  rw [if_neg h,if_neg h]
  exact weight_line r k _ _ _ _ (hcut_any r k) (fun W=>hrule_ln _ _ W (decide_eq_false h)) (ln3 _ _) w
set_option maxRecDepth 100000 in
set_option maxHeartbeats 12800000 in
theorem hnear0 (n:Int)  (w:World) (d:decide (-32768≤n)=false) :Calls Try.prog 14 #[.int .i64 n] w (PVal (.bool false) w):=by
 have hJ0:=es_nil w
 go_enter Try.func14,Try.ntmps14
 go_wp2
 go_ret
 exact ⟨rfl,hJ0.below⟩
set_option maxRecDepth 100000 in
set_option maxHeartbeats 12800000 in
theorem hnear1 (n:Int)  (w:World) (d:decide (-32768≤n)=true) (e:decide (n≤32768)=false) :Calls Try.prog 14 #[.int .i64 n] w (PVal (.bool false) w):=by
 have hJ0:=es_nil w
 go_enter Try.func14,Try.ntmps14
 go_wp2
 go_ret
 exact ⟨rfl,hJ0.below⟩
set_option maxRecDepth 100000 in
set_option maxHeartbeats 12800000 in
theorem hnear2 (n:Int)  (w:World) (d:decide (-32768≤n)=true) (e:decide (n≤32768)=true) :Calls Try.prog 14 #[.int .i64 n] w (PVal (.bool true) w):=by
 have hJ0:=es_nil w
 go_enter Try.func14,Try.ntmps14
 go_wp2
 go_ret
 exact ⟨rfl,hJ0.below⟩
/-- Does Bound take n? -/
def nearB (n:Int):Bool:=decide (-32768≤n) && decide (n≤32768)
theorem near_any (n:Int) (w:World):Calls Try.prog 14 #[.int .i64 n] w (PVal (.bool (nearB n)) w):=by
 unfold nearB
 by_cases d:-32768≤n
 ·
  by_cases e:n≤32768
  ·
   rw [decide_eq_true d,decide_eq_true e]
   exact hnear2 n w (decide_eq_true d) (decide_eq_true e)
  ·
   rw [decide_eq_true d,decide_eq_false e]
   exact hnear1 n w (decide_eq_true d) (decide_eq_false e)
 ·
  rw [decide_eq_false d]
  exact hnear0 n w (decide_eq_false d)
theorem near_of {n:Int} (h:nearB n=true):-32768≤n∧n≤32768:=by unfold nearB at h; simpa using h
set_option maxRecDepth 100000 in
set_option maxHeartbeats 12800000 in
theorem bound_w0 (r c k:Int) (hNr:∀ W:World,Calls Try.prog 14 #[.int .i64 r] W (PVal (.bool false) W)) (w:World)  :Calls Try.prog 9 #[.int .i64 r,.int .i64 c,.int .i64 k] w (PVal (.tuple #[.int .i64 0,.int .i64 0,.int .i64 90]) w):=by
 have Nr:=Lib.hid hNr
 clear hNr
 have hJ0:=es_nil w
 go_enter Try.func9,Try.ntmps9
 go_wp2_with fail
 refine (Nr.out _).mono ?_
 rintro zz W1 ⟨rfl,hB⟩
 have hJ1:=hJ0.later hB
 clear hB hJ0
 go_wp2
 exact bodyPost_ret (v:=.tuple #[.int .i64 0,.int .i64 0,.int .i64 90]) (by simp [results,Try.results9,go_sem]) rfl ⟨rfl,hJ1.below⟩
set_option maxRecDepth 100000 in
set_option maxHeartbeats 12800000 in
theorem bound_w1 (r c k:Int) (hNr:∀ W:World,Calls Try.prog 14 #[.int .i64 r] W (PVal (.bool true) W)) (hNc:∀ W:World,Calls Try.prog 14 #[.int .i64 c] W (PVal (.bool false) W)) (w:World)  :Calls Try.prog 9 #[.int .i64 r,.int .i64 c,.int .i64 k] w (PVal (.tuple #[.int .i64 0,.int .i64 0,.int .i64 90]) w):=by
 have Nr:=Lib.hid hNr
 have Nc:=Lib.hid hNc
 clear hNr hNc
 have hJ0:=es_nil w
 go_enter Try.func9,Try.ntmps9
 go_wp2_with fail
 refine (Nr.out _).mono ?_
 rintro zz W1 ⟨rfl,hB⟩
 have hJ1:=hJ0.later hB
 clear hB hJ0
 go_wp2_with fail
 refine (Nc.out _).mono ?_
 rintro zz W2 ⟨rfl,hB⟩
 have hJ2:=hJ1.later hB
 clear hB hJ1
 go_wp2
 exact bodyPost_ret (v:=.tuple #[.int .i64 0,.int .i64 0,.int .i64 90]) (by simp [results,Try.results9,go_sem]) rfl ⟨rfl,hJ2.below⟩
set_option maxRecDepth 100000 in
set_option maxHeartbeats 12800000 in
theorem bound_w2 (r c k:Int) (hNr:∀ W:World,Calls Try.prog 14 #[.int .i64 r] W (PVal (.bool true) W)) (hNc:∀ W:World,Calls Try.prog 14 #[.int .i64 c] W (PVal (.bool true) W)) (hNk:∀ W:World,Calls Try.prog 14 #[.int .i64 k] W (PVal (.bool false) W)) (w:World)  :Calls Try.prog 9 #[.int .i64 r,.int .i64 c,.int .i64 k] w (PVal (.tuple #[.int .i64 0,.int .i64 0,.int .i64 90]) w):=by
 have Nr:=Lib.hid hNr
 have Nc:=Lib.hid hNc
 have Nk:=Lib.hid hNk
 clear hNr hNc hNk
 have hJ0:=es_nil w
 go_enter Try.func9,Try.ntmps9
 go_wp2_with fail
 refine (Nr.out _).mono ?_
 rintro zz W1 ⟨rfl,hB⟩
 have hJ1:=hJ0.later hB
 clear hB hJ0
 go_wp2_with fail
 refine (Nc.out _).mono ?_
 rintro zz W2 ⟨rfl,hB⟩
 have hJ2:=hJ1.later hB
 clear hB hJ1
 go_wp2_with fail
 refine (Nk.out _).mono ?_
 rintro zz W3 ⟨rfl,hB⟩
 have hJ3:=hJ2.later hB
 clear hB hJ2
 go_wp2
 exact bodyPost_ret (v:=.tuple #[.int .i64 0,.int .i64 0,.int .i64 90]) (by simp [results,Try.results9,go_sem]) rfl ⟨rfl,hJ3.below⟩
set_option maxRecDepth 100000 in
set_option maxHeartbeats 12800000 in
theorem bound_w3 (r c k:Int) (hNr:∀ W:World,Calls Try.prog 14 #[.int .i64 r] W (PVal (.bool true) W)) (hNc:∀ W:World,Calls Try.prog 14 #[.int .i64 c] W (PVal (.bool true) W)) (hNk:∀ W:World,Calls Try.prog 14 #[.int .i64 k] W (PVal (.bool true) W)) (w:World) (d:decide (k < 0)=true) :Calls Try.prog 9 #[.int .i64 r,.int .i64 c,.int .i64 k] w (PVal (.tuple #[.int .i64 0,.int .i64 0,.int .i64 90]) w):=by
 have Nr:=Lib.hid hNr
 have Nc:=Lib.hid hNc
 have Nk:=Lib.hid hNk
 clear hNr hNc hNk
 have hJ0:=es_nil w
 go_enter Try.func9,Try.ntmps9
 go_wp2_with fail
 refine (Nr.out _).mono ?_
 rintro zz W1 ⟨rfl,hB⟩
 have hJ1:=hJ0.later hB
 clear hB hJ0
 go_wp2_with fail
 refine (Nc.out _).mono ?_
 rintro zz W2 ⟨rfl,hB⟩
 have hJ2:=hJ1.later hB
 clear hB hJ1
 go_wp2_with fail
 refine (Nk.out _).mono ?_
 rintro zz W3 ⟨rfl,hB⟩
 have hJ3:=hJ2.later hB
 clear hB hJ2
 go_wp2
 exact bodyPost_ret (v:=.tuple #[.int .i64 0,.int .i64 0,.int .i64 90]) (by simp [results,Try.results9,go_sem]) rfl ⟨rfl,hJ3.below⟩
set_option maxRecDepth 100000 in
set_option maxHeartbeats 12800000 in
theorem bound_square (r c k a b n d l:Int) (hNr:∀ W:World,Calls Try.prog 14 #[.int .i64 r] W (PVal (.bool true) W)) (hNc:∀ W:World,Calls Try.prog 14 #[.int .i64 c] W (PVal (.bool true) W)) (hNk:∀ W:World,Calls Try.prog 14 #[.int .i64 k] W (PVal (.bool true) W)) (hHc:∀ W:World,Calls Try.prog 15 #[.int .i64 c,.int .i64 k] W (PVal (.tuple #[.int .i64 a,.int .i64 b]) W)) (hHr:∀ W:World,Calls Try.prog 16 #[.int .i64 a,.int .i64 b] W (PVal (.agg #[.func (.func 21) #[] #[],.func (.func 22) #[] #[],.func (.func 23) #[] #[],.func (.func 24) #[] #[]]) W)) (hHf:∀ W:World,Calls Try.prog 23 #[.int .i64 a,.int .i64 b] W (PVal (.tuple #[.int .i64 n,.int .i64 d]) W)) (hHg:∀ W:World,Calls Try.prog 24 #[.int .i64 a,.int .i64 b] W (PVal (.int .i64 l) W)) (w:World) (dk:decide (k < 0)=false) (hQ1:-9223372036854775808≤n*r∧n*r≤9223372036854775807) (hQ2:-9223372036854775808≤n*r*r∧n*r*r≤9223372036854775807) (hQ3:-9223372036854775808≤n*r*r+l∧n*r*r+l≤9223372036854775807):Calls Try.prog 9 #[.int .i64 r,.int .i64 c,.int .i64 k] w (PVal (.tuple #[.int .i64 (((n*r)*r)+l),.int .i64 d,.int .i64 0]) w):=by
 have Nr:=Lib.hid hNr
 have Nc:=Lib.hid hNc
 have Nk:=Lib.hid hNk
 have Hc:=Lib.hid hHc
 have Hr:=Lib.hid hHr
 have Hf:=Lib.hid hHf
 have Hg:=Lib.hid hHg
 clear hNr hNc hNk hHc hHr hHf hHg
 have Q1:=Lib.hid hQ1
 have Q2:=Lib.hid hQ2
 have Q3:=Lib.hid hQ3
 clear hQ1 hQ2 hQ3
 have hJ0:=es_nil w
 go_enter Try.func9,Try.ntmps9
 go_wp2_with fail
 refine (Nr.out _).mono ?_
 rintro zz W1 ⟨rfl,hB⟩
 have hJ1:=hJ0.later hB
 clear hB hJ0
 go_wp2_with fail
 refine (Nc.out _).mono ?_
 rintro zz W2 ⟨rfl,hB⟩
 have hJ2:=hJ1.later hB
 clear hB hJ1
 go_wp2_with fail
 refine (Nk.out _).mono ?_
 rintro zz W3 ⟨rfl,hB⟩
 have hJ3:=hJ2.later hB
 clear hB hJ2
 go_wp2_with fail
 refine (Hc.out _).mono ?_
 rintro zz W4 ⟨rfl,hB⟩
 have hJ4:=hJ3.later hB
 clear hB hJ3
 go_wp2_with fail
 refine (Hr.out _).mono ?_
 rintro zz W5 ⟨rfl,hB⟩
 have hJ5:=hJ4.later hB
 clear hB hJ4
 go_wp2_with (refine stop_alloc 33 #[.nilFunc,.nilFunc,.nilFunc,.nilFunc] (.agg #[.nilFunc,.nilFunc,.nilFunc,.nilFunc]) rfl rfl zv33 rfl hJ5 (fun bk1 W6 hJ6=>?_))
 clear hJ5
 simp only [Stop,Act.put,zzC,zzD,zzE]
 go_wp2_with (refine stop_store 33 (.tmp 11) (.tmp 37) 0 bk1 0 #[.nilFunc,.nilFunc,.nilFunc,.nilFunc] 33 4 #[.func (.func 21) #[] #[],.func (.func 22) #[] #[],.func (.func 23) #[] #[],.func (.func 24) #[] #[]].toList #[.func (.func 21) #[] #[],.func (.func 22) #[] #[],.func (.func 23) #[] #[],.func (.func 24) #[] #[]] [(bk1,#[.func (.func 21) #[] #[],.func (.func 22) #[] #[],.func (.func 23) #[] #[],.func (.func 24) #[] #[]],33)] rfl rfl rfl rfl sz33 hJ6 rfl (by kernel_rfl) (zzF (by kernel_rfl)) (by kernel_rfl) (by kernel_rfl) (by kernel_rfl) (fun W7 hJ7=>?_))
 clear hJ6
 simp only [Stop,Act.put,zzC,zzD,zzE]
 go_wp2_with (refine zso rfl (fun K hK=>wp_load1 (v:=.func (.func 23) #[] #[]) 29 (.tmp 39) rfl bk1 2 #[.func (.func 21) #[] #[],.func (.func 22) #[] #[],.func (.func 23) #[] #[],.func (.func 24) #[] #[]] 33 (hJ7.at' _ (zzG (i:=0) rfl)) rfl ag29 (by kernel_rfl) (hK _ _ ?_)))
 simp only [Stop,Act.put,zzC,zzD,zzE]
 go_wp2_with fail
 refine (Hf.out _).mono ?_
 rintro zz W8 ⟨rfl,hB⟩
 have hJ8:=hJ7.later hB
 clear hB hJ7
 have qQ1:=Q1.out
 have qQ2:=Q2.out
 go_wp2_with (refine zso rfl (fun K hK=>wp_load1 (v:=.func (.func 24) #[] #[]) 27 (.tmp 51) rfl bk1 3 #[.func (.func 21) #[] #[],.func (.func 22) #[] #[],.func (.func 23) #[] #[],.func (.func 24) #[] #[]] 33 (hJ8.at' _ (zzG (i:=0) rfl)) rfl ag27 (by kernel_rfl) (hK _ _ ?_)))
 clear qQ1 qQ2
 simp only [Stop,Act.put,zzC,zzD,zzE]
 go_wp2_with fail
 refine (Hg.out _).mono ?_
 rintro zz W9 ⟨rfl,hB⟩
 have hJ9:=hJ8.later hB
 clear hB hJ8
 have qQ3:=Q3.out
 go_wp2
 exact bodyPost_ret (v:=.tuple #[.int .i64 (((n*r)*r)+l),.int .i64 d,.int .i64 0]) (by simp [results,Try.results9,go_sem,qQ3]) rfl ⟨rfl,hJ9.below⟩
set_option maxRecDepth 100000 in
set_option maxHeartbeats 12800000 in
theorem bound_line (r c k a b n d l:Int) (hNr:∀ W:World,Calls Try.prog 14 #[.int .i64 r] W (PVal (.bool true) W)) (hNc:∀ W:World,Calls Try.prog 14 #[.int .i64 c] W (PVal (.bool true) W)) (hNk:∀ W:World,Calls Try.prog 14 #[.int .i64 k] W (PVal (.bool true) W)) (hHc:∀ W:World,Calls Try.prog 15 #[.int .i64 c,.int .i64 k] W (PVal (.tuple #[.int .i64 a,.int .i64 b]) W)) (hHr:∀ W:World,Calls Try.prog 16 #[.int .i64 a,.int .i64 b] W (PVal (.agg #[.func (.func 25) #[] #[],.func (.func 26) #[] #[],.func (.func 27) #[] #[],.func (.func 28) #[] #[]]) W)) (hHf:∀ W:World,Calls Try.prog 27 #[.int .i64 a,.int .i64 b] W (PVal (.tuple #[.int .i64 n,.int .i64 d]) W)) (hHg:∀ W:World,Calls Try.prog 28 #[.int .i64 a,.int .i64 b] W (PVal (.int .i64 l) W)) (w:World) (dk:decide (k < 0)=false) (hQ1:-9223372036854775808≤n*r∧n*r≤9223372036854775807) (hQ2:-9223372036854775808≤n*r*r∧n*r*r≤9223372036854775807) (hQ3:-9223372036854775808≤n*r*r+l∧n*r*r+l≤9223372036854775807):Calls Try.prog 9 #[.int .i64 r,.int .i64 c,.int .i64 k] w (PVal (.tuple #[.int .i64 (((n*r)*r)+l),.int .i64 d,.int .i64 0]) w):=by
 have Nr:=Lib.hid hNr
 have Nc:=Lib.hid hNc
 have Nk:=Lib.hid hNk
 have Hc:=Lib.hid hHc
 have Hr:=Lib.hid hHr
 have Hf:=Lib.hid hHf
 have Hg:=Lib.hid hHg
 clear hNr hNc hNk hHc hHr hHf hHg
 have Q1:=Lib.hid hQ1
 have Q2:=Lib.hid hQ2
 have Q3:=Lib.hid hQ3
 clear hQ1 hQ2 hQ3
 have hJ0:=es_nil w
 go_enter Try.func9,Try.ntmps9
 go_wp2_with fail
 refine (Nr.out _).mono ?_
 rintro zz W1 ⟨rfl,hB⟩
 have hJ1:=hJ0.later hB
 clear hB hJ0
 go_wp2_with fail
 refine (Nc.out _).mono ?_
 rintro zz W2 ⟨rfl,hB⟩
 have hJ2:=hJ1.later hB
 clear hB hJ1
 go_wp2_with fail
 refine (Nk.out _).mono ?_
 rintro zz W3 ⟨rfl,hB⟩
 have hJ3:=hJ2.later hB
 clear hB hJ2
 go_wp2_with fail
 refine (Hc.out _).mono ?_
 rintro zz W4 ⟨rfl,hB⟩
 have hJ4:=hJ3.later hB
 clear hB hJ3
 go_wp2_with fail
 refine (Hr.out _).mono ?_
 rintro zz W5 ⟨rfl,hB⟩
 have hJ5:=hJ4.later hB
 clear hB hJ4
 go_wp2_with (refine stop_alloc 33 #[.nilFunc,.nilFunc,.nilFunc,.nilFunc] (.agg #[.nilFunc,.nilFunc,.nilFunc,.nilFunc]) rfl rfl zv33 rfl hJ5 (fun bk1 W6 hJ6=>?_))
 clear hJ5
 simp only [Stop,Act.put,zzC,zzD,zzE]
 go_wp2_with (refine stop_store 33 (.tmp 11) (.tmp 37) 0 bk1 0 #[.nilFunc,.nilFunc,.nilFunc,.nilFunc] 33 4 #[.func (.func 25) #[] #[],.func (.func 26) #[] #[],.func (.func 27) #[] #[],.func (.func 28) #[] #[]].toList #[.func (.func 25) #[] #[],.func (.func 26) #[] #[],.func (.func 27) #[] #[],.func (.func 28) #[] #[]] [(bk1,#[.func (.func 25) #[] #[],.func (.func 26) #[] #[],.func (.func 27) #[] #[],.func (.func 28) #[] #[]],33)] rfl rfl rfl rfl sz33 hJ6 rfl (by kernel_rfl) (zzF (by kernel_rfl)) (by kernel_rfl) (by kernel_rfl) (by kernel_rfl) (fun W7 hJ7=>?_))
 clear hJ6
 simp only [Stop,Act.put,zzC,zzD,zzE]
 go_wp2_with (refine zso rfl (fun K hK=>wp_load1 (v:=.func (.func 27) #[] #[]) 29 (.tmp 39) rfl bk1 2 #[.func (.func 25) #[] #[],.func (.func 26) #[] #[],.func (.func 27) #[] #[],.func (.func 28) #[] #[]] 33 (hJ7.at' _ (zzG (i:=0) rfl)) rfl ag29 (by kernel_rfl) (hK _ _ ?_)))
 simp only [Stop,Act.put,zzC,zzD,zzE]
 go_wp2_with fail
 refine (Hf.out _).mono ?_
 rintro zz W8 ⟨rfl,hB⟩
 have hJ8:=hJ7.later hB
 clear hB hJ7
 have qQ1:=Q1.out
 have qQ2:=Q2.out
 go_wp2_with (refine zso rfl (fun K hK=>wp_load1 (v:=.func (.func 28) #[] #[]) 27 (.tmp 51) rfl bk1 3 #[.func (.func 25) #[] #[],.func (.func 26) #[] #[],.func (.func 27) #[] #[],.func (.func 28) #[] #[]] 33 (hJ8.at' _ (zzG (i:=0) rfl)) rfl ag27 (by kernel_rfl) (hK _ _ ?_)))
 clear qQ1 qQ2
 simp only [Stop,Act.put,zzC,zzD,zzE]
 go_wp2_with fail
 refine (Hg.out _).mono ?_
 rintro zz W9 ⟨rfl,hB⟩
 have hJ9:=hJ8.later hB
 clear hB hJ8
 have qQ3:=Q3.out
 go_wp2
 exact bodyPost_ret (v:=.tuple #[.int .i64 (((n*r)*r)+l),.int .i64 d,.int .i64 0]) (by simp [results,Try.results9,go_sem,qQ3]) rfl ⟨rfl,hJ9.below⟩
/-- What Bound tells. -/
def wideB (r c k:Int):Bool:=!(nearB r && nearB c && nearB k) || decide (k < 0)
def bN (r c k:Int):Int:=if wideB r c k then 0 else wN c k*r*r+lft c k
def bD (r c k:Int):Int:=if wideB r c k then 0 else wD c k
def bE (r c k:Int):Int:=if wideB r c k then 90 else 0
theorem aC_in {c:Int} (h:-32768≤c∧c≤32768):aC c=(if c < 0 then -c else c)∧0≤aC c∧aC c≤32768:=by unfold aC cC; split <;> omega
theorem kC_in {k:Int} (h0:0≤k) (h:k≤32768):kC k=k:=by unfold kC; omega
theorem sq_near {r:Int} (h:-32768≤r∧r≤32768):0≤r*r∧r*r≤1073741824:=by
 refine ⟨hsq_nonneg r,?_⟩
 have:=mul_nn (show 0≤32768 - r by omega) (show 0≤32768+r by omega)
 grind
theorem nrr {n r:Int} (hn:0≤n∧n≤32768) (h:-32768≤r∧r≤32768):(-1073741824≤n*r∧n*r≤1073741824)∧0≤n*r*r∧n*r*r≤35184372088832:=by
 have h1:=Int.mul_le_mul_of_nonneg_left h.2 hn.1
 have h2:=Int.mul_le_mul_of_nonneg_left h.1 hn.1
 have h3:=mul_up hn.1 (sq_near h).1 hn.2 (sq_near h).2
 rw [Int.mul_assoc n r r]
 omega
theorem lft_in {a k:Int} (ha:0≤a∧a≤32768) (hk:0≤k∧k≤32768) (h:k < a):(0≤k*a∧k*a≤1073741824)∧(0≤k*k∧k*k≤1073741824)∧0≤k*a - k*k∧0≤a*(k*a - k*k)∧a*(k*a - k*k)≤35184372088832:=by
 have h1:=mul_up hk.1 ha.1 hk.2 ha.2
 have h2:=mul_up hk.1 hk.1 hk.2 hk.2
 have h3:=mul_nn hk.1 (show 0≤a - k by omega)
 rw [Int.mul_sub] at h3
 have h4:=mul_up ha.1 h3 ha.2 (show k*a - k*k≤1073741824 by omega)
 exact ⟨by omega,by omega,h3,by omega⟩
theorem hbound_any (r c k:Int) (w:World):Calls Try.prog 9 #[.int .i64 r,.int .i64 c,.int .i64 k] w (PVal (.tuple #[.int .i64 (bN r c k),.int .i64 (bD r c k),.int .i64 (bE r c k)]) w):=by
 have nr:=near_any r
 have nc:=near_any c
 have nk:=near_any k
 unfold bN bD bE wideB
 cases h1:nearB r
 ·
  rw [h1] at nr
  exact bound_w0 r c k nr w
 cases h2:nearB c
 ·
  rw [h1] at nr
  rw [h2] at nc
  exact bound_w1 r c k nr nc w
 cases h3:nearB k
 ·
  rw [h1] at nr
  rw [h2] at nc
  rw [h3] at nk
  exact bound_w2 r c k nr nc nk w
 rw [h1] at nr
 rw [h2] at nc
 rw [h3] at nk
 by_cases h4:k < 0
 ·
  rw [decide_eq_true h4]
  exact bound_w3 r c k nr nc nk w (decide_eq_true h4)
 ·
  rw [decide_eq_false h4]
  have r1:=near_of h1
  have c1:=aC_in (near_of h2)
  have k1:=kC_in (by omega) (near_of h3).2
  have k2:=(near_of h3).2
  show Calls Try.prog 9 #[.int .i64 r,.int .i64 c,.int .i64 k] w (PVal (.tuple #[.int .i64 (wN c k*r*r+lft c k),.int .i64 (wD c k),.int .i64 0]) w)
  unfold wN wD lft
  by_cases h:aC c≤kC k
  ·
   rw [if_pos h,if_pos h,if_pos h]
   have hq:=nrr (n:=1) (by omega) r1
   exact bound_square r c k _ _ _ _ _ nr nc nk (hcut_any c k) (fun W=>hrule_sq _ _ W (decide_eq_true h)) (sq3 _ _) (sq4 _ _) w (decide_eq_false h4) (by omega) (by omega) (by omega)
  ·
   rw [if_neg h,if_neg h,if_neg h]
   have hq:=nrr (n:=kC k) (by omega) r1
   have hl:=lft_in (a:=aC c) (k:=kC k) c1.2 (by omega) (by omega)
   exact bound_line r c k _ _ _ _ _ nr nc nk (hcut_any c k) (fun W=>hrule_ln _ _ W (decide_eq_false h)) (ln3 _ _) (fun W=>ln4_w _ _ W (by omega) (by omega) (by omega) (by omega)) w (decide_eq_false h4) (by omega) (by omega) (by omega)
theorem rho_at {r k v:Int} (h:rho r k=v) (w:World):Calls Try.prog 11 #[.int .i64 r,.int .i64 k] w (PVal (.int .i64 v) w):=h ▸ rho_any r k w
theorem slope_at {r k v:Int} (h:slp r k=v) (w:World):Calls Try.prog 13 #[.int .i64 r,.int .i64 k] w (PVal (.int .i64 v) w):=h ▸ slope_any r k w
theorem weight_at {r k n d:Int} (h:wN r k=n∧wD r k=d) (w:World):Calls Try.prog 12 #[.int .i64 r,.int .i64 k] w (PVal (.tuple #[.int .i64 n,.int .i64 d]) w):=by
 rw [← h.1,← h.2]
 exact weight_any r k w
theorem hbound_at {r c k n d e:Int} (h:bN r c k=n∧bD r c k=d∧bE r c k=e) (w:World):Calls Try.prog 9 #[.int .i64 r,.int .i64 c,.int .i64 k] w (PVal (.tuple #[.int .i64 n,.int .i64 d,.int .i64 e]) w):=by
 rw [← h.1,← h.2.1,← h.2.2]
 exact hbound_any r c k w
set_option maxRecDepth 100000 in
set_option maxHeartbeats 12800000 in
theorem hawake_any   (w:World)  :Calls Try.prog 8 #[] w (PVal (.bool true) w):=by
 have hJ0:=es_nil w
 go_enter Try.func8,Try.ntmps8
 go_wp2_with fail
 refine (rho_at (v:=9) (by decide) w).mono ?_
 rintro zz W1 ⟨rfl,hB⟩
 have hJ1:=hJ0.later hB
 clear hB hJ0
 go_wp2_with fail
 refine (rho_at (v:=45) (by decide) W1).mono ?_
 rintro zz W2 ⟨rfl,hB⟩
 have hJ2:=hJ1.later hB
 clear hB hJ1
 go_wp2_with fail
 refine (rho_at (v:=0) (by decide) W2).mono ?_
 rintro zz W3 ⟨rfl,hB⟩
 have hJ3:=hJ2.later hB
 clear hB hJ2
 go_wp2_with fail
 refine (slope_at (v:=3) (by decide) W3).mono ?_
 rintro zz W4 ⟨rfl,hB⟩
 have hJ4:=hJ3.later hB
 clear hB hJ3
 go_wp2_with fail
 refine (slope_at (v:=-5) (by decide) W4).mono ?_
 rintro zz W5 ⟨rfl,hB⟩
 have hJ5:=hJ4.later hB
 clear hB hJ4
 go_wp2_with fail
 refine (weight_at (n:=5) (d:=7) (by decide) W5).mono ?_
 rintro zz W6 ⟨rfl,hB⟩
 have hJ6:=hJ5.later hB
 clear hB hJ5
 go_wp2_with fail
 refine (hbound_at (n:=90) (d:=7) (e:=0) (by decide) W6).mono ?_
 rintro zz W7 ⟨rfl,hB⟩
 have hJ7:=hJ6.later hB
 clear hB hJ6
 go_wp2
 go_ret
 exact ⟨rfl,hJ7.below⟩
set_option maxRecDepth 100000 in
set_option maxHeartbeats 12800000 in
theorem rc_lo0 (r k:Int)  (w:World) (d0:decide (r < -2147483647)=true) (d1:decide (k < 0)=true)  :Calls Try.prog 20 #[.int .i64 r,.int .i64 k] w (PVal (.tuple #[.int .i64 2147483647,.bool true,.int .i64 0]) w):=by
 have hJ0:=es_nil w
 go_enter Try.func20,Try.ntmps20
 go_wp2
 exact bodyPost_ret (v:=.tuple #[.int .i64 2147483647,.bool true,.int .i64 0]) (by simp [results,Try.results20,go_sem]) rfl ⟨rfl,hJ0.below⟩
set_option maxRecDepth 100000 in
set_option maxHeartbeats 12800000 in
theorem rc_lo1 (r k:Int)  (w:World) (d0:decide (r < -2147483647)=true) (d1:decide (k < 0)=false) (d2:decide (2147483647 < k)=false)  :Calls Try.prog 20 #[.int .i64 r,.int .i64 k] w (PVal (.tuple #[.int .i64 2147483647,.bool true,.int .i64 k]) w):=by
 have hJ0:=es_nil w
 go_enter Try.func20,Try.ntmps20
 go_wp2
 exact bodyPost_ret (v:=.tuple #[.int .i64 2147483647,.bool true,.int .i64 k]) (by simp [results,Try.results20,go_sem]) rfl ⟨rfl,hJ0.below⟩
set_option maxRecDepth 100000 in
set_option maxHeartbeats 12800000 in
theorem rc_lo2 (r k:Int)  (w:World) (d0:decide (r < -2147483647)=true) (d1:decide (k < 0)=false) (d2:decide (2147483647 < k)=true)  :Calls Try.prog 20 #[.int .i64 r,.int .i64 k] w (PVal (.tuple #[.int .i64 2147483647,.bool true,.int .i64 2147483647]) w):=by
 have hJ0:=es_nil w
 go_enter Try.func20,Try.ntmps20
 go_wp2
 exact bodyPost_ret (v:=.tuple #[.int .i64 2147483647,.bool true,.int .i64 2147483647]) (by simp [results,Try.results20,go_sem]) rfl ⟨rfl,hJ0.below⟩
set_option maxRecDepth 100000 in
set_option maxHeartbeats 12800000 in
theorem rc_ng0 (r k:Int)  (w:World) (d0:decide (r < -2147483647)=false) (d1:decide (2147483647 < r)=false) (d2:decide (r < 0)=true) (d3:decide (k < 0)=true) (hr1:-2147483647≤r) (hr2:r≤2147483647) :Calls Try.prog 20 #[.int .i64 r,.int .i64 k] w (PVal (.tuple #[.int .i64 (-r),.bool true,.int .i64 0]) w):=by
 have hJ0:=es_nil w
 go_enter Try.func20,Try.ntmps20
 go_wp2
 exact bodyPost_ret (v:=.tuple #[.int .i64 (-r),.bool true,.int .i64 0]) (by simp [results,Try.results20,go_sem]) rfl ⟨rfl,hJ0.below⟩
set_option maxRecDepth 100000 in
set_option maxHeartbeats 12800000 in
theorem rc_ng1 (r k:Int)  (w:World) (d0:decide (r < -2147483647)=false) (d1:decide (2147483647 < r)=false) (d2:decide (r < 0)=true) (d3:decide (k < 0)=false) (d4:decide (2147483647 < k)=false) (hr1:-2147483647≤r) (hr2:r≤2147483647) :Calls Try.prog 20 #[.int .i64 r,.int .i64 k] w (PVal (.tuple #[.int .i64 (-r),.bool true,.int .i64 k]) w):=by
 have hJ0:=es_nil w
 go_enter Try.func20,Try.ntmps20
 go_wp2
 exact bodyPost_ret (v:=.tuple #[.int .i64 (-r),.bool true,.int .i64 k]) (by simp [results,Try.results20,go_sem]) rfl ⟨rfl,hJ0.below⟩
set_option maxRecDepth 100000 in
set_option maxHeartbeats 12800000 in
theorem rc_ng2 (r k:Int)  (w:World) (d0:decide (r < -2147483647)=false) (d1:decide (2147483647 < r)=false) (d2:decide (r < 0)=true) (d3:decide (k < 0)=false) (d4:decide (2147483647 < k)=true) (hr1:-2147483647≤r) (hr2:r≤2147483647) :Calls Try.prog 20 #[.int .i64 r,.int .i64 k] w (PVal (.tuple #[.int .i64 (-r),.bool true,.int .i64 2147483647]) w):=by
 have hJ0:=es_nil w
 go_enter Try.func20,Try.ntmps20
 go_wp2
 exact bodyPost_ret (v:=.tuple #[.int .i64 (-r),.bool true,.int .i64 2147483647]) (by simp [results,Try.results20,go_sem]) rfl ⟨rfl,hJ0.below⟩
set_option maxRecDepth 100000 in
set_option maxHeartbeats 12800000 in
theorem rc_in0 (r k:Int)  (w:World) (d0:decide (r < -2147483647)=false) (d1:decide (2147483647 < r)=false) (d2:decide (r < 0)=false) (d3:decide (k < 0)=true)  :Calls Try.prog 20 #[.int .i64 r,.int .i64 k] w (PVal (.tuple #[.int .i64 r,.bool false,.int .i64 0]) w):=by
 have hJ0:=es_nil w
 go_enter Try.func20,Try.ntmps20
 go_wp2
 exact bodyPost_ret (v:=.tuple #[.int .i64 r,.bool false,.int .i64 0]) (by simp [results,Try.results20,go_sem]) rfl ⟨rfl,hJ0.below⟩
set_option maxRecDepth 100000 in
set_option maxHeartbeats 12800000 in
theorem rc_in1 (r k:Int)  (w:World) (d0:decide (r < -2147483647)=false) (d1:decide (2147483647 < r)=false) (d2:decide (r < 0)=false) (d3:decide (k < 0)=false) (d4:decide (2147483647 < k)=false)  :Calls Try.prog 20 #[.int .i64 r,.int .i64 k] w (PVal (.tuple #[.int .i64 r,.bool false,.int .i64 k]) w):=by
 have hJ0:=es_nil w
 go_enter Try.func20,Try.ntmps20
 go_wp2
 exact bodyPost_ret (v:=.tuple #[.int .i64 r,.bool false,.int .i64 k]) (by simp [results,Try.results20,go_sem]) rfl ⟨rfl,hJ0.below⟩
set_option maxRecDepth 100000 in
set_option maxHeartbeats 12800000 in
theorem rc_in2 (r k:Int)  (w:World) (d0:decide (r < -2147483647)=false) (d1:decide (2147483647 < r)=false) (d2:decide (r < 0)=false) (d3:decide (k < 0)=false) (d4:decide (2147483647 < k)=true)  :Calls Try.prog 20 #[.int .i64 r,.int .i64 k] w (PVal (.tuple #[.int .i64 r,.bool false,.int .i64 2147483647]) w):=by
 have hJ0:=es_nil w
 go_enter Try.func20,Try.ntmps20
 go_wp2
 exact bodyPost_ret (v:=.tuple #[.int .i64 r,.bool false,.int .i64 2147483647]) (by simp [results,Try.results20,go_sem]) rfl ⟨rfl,hJ0.below⟩
set_option maxRecDepth 100000 in
set_option maxHeartbeats 12800000 in
theorem rc_hi0 (r k:Int)  (w:World) (d0:decide (r < -2147483647)=false) (d1:decide (2147483647 < r)=true) (d2:decide (k < 0)=true)  :Calls Try.prog 20 #[.int .i64 r,.int .i64 k] w (PVal (.tuple #[.int .i64 2147483647,.bool false,.int .i64 0]) w):=by
 have hJ0:=es_nil w
 go_enter Try.func20,Try.ntmps20
 go_wp2
 exact bodyPost_ret (v:=.tuple #[.int .i64 2147483647,.bool false,.int .i64 0]) (by simp [results,Try.results20,go_sem]) rfl ⟨rfl,hJ0.below⟩
set_option maxRecDepth 100000 in
set_option maxHeartbeats 12800000 in
theorem rc_hi1 (r k:Int)  (w:World) (d0:decide (r < -2147483647)=false) (d1:decide (2147483647 < r)=true) (d2:decide (k < 0)=false) (d3:decide (2147483647 < k)=false)  :Calls Try.prog 20 #[.int .i64 r,.int .i64 k] w (PVal (.tuple #[.int .i64 2147483647,.bool false,.int .i64 k]) w):=by
 have hJ0:=es_nil w
 go_enter Try.func20,Try.ntmps20
 go_wp2
 exact bodyPost_ret (v:=.tuple #[.int .i64 2147483647,.bool false,.int .i64 k]) (by simp [results,Try.results20,go_sem]) rfl ⟨rfl,hJ0.below⟩
set_option maxRecDepth 100000 in
set_option maxHeartbeats 12800000 in
theorem rc_hi2 (r k:Int)  (w:World) (d0:decide (r < -2147483647)=false) (d1:decide (2147483647 < r)=true) (d2:decide (k < 0)=false) (d3:decide (2147483647 < k)=true)  :Calls Try.prog 20 #[.int .i64 r,.int .i64 k] w (PVal (.tuple #[.int .i64 2147483647,.bool false,.int .i64 2147483647]) w):=by
 have hJ0:=es_nil w
 go_enter Try.func20,Try.ntmps20
 go_wp2
 exact bodyPost_ret (v:=.tuple #[.int .i64 2147483647,.bool false,.int .i64 2147483647]) (by simp [results,Try.results20,go_sem]) rfl ⟨rfl,hJ0.below⟩
theorem rcut_any (r k:Int) (w:World):Calls Try.prog 20 #[.int .i64 r,.int .i64 k] w (PVal (.tuple #[.int .i64 (aC r),.bool (decide (r < 0)),.int .i64 (kC k)]) w):=by
 by_cases a1:r < -2147483647
 ·
  by_cases b1:k < 0
  ·
   rw [show aC r=2147483647 by unfold aC cC; omega,show kC k=0 by unfold kC; omega,decide_eq_true (show r < 0 by omega)]
   exact rc_lo0 r k w (decide_eq_true a1) (decide_eq_true b1)
  by_cases b2:2147483647 < k
  ·
   rw [show aC r=2147483647 by unfold aC cC; omega,show kC k=2147483647 by unfold kC; omega,decide_eq_true (show r < 0 by omega)]
   exact rc_lo2 r k w (decide_eq_true a1) (decide_eq_false b1) (decide_eq_true b2)
  ·
   rw [show aC r=2147483647 by unfold aC cC; omega,show kC k=k by unfold kC; omega,decide_eq_true (show r < 0 by omega)]
   exact rc_lo1 r k w (decide_eq_true a1) (decide_eq_false b1) (decide_eq_false b2)
 by_cases a2:2147483647 < r
 ·
  by_cases b1:k < 0
  ·
   rw [show aC r=2147483647 by unfold aC cC; omega,show kC k=0 by unfold kC; omega,decide_eq_false (show ¬ r < 0 by omega)]
   exact rc_hi0 r k w (decide_eq_false a1) (decide_eq_true a2) (decide_eq_true b1)
  by_cases b2:2147483647 < k
  ·
   rw [show aC r=2147483647 by unfold aC cC; omega,show kC k=2147483647 by unfold kC; omega,decide_eq_false (show ¬ r < 0 by omega)]
   exact rc_hi2 r k w (decide_eq_false a1) (decide_eq_true a2) (decide_eq_false b1) (decide_eq_true b2)
  ·
   rw [show aC r=2147483647 by unfold aC cC; omega,show kC k=k by unfold kC; omega,decide_eq_false (show ¬ r < 0 by omega)]
   exact rc_hi1 r k w (decide_eq_false a1) (decide_eq_true a2) (decide_eq_false b1) (decide_eq_false b2)
 by_cases a3:r < 0
 ·
  by_cases b1:k < 0
  ·
   rw [show aC r=-r by unfold aC cC; omega,show kC k=0 by unfold kC; omega,decide_eq_true (show r < 0 by omega)]
   exact rc_ng0 r k w (decide_eq_false a1) (decide_eq_false a2) (decide_eq_true a3) (decide_eq_true b1) (by omega) (by omega)
  by_cases b2:2147483647 < k
  ·
   rw [show aC r=-r by unfold aC cC; omega,show kC k=2147483647 by unfold kC; omega,decide_eq_true (show r < 0 by omega)]
   exact rc_ng2 r k w (decide_eq_false a1) (decide_eq_false a2) (decide_eq_true a3) (decide_eq_false b1) (decide_eq_true b2) (by omega) (by omega)
  ·
   rw [show aC r=-r by unfold aC cC; omega,show kC k=k by unfold kC; omega,decide_eq_true (show r < 0 by omega)]
   exact rc_ng1 r k w (decide_eq_false a1) (decide_eq_false a2) (decide_eq_true a3) (decide_eq_false b1) (decide_eq_false b2) (by omega) (by omega)
 ·
  by_cases b1:k < 0
  ·
   rw [show aC r=r by unfold aC cC; omega,show kC k=0 by unfold kC; omega,decide_eq_false (show ¬ r < 0 by omega)]
   exact rc_in0 r k w (decide_eq_false a1) (decide_eq_false a2) (decide_eq_false a3) (decide_eq_true b1)
  by_cases b2:2147483647 < k
  ·
   rw [show aC r=r by unfold aC cC; omega,show kC k=2147483647 by unfold kC; omega,decide_eq_false (show ¬ r < 0 by omega)]
   exact rc_in2 r k w (decide_eq_false a1) (decide_eq_false a2) (decide_eq_false a3) (decide_eq_false b1) (decide_eq_true b2)
  ·
   rw [show aC r=r by unfold aC cC; omega,show kC k=k by unfold kC; omega,decide_eq_false (show ¬ r < 0 by omega)]
   exact rc_in1 r k w (decide_eq_false a1) (decide_eq_false a2) (decide_eq_false a3) (decide_eq_false b1) (decide_eq_false b2)
set_option maxRecDepth 100000 in
set_option maxHeartbeats 12800000 in
theorem rwt0 (r k a b:Int) (s:Bool) (hHc:∀ W:World,Calls Try.prog 20 #[.int .i64 r,.int .i64 k] W (PVal (.tuple #[.int .i64 a,.bool s,.int .i64 b]) W)) (w:World) (d0:decide (a≤b)=true)  :Calls Try.prog 17 #[.int .i64 r,.int .i64 k] w (PVal (.tuple #[.int .i64 1,.int .i64 1]) w):=by
 have Hc:=Lib.hid hHc
 clear hHc
 have hJ0:=es_nil w
 go_enter Try.func17,Try.ntmps17
 go_wp2_with fail
 refine (Hc.out _).mono ?_
 rintro zz W1 ⟨rfl,hB⟩
 have hJ1:=hJ0.later hB
 clear hB hJ0
 go_wp2
 exact bodyPost_ret (v:=.tuple #[.int .i64 1,.int .i64 1]) (by simp [results,Try.results17,go_sem]) rfl ⟨rfl,hJ1.below⟩
set_option maxRecDepth 100000 in
set_option maxHeartbeats 12800000 in
theorem rwt1 (r k a b:Int) (s:Bool) (hHc:∀ W:World,Calls Try.prog 20 #[.int .i64 r,.int .i64 k] W (PVal (.tuple #[.int .i64 a,.bool s,.int .i64 b]) W)) (w:World) (d0:decide (a≤b)=false)  :Calls Try.prog 17 #[.int .i64 r,.int .i64 k] w (PVal (.tuple #[.int .i64 b,.int .i64 a]) w):=by
 have Hc:=Lib.hid hHc
 clear hHc
 have hJ0:=es_nil w
 go_enter Try.func17,Try.ntmps17
 go_wp2_with fail
 refine (Hc.out _).mono ?_
 rintro zz W1 ⟨rfl,hB⟩
 have hJ1:=hJ0.later hB
 clear hB hJ0
 go_wp2
 exact bodyPost_ret (v:=.tuple #[.int .i64 b,.int .i64 a]) (by simp [results,Try.results17,go_sem]) rfl ⟨rfl,hJ1.below⟩
theorem rweight_any (r k:Int) (w:World):Calls Try.prog 17 #[.int .i64 r,.int .i64 k] w (PVal (.tuple #[.int .i64 (wN r k),.int .i64 (wD r k)]) w):=by
 unfold wN wD
 by_cases h:aC r≤kC k
 ·
  rw [if_pos h,if_pos h]
  exact rwt0 r k _ _ _ (rcut_any r k) w (decide_eq_true h)
 ·
  rw [if_neg h,if_neg h]
  exact rwt1 r k _ _ _ (rcut_any r k) w (decide_eq_false h)
set_option maxRecDepth 100000 in
set_option maxHeartbeats 12800000 in
theorem rbo0 (r c k:Int)  (w:World) (d0:decide (r < -32768)=true)  :Calls Try.prog 10 #[.int .i64 r,.int .i64 c,.int .i64 k] w (PVal (.tuple #[.int .i64 0,.int .i64 0,.int .i64 90]) w):=by
 have hJ0:=es_nil w
 go_enter Try.func10,Try.ntmps10
 go_wp2
 exact bodyPost_ret (v:=.tuple #[.int .i64 0,.int .i64 0,.int .i64 90]) (by simp [results,Try.results10,go_sem]) rfl ⟨rfl,hJ0.below⟩
set_option maxRecDepth 100000 in
set_option maxHeartbeats 12800000 in
theorem rbo1 (r c k:Int)  (w:World) (d0:decide (r < -32768)=false) (d1:decide (32768 < r)=true)  :Calls Try.prog 10 #[.int .i64 r,.int .i64 c,.int .i64 k] w (PVal (.tuple #[.int .i64 0,.int .i64 0,.int .i64 90]) w):=by
 have hJ0:=es_nil w
 go_enter Try.func10,Try.ntmps10
 go_wp2
 exact bodyPost_ret (v:=.tuple #[.int .i64 0,.int .i64 0,.int .i64 90]) (by simp [results,Try.results10,go_sem]) rfl ⟨rfl,hJ0.below⟩
set_option maxRecDepth 100000 in
set_option maxHeartbeats 12800000 in
theorem rbo2 (r c k:Int)  (w:World) (d0:decide (r < -32768)=false) (d1:decide (32768 < r)=false) (d2:decide (c < -32768)=true)  :Calls Try.prog 10 #[.int .i64 r,.int .i64 c,.int .i64 k] w (PVal (.tuple #[.int .i64 0,.int .i64 0,.int .i64 90]) w):=by
 have hJ0:=es_nil w
 go_enter Try.func10,Try.ntmps10
 go_wp2
 exact bodyPost_ret (v:=.tuple #[.int .i64 0,.int .i64 0,.int .i64 90]) (by simp [results,Try.results10,go_sem]) rfl ⟨rfl,hJ0.below⟩
set_option maxRecDepth 100000 in
set_option maxHeartbeats 12800000 in
theorem rbo3 (r c k:Int)  (w:World) (d0:decide (r < -32768)=false) (d1:decide (32768 < r)=false) (d2:decide (c < -32768)=false) (d3:decide (32768 < c)=true)  :Calls Try.prog 10 #[.int .i64 r,.int .i64 c,.int .i64 k] w (PVal (.tuple #[.int .i64 0,.int .i64 0,.int .i64 90]) w):=by
 have hJ0:=es_nil w
 go_enter Try.func10,Try.ntmps10
 go_wp2
 exact bodyPost_ret (v:=.tuple #[.int .i64 0,.int .i64 0,.int .i64 90]) (by simp [results,Try.results10,go_sem]) rfl ⟨rfl,hJ0.below⟩
set_option maxRecDepth 100000 in
set_option maxHeartbeats 12800000 in
theorem rbo4 (r c k:Int)  (w:World) (d0:decide (r < -32768)=false) (d1:decide (32768 < r)=false) (d2:decide (c < -32768)=false) (d3:decide (32768 < c)=false) (d4:decide (k < 0)=true)  :Calls Try.prog 10 #[.int .i64 r,.int .i64 c,.int .i64 k] w (PVal (.tuple #[.int .i64 0,.int .i64 0,.int .i64 90]) w):=by
 have hJ0:=es_nil w
 go_enter Try.func10,Try.ntmps10
 go_wp2
 exact bodyPost_ret (v:=.tuple #[.int .i64 0,.int .i64 0,.int .i64 90]) (by simp [results,Try.results10,go_sem]) rfl ⟨rfl,hJ0.below⟩
set_option maxRecDepth 100000 in
set_option maxHeartbeats 12800000 in
theorem rbo5 (r c k:Int)  (w:World) (d0:decide (r < -32768)=false) (d1:decide (32768 < r)=false) (d2:decide (c < -32768)=false) (d3:decide (32768 < c)=false) (d4:decide (k < 0)=false) (d5:decide (32768 < k)=true)  :Calls Try.prog 10 #[.int .i64 r,.int .i64 c,.int .i64 k] w (PVal (.tuple #[.int .i64 0,.int .i64 0,.int .i64 90]) w):=by
 have hJ0:=es_nil w
 go_enter Try.func10,Try.ntmps10
 go_wp2
 exact bodyPost_ret (v:=.tuple #[.int .i64 0,.int .i64 0,.int .i64 90]) (by simp [results,Try.results10,go_sem]) rfl ⟨rfl,hJ0.below⟩
set_option maxRecDepth 100000 in
set_option maxHeartbeats 12800000 in
theorem rbi (r c k:Int) (hHw:∀ W:World,Calls Try.prog 17 #[.int .i64 c,.int .i64 k] W (PVal (.tuple #[.int .i64 1,.int .i64 1]) W)) (w:World) (d0:decide (r < -32768)=false) (d1:decide (32768 < r)=false) (d2:decide (c < -32768)=false) (d3:decide (32768 < c)=false) (d4:decide (k < 0)=false) (d5:decide (32768 < k)=false) (d6:decide (c≤k)=true) (d7:decide (-c≤k)=true) (r1:-32768≤r) (r2:r≤32768) (c1:-32768≤c) (c2:c≤32768) (hQ0:-9223372036854775808≤r*r∧r*r≤9223372036854775807):Calls Try.prog 10 #[.int .i64 r,.int .i64 c,.int .i64 k] w (PVal (.tuple #[.int .i64 (r*r),.int .i64 1,.int .i64 0]) w):=by
 have Hw:=Lib.hid hHw
 clear hHw
 have Q0:=Lib.hid hQ0
 clear hQ0
 have hJ0:=es_nil w
 go_enter Try.func10,Try.ntmps10
 go_wp2_with fail
 refine (Hw.out _).mono ?_
 rintro zz W1 ⟨rfl,hB⟩
 have hJ1:=hJ0.later hB
 clear hB hJ0
 have qQ0:=Q0.out
 go_wp2
 exact bodyPost_ret (v:=.tuple #[.int .i64 (r*r),.int .i64 1,.int .i64 0]) (by simp [results,Try.results10,go_sem,qQ0]) rfl ⟨rfl,hJ1.below⟩
set_option maxRecDepth 100000 in
set_option maxHeartbeats 12800000 in
theorem rbx00 (r c k n d:Int) (hHw:∀ W:World,Calls Try.prog 17 #[.int .i64 c,.int .i64 k] W (PVal (.tuple #[.int .i64 n,.int .i64 d]) W)) (w:World) (d0:decide (r < -32768)=false) (d1:decide (32768 < r)=false) (d2:decide (c < -32768)=false) (d3:decide (32768 < c)=false) (d4:decide (k < 0)=false) (d5:decide (32768 < k)=false) (d6:(d == 1)=false) (d7:decide (c < 0)=false) (r1:-32768≤r) (r2:r≤32768) (c1:-32768≤c) (c2:c≤32768) (hQ0:-9223372036854775808≤n*r∧n*r≤9223372036854775807) (hQ1:-9223372036854775808≤n*r*r∧n*r*r≤9223372036854775807) (hQ2:-9223372036854775808≤k*c∧k*c≤9223372036854775807) (hQ3:-9223372036854775808≤k*k∧k*k≤9223372036854775807) (hQ4:-9223372036854775808≤k*c - k*k∧k*c - k*k≤9223372036854775807) (hQ5:-9223372036854775808≤c*(k*c - k*k)∧c*(k*c - k*k)≤9223372036854775807) (hQ6:-9223372036854775808≤n*r*r+c*(k*c - k*k)∧n*r*r+c*(k*c - k*k)≤9223372036854775807):Calls Try.prog 10 #[.int .i64 r,.int .i64 c,.int .i64 k] w (PVal (.tuple #[.int .i64 (((n*r)*r)+(c*((k*c) - (k*k)))),.int .i64 d,.int .i64 0]) w):=by
 have Hw:=Lib.hid hHw
 clear hHw
 have Q0:=Lib.hid hQ0
 have Q1:=Lib.hid hQ1
 have Q2:=Lib.hid hQ2
 have Q3:=Lib.hid hQ3
 have Q4:=Lib.hid hQ4
 have Q5:=Lib.hid hQ5
 have Q6:=Lib.hid hQ6
 clear hQ0 hQ1 hQ2 hQ3 hQ4 hQ5 hQ6
 have hJ0:=es_nil w
 go_enter Try.func10,Try.ntmps10
 go_wp2_with fail
 refine (Hw.out _).mono ?_
 rintro zz W1 ⟨rfl,hB⟩
 have hJ1:=hJ0.later hB
 clear hB hJ0
 have qQ0:=Q0.out
 have qQ1:=Q1.out
 have qQ2:=Q2.out
 have qQ3:=Q3.out
 have qQ4:=Q4.out
 have qQ5:=Q5.out
 have qQ6:=Q6.out
 go_wp2
 exact bodyPost_ret (v:=.tuple #[.int .i64 (((n*r)*r)+(c*((k*c) - (k*k)))),.int .i64 d,.int .i64 0]) (by simp [results,Try.results10,go_sem,qQ0,qQ1,qQ2,qQ3,qQ4,qQ5,qQ6]) rfl ⟨rfl,hJ1.below⟩
set_option maxRecDepth 100000 in
set_option maxHeartbeats 12800000 in
theorem rbx01 (r c k n d:Int) (hHw:∀ W:World,Calls Try.prog 17 #[.int .i64 c,.int .i64 k] W (PVal (.tuple #[.int .i64 n,.int .i64 d]) W)) (w:World) (d0:decide (r < -32768)=false) (d1:decide (32768 < r)=false) (d2:decide (c < -32768)=false) (d3:decide (32768 < c)=false) (d4:decide (k < 0)=false) (d5:decide (32768 < k)=false) (d6:(d == 1)=true) (d7:(n == 1)=false) (d8:decide (c < 0)=false) (r1:-32768≤r) (r2:r≤32768) (c1:-32768≤c) (c2:c≤32768) (hQ0:-9223372036854775808≤n*r∧n*r≤9223372036854775807) (hQ1:-9223372036854775808≤n*r*r∧n*r*r≤9223372036854775807) (hQ2:-9223372036854775808≤k*c∧k*c≤9223372036854775807) (hQ3:-9223372036854775808≤k*k∧k*k≤9223372036854775807) (hQ4:-9223372036854775808≤k*c - k*k∧k*c - k*k≤9223372036854775807) (hQ5:-9223372036854775808≤c*(k*c - k*k)∧c*(k*c - k*k)≤9223372036854775807) (hQ6:-9223372036854775808≤n*r*r+c*(k*c - k*k)∧n*r*r+c*(k*c - k*k)≤9223372036854775807):Calls Try.prog 10 #[.int .i64 r,.int .i64 c,.int .i64 k] w (PVal (.tuple #[.int .i64 (((n*r)*r)+(c*((k*c) - (k*k)))),.int .i64 d,.int .i64 0]) w):=by
 have Hw:=Lib.hid hHw
 clear hHw
 have Q0:=Lib.hid hQ0
 have Q1:=Lib.hid hQ1
 have Q2:=Lib.hid hQ2
 have Q3:=Lib.hid hQ3
 have Q4:=Lib.hid hQ4
 have Q5:=Lib.hid hQ5
 have Q6:=Lib.hid hQ6
 clear hQ0 hQ1 hQ2 hQ3 hQ4 hQ5 hQ6
 have hJ0:=es_nil w
 go_enter Try.func10,Try.ntmps10
 go_wp2_with fail
 refine (Hw.out _).mono ?_
 rintro zz W1 ⟨rfl,hB⟩
 have hJ1:=hJ0.later hB
 clear hB hJ0
 have qQ0:=Q0.out
 have qQ1:=Q1.out
 have qQ2:=Q2.out
 have qQ3:=Q3.out
 have qQ4:=Q4.out
 have qQ5:=Q5.out
 have qQ6:=Q6.out
 go_wp2
 exact bodyPost_ret (v:=.tuple #[.int .i64 (((n*r)*r)+(c*((k*c) - (k*k)))),.int .i64 d,.int .i64 0]) (by simp [results,Try.results10,go_sem,qQ0,qQ1,qQ2,qQ3,qQ4,qQ5,qQ6]) rfl ⟨rfl,hJ1.below⟩
set_option maxRecDepth 100000 in
set_option maxHeartbeats 12800000 in
theorem rbx10 (r c k n d:Int) (hHw:∀ W:World,Calls Try.prog 17 #[.int .i64 c,.int .i64 k] W (PVal (.tuple #[.int .i64 n,.int .i64 d]) W)) (w:World) (d0:decide (r < -32768)=false) (d1:decide (32768 < r)=false) (d2:decide (c < -32768)=false) (d3:decide (32768 < c)=false) (d4:decide (k < 0)=false) (d5:decide (32768 < k)=false) (d6:(d == 1)=false) (d7:decide (c < 0)=true) (r1:-32768≤r) (r2:r≤32768) (c1:-32768≤c) (c2:c≤32768) (hQ0:-9223372036854775808≤n*r∧n*r≤9223372036854775807) (hQ1:-9223372036854775808≤n*r*r∧n*r*r≤9223372036854775807) (hQ2:-9223372036854775808≤k*(-c)∧k*(-c)≤9223372036854775807) (hQ3:-9223372036854775808≤k*k∧k*k≤9223372036854775807) (hQ4:-9223372036854775808≤k*(-c) - k*k∧k*(-c) - k*k≤9223372036854775807) (hQ5:-9223372036854775808≤(-c)*(k*(-c) - k*k)∧(-c)*(k*(-c) - k*k)≤9223372036854775807) (hQ6:-9223372036854775808≤n*r*r+(-c)*(k*(-c) - k*k)∧n*r*r+(-c)*(k*(-c) - k*k)≤9223372036854775807):Calls Try.prog 10 #[.int .i64 r,.int .i64 c,.int .i64 k] w (PVal (.tuple #[.int .i64 (((n*r)*r)+((-c)*((k*(-c)) - (k*k)))),.int .i64 d,.int .i64 0]) w):=by
 have Hw:=Lib.hid hHw
 clear hHw
 have Q0:=Lib.hid hQ0
 have Q1:=Lib.hid hQ1
 have Q2:=Lib.hid hQ2
 have Q3:=Lib.hid hQ3
 have Q4:=Lib.hid hQ4
 have Q5:=Lib.hid hQ5
 have Q6:=Lib.hid hQ6
 clear hQ0 hQ1 hQ2 hQ3 hQ4 hQ5 hQ6
 have hJ0:=es_nil w
 go_enter Try.func10,Try.ntmps10
 go_wp2_with fail
 refine (Hw.out _).mono ?_
 rintro zz W1 ⟨rfl,hB⟩
 have hJ1:=hJ0.later hB
 clear hB hJ0
 have qQ0:=Q0.out
 have qQ1:=Q1.out
 have qQ2:=Q2.out
 have qQ3:=Q3.out
 have qQ4:=Q4.out
 have qQ5:=Q5.out
 have qQ6:=Q6.out
 go_wp2
 exact bodyPost_ret (v:=.tuple #[.int .i64 (((n*r)*r)+((-c)*((k*(-c)) - (k*k)))),.int .i64 d,.int .i64 0]) (by simp [results,Try.results10,go_sem,qQ0,qQ1,qQ2,qQ3,qQ4,qQ5,qQ6]) rfl ⟨rfl,hJ1.below⟩
set_option maxRecDepth 100000 in
set_option maxHeartbeats 12800000 in
theorem rbx11 (r c k n d:Int) (hHw:∀ W:World,Calls Try.prog 17 #[.int .i64 c,.int .i64 k] W (PVal (.tuple #[.int .i64 n,.int .i64 d]) W)) (w:World) (d0:decide (r < -32768)=false) (d1:decide (32768 < r)=false) (d2:decide (c < -32768)=false) (d3:decide (32768 < c)=false) (d4:decide (k < 0)=false) (d5:decide (32768 < k)=false) (d6:(d == 1)=true) (d7:(n == 1)=false) (d8:decide (c < 0)=true) (r1:-32768≤r) (r2:r≤32768) (c1:-32768≤c) (c2:c≤32768) (hQ0:-9223372036854775808≤n*r∧n*r≤9223372036854775807) (hQ1:-9223372036854775808≤n*r*r∧n*r*r≤9223372036854775807) (hQ2:-9223372036854775808≤k*(-c)∧k*(-c)≤9223372036854775807) (hQ3:-9223372036854775808≤k*k∧k*k≤9223372036854775807) (hQ4:-9223372036854775808≤k*(-c) - k*k∧k*(-c) - k*k≤9223372036854775807) (hQ5:-9223372036854775808≤(-c)*(k*(-c) - k*k)∧(-c)*(k*(-c) - k*k)≤9223372036854775807) (hQ6:-9223372036854775808≤n*r*r+(-c)*(k*(-c) - k*k)∧n*r*r+(-c)*(k*(-c) - k*k)≤9223372036854775807):Calls Try.prog 10 #[.int .i64 r,.int .i64 c,.int .i64 k] w (PVal (.tuple #[.int .i64 (((n*r)*r)+((-c)*((k*(-c)) - (k*k)))),.int .i64 d,.int .i64 0]) w):=by
 have Hw:=Lib.hid hHw
 clear hHw
 have Q0:=Lib.hid hQ0
 have Q1:=Lib.hid hQ1
 have Q2:=Lib.hid hQ2
 have Q3:=Lib.hid hQ3
 have Q4:=Lib.hid hQ4
 have Q5:=Lib.hid hQ5
 have Q6:=Lib.hid hQ6
 clear hQ0 hQ1 hQ2 hQ3 hQ4 hQ5 hQ6
 have hJ0:=es_nil w
 go_enter Try.func10,Try.ntmps10
 go_wp2_with fail
 refine (Hw.out _).mono ?_
 rintro zz W1 ⟨rfl,hB⟩
 have hJ1:=hJ0.later hB
 clear hB hJ0
 have qQ0:=Q0.out
 have qQ1:=Q1.out
 have qQ2:=Q2.out
 have qQ3:=Q3.out
 have qQ4:=Q4.out
 have qQ5:=Q5.out
 have qQ6:=Q6.out
 go_wp2
 exact bodyPost_ret (v:=.tuple #[.int .i64 (((n*r)*r)+((-c)*((k*(-c)) - (k*k)))),.int .i64 d,.int .i64 0]) (by simp [results,Try.results10,go_sem,qQ0,qQ1,qQ2,qQ3,qQ4,qQ5,qQ6]) rfl ⟨rfl,hJ1.below⟩
theorem rbound_any (r c k:Int) (w:World):Calls Try.prog 10 #[.int .i64 r,.int .i64 c,.int .i64 k] w (PVal (.tuple #[.int .i64 (bN r c k),.int .i64 (bD r c k),.int .i64 (bE r c k)]) w):=by
 by_cases hw:wideB r c k=true
 ·
  rw [show bN r c k=0 from if_pos hw,show bD r c k=0 from if_pos hw,show bE r c k=90 from if_pos hw]
  by_cases h0:r < -32768
  ·
   exact rbo0 r c k w  (decide_eq_true h0)
  by_cases h1:32768 < r
  ·
   exact rbo1 r c k w (decide_eq_false h0) (decide_eq_true h1)
  by_cases h2:c < -32768
  ·
   exact rbo2 r c k w (decide_eq_false h0) (decide_eq_false h1) (decide_eq_true h2)
  by_cases h3:32768 < c
  ·
   exact rbo3 r c k w (decide_eq_false h0) (decide_eq_false h1) (decide_eq_false h2) (decide_eq_true h3)
  by_cases h4:k < 0
  ·
   exact rbo4 r c k w (decide_eq_false h0) (decide_eq_false h1) (decide_eq_false h2) (decide_eq_false h3) (decide_eq_true h4)
  by_cases h5:32768 < k
  ·
   exact rbo5 r c k w (decide_eq_false h0) (decide_eq_false h1) (decide_eq_false h2) (decide_eq_false h3) (decide_eq_false h4) (decide_eq_true h5)
  refine absurd hw ?_
  unfold wideB nearB
  simp
  omega
 ·
  rw [show bN r c k=wN c k*r*r+lft c k from if_neg hw,show bD r c k=wD c k from if_neg hw,show bE r c k=0 from if_neg hw]
  have hall:(-32768≤r∧r≤32768)∧(-32768≤c∧c≤32768)∧0≤k∧k≤32768:=by
   unfold wideB nearB at hw
   simp at hw
   omega
  obtain ⟨r1,c1,k1,k2⟩:=hall
  have h0:¬ r < -32768:=by omega
  have h1:¬ 32768 < r:=by omega
  have h2:¬ c < -32768:=by omega
  have h3:¬ 32768 < c:=by omega
  have h4:¬ k < 0:=by omega
  have h5:¬ 32768 < k:=by omega
  have ea:=aC_in c1
  have ek:=kC_in k1 k2
  have hq:=rweight_any c k
  unfold wN wD at hq
  unfold wN wD lft
  by_cases h:aC c≤kC k
  ·
   rw [if_pos h,if_pos h] at hq
   rw [if_pos h,if_pos h,if_pos h,show 1*r*r+0=r*r by rw [Int.one_mul,Int.add_zero]]
   have hs:=sq_near r1
   have hc:(c≤k∧-c≤k):=by have:=ea.1; split at this <;> omega
   exact rbi r c k hq w (decide_eq_false h0) (decide_eq_false h1) (decide_eq_false h2) (decide_eq_false h3) (decide_eq_false h4) (decide_eq_false h5) (decide_eq_true hc.1) (decide_eq_true hc.2) r1.1 r1.2 c1.1 c1.2 (by omega)
  ·
   rw [if_neg h,if_neg h] at hq
   rw [if_neg h,if_neg h,if_neg h]
   have hn:=nrr (n:=kC k) (by omega) r1
   have hl:=lft_in (a:=aC c) (k:=kC k) ea.2 (by omega) (by omega)
   rw [ek] at *
   by_cases hc:c < 0
   ·
    rw [if_pos hc] at ea
    rw [ea.1] at *
    by_cases hd:-c=1
    ·
     exact rbx11 r c k _ _ hq w (decide_eq_false h0) (decide_eq_false h1) (decide_eq_false h2) (decide_eq_false h3) (decide_eq_false h4) (decide_eq_false h5) (beq_iff_eq.2 hd) (beq_eq_false_iff_ne.2 (by omega)) (decide_eq_true hc) r1.1 r1.2 c1.1 c1.2 (by omega) (by omega) (by omega) (by omega) (by omega) (by omega) (by omega)
    ·
     exact rbx10 r c k _ _ hq w (decide_eq_false h0) (decide_eq_false h1) (decide_eq_false h2) (decide_eq_false h3) (decide_eq_false h4) (decide_eq_false h5) (beq_eq_false_iff_ne.2 hd) (decide_eq_true hc) r1.1 r1.2 c1.1 c1.2 (by omega) (by omega) (by omega) (by omega) (by omega) (by omega) (by omega)
   ·
    rw [if_neg hc] at ea
    rw [ea.1] at *
    by_cases hd:c=1
    ·
     exact rbx01 r c k _ _ hq w (decide_eq_false h0) (decide_eq_false h1) (decide_eq_false h2) (decide_eq_false h3) (decide_eq_false h4) (decide_eq_false h5) (beq_iff_eq.2 hd) (beq_eq_false_iff_ne.2 (by omega)) (decide_eq_false hc) r1.1 r1.2 c1.1 c1.2 (by omega) (by omega) (by omega) (by omega) (by omega) (by omega) (by omega)
    ·
     exact rbx00 r c k _ _ hq w (decide_eq_false h0) (decide_eq_false h1) (decide_eq_false h2) (decide_eq_false h3) (decide_eq_false h4) (decide_eq_false h5) (beq_eq_false_iff_ne.2 hd) (decide_eq_false hc) r1.1 r1.2 c1.1 c1.2 (by omega) (by omega) (by omega) (by omega) (by omega) (by omega) (by omega)
set_option maxRecDepth 100000 in
set_option maxHeartbeats 12800000 in
theorem hbs_w (r c k n d e:Int) (hHb:∀ W:World,Calls Try.prog 9 #[.int .i64 r,.int .i64 c,.int .i64 k] W (PVal (.tuple #[.int .i64 n,.int .i64 d,.int .i64 e]) W)) (hHr:∀ W:World,Calls Try.prog 10 #[.int .i64 r,.int .i64 c,.int .i64 k] W (PVal (.tuple #[.int .i64 n,.int .i64 d,.int .i64 e]) W)) (w:World)   :Calls Try.prog 3 #[.int .i64 r,.int .i64 c,.int .i64 k] w (PVal (.bool true) w):=by
 have Hb:=Lib.hid hHb
 have Hr:=Lib.hid hHr
 clear hHb hHr
 have hJ0:=es_nil w
 go_enter Try.func3,Try.ntmps3
 go_wp2_with fail
 refine (hawake_any w).mono ?_
 rintro zz W1 ⟨rfl,hB⟩
 have hJ1:=hJ0.later hB
 clear hB hJ0
 go_wp2_with fail
 refine (Hb.out _).mono ?_
 rintro zz W2 ⟨rfl,hB⟩
 have hJ2:=hJ1.later hB
 clear hB hJ1
 go_wp2_with fail
 refine (Hr.out _).mono ?_
 rintro zz W3 ⟨rfl,hB⟩
 have hJ3:=hJ2.later hB
 clear hB hJ2
 go_wp2
 go_ret
 exact ⟨rfl,hJ3.below⟩
theorem HuberBounds_any (r c k:Int) (w:World):Calls Try.prog 3 #[.int .i64 r,.int .i64 c,.int .i64 k] w (PVal (.bool true) w) :=
 hbs_w r c k _ _ _ (hbound_any r c k) (rbound_any r c k) w
end Go.Proofs.Ytncbajehmdnibaa
