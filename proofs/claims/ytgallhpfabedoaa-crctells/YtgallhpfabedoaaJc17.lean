/- Parts of the proof. -/
import Derived.Test.YtgallhpfabedoaaJc2
import Derived.Laws.IdiomStrings
import Derived.Test.YtgallhpfabedoaaJc16
import Derived.Test.YtgallhpfabedoaaJc1
set_option linter.unusedSimpArgs false
set_option linter.unusedVariables false
/- The document's check sums: the walks of Seal, Right. No statement of the seat is proved here. -/
namespace Go.Proofs.Ytgallhpfabedoaa
open Go Go.RowKit
theorem ul32:Try.prog.underlying 32=some (.slice 5):=by kernel_rfl
/-- Two bytes in new memory, as a text. -/
theorem str_two (w:World) (a b:Int) (x y:UInt8) (ha:a=(x.toNat:Nat)) (hb:b=(y.toNat:Nat)) :
  (convert 32 9 (.slice (some ⟨w.heap.size,0,none⟩) 2 2)).run Try.prog (w.alloc (.cells #[.int .u8 a,.int .u8 b] 5))=.ok (.string ⟨#[x,y]⟩) (w.alloc (.cells #[.int .u8 a,.int .u8 b] 5)):=by
 subst ha hb
 have hc:(w.alloc (.cells #[.int .u8 (x.toNat:Nat),.int .u8 (y.toNat:Nat)] 5)).heap[w.heap.size]?=some (.cells #[.int .u8 (x.toNat:Nat),.int .u8 (y.toNat:Nat)] 5 (0,0)):=heap_new w _
 exact run_convert_bytes_back (P:=Try.prog) _ 32 9 5 ⟨w.heap.size,0,none⟩ 2 [x,y] ul32 (by kernel_rfl) (by kernel_rfl) (fun j hj=>by
  have hj':j=0∨j=1:=by simp at hj; omega
  rcases hj' with rfl | rfl
  ·
   show World.cell? _ ⟨w.heap.size,0,none⟩=_
   unfold World.cell?
   simp only [hc]
   rfl
  ·
   show World.cell? _ ⟨w.heap.size,1,none⟩=_
   unfold World.cell?
   simp only [hc]
   rfl)
theorem app_two (s:ByteArray) (n:Nat) {l:List UInt8} (h:s.data.toList++X.twoB n=l):s++(⟨#[UInt8.ofNat (n / 256),UInt8.ofNat (n % 256)]⟩:ByteArray)=⟨l.toArray⟩:=by
 subst h
 refine ByteArray.ext ?_
 rw [ByteArray.data_append]
 refine Array.ext' ?_
 simp [X.twoB]
/-- A text, sealed. -/
def sealS (s:ByteArray):ByteArray:=⟨(X.sealB s.data.toList).toArray⟩
theorem seal_eq (s:ByteArray):s++(⟨#[UInt8.ofNat (X.csB 65535 s.data.toList / 256),UInt8.ofNat (X.csB 65535 s.data.toList % 256)]⟩:ByteArray)=sealS s:=app_two s _ rfl
set_option maxHeartbeats 1600000 in
theorem rseal_w (s t r:ByteArray) (n:Int) (w:World) (hs:s.size≤4611686018427387904) (ht:t.size=2) (h:0≤n∧n < 65536) (hof:∀ W,Calls Try.prog 13 #[.string s] W (PEq (.int .i64 n) W)) (hr:s++t=r)
  (hcv:(convert 32 9 (.slice (some ⟨w.heap.size,0,none⟩) 2 2)).run Try.prog (w.alloc (.cells #[.int .u8 (n / 256),.int .u8 (n % 256)] 5))=.ok (.string t) (w.alloc (.cells #[.int .u8 (n / 256),.int .u8 (n % 256)] 5))) :
  Calls Try.prog 16 #[.string s] w (PVal (.string r) w):=by
 have HC:=Lib.hid hof
 clear hof
 go_enter Try.func16,Try.ntmps16
 go_wp2_with fail
 refine (HC.out _).mono ?_
 rintro e w' ⟨rfl,rfl⟩
 go_wp2
 go_ret
 exact ⟨rfl,(Below.refl _ _).alloc (Nat.le_refl _) _⟩
theorem rseal_any (s:ByteArray) (w:World) (hs:s.size≤4611686018427387904):Calls Try.prog 16 #[.string s] w (PVal (.string (sealS s)) w):=by
 have hl:=X.csB_lt s.data.toList (show 65535 < 65536 by decide)
 obtain ⟨e1,e2⟩:=X.twoB_at hl
 exact rseal_w s _ _ _ w hs rfl (by omega) (fun W=>rof_any s W hs) (seal_eq s) (str_two w _ _ _ _ (by rw [e1]; omega) (by rw [e2]; omega))
set_option maxHeartbeats 1600000 in
theorem rright_short (s:ByteArray) (w:World) (hs:s.size≤4611686018427387904) (h:s.size < 2):Calls Try.prog 17 #[.string s] w (PVal (.bool false) w):=by
 go_enter Try.func17,Try.ntmps17
 go_wp2
 go_ret
 exact ⟨rfl,Below.refl _ _⟩
set_option maxHeartbeats 1600000 in
theorem rright_long (s t:ByteArray) (b:Bool) (w:World) (hs:s.size≤4611686018427387904) (h:2≤s.size) (hse:∀ W,Calls Try.prog 16 #[.string (s.extract 0 (s.size - 2))] W (PVal (.string t) W)) (hb:(t.toList == s.toList)=b):Calls Try.prog 17 #[.string s] w (PVal (.bool b) w):=by
 have HC:=Lib.hid hse
 clear hse
 go_enter Try.func17,Try.ntmps17
 go_wp2_with fail
 refine (HC.out _).mono ?_
 rintro e w' ⟨rfl,hB⟩
 go_wp2
 go_ret
 exact ⟨rfl,hB⟩
theorem seal_size (s:ByteArray):(sealS s).size=s.size+2:=by
 show (X.sealB s.data.toList).toArray.size=_
 rw [List.size_toArray,X.seal_len]
 rfl
/-- Is a text sealed? -/
def rightS (s:ByteArray):Bool:=X.rightB s.data.toList
theorem extract_list (s:ByteArray) (k:Nat):(s.extract 0 k).data.toList=s.data.toList.take k:=by
 rw [ByteArray.data_extract,Array.toList_extract]
 simp
theorem right_long {s:ByteArray} (h:2≤s.size):((sealS (s.extract 0 (s.size - 2))).toList == s.toList)=rightS s:=by
 have hl:s.data.toList.length=s.size:=rfl
 unfold rightS X.rightB
 rw [hl,decide_eq_true h,Bool.true_and]
 unfold sealS
 rw [extract_list]
 generalize X.sealB (List.take (s.size - 2) s.data.toList)=m
 rw [Lib.toList_data,Lib.toList_data,Bool.eq_iff_iff,beq_iff_eq,decide_eq_true_iff]
theorem right_short {s:ByteArray} (h:s.size < 2):rightS s=false:=by
 have hl:s.data.toList.length=s.size:=rfl
 unfold rightS X.rightB
 rw [hl,decide_eq_false (by omega)]
 rfl
theorem rright_any (s:ByteArray) (w:World) (hs:s.size≤4611686018427387900):Calls Try.prog 17 #[.string s] w (PVal (.bool (rightS s)) w):=by
 by_cases h:s.size < 2
 ·
  rw [right_short h]
  exact rright_short s w (by omega) h
 ·
  exact rright_long s _ _ w (by omega) (by omega) (fun W=>rseal_any _ W (by simp; omega)) (right_long (by omega))
theorem ub32:Try.prog.underlying 32=some (.slice 5):=by kernel_rfl
theorem ub5:Try.prog.underlying 5=some (.int .u8):=by kernel_rfl
theorem ub9:Try.prog.underlying 9=some .string:=by kernel_rfl
/-- Block g holds bytes that may be written: the j-th one is f j. -/
def Byt (w:World) (g n:Nat) (f:Nat→Nat):Prop:=∃ (C:Array Value) (m:Nat),w.heap[g]?=some (.cells C 5 (m,m+1))∧n≤C.size∧C.size≤m∧∀ j,j < n→C[j]?=some (.int .u8 (f j:Nat))
section
variable {w w':World} {g n:Nat} {f:Nat→Nat}
theorem Byt.cell (h:Byt w g n f) {i:Nat} (hi:i < n):w.cell? ⟨g,i,none⟩=some (.int .u8 (f i:Nat)):=by
 obtain ⟨C,m,h1,_,_,h4⟩:=h
 unfold World.cell?
 simp only [h1]
 exact h4 i hi
theorem Byt.free (h:Byt w g n f) {i:Nat} (hi:i < n):w.frozen? ⟨g,i,none⟩=false:=by
 obtain ⟨C,m,h1,h2,h3,_⟩:=h
 simp [World.frozen?,h1]
 omega
theorem Byt.below (h:Byt w g n f) (hb:Below w.heap.size w w'):Byt w' g n f:=by
 obtain ⟨C,m,h1,h2⟩:=h
 exact ⟨C,m,by rw [hb.block g (Array.getElem?_eq_some_iff.1 h1).1]; exact h1,h2⟩
theorem Byt.put (h:Byt w g n f) {i:Nat} {x:Int} {F:Nat→Nat} (hi:i < n) (hx:x=(F i:Nat)) (hf:∀ j,j < n→j ≠ i→f j=F j):Byt (w.setCell ⟨g,i,none⟩ (.int .u8 x)) g n F:=by
 subst hx
 obtain ⟨C,m,h1,h2,h3,h4⟩:=h
 refine ⟨C.setIfInBounds i (.int .u8 (F i:Nat)),m,?_,by simpa using h2,by simpa using h3,fun j hj=>?_⟩
 ·
  simp [World.setCell,Array.getElem?_modify,h1]
 ·
  by_cases e:i=j
  ·
   subst e
   rw [Array.getElem?_setIfInBounds_self_of_lt (by omega)]
  ·
   rw [Array.getElem?_setIfInBounds_ne e,h4 j hj,hf j hj (fun q=>e q.symm)]
theorem Byt.lt (h:Byt w g n f):g < w.heap.size:=by
 obtain ⟨C,m,h1,_⟩:=h
 exact (Array.getElem?_eq_some_iff.1 h1).1
end
/-- The i-th byte of a text, 0 behind the end. -/
def byA (s:ByteArray) (i:Nat):Nat:=if h:i < s.size then s[i].toNat else 0
theorem byA_eq {s:ByteArray} {i:Nat} (h:i < s.size):byA s i=s[i].toNat:=by unfold byA; rw [dif_pos h]
theorem byA_lt (s:ByteArray) (i:Nat):byA s i < 256:=by
 unfold byA
 split
 ·
  exact s[i].toNat_lt
 ·
  omega
theorem byF_get {f:Nat→Nat} {n j:Nat} (hj:j < (X.byF f n).length) (h:f j < 256):(X.byF f n)[j].toNat=f j:=by
 unfold X.byF at hj ⊢
 rw [List.getElem_map,List.getElem_range]
 simp
 omega
theorem byF_byA (s:ByteArray):X.byF (byA s) s.size=s.data.toList:=by
 unfold X.byF
 refine List.ext_getElem (by simp) fun i h1 h2=>?_
 have hi:i < s.size:=by simpa using h1
 rw [List.getElem_map,List.getElem_range,byA_eq hi]
 simp
 rfl
section
variable {P:Program} {Q:Exit→Act→World→Prop} {a:Act} {W:World} {o:Oper} {next:Act→World→Prop} {s:ByteArray}
theorem wp_cvb (x:Operand) (ho:o.op=.convert 9 32 x) (hx:a.eval x=.string s)
  (k:∀ (g c:Nat) (W':World),W.heap.size≤g→s.size≤c→Byt W' g s.size (byA s)→Below W.heap.size W W'→next (a.put o.dst (.slice (some ⟨g,0,none⟩) s.size c)) W'):o.wp Try.prog a W next Q:=by
 have e:(execOp a.eval o).run Try.prog W=.ok (.value (.slice (some ⟨W.heap.size,0,none⟩) s.size (grownCap W s.size 0 5))) (W.drew.alloc (.cells (bytesRow s (grownCap W s.size 0 5)) 5 ((bytesRow s (grownCap W s.size 0 5)).size,(bytesRow s (grownCap W s.size 0 5)).size+1))):=by
  unfold execOp
  rw [ho]
  simp only [hx,Sem.run_bind,run_bytes_of_string W 9 32 5 s ub9 ub32 ub5,Result.andThen]
  rfl
 unfold Oper.wp
 rw [e]
 have hsz:s.size≤(bytesRow s (grownCap W s.size 0 5)).size:=by
  unfold bytesRow
  rw [Array.size_append,Array.size_map]
  exact Nat.le_add_right _ _
 refine k _ _ _ (Nat.le_refl _) (grownCap_ge ..) ⟨_,_,heap_new _ _,hsz,Nat.le_refl _,fun j hj=>?_⟩ ((Below.refl _ _).drew.alloc (Nat.le_refl _) _)
 unfold bytesRow
 rw [Array.getElem?_append_left (by simpa using hj),Array.getElem?_map,Array.getElem?_eq_getElem (by simpa using hj),byA_eq hj]
 rfl
theorem wp_cvs {g n c:Nat} {f:Nat→Nat} (x:Operand) (ho:o.op=.convert 32 9 x) (hx:a.eval x=.slice (some ⟨g,0,none⟩) n c) (hb:Byt W g n f) (hf:∀ j,j < n→f j < 256)
  (k:next (a.put o.dst (.string ⟨(X.byF f n).toArray⟩)) W):o.wp Try.prog a W next Q:=by
 refine wp_run ?_ k
 have hr:=run_convert_bytes_back (P:=Try.prog) W 32 9 5 ⟨g,0,none⟩ c (X.byF f n) ub32 ub5 ub9 (fun j hj=>by
  have hj':j < n:=by rw [X.byF_len] at hj; exact hj
  rw [show (⟨g,0,none⟩:Addr).add j=⟨g,j,none⟩ by unfold Addr.add; split <;> simp_all,hb.cell hj']
  rw [byF_get hj (hf j hj')])
 rw [X.byF_len] at hr
 unfold execOp
 rw [ho]
 simp only [hx,Sem.run_bind,hr,Result.andThen]
 rfl
theorem wp_cvl {a':Option Addr} {n c:Nat} {f:Nat→Nat} (x:Operand) (ho:o.op=.convert 32 9 x) (hx:a.eval x=.slice a' n c) (hl:Lie .u8 W a' n c f) (hf:∀ j,j < n→f j < 256)
  (k:next (a.put o.dst (.string ⟨(X.byF f n).toArray⟩)) W):o.wp Try.prog a W next Q:=by
 refine wp_run ?_ k
 have hr:(convert 32 9 (.slice a' n c)).run Try.prog W=.ok (.string ⟨(X.byF f n).toArray⟩) W:=by
  rcases a' with _ | ⟨b,off,sub⟩
  ·
   have h0:n=0:=(hl.nil rfl).1
   subst h0
   rw [run_convert_bytes_string (P:=Try.prog) W 32 9 5 none 0 c ub32 ub5 ub9]
   simp [Conv.bytesToString]
   rfl
  ·
   have hs:=(hl.spot _ rfl).1
   simp only at hs
   subst hs
   have hr:=run_convert_bytes_back (P:=Try.prog) W 32 9 5 ⟨b,off,none⟩ c (X.byF f n) ub32 ub5 ub9 (fun j hj=>by
    have hj':j < n:=by rw [X.byF_len] at hj; exact hj
    rw [show (⟨b,off,none⟩:Addr).add j=⟨b,off+j,none⟩ by unfold Addr.add; split <;> simp_all,hl.at j hj',byF_get hj (hf j hj')])
   rw [X.byF_len] at hr
   exact hr
 unfold execOp
 rw [ho]
 simp only [hx,Sem.run_bind,hr,Result.andThen]
 rfl
end
/-- Is any of the first i bits set? -/
def anyN (p:Nat→Bool):Nat→Bool
 | 0=>false
 | i+1=>anyN p i || p i
/-- The bits of a pattern, the highest first. -/
def patB (n:Nat) (i:Nat):Bool:=n.testBit (15 - i)
theorem shr_bit {n:Nat} (hn:n < 65536) {i:Nat} (hi:i≤15):bits .and .u16 ((n:Int) / 2 ^ (15 - i)) 1=if patB n i then 1 else 0:=by
 have e:(n:Int) / 2 ^ (15 - i)=((n / 2 ^ (15 - i):Nat):Int):=by
  rw [Int.natCast_ediv,Int.natCast_pow]
  rfl
 have hl:n / 2 ^ (15 - i) < 65536:=Nat.lt_of_le_of_lt (Nat.div_le_self _ _) hn
 rw [e]
 refine (u16_and_nat _ 1 hl (by decide)).trans ?_
 rw [Nat.and_one_is_mod]
 unfold patB
 rw [Nat.testBit_eq_decide_div_mod_eq]
 by_cases h:n / 2 ^ (15 - i) % 2=1
 ·
  rw [h,decide_eq_true rfl]; rfl
 ·
  rw [decide_eq_false h,show n / 2 ^ (15 - i) % 2=0 by omega]; rfl
theorem turnN_no {f:Nat→Nat} {a i:Nat} {p:Nat→Bool} (h:p i=false):X.turnN f a p (i+1)=X.turnN f a p i:=by
 show (if p i then _ else _)=_
 rw [h]
 rfl
theorem turnN_yes {f:Nat→Nat} {a i:Nat} {p:Nat→Bool} (h:p i=true):X.turnN f a p (i+1)=X.turn1 (X.turnN f a p i) (a+i):=by
 show (if p i then _ else _)=_
 rw [h]
 rfl
theorem turn_at {F:Nat→Nat} {k q r:Nat} {x:Int} (hq:q=k / 8) (hr:r=k % 8) (hx:x=(F q ^^^ 128 >>> r:Nat)):x=(X.turn1 F k q:Nat):=by
 unfold X.turn1
 rw [if_pos hq,hx,hr]
theorem anyN_no {p:Nat→Bool}:∀ {i:Nat},anyN p i=false↔∀ j,j < i→p j=false
 | 0=>⟨fun _ j hj=>absurd hj (Nat.not_lt_zero j),fun _=>rfl⟩
 | i+1=>by
  show (anyN p i || p i)=false↔_
  rw [Bool.or_eq_false_iff,anyN_no]
  constructor
  ·
   rintro ⟨h1,h2⟩ j hj
   by_cases e:j=i
   ·
    rw [e]; exact h2
   ·
    exact h1 j (by omega)
  ·
   exact fun h=>⟨fun j hj=>h j (by omega),h i (by omega)⟩
/-- The sum of the turned bytes is that of the others just if none was turned. -/
theorem turn_sum {f:Nat→Nat} {n a i:Nat} {p:Nat→Bool} (hf:∀ j,f j < 256) (h:a+i≤8*n∧(i=16∨(i < 16∧8*n≤a+i))) (s0:Nat):X.csB s0 (X.byF (X.turnN f a p i) n)=X.csB s0 (X.byF f n)↔anyN p i=false:=by
 rw [X.win_sum (p:=p) (fun j _=>hf j) (fun j _=>X.turnN_lt hf a p i j) (by omega) (X.turnN_win h.2) s0,anyN_no]
 constructor
 ·
  intro g j hj
  exact g j (by omega) (by omega)
 ·
  intro g j hj hn
  exact g j (by omega)
theorem tells_right {t:ByteArray} {f:Nat→Nat} {a i:Nat} {p:Nat→Bool} (hf:f=byA t) (h2:2≤t.size) (h0:X.csB 65535 t.data.toList=0) (h:a+i≤8*t.size∧(i=16∨(i < 16∧8*t.size≤a+i))):rightS ⟨(X.byF (X.turnN f a p i) t.size).toArray⟩=!anyN p i:=by
 have key:=turn_sum (f:=f) (p:=p) (by rw [hf]; exact byA_lt t) h 65535
 have e:X.byF f t.size=t.data.toList:=by rw [hf]; exact byF_byA t
 rw [e,h0] at key
 unfold rightS
 rw [X.right_iff]
 show (decide (2≤(X.byF (X.turnN f a p i) t.size).length) && decide (X.csB 65535 (X.byF (X.turnN f a p i) t.size)=0))=_
 rw [X.byF_len,decide_eq_true h2,Bool.true_and]
 cases hp:anyN p i
 ·
  rw [decide_eq_true (key.2 hp)]; rfl
 ·
  rw [decide_eq_false (fun hc=>by have:=key.1 hc; rw [hp] at this; cases this)]; rfl
theorem turn_off {F:Nat→Nat} {k q N:Nat} (hq:q=k / 8):∀ j,j < N→j ≠ q→F j=X.turn1 F k j:=by
 intro j _ hj
 unfold X.turn1
 rw [if_neg (by rw [← hq]; exact hj)]
end Go.Proofs.Ytgallhpfabedoaa
