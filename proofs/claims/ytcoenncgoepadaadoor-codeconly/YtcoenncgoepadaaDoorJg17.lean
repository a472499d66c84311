/- Parts of the proof. -/
import Derived.Test.YtcoenncgoepadaaDoorJg0
import Derived.Test.YtcoenncgoepadaaDoorJg16
import Derived.Test.YtcoenncgoepadaaDoorJg2
import Derived.Laws.IdiomStrings
import Derived.Test.YtcoenncgoepadaaDoorProg
import Derived.KernelRfl
import Derived.Test.YtcoenncgoepadaaDoorJg6
import Derived.Lib.Strings
import Derived.Test.YtcoenncgoepadaaDoorJg5
import Derived.Test.YtcoenncgoepadaaDoorJg1
set_option linter.unusedSimpArgs false
set_option linter.unusedVariables false
/- Bytes of a text in new memory. No statement of the seat is proved here. -/
namespace Go.Proofs.YtcoenncgoepadaaDoor
open Go Go.RowKit
theorem ub38:Tryd.prog.underlying 38=some (.slice 5):=by kernel_rfl
theorem ub5:Tryd.prog.underlying 5=some (.int .u8):=by kernel_rfl
theorem ub9:Tryd.prog.underlying 9=some .string:=by kernel_rfl
/-- Block g holds bytes that may be written: the j-th one is f j. -/
def Byt (w:World) (g n:Nat) (f:Nat→Nat):Prop:=∃ (C:Array Value) (m:Nat),w.heap[g]?=some (.cells C 5 (m,m+1))∧n≤C.size∧C.size≤m∧∀ j,j < n→C[j]?=some (.int .u8 (f j:Nat))
section
variable {w w':World} {g n:Nat} {f:Nat→Nat}
theorem Byt.cell (h:Byt w g n f) {i:Nat} (hi:i < n):w.cell? ⟨g,i,none⟩=some (.int .u8 (f i:Nat)):=by
 obtain ⟨C,m,h1,_,_,h4⟩:=h
 unfold World.cell?
 simp only [h1]
 exact h4 i hi
theorem Byt.free (h:Byt w g n f) {i:Nat} (hi:i < n):w.frozen? ⟨g,i,none⟩=false:=by
 obtain ⟨C,m,h1,h2,h3,_⟩:=h
 simp [World.frozen?,h1]
 omega
theorem Byt.below (h:Byt w g n f) (hb:Below w.heap.size w w'):Byt w' g n f:=by
 obtain ⟨C,m,h1,h2⟩:=h
 exact ⟨C,m,by rw [hb.block g (Array.getElem?_eq_some_iff.1 h1).1]; exact h1,h2⟩
theorem Byt.put (h:Byt w g n f) {i:Nat} {x:Int} {F:Nat→Nat} (hi:i < n) (hx:x=(F i:Nat)) (hf:∀ j,j < n→j ≠ i→f j=F j):Byt (w.setCell ⟨g,i,none⟩ (.int .u8 x)) g n F:=by
 subst hx
 obtain ⟨C,m,h1,h2,h3,h4⟩:=h
 refine ⟨C.setIfInBounds i (.int .u8 (F i:Nat)),m,?_,by simpa using h2,by simpa using h3,fun j hj=>?_⟩
 ·
  simp [World.setCell,Array.getElem?_modify,h1]
 ·
  by_cases e:i=j
  ·
   subst e
   rw [Array.getElem?_setIfInBounds_self_of_lt (by omega)]
  ·
   rw [Array.getElem?_setIfInBounds_ne e,h4 j hj,hf j hj (fun q=>e q.symm)]
theorem Byt.lt (h:Byt w g n f):g < w.heap.size:=by
 obtain ⟨C,m,h1,_⟩:=h
 exact (Array.getElem?_eq_some_iff.1 h1).1
end
section
variable {P:Program} {Q:Exit→Act→World→Prop} {a:Act} {W:World} {o:Oper} {next:Act→World→Prop} {s:ByteArray}
end
section
variable {s:ByteArray} {i:Nat}
abbrev tl (s:ByteArray) (i:Nat):List UInt8:=s.data.toList.drop i
theorem tl_len:(tl s i).length=s.size - i:=by unfold tl; rw [List.length_drop]; rfl
theorem tl_take (a b:Nat) (hb:b≤s.size):(s.extract a b).data.toList=(tl s a).take (b - a):=by
 unfold tl
 rw [ByteArray.data_extract,Array.toList_extract,List.extract_eq_take_drop]
variable {fs:List (UInt8 × List UInt8)} {b j:Nat}
end
/-- The byte of a number at a place, the lowest at 0. -/
def pbz (z:Int) (l:Nat):UInt8:=UInt8.ofNat (z / 256 ^ l % 256).toNat
def pbs (z:Int):Nat→List UInt8
 | 0=>[]
 | n+1=>pbz z n :: pbs z n
theorem pbs_len (z:Int):∀ n,(pbs z n).length=n
 | 0=>rfl
 | n+1=>by show (pbs z n).length+1=_; rw [pbs_len z n]
theorem pbz_nat (z:Int) (l:Nat):((pbz z l).toNat:Int)=z / 256 ^ l % 256:=by
 unfold pbz
 rw [UInt8.toNat_ofNat']
 omega
/-- Bytes as values. -/
def bv (l:List UInt8):List Value:=l.map fun b=>Value.int .u8 (b.toNat:Nat)
theorem bv_len (l:List UInt8):(bv l).length=l.length:=List.length_map ..
theorem bv_snoc (xs:List Value) (l:List UInt8) (b:UInt8) (x:Int) (h:x=(b.toNat:Nat)):xs++(bv l++[.int .u8 x])=xs++bv (l++[b]):=by
 subst h
 unfold bv
 rw [List.map_append]
 rfl
theorem owns_on {w w':World} {base:Nat} {e:TypeId} {size:Nat} {v:Value} {n:Nat} {xs:List Value} (h:w.ownsRow base e size v n xs) (hb:Below w.heap.size w w'):w'.ownsRow base e size v n xs:=by
 obtain ⟨h1,h2⟩:=h
 refine ⟨h1,?_⟩
 rcases h2 with h2 | ⟨g,cap,cur,e1,hbase,hg,h3⟩
 ·
  exact .inl h2
 ·
  exact .inr ⟨g,cap,cur,e1,hbase,by rw [hb.block g (Array.getElem?_eq_some_iff.1 hg).1]; exact hg,h3⟩
/-- Bytes were put behind. -/
def PPut (B:Nat) (n:Nat) (xs:List Value) (w:World) (e:Ending) (w':World):Prop:=∃ v,e=.returned v∧w'.ownsRow B 5 1 v n xs∧Below B w w'
theorem pow8 (l:Nat):(256:Int) ^ l=2 ^ (8*l):=by rw [Int.pow_mul]; rfl
set_option maxRecDepth 100000 in
set_option maxHeartbeats 3200000 in
theorem put_any {B:Nat} {w:World} {v:Value} {n:Nat} {xs:List Value} (z:Int) (sz:Nat) (s:Int) (hs:s=(sz:Nat)) (hsz:sz≤4) (hB:B≤w.heap.size) (hn:n≤1000000) (how0:w.ownsRow B 5 1 v n xs) :
  Calls Tryd.prog 17 #[v,.int .i64 z,.int .i64 s] w (PPut B (n+sz) (xs++bv (pbs z sz)) w):=by
 obtain ⟨i0,hi0,hz0,hzz1,hzz2⟩:=info_parts Tryd.info5
 have HI:=Lib.hid (And.intro hi0 (And.intro hz0 (And.intro hzz1 hzz2)))
 have hs0:0≤s∧s≤4:=by omega
 have HS:=Lib.hid hs
 clear hi0 hz0 hzz1 hzz2 hs
 go_enter Tryd.func17,Tryd.ntmps17
 go_wp2
 go_loopg [0,7] sz (fun g ov lv wx=>∃ (done:List UInt8) (lz:Int),Hid (done++pbs z g=pbs z sz)∧Hid (lz=(g:Nat) - 1)∧Hid (done.length+g=sz)∧lv=.int .i64 lz∧wx.ownsRow B 5 1 ov (n+done.length) (xs++bv done)∧Below B w wx)
 case atStart=>exact ⟨[],s - 1,rfl,by have:=HS.out; show _=_; omega,Nat.zero_add _,rfl,by simpa [bv] using how0,Below.refl _ _⟩
 case round =>
  obtain ⟨done,lz,HD,HL,HG,rfl,how,hbl⟩:=hrel
  cases gk with
  | zero =>
   have hl:decide (0≤lz)=false:=decide_eq_false (by have:=HL.out; omega)
   have HE:Hid (done=pbs z sz):=by have:=HD.out; show _=_; rw [← this]; exact (List.append_nil _).symm
   go_wp2
   go_ret
   exact ⟨_,rfl,by have h:=how; rw [HE.out,pbs_len] at h; exact h,hbl⟩
  | succ r =>
   have hl:decide (0≤lz)=true:=decide_eq_true (by have:=HL.out; omega)
   have hl0:0≤lz:=by have:=HL.out; omega
   have hl3:lz≤3:=by have:=HL.out; have:=HG.out; omega
   obtain ⟨y,hy⟩:∃ y,z / 2 ^ (8*lz).toNat=y:=⟨_,rfl⟩
   obtain ⟨x,hx⟩:∃ x,IntKind.u8.wrap y=x:=⟨_,rfl⟩
   have HX:Hid (x=((pbz z r).toNat:Nat)):=by
    show _=_
    rw [← hx,← hy,pbz_nat,IntKind.wrap_u8',pow8,show (8*lz).toNat=8*r by have:=HL.out; omega]
   go_wp2_with (first
    | (at_builtin; refine wpList_append_own _ rfl _ _ 38 rfl B 5 i0 (.int .u8 0) 1 1 ub38 HI.out.1 HI.out.2.1 HI.out.2.2.1 HI.out.2.2.2 rfl (by decide) _ _ _ rfl (how.alloc _) ⟨wr.heap.size,0,none⟩ 1 1 [.int .u8 x] rfl rfl ?c1 ?c2 ?c3 ?c4 ?c5 ?_)
    | fail)
   case c1=>exact cell_one_new _ _ _
   case c2=>intro u hu; simp at hu; subst hu; rfl
   case c3=>have:=HG.out; unfold maxLen; omega
   case c4=>have:=HG.out; omega
   case c5=>have:=hbl.size; simp; omega
   intro v' w3 hown' hgrow _
   rw [bv_snoc _ _ _ _ HX.out] at hown'
   have hb3:Below B w w3:=(hbl.alloc (Nat.le_trans hB hbl.size) _).grown hgrow (by have:=hbl.size; simp; omega) (fun q hq=>(how.lt q hq).1)
   have HL2:Hid (lz - 1=(r:Nat) - 1):=by have:=HL.out; show _=_; omega
   have HD2:Hid ((done++[pbz z r])++pbs z r=pbs z sz):=by have:=HD.out; show _=_; rw [List.append_assoc]; exact this
   have HG2:Hid ((done++[pbz z r]).length+r=sz):=by have:=HG.out; show _=_; rw [List.length_append]; simp; omega
   have hown2:w3.ownsRow B 5 1 v' (n+(done++[pbz z r]).length) (xs++bv (done++[pbz z r])):=by rw [List.length_append]; exact hown'
   clear hgrow how hown' hy hx
   go_wp2
   go_roundg r
   case measure=>omega
   case rel=>exact ⟨done++[pbz z r],lz - 1,HD2,HL2,HG2,by go_num,hown2,hb3⟩
theorem nm_snoc (l:List UInt8) (x:UInt8):B.nm (l++[x])=256*B.nm l+x.toNat:=by
 unfold B.nm
 rw [List.foldl_append]
 rfl
theorem nm_lt:∀ (l:List UInt8),B.nm l < 256 ^ l.length:=by
 intro l
 have h:∀ (m:Nat) (l:List UInt8),l.length=m→B.nm l < 256 ^ m:=by
  intro m
  induction m with
  | zero=>intro l h; obtain rfl:=List.length_eq_zero_iff.1 h; decide
  | succ m ih =>
   intro l h
   have hne:l ≠ []:=by intro e; subst e; simp at h
   have h1:=ih l.dropLast (by simp; omega)
   rw [← List.dropLast_concat_getLast hne,nm_snoc,Nat.pow_succ]
   have:=(l.getLast hne).toNat_lt
   omega
 exact h _ l rfl
theorem nm_take {s:ByteArray} {k:Nat} (h:k < s.size):B.nm (s.data.toList.take (k+1))=256*B.nm (s.data.toList.take k)+s[k].toNat:=by
 rw [take_snoc s k h,nm_snoc]
theorem nm_lo {s:ByteArray} {k:Nat} (h:k≤3):B.nm (s.data.toList.take k) < 16777216:=by
 refine Nat.lt_of_lt_of_le (nm_lt _) ?_
 have h1:(s.data.toList.take k).length≤3:=by rw [List.length_take]; omega
 exact Nat.le_trans (Nat.pow_le_pow_right (by decide) h1) (by decide)
theorem i64_or_nat (a b:Nat) (ha:a < 9223372036854775808) (hb:b < 9223372036854775808):bits .or .i64 (a:Int) (b:Int)=((a ||| b:Nat):Int):=by
 have hx:a ||| b < 2 ^ 63:=Nat.or_lt_two_pow (by omega) (by omega)
 have e:∀ c:Nat,c < 9223372036854775808→(BitVec.ofInt 64 (c:Int)).toNat=c:=by
  intro c hc
  rw [BitVec.ofInt_natCast,BitVec.toNat_ofNat]
  exact Nat.mod_eq_of_lt (by omega)
 show IntKind.i64.wrap ((BitVec.ofInt 64 (a:Int) ||| BitVec.ofInt 64 (b:Int)).toNat:Int)=_
 rw [BitVec.toNat_or,e a ha,e b hb]
 exact IntWalk.i64_in _ ⟨by omega,by omega⟩
theorem or_byte {y:Int} {c:Nat} (h0:0≤y) (h:y < 16777216) (hc:c < 256):bits .or .i64 (y*256) (c:Int)=256*y+(c:Nat):=by
 obtain ⟨a,rfl⟩:=Int.eq_ofNat_of_zero_le h0
 have e:((a:Nat):Int)*(256:Int)=((a <<< 8:Nat):Int):=by rw [Nat.shiftLeft_eq]; omega
 rw [e,i64_or_nat _ _ (by rw [Nat.shiftLeft_eq]; omega) (by omega),← Nat.shiftLeft_add_eq_or_of_lt (show c < 2 ^ 8 by omega),Nat.shiftLeft_eq]
 omega
set_option maxHeartbeats 1600000 in
theorem unsigned_any (s:ByteArray) (w:World) (hs:s.size≤4):Calls Tryd.prog 20 #[.string s] w (PVal (.int .i64 (B.nm s.data.toList:Nat)) w):=by
 go_enter Tryd.func20,Tryd.ntmps20
 go_wp2
 go_loopg [3,7] s.size (fun g nv iv wx=>∃ (k:Nat) (y:Int),k+g=s.size∧iv=.int .i64 k∧nv=.int .i64 y∧Hid (y=(B.nm (s.data.toList.take k):Nat))∧wx=w)
 case atStart=>exact ⟨0,0,by omega,rfl,rfl,rfl,rfl⟩
 case round =>
  obtain ⟨k,y,hk,rfl,rfl,HY,rfl⟩:=hrel
  cases gk with
  | zero =>
   obtain rfl:k=s.size:=by omega
   have HE:Hid (y=(B.nm s.data.toList:Nat)):=by
    have:=HY.out
    rw [List.take_of_length_le (by simp)] at this
    exact this
   go_wp2
   go_ret
   exact ⟨ret_int HE.out,Below.refl _ _⟩
  | succ r =>
   have hlt:k < s.size:=by omega
   have hy0:0≤y:=by have:=HY.out; omega
   have hy1:y < 16777216:=by have:=HY.out; have:=nm_lo (s:=s) (k:=k) (by omega); omega
   have hc:=s[k].toNat_lt
   obtain ⟨y2,hy2⟩:∃ y2,bits .or .i64 (y*256) ((s[k].toNat:Nat):Int)=y2:=⟨_,rfl⟩
   have HN:Hid (y2=(B.nm (s.data.toList.take (k+1)):Nat)):=by
    show _=_
    rw [← hy2,or_byte hy0 hy1 hc,nm_take hlt]
    have:=HY.out
    omega
   go_wp2
   go_roundg r
   case measure=>omega
   case rel=>exact ⟨k+1,y2,by omega,by go_num,rfl,HN,rfl⟩
set_option maxHeartbeats 1600000 in
theorem number_any (s:ByteArray) (w:World) (hs:s.size≤4):Calls Tryd.prog 23 #[.string s] w (PVal (.int .i64 (B.nm s.data.toList:Nat)) w):=by
 go_enter Tryd.func23,Tryd.ntmps23
 go_wp2
 go_loopg [3,4] s.size (fun g nv iv wx=>∃ (k:Nat) (y:Int),k+g=s.size∧iv=.int .i64 k∧nv=.int .i64 y∧Hid (y=(B.nm (s.data.toList.take k):Nat))∧wx=w)
 case atStart=>exact ⟨0,0,by omega,rfl,rfl,rfl,rfl⟩
 case round =>
  obtain ⟨k,y,hk,rfl,rfl,HY,rfl⟩:=hrel
  cases gk with
  | zero =>
   obtain rfl:k=s.size:=by omega
   have HE:Hid (y=(B.nm s.data.toList:Nat)):=by
    have:=HY.out
    rw [List.take_of_length_le (by simp)] at this
    exact this
   go_wp2
   go_ret
   exact ⟨ret_int HE.out,Below.refl _ _⟩
  | succ r =>
   have hlt:k < s.size:=by omega
   have hy0:0≤y:=by have:=HY.out; omega
   have hy1:y < 16777216:=by have:=HY.out; have:=nm_lo (s:=s) (k:=k) (by omega); omega
   have hc:=s[k].toNat_lt
   have HN:Hid (256*y+(s[k].toNat:Nat)=(B.nm (s.data.toList.take (k+1)):Nat)):=by
    show _=_
    rw [nm_take hlt]
    have:=HY.out
    omega
   go_wp2
   go_roundg r
   case measure=>omega
   case rel=>exact ⟨k+1,256*y+(s[k].toNat:Nat),by omega,by go_num,by go_num,HN,rfl⟩
/-- Four bytes in memory, as a text. -/
theorem str_four (W:World) (x y z t:Int) (a b c d:UInt8) (hx:x=(a.toNat:Nat)) (hy:y=(b.toNat:Nat)) (hz:z=(c.toNat:Nat)) (ht:t=(d.toNat:Nat)) :
  (convert 38 9 (.slice (some ⟨W.heap.size,0,none⟩) 4 4)).run Tryd.prog (W.alloc (.cells #[.int .u8 x,.int .u8 y,.int .u8 z,.int .u8 t] 5))=.ok (.string ⟨#[a,b,c,d]⟩) (W.alloc (.cells #[.int .u8 x,.int .u8 y,.int .u8 z,.int .u8 t] 5)):=by
 subst hx hy hz ht
 have hc:(W.alloc (.cells #[.int .u8 (a.toNat:Nat),.int .u8 (b.toNat:Nat),.int .u8 (c.toNat:Nat),.int .u8 (d.toNat:Nat)] 5)).heap[W.heap.size]?=some (.cells #[.int .u8 (a.toNat:Nat),.int .u8 (b.toNat:Nat),.int .u8 (c.toNat:Nat),.int .u8 (d.toNat:Nat)] 5 (0,0)):=heap_new W _
 exact run_convert_bytes_back (P:=Tryd.prog) _ 38 9 5 ⟨W.heap.size,0,none⟩ 4 [a,b,c,d] ub38 ub5 ub9 (fun j hj=>by
  have hj':j=0∨j=1∨j=2∨j=3:=by simp at hj; omega
  rcases hj' with rfl | rfl | rfl | rfl
  ·
   show World.cell? _ ⟨W.heap.size,0,none⟩=_
   unfold World.cell?
   simp only [hc]
   rfl
  ·
   show World.cell? _ ⟨W.heap.size,1,none⟩=_
   unfold World.cell?
   simp only [hc]
   rfl
  ·
   show World.cell? _ ⟨W.heap.size,2,none⟩=_
   unfold World.cell?
   simp only [hc]
   rfl
  ·
   show World.cell? _ ⟨W.heap.size,3,none⟩=_
   unfold World.cell?
   simp only [hc]
   rfl)
theorem td {n:Int} (h:0≤n) (k:Int) (hk:0 < k):n.tdiv k=n / k:=Int.tdiv_eq_ediv_of_nonneg h
theorem tm {n:Int} (h:0≤n) (k:Int):n.tmod k=n % k:=Int.tmod_eq_emod_of_nonneg h
set_option maxHeartbeats 1600000 in
theorem four_w (n:Int) (a1 b1 b2 c1 c2 d2 x y z t:Int) (s:ByteArray) (w:World) (e1:n.tdiv 16777216=a1) (e2:n.tdiv 65536=b1) (e3:b1.tmod 256=b2) (e4:n.tdiv 256=c1) (e5:c1.tmod 256=c2) (e6:n.tmod 256=d2)
  (f1:a1 % 256=x) (f2:b2 % 256=y) (f3:c2 % 256=z) (f4:d2 % 256=t) (ha:0≤a1∧a1≤4294967295) (hb:0≤b1∧b1≤4294967295) (hc:0≤c1∧c1≤4294967295)
  (hcv:∀ W:World,(convert 38 9 (.slice (some ⟨W.heap.size,0,none⟩) 4 4)).run Tryd.prog (W.alloc (.cells #[.int .u8 x,.int .u8 y,.int .u8 z,.int .u8 t] 5))=.ok (.string s) (W.alloc (.cells #[.int .u8 x,.int .u8 y,.int .u8 z,.int .u8 t] 5))) :
  Calls Tryd.prog 19 #[.int .i64 n] w (PVal (.string s) w):=by
 have hcv:=hcv w
 go_enter Tryd.func19,Tryd.ntmps19
 go_wp2
 go_ret
 exact ⟨rfl,(Below.refl _ _).alloc (Nat.le_refl _) _⟩
theorem four_any (n:Nat) (z:Int) (hz:z=(n:Nat)) (h:n < 4294967296) (w:World):Calls Tryd.prog 19 #[.int .i64 z] w (PVal (.string ⟨(B.b4 n).toArray⟩) w):=by
 subst hz
 have hn:(0:Int)≤(n:Int):=by omega
 refine four_w _ (n / 16777216:Nat) (n / 65536:Nat) (n / 65536 % 256:Nat) (n / 256:Nat) (n / 256 % 256:Nat) (n % 256:Nat) _ _ _ _ _ w (td hn _ (by decide)) (td hn _ (by decide)) (tm (by omega) _) (td hn _ (by decide)) (tm (by omega) _) (tm hn _)
  rfl rfl rfl rfl (by omega) (by omega) (by omega) (fun W=>str_four W _ _ _ _ (UInt8.ofNat (n / 16777216)) (UInt8.ofNat (n / 65536 % 256)) (UInt8.ofNat (n / 256 % 256)) (UInt8.ofNat (n % 256)) ?_ ?_ ?_ ?_)
 all_goals (simp; try omega)
theorem zv24 (W:World):(zeroValue 24).run Tryd.prog W=.ok (.agg #[.int .i64 0,.int .i64 0,.int .i64 0,.slice none 0 0]) W:=by kernel_rfl
theorem sz24 (W:World):(sizeOf 24).run Tryd.prog W=.ok 4 W:=by kernel_rfl
theorem ag24 (W:World):(isAgg 24).run Tryd.prog W=.ok true W:=by kernel_rfl
section
variable {P:Program} {w W:World} {fn:Func} {tmps:Array Value} {t t1 b n:Nat} {T T':TypeId} {C:Array Value} {u:Value} {l:List (Nat × Array Value × TypeId)}
theorem res_ct (k:Nat) (hf:fn.results=#[.cell t T,.tmp t1]) (h:Es w W l) (hj:l[k]?=some (b,C,T')) (hagg:∀ W,(isAgg T).run P W=.ok true W) (hn:∀ W,(sizeOf T).run P W=.ok n W) (hs:n≤C.size) (hp:tmps.getD t undef=.pointer (some ⟨b,0,none⟩)) (hD:C.extract 0 (0+n)=C) (hu:tmps.getD t1 undef=u):(results fn tmps).run P W=.ok (.tuple #[.agg C,u]) W:=by
 have hl:=run_loadAgg (P:=P) (T:=T) (off:=0) (h.at' _ (List.mem_of_getElem? hj)) hagg hn (by omega)
 rw [hD] at hl
 unfold Instr.loadAt at hl
 have hsa:(Instr.sureAddr (.pointer (some ⟨b,0,none⟩))).run P W=.ok ⟨b,0,none⟩ W:=rfl
 have h1:(loadVar T ⟨b,0,none⟩).run P W=.ok (.agg C) W:=by simpa only [Sem.run_bind,hsa,Result.andThen] using hl
 have e1:tmps[t]?.getD undef=.pointer (some ⟨b,0,none⟩):=by rw [← Array.getD_eq_getD_getElem?]; exact hp
 have e2:tmps[t1]?.getD undef=u:=by rw [← Array.getD_eq_getD_getElem?]; exact hu
 unfold results
 rw [hf]
 simp [e1,e2,asAddr,Sem.run_bind,h1,Result.andThen,Sem.run_pure]
end
set_option maxRecDepth 100000 in
set_option maxHeartbeats 3200000 in
theorem checked_ok {w:World} {k a q:Int} {ad:Option Addr} {n c:Nat} {vs:List Int} (he:err k a q vs=0) (hT:Tab w) (hv:Il w ad vs) (hn:vs.length=n) (hnb:n≤20000000000000):Calls Tryd.prog 22 #[.agg #[.int .i64 k,.int .i64 a,.int .i64 q,(.slice ad n c)]] w (PVal (.tuple #[.agg #[.int .i64 k,.int .i64 a,.int .i64 q,(.slice ad n c)],.int .i64 0]) w):=by
 have HT:=Lib.hid hT
 have HV:=Lib.hid hv
 have HN:=Lib.hid hn
 have HE:=Lib.hid he
 clear hT hv hn he
 have hJ0:=es_nil w
 go_enter Tryd.func22,Tryd.ntmps22
 go_wp2_with (refine stop_box 24 (.tmp 0) #[.int .i64 k,.int .i64 a,.int .i64 q,(.slice ad n c)] rfl rfl rfl hJ0 (fun bk1 W1 hJ1=>?_))
 clear hJ0
 simp only [Stop,Act.put,zzC,zzD,zzE]
 go_wp2_with (refine stop_alloc 24 #[.int .i64 0,.int .i64 0,.int .i64 0,.slice none 0 0] (.agg #[.int .i64 0,.int .i64 0,.int .i64 0,.slice none 0 0]) rfl rfl zv24 rfl hJ1 (fun bk2 W2 hJ2=>?_))
 clear hJ1
 simp only [Stop,Act.put,zzC,zzD,zzE]
 go_wp2_with (refine stop_load 24 (.tmp 1) 1 bk1 0 4 #[.int .i64 k,.int .i64 a,.int .i64 q,(.slice ad n c)] #[.int .i64 k,.int .i64 a,.int .i64 q,(.slice ad n c)] 24 rfl rfl rfl hJ2 rfl ag24 sz24 (zzF (by kernel_rfl)) (by kernel_rfl) ?_)
 simp only [Stop,Act.put,zzC,zzD,zzE]
 go_wp2_with fail
 refine (fault_any (HT.out.below hJ2.below) (HV.out.below hJ2.below) HN.out hnb).mono ?_
 rintro e W3 ⟨rfl,hB⟩
 have hJ3:=hJ2.later hB
 clear hJ2 hB
 rw [HE.out]
 go_wp2_with (refine stop_load 24 (.tmp 1) 1 bk1 0 4 #[.int .i64 k,.int .i64 a,.int .i64 q,(.slice ad n c)] #[.int .i64 k,.int .i64 a,.int .i64 q,(.slice ad n c)] 24 rfl rfl rfl hJ3 rfl ag24 sz24 (zzF (by kernel_rfl)) (by kernel_rfl) ?_)
 simp only [Stop,Act.put,zzC,zzD,zzE]
 go_wp2_with (refine stop_store 24 (.tmp 2) (.tmp 11) 0 bk2 0 #[.int .i64 0,.int .i64 0,.int .i64 0,.slice none 0 0] 24 4 #[.int .i64 k,.int .i64 a,.int .i64 q,(.slice ad n c)].toList #[.int .i64 k,.int .i64 a,.int .i64 q,(.slice ad n c)] [(bk2,#[.int .i64 k,.int .i64 a,.int .i64 q,(.slice ad n c)],24),(bk1,#[.int .i64 k,.int .i64 a,.int .i64 q,(.slice ad n c)],24)] rfl rfl rfl rfl sz24 hJ3 rfl (by kernel_rfl) (zzF (by kernel_rfl)) (by kernel_rfl) (by kernel_rfl) (by kernel_rfl) (fun W4 hJ4=>?_))
 clear hJ3
 simp only [Stop,Act.put,zzC,zzD,zzE]
 go_wp2
 exact bodyPost_ret (v:=.tuple #[.agg #[.int .i64 k,.int .i64 a,.int .i64 q,(.slice ad n c)],.int .i64 0]) (res_ct 0 Tryd.results22 hJ4 rfl ag24 sz24 (zzF (by kernel_rfl)) rfl (by kernel_rfl) rfl) rfl ⟨rfl,hJ4.below⟩
set_option maxRecDepth 100000 in
set_option maxHeartbeats 3200000 in
theorem checked_no {w:World} {k a q:Int} {ad:Option Addr} {n c:Nat} {vs:List Int} {E:Int} (he:err k a q vs=E) (hE:E ≠ 0) (hT:Tab w) (hv:Il w ad vs) (hn:vs.length=n) (hnb:n≤20000000000000):Calls Tryd.prog 22 #[.agg #[.int .i64 k,.int .i64 a,.int .i64 q,(.slice ad n c)]] w (PVal (.tuple #[.agg #[.int .i64 0,.int .i64 0,.int .i64 0,.slice none 0 0],.int .i64 E]) w):=by
 have HT:=Lib.hid hT
 have HV:=Lib.hid hv
 have HN:=Lib.hid hn
 have HE:=Lib.hid he
 clear hT hv hn he
 have e0:(E != 0)=true:=by rw [bne_iff_ne]; exact hE
 clear hE
 have hJ0:=es_nil w
 go_enter Tryd.func22,Tryd.ntmps22
 go_wp2_with (refine stop_box 24 (.tmp 0) #[.int .i64 k,.int .i64 a,.int .i64 q,(.slice ad n c)] rfl rfl rfl hJ0 (fun bk1 W1 hJ1=>?_))
 clear hJ0
 simp only [Stop,Act.put,zzC,zzD,zzE]
 go_wp2_with (refine stop_alloc 24 #[.int .i64 0,.int .i64 0,.int .i64 0,.slice none 0 0] (.agg #[.int .i64 0,.int .i64 0,.int .i64 0,.slice none 0 0]) rfl rfl zv24 rfl hJ1 (fun bk2 W2 hJ2=>?_))
 clear hJ1
 simp only [Stop,Act.put,zzC,zzD,zzE]
 go_wp2_with (refine stop_load 24 (.tmp 1) 1 bk1 0 4 #[.int .i64 k,.int .i64 a,.int .i64 q,(.slice ad n c)] #[.int .i64 k,.int .i64 a,.int .i64 q,(.slice ad n c)] 24 rfl rfl rfl hJ2 rfl ag24 sz24 (zzF (by kernel_rfl)) (by kernel_rfl) ?_)
 simp only [Stop,Act.put,zzC,zzD,zzE]
 go_wp2_with fail
 refine (fault_any (HT.out.below hJ2.below) (HV.out.below hJ2.below) HN.out hnb).mono ?_
 rintro e W3 ⟨rfl,hB⟩
 have hJ3:=hJ2.later hB
 clear hJ2 hB
 rw [HE.out]
 go_wp2_with (refine zso rfl (fun K hK=>wp_bld (v:=.agg #[.int .i64 0,.int .i64 0,.int .i64 0,.slice none 0 0]) 24 #[] rfl rfl (fun _=>by kernel_rfl) (hK _ _ ?_)))
 simp only [Stop,Act.put,zzC,zzD,zzE]
 go_wp2_with (refine stop_store 24 (.tmp 2) (.tmp 9) 0 bk2 0 #[.int .i64 0,.int .i64 0,.int .i64 0,.slice none 0 0] 24 4 #[.int .i64 0,.int .i64 0,.int .i64 0,.slice none 0 0].toList #[.int .i64 0,.int .i64 0,.int .i64 0,.slice none 0 0] [(bk2,#[.int .i64 0,.int .i64 0,.int .i64 0,.slice none 0 0],24),(bk1,#[.int .i64 k,.int .i64 a,.int .i64 q,(.slice ad n c)],24)] rfl rfl rfl rfl sz24 hJ3 rfl (by kernel_rfl) (zzF (by kernel_rfl)) (by kernel_rfl) (by kernel_rfl) (by kernel_rfl) (fun W4 hJ4=>?_))
 clear hJ3
 simp only [Stop,Act.put,zzC,zzD,zzE]
 go_wp2
 exact bodyPost_ret (v:=.tuple #[.agg #[.int .i64 0,.int .i64 0,.int .i64 0,.slice none 0 0],.int .i64 E]) (res_ct 0 Tryd.results22 hJ4 rfl ag24 sz24 (zzF (by kernel_rfl)) rfl (by kernel_rfl) rfl) rfl ⟨rfl,hJ4.below⟩
/-- A measurement's bytes. -/
def encS (a q:Int) (vs:List Int):ByteArray:=⟨(B.enc a.toNat q.toNat vs).toArray⟩
theorem pbs_four {z:Int} {n:Nat} (h:z % 4294967296=(n:Nat)):pbs z 4=B.b4 n:=by
 have e:∀ x y:Int,x=y→UInt8.ofNat x.toNat=UInt8.ofNat y.toNat:=fun x y h=>by rw [h]
 show [pbz z 3,pbz z 2,pbz z 1,pbz z 0]=[UInt8.ofNat (n / 16777216),UInt8.ofNat (n / 65536 % 256),UInt8.ofNat (n / 256 % 256),UInt8.ofNat (n % 256)]
 have h3:pbz z 3=UInt8.ofNat (n / 16777216):=by
  have:=e (z / 256 ^ 3 % 256) ((n / 16777216:Nat):Int) (by rw [show (256:Int) ^ 3=16777216 by rfl]; omega)
  rw [Int.toNat_natCast] at this
  exact this
 have h2:pbz z 2=UInt8.ofNat (n / 65536 % 256):=by
  have:=e (z / 256 ^ 2 % 256) ((n / 65536 % 256:Nat):Int) (by rw [show (256:Int) ^ 2=65536 by rfl]; omega)
  rw [Int.toNat_natCast] at this
  exact this
 have h1:pbz z 1=UInt8.ofNat (n / 256 % 256):=by
  have:=e (z / 256 ^ 1 % 256) ((n / 256 % 256:Nat):Int) (by rw [show (256:Int) ^ 1=256 by rfl]; omega)
  rw [Int.toNat_natCast] at this
  exact this
 have h0:pbz z 0=UInt8.ofNat (n % 256):=by
  have:=e (z / 256 ^ 0 % 256) ((n % 256:Nat):Int) (by rw [show (256:Int) ^ 0=1 by rfl]; omega)
  rw [Int.toNat_natCast] at this
  exact this
 rw [h3,h2,h1,h0]
theorem pbs_two {z:Int} {n:Nat} (h:z=(n:Nat)) (hn:n < 65536):pbs z 2=B.b2 n:=by
 have e:∀ x y:Int,x=y→UInt8.ofNat x.toNat=UInt8.ofNat y.toNat:=fun x y h=>by rw [h]
 show [pbz z 1,pbz z 0]=[UInt8.ofNat (n / 256),UInt8.ofNat (n % 256)]
 have h1:pbz z 1=UInt8.ofNat (n / 256):=by
  have:=e (z / 256 ^ 1 % 256) ((n / 256:Nat):Int) (by rw [show (256:Int) ^ 1=256 by rfl]; omega)
  rw [Int.toNat_natCast] at this
  exact this
 have h0:pbz z 0=UInt8.ofNat (n % 256):=by
  have:=e (z / 256 ^ 0 % 256) ((n % 256:Nat):Int) (by rw [show (256:Int) ^ 0=1 by rfl]; omega)
  rw [Int.toNat_natCast] at this
  exact this
 rw [h1,h0]
theorem tc_mod {v:Int} (h:okV v):v % 4294967296=(B.tc v:Nat):=by
 unfold B.tc
 unfold okV at h
 split <;> omega
theorem ev_app:∀ (l m:List Int),B.ev (l++m)=B.ev l++B.ev m
 | [],_=>rfl
 | v :: l,m=>by
  show B.b4 (B.tc v)++B.ev (l++m)=(B.b4 (B.tc v)++B.ev l)++B.ev m
  rw [ev_app l m,List.append_assoc]
theorem ev_take {vs:List Int} {i:Nat} (h:i < vs.length):B.ev (vs.take (i+1))=B.ev (vs.take i)++B.b4 (B.tc vs[i]):=by
 rw [List.take_succ_eq_append_getElem h,ev_app]
 show B.ev (vs.take i)++(B.b4 (B.tc vs[i])++[])=_
 rw [List.append_nil]
theorem conv_own {W:World} {base:Nat} {v:Value} {n:Nat} {l:List UInt8} (h:W.ownsRow base 5 1 v n (bv l)):(convert 38 9 v).run Tryd.prog W=.ok (.string ⟨l.toArray⟩) W:=by
 have hl:l.length=n:=by have:=h.1; rw [bv_len,Nat.mul_one] at this; exact this
 rcases h.2 with ⟨rfl,rfl⟩ | ⟨g,cap,cur,rfl,hb,hg,_⟩
 ·
  obtain rfl:=List.length_eq_zero_iff.1 hl
  rw [run_convert_bytes_string (P:=Tryd.prog) W 38 9 5 none 0 0 ub38 ub5 ub9]
  simp [Conv.bytesToString]
  rfl
 ·
  have hr:=run_convert_bytes_back (P:=Tryd.prog) W 38 9 5 ⟨g,0,none⟩ cap l ub38 ub5 ub9 (fun j hj=>by
   refine h.cells (g:=g) rfl j _ ?_
   unfold bv
   rw [List.getElem?_map,List.getElem?_eq_getElem hj]
   rfl)
  rw [hl] at hr
  exact hr
set_option maxRecDepth 100000 in
set_option maxHeartbeats 3200000 in
theorem encode_no {w:World} {k a q:Int} {ad:Option Addr} {n c:Nat} {vs:List Int} {E:Int} (he:err k a q vs=E) (hE:E ≠ 0) (hT:Tab w) (hv:Il w ad vs) (hn:vs.length=n) (hnb:n≤20000000000000):Calls Tryd.prog 9 #[.agg #[.int .i64 k,.int .i64 a,.int .i64 q,(.slice ad n c)]] w (PVal (.tuple #[.int .u8 0,.string ⟨#[]⟩,.int .i64 E]) w):=by
 have HT:=Lib.hid hT
 have HV:=Lib.hid hv
 have HN:=Lib.hid hn
 have HE:=Lib.hid he
 clear hT hv hn he
 have e0:(E != 0)=true:=by rw [bne_iff_ne]; exact hE
 clear hE
 have hJ0:=es_nil w
 go_enter Tryd.func9,Tryd.ntmps9
 go_wp2_with (refine stop_box 24 (.tmp 0) #[.int .i64 k,.int .i64 a,.int .i64 q,(.slice ad n c)] rfl rfl rfl hJ0 (fun bk1 W1 hJ1=>?_))
 clear hJ0
 simp only [Stop,Act.put,zzC,zzD,zzE]
 go_wp2_with (refine stop_load 24 (.tmp 1) 0 bk1 0 4 #[.int .i64 k,.int .i64 a,.int .i64 q,(.slice ad n c)] #[.int .i64 k,.int .i64 a,.int .i64 q,(.slice ad n c)] 24 rfl rfl rfl hJ1 rfl ag24 sz24 (zzF (by kernel_rfl)) (by kernel_rfl) ?_)
 simp only [Stop,Act.put,zzC,zzD,zzE]
 go_wp2_with fail
 refine (fault_any (HT.out.below hJ1.below) (HV.out.below hJ1.below) HN.out hnb).mono ?_
 rintro e W2 ⟨rfl,hB⟩
 have hJ2:=hJ1.later hB
 clear hJ1 hB
 rw [HE.out]
 go_wp2
 exact bodyPost_ret (v:=.tuple #[.int .u8 0,.string ⟨#[]⟩,.int .i64 E]) (by simp [results,Tryd.results9,go_sem]) rfl ⟨rfl,hJ2.below⟩
set_option maxRecDepth 100000 in
set_option maxHeartbeats 3200000 in
theorem encode_ok {w:World} {k a q:Int} {ad:Option Addr} {n c:Nat} {vs:List Int} (he:err k a q vs=0) (hT:Tab w) (hv:Il w ad vs) (hn:vs.length=n) (hnb:n≤20000000000000):Calls Tryd.prog 9 #[.agg #[.int .i64 k,.int .i64 a,.int .i64 q,(.slice ad n c)]] w (PVal (.tuple #[.int .u8 k,.string (encS a q vs),.int .i64 0]) w):=by
 have HT:=Lib.hid hT
 have HV:=Lib.hid hv
 have HN:=Lib.hid hn
 have HE:=Lib.hid he
 clear hT hv hn he
 have HK:=Lib.hid (of_err HE.out)
 have hk:1≤k∧k≤4:=(cnt_pos k).1 (Nat.pos_of_ne_zero HK.out.1)
 have hn6:n≤6:=by have:=HK.out.2.1; have:=HN.out; have:=cnt_le k; omega
 have ha:0≤a∧a≤4294967295:=HK.out.2.2.1
 have hq:0≤q∧q≤65535:=HK.out.2.2.2.1
 clear hnb
 have hnb:n≤20000000000000:=by omega
 have hJ0:=es_nil w
 go_enter Tryd.func9,Tryd.ntmps9
 go_wp2_with (refine stop_box 24 (.tmp 0) #[.int .i64 k,.int .i64 a,.int .i64 q,(.slice ad n c)] rfl rfl rfl hJ0 (fun bk1 W1 hJ1=>?_))
 clear hJ0
 simp only [Stop,Act.put,zzC,zzD,zzE]
 go_wp2_with (refine stop_load 24 (.tmp 1) 0 bk1 0 4 #[.int .i64 k,.int .i64 a,.int .i64 q,(.slice ad n c)] #[.int .i64 k,.int .i64 a,.int .i64 q,(.slice ad n c)] 24 rfl rfl rfl hJ1 rfl ag24 sz24 (zzF (by kernel_rfl)) (by kernel_rfl) ?_)
 simp only [Stop,Act.put,zzC,zzD,zzE]
 go_wp2_with fail
 refine (fault_any (HT.out.below hJ1.below) (HV.out.below hJ1.below) HN.out hnb).mono ?_
 rintro e W2 ⟨rfl,hB⟩
 have hJ2:=hJ1.later hB
 clear hJ1 hB
 rw [HE.out]
 have hM:=Mb.of hJ2 0 rfl
 have c1:=hM.c1
 go_wp2_with fail
 refine (put_any (B:=W2.heap.size) a 4 4 rfl (by decide) (Nat.le_refl _) (by omega) (World.ownsRow_nil _ _ _ _)).mono ?_
 rintro e W3 ⟨v3,rfl,how3,hb3⟩
 have c2:=(hM.below hb3).c2
 clear c1
 go_wp2_with fail
 refine (put_any (B:=W2.heap.size) q 2 2 rfl (by decide) hb3.size (by omega) how3).mono ?_
 rintro e W4 ⟨v4,rfl,how4,hb4⟩
 have hb:=hb3.trans hb4
 have how:W4.ownsRow W2.heap.size 5 1 v4 6 (bv (B.b4 a.toNat++B.b2 q.toNat++B.ev (vs.take 0))):=by
  rw [pbs_four (n:=a.toNat) (by omega),pbs_two (n:=q.toNat) (by omega) (by omega)] at how4
  rw [List.take_zero,show B.ev []=[] by rfl,List.append_nil]
  unfold bv
  rw [List.map_append]
  exact how4
 clear how3 how4 hb3 hb4 c2
 have hM4:=hM.below hb
 have c0:=hM4.c0
 have c3:=hM4.c3
 go_wp2
 go_loopg [5,23] n (fun g ov iv wx=>∃ (i m:Nat),i+g=n∧iv=.int .i64 i∧Hid (m=6+4*i)∧wx.ownsRow W2.heap.size 5 1 ov m (bv (B.b4 a.toNat++B.b2 q.toNat++B.ev (vs.take i)))∧Below W2.heap.size W2 wx)
 case atStart=>exact ⟨0,6,by omega,rfl,rfl,how,hb⟩
 case round =>
  obtain ⟨i,m,hi,rfl,HM,how,hb⟩:=hrel
  have hBw:=hJ2.below.trans (hb.mono hJ2.below.size)
  cases gk with
  | zero =>
   obtain rfl:i=n:=by omega
   obtain ⟨l,hl⟩:∃ l,B.b4 a.toNat++B.b2 q.toNat++B.ev (vs.take i)=l:=⟨_,rfl⟩
   rw [hl] at how
   have HL:Hid ((⟨l.toArray⟩:ByteArray)=encS a q vs):=by
    show _=_
    rw [← hl,List.take_of_length_le (by rw [HN.out]; omega),List.append_assoc]
    rfl
   have hMr:=hM.below hb
   have hw:IntKind.u8.wrap k=k:=by rw [IntKind.wrap_u8']; omega
   clear hM c0 c3 hb hl
   go_wp2
   refine wp_region_vals 8 [some 31,some 32,some 33,some 34,some 35,some 2,some 3,some 4] (lstV [.pointer (some ⟨bk1,0,none⟩),.int .i64 k,.int .u8 k,u5,.string ⟨l.toArray⟩,.int .u8 k,.string ⟨l.toArray⟩,.int .i64 0]) (fun W=>W.ownsRow W2.heap.size 5 1 u5 m (bv l)∧Mb W bk1 k a q (.slice ad i c)∧Below w.heap.size w W) (by kernel_rfl) (by kernel_rfl) (by decide) (⟨how.drew,hMr.below (Below.refl _ _).drew,hBw.drew⟩) ?_ ?_
   ·
    intro i hl hi u W hJ hd
    obtain rfl | rfl | rfl | rfl | rfl | rfl | rfl | rfl:i=0∨i=1∨i=2∨i=3∨i=4∨i=5∨i=6∨i=7:=by omega
    ·
     clear hd
     simp only [zzA,zzB]
     clear hl
     refine .inr ⟨rfl,fun K' hK=>?_⟩
     have HK:=Lib.hid hK
     clear hK
     simp only [layS,Act.put,zzC,zzD,zzE,Nat.zero_add,Nat.reduceAdd]
     go_simp
     exact HK.out _ _ (by simp [layS,updV,lstV,Act.put]) hJ
    ·
     have e0:u 0=.pointer (some ⟨bk1,0,none⟩):=hd 0 (by kernel_rfl)
     clear hd
     simp only [zzA,zzB]
     clear hl
     refine .inr ⟨rfl,fun K' hK=>?_⟩
     have HK:=Lib.hid hK
     clear hK
     simp only [layS,Act.put,zzC,zzD,zzE,Nat.zero_add,Nat.reduceAdd,e0]
     have E0:=Lib.hid e0
     clear e0
     have hcell:=hJ.2.1.c0
     go_simp
     exact HK.out _ _ (by simp [layS,updV,lstV,Act.put,E0.out]) hJ
    ·
     have e1:u 1=.int .i64 k:=hd 1 (by kernel_rfl)
     clear hd
     simp only [zzA,zzB]
     clear hl
     refine .inr ⟨rfl,fun K' hK=>?_⟩
     have HK:=Lib.hid hK
     clear hK
     simp only [layS,Act.put,zzC,zzD,zzE,Nat.zero_add,Nat.reduceAdd,e1]
     have E1:=Lib.hid e1
     clear e1
     go_simp
     exact HK.out _ _ (by simp [layS,updV,lstV,Act.put,E1.out]) hJ
    ·
     clear hd
     simp only [zzA,zzB]
     clear hl
     refine .inr ⟨rfl,fun K' hK=>?_⟩
     have HK:=Lib.hid hK
     clear hK
     simp only [layS,Act.put,zzC,zzD,zzE,Nat.zero_add,Nat.reduceAdd]
     go_simp
     exact HK.out _ _ (by simp [layS,updV,lstV,Act.put]) hJ
    ·
     have e3:u 3=u5:=hd 3 (by kernel_rfl)
     clear hd
     simp only [zzA,zzB]
     clear hl
     refine .inr ⟨rfl,fun K' hK=>?_⟩
     have HK:=Lib.hid hK
     clear hK
     simp only [layS,Act.put,zzC,zzD,zzE,Nat.zero_add,Nat.reduceAdd,e3]
     have E3:=Lib.hid e3
     clear e3
     have hcv:=conv_own hJ.1
     go_simp
     exact HK.out _ _ (by simp [layS,updV,lstV,Act.put,E3.out]) hJ
    ·
     have e2:u 2=.int .u8 k:=hd 2 (by kernel_rfl)
     clear hd
     simp only [zzA,zzB]
     clear hl
     refine .inr ⟨rfl,fun K' hK=>?_⟩
     have HK:=Lib.hid hK
     clear hK
     simp only [layS,Act.put,zzC,zzD,zzE,Nat.zero_add,Nat.reduceAdd,e2]
     have E2:=Lib.hid e2
     clear e2
     go_simp
     exact HK.out _ _ (by simp [layS,updV,lstV,Act.put,E2.out]) hJ
    ·
     have e4:u 4=.string ⟨l.toArray⟩:=hd 4 (by kernel_rfl)
     clear hd
     simp only [zzA,zzB]
     clear hl
     refine .inr ⟨rfl,fun K' hK=>?_⟩
     have HK:=Lib.hid hK
     clear hK
     simp only [layS,Act.put,zzC,zzD,zzE,Nat.zero_add,Nat.reduceAdd,e4]
     have E4:=Lib.hid e4
     clear e4
     go_simp
     exact HK.out _ _ (by simp [layS,updV,lstV,Act.put,E4.out]) hJ
    ·
     clear hd
     simp only [zzA,zzB]
     clear hl
     refine .inr ⟨rfl,fun K' hK=>?_⟩
     have HK:=Lib.hid hK
     clear hK
     simp only [layS,Act.put,zzC,zzD,zzE,Nat.zero_add,Nat.reduceAdd]
     go_simp
     exact HK.out _ _ (by simp [layS,updV,lstV,Act.put]) hJ
   intro W hJ
   simp only [layS,lstV,Act.put,zzC,zzD,zzE,Nat.zero_add,Nat.reduceAdd,List.getD_cons_zero,List.getD_cons_succ,List.drop_succ_cons,List.drop_zero,List.drop_nil]
   go_wp2
   exact bodyPost_ret (v:=.tuple #[.int .u8 k,.string ⟨l.toArray⟩,.int .i64 0]) (by simp [results,Tryd.results9,go_sem]) rfl ⟨by rw [HL.out],hJ.2.2⟩
  | succ r =>
   have hin:i < vs.length:=by rw [HN.out]; omega
   obtain ⟨b2,o,rfl,hc⟩:=(HV.out.below hBw) i hin
   obtain ⟨x,hx⟩:∃ x,vs[i]=x:=⟨_,rfl⟩
   rw [hx] at hc
   have HX:Hid (pbs x 4=B.b4 (B.tc vs[i])):=by
    show _=_
    rw [hx]
    exact pbs_four (tc_mod (HK.out.2.2.2.2 x (hx ▸ List.getElem_mem hin)))
   clear hx
   go_wp2_with fail
   refine (put_any (B:=W2.heap.size) x 4 4 rfl (by decide) hb.size (by have:=HM.out; omega) how).mono ?_
   rintro e W5 ⟨v5,rfl,how5,hb5⟩
   have how6:W5.ownsRow W2.heap.size 5 1 v5 (m+4) (bv (B.b4 a.toNat++B.b2 q.toNat++B.ev (vs.take (i+1)))):=by
    rw [ev_take hin,← List.append_assoc,← HX.out]
    unfold bv at how5 ⊢
    rw [List.map_append]
    exact how5
   have HM2:Hid (m+4=6+4*(i+1)):=by have:=HM.out; show _=_; omega
   have hb6:=hb.trans hb5
   clear how5 hb5 how hc
   go_wp2
   go_roundg r
   case measure=>omega
   case rel=>exact ⟨i+1,m+4,by omega,by go_num,HM2,how6,hb6⟩
theorem b4_low {n:Nat} (h:n < 65536):(B.b4 n).drop 2=B.b2 n:=by
 show [UInt8.ofNat (n / 256 % 256),UInt8.ofNat (n % 256)]=[UInt8.ofNat (n / 256),UInt8.ofNat (n % 256)]
 rw [Nat.mod_eq_of_lt (show n / 256 < 256 by omega)]
theorem data_ext {s:ByteArray} {l:List UInt8} (h:s.data.toList=l):s=⟨l.toArray⟩:=by
 subst h
 cases s
 rfl
set_option maxRecDepth 100000 in
set_option maxHeartbeats 3200000 in
theorem rencode_no {w:World} {k a q:Int} {ad:Option Addr} {n c:Nat} {vs:List Int} {E:Int} (he:err k a q vs=E) (hE:E ≠ 0) (hT:True) (hv:Il w ad vs) (hn:vs.length=n) (hnb:n≤20000000000000):Calls Tryd.prog 10 #[.agg #[.int .i64 k,.int .i64 a,.int .i64 q,(.slice ad n c)]] w (PVal (.tuple #[.int .u8 0,.string ⟨#[]⟩,.int .i64 E]) w):=by
 have HT:=Lib.hid hT
 have HV:=Lib.hid hv
 have HN:=Lib.hid hn
 have HE:=Lib.hid he
 clear hT hv hn he
 have e0:(E != 0)=true:=by rw [bne_iff_ne]; exact hE
 clear hE
 have hJ0:=es_nil w
 go_enter Tryd.func10,Tryd.ntmps10
 go_wp2_with (refine stop_box 24 (.tmp 0) #[.int .i64 k,.int .i64 a,.int .i64 q,(.slice ad n c)] rfl rfl rfl hJ0 (fun bk1 W1 hJ1=>?_))
 clear hJ0
 simp only [Stop,Act.put,zzC,zzD,zzE]
 go_wp2_with (refine stop_load 24 (.tmp 1) 0 bk1 0 4 #[.int .i64 k,.int .i64 a,.int .i64 q,(.slice ad n c)] #[.int .i64 k,.int .i64 a,.int .i64 q,(.slice ad n c)] 24 rfl rfl rfl hJ1 rfl ag24 sz24 (zzF (by kernel_rfl)) (by kernel_rfl) ?_)
 simp only [Stop,Act.put,zzC,zzD,zzE]
 go_wp2_with fail
 refine (rright12_any trivial (HV.out.below hJ1.below) HN.out hnb).mono ?_
 rintro e W2 ⟨rfl,hB⟩
 have hJ2:=hJ1.later hB
 clear hJ1 hB
 rw [HE.out]
 go_wp2
 exact bodyPost_ret (v:=.tuple #[.int .u8 0,.string ⟨#[]⟩,.int .i64 E]) (by simp [results,Tryd.results10,go_sem]) rfl ⟨rfl,hJ2.below⟩
set_option maxRecDepth 100000 in
set_option maxHeartbeats 3200000 in
theorem rencode_ok {w:World} {k a q:Int} {ad:Option Addr} {n c:Nat} {vs:List Int} (he:err k a q vs=0) (hT:True) (hv:Il w ad vs) (hn:vs.length=n) (hnb:n≤20000000000000):Calls Tryd.prog 10 #[.agg #[.int .i64 k,.int .i64 a,.int .i64 q,(.slice ad n c)]] w (PVal (.tuple #[.int .u8 k,.string (encS a q vs),.int .i64 0]) w):=by
 have HT:=Lib.hid hT
 have HV:=Lib.hid hv
 have HN:=Lib.hid hn
 have HE:=Lib.hid he
 clear hT hv hn he
 have HK:=Lib.hid (of_err HE.out)
 have hk:1≤k∧k≤4:=(cnt_pos k).1 (Nat.pos_of_ne_zero HK.out.1)
 have hn6:n≤6:=by have:=HK.out.2.1; have:=HN.out; have:=cnt_le k; omega
 have ha:0≤a∧a≤4294967295:=HK.out.2.2.1
 have hq:0≤q∧q≤65535:=HK.out.2.2.2.1
 clear hnb
 have hnb:n≤20000000000000:=by omega
 have hJ0:=es_nil w
 go_enter Tryd.func10,Tryd.ntmps10
 go_wp2_with (refine stop_box 24 (.tmp 0) #[.int .i64 k,.int .i64 a,.int .i64 q,(.slice ad n c)] rfl rfl rfl hJ0 (fun bk1 W1 hJ1=>?_))
 clear hJ0
 simp only [Stop,Act.put,zzC,zzD,zzE]
 go_wp2_with (refine stop_load 24 (.tmp 1) 0 bk1 0 4 #[.int .i64 k,.int .i64 a,.int .i64 q,(.slice ad n c)] #[.int .i64 k,.int .i64 a,.int .i64 q,(.slice ad n c)] 24 rfl rfl rfl hJ1 rfl ag24 sz24 (zzF (by kernel_rfl)) (by kernel_rfl) ?_)
 simp only [Stop,Act.put,zzC,zzD,zzE]
 go_wp2_with fail
 refine (rright12_any trivial (HV.out.below hJ1.below) HN.out hnb).mono ?_
 rintro e W2 ⟨rfl,hB⟩
 have hJ2:=hJ1.later hB
 clear hJ1 hB
 rw [HE.out]
 have hM:=Mb.of hJ2 0 rfl
 have hBw:=hJ2.below
 obtain ⟨s1,hs1⟩:∃ s,(⟨(B.b4 a.toNat).toArray⟩:ByteArray)=s:=⟨_,rfl⟩
 obtain ⟨s2,hs2⟩:∃ s,(⟨(B.b4 q.toNat).toArray⟩:ByteArray)=s:=⟨_,rfl⟩
 have HF1:Hid (∀ W,Calls Tryd.prog 19 #[.int .i64 a] W (PVal (.string s1) W)):=fun W=>hs1 ▸ four_any a.toNat a (by omega) (by omega) W
 have HF2:Hid (∀ W,Calls Tryd.prog 19 #[.int .i64 q] W (PVal (.string s2) W)):=fun W=>hs2 ▸ four_any q.toNat q (by omega) (by omega) W
 have hz1:s1.size=4:=by rw [← hs1]; rfl
 have hz2:s2.size=4:=by rw [← hs2]; rfl
 obtain ⟨s3,hs3⟩:∃ s3,s2.extract 2 4=s3:=⟨_,rfl⟩
 obtain ⟨s4,hs4⟩:∃ s4,s1++s3=s4:=⟨_,rfl⟩
 have hz3:s3.size=2:=by rw [← hs3,ByteArray.size_extract]; omega
 have HS:Hid (s4.data.toList=B.b4 a.toNat++B.b2 q.toNat++B.ev (vs.take 0)):=by
  show _=_
  have e3:s3.data.toList=B.b2 q.toNat:=by
   rw [← hs3,tl_take 2 4 (by omega),← hs2,← b4_low (n:=q.toNat) (by omega)]
   rfl
  rw [List.take_zero,show B.ev []=[] by rfl,List.append_nil,← hs4,ByteArray.data_append,Array.toList_append,e3,← hs1]
 clear hJ2 hs1 hs2
 go_wp2
 refine wp_region_vals 9 [some 14,some 15,some 16,some 17,some 18,some 19,some 20,some 21,some 6] (lstV [.pointer (some ⟨bk1,1,none⟩),.int .i64 a,.string s1,.pointer (some ⟨bk1,2,none⟩),.int .i64 q,.string s2,.string s3,.string s4,.string s4]) (fun W=>Mb W bk1 k a q (.slice ad n c)∧Below w.heap.size w W) (by kernel_rfl) (by kernel_rfl) (by decide) (⟨hM.below (Below.refl _ _).drew,hBw.drew⟩) ?_ ?_
 ·
  intro i hl hi u W hJ hd
  obtain rfl | rfl | rfl | rfl | rfl | rfl | rfl | rfl | rfl:i=0∨i=1∨i=2∨i=3∨i=4∨i=5∨i=6∨i=7∨i=8:=by omega
  ·
   clear hd
   simp only [zzA,zzB]
   clear hl
   refine .inr ⟨rfl,fun K' hK=>?_⟩
   have HK:=Lib.hid hK
   clear hK
   simp only [layS,Act.put,zzC,zzD,zzE,Nat.zero_add,Nat.reduceAdd]
   go_simp
   exact HK.out _ _ (by simp [layS,updV,lstV,Act.put]) hJ
  ·
   have e0:u 0=.pointer (some ⟨bk1,1,none⟩):=hd 0 (by kernel_rfl)
   clear hd
   simp only [zzA,zzB]
   clear hl
   refine .inr ⟨rfl,fun K' hK=>?_⟩
   have HK:=Lib.hid hK
   clear hK
   simp only [layS,Act.put,zzC,zzD,zzE,Nat.zero_add,Nat.reduceAdd,e0]
   have E0:=Lib.hid e0
   clear e0
   have hcell:=hJ.1.c1
   go_simp
   exact HK.out _ _ (by simp [layS,updV,lstV,Act.put,E0.out]) hJ
  ·
   have e1:u 1=.int .i64 a:=hd 1 (by kernel_rfl)
   clear hd
   simp only [zzA,zzB]
   clear hl
   refine .inr ⟨rfl,fun K' hK=>?_⟩
   have HK:=Lib.hid hK
   clear hK
   simp only [layS,Act.put,zzC,zzD,zzE,Nat.zero_add,Nat.reduceAdd,e1]
   have E1:=Lib.hid e1
   clear e1
   go_simp
   refine (HF1.out _).mono ?_
   rintro e W' ⟨rfl,hB⟩
   exact HK.out _ _ (by simp [layS,updV,lstV,Act.put,E1.out]) (⟨hJ.1.below hB,hJ.2.trans (hB.mono hJ.2.size)⟩)
  ·
   clear hd
   simp only [zzA,zzB]
   clear hl
   refine .inr ⟨rfl,fun K' hK=>?_⟩
   have HK:=Lib.hid hK
   clear hK
   simp only [layS,Act.put,zzC,zzD,zzE,Nat.zero_add,Nat.reduceAdd]
   go_simp
   exact HK.out _ _ (by simp [layS,updV,lstV,Act.put]) hJ
  ·
   have e3:u 3=.pointer (some ⟨bk1,2,none⟩):=hd 3 (by kernel_rfl)
   clear hd
   simp only [zzA,zzB]
   clear hl
   refine .inr ⟨rfl,fun K' hK=>?_⟩
   have HK:=Lib.hid hK
   clear hK
   simp only [layS,Act.put,zzC,zzD,zzE,Nat.zero_add,Nat.reduceAdd,e3]
   have E3:=Lib.hid e3
   clear e3
   have hcell:=hJ.1.c2
   go_simp
   exact HK.out _ _ (by simp [layS,updV,lstV,Act.put,E3.out]) hJ
  ·
   have e4:u 4=.int .i64 q:=hd 4 (by kernel_rfl)
   clear hd
   simp only [zzA,zzB]
   clear hl
   refine .inr ⟨rfl,fun K' hK=>?_⟩
   have HK:=Lib.hid hK
   clear hK
   simp only [layS,Act.put,zzC,zzD,zzE,Nat.zero_add,Nat.reduceAdd,e4]
   have E4:=Lib.hid e4
   clear e4
   go_simp
   refine (HF2.out _).mono ?_
   rintro e W' ⟨rfl,hB⟩
   exact HK.out _ _ (by simp [layS,updV,lstV,Act.put,E4.out]) (⟨hJ.1.below hB,hJ.2.trans (hB.mono hJ.2.size)⟩)
  ·
   have e5:u 5=.string s2:=hd 5 (by kernel_rfl)
   clear hd
   simp only [zzA,zzB]
   clear hl
   refine .inr ⟨rfl,fun K' hK=>?_⟩
   have HK:=Lib.hid hK
   clear hK
   simp only [layS,Act.put,zzC,zzD,zzE,Nat.zero_add,Nat.reduceAdd,e5]
   have E5:=Lib.hid e5
   clear e5
   go_simp
   exact HK.out _ _ (by simp [layS,updV,lstV,Act.put,E5.out]) hJ
  ·
   have e2:u 2=.string s1:=hd 2 (by kernel_rfl)
   have e6:u 6=.string s3:=hd 6 (by kernel_rfl)
   clear hd
   simp only [zzA,zzB]
   clear hl
   refine .inr ⟨rfl,fun K' hK=>?_⟩
   have HK:=Lib.hid hK
   clear hK
   simp only [layS,Act.put,zzC,zzD,zzE,Nat.zero_add,Nat.reduceAdd,e2,e6]
   have E2:=Lib.hid e2
   have E6:=Lib.hid e6
   clear e2 e6
   have hzz:¬ 9223372036854775807 < s1.size+s3.size:=by omega
   go_simp
   exact HK.out _ _ (by simp [layS,updV,lstV,Act.put,E2.out,E6.out]) hJ
  ·
   have e7:u 7=.string s4:=hd 7 (by kernel_rfl)
   clear hd
   simp only [zzA,zzB]
   clear hl
   refine .inr ⟨rfl,fun K' hK=>?_⟩
   have HK:=Lib.hid hK
   clear hK
   simp only [layS,Act.put,zzC,zzD,zzE,Nat.zero_add,Nat.reduceAdd,e7]
   have E7:=Lib.hid e7
   clear e7
   go_simp
   exact HK.out _ _ (by simp [layS,updV,lstV,Act.put,E7.out]) hJ
 intro W hJ
 simp only [layS,lstV,Act.put,zzC,zzD,zzE,Nat.zero_add,Nat.reduceAdd,List.getD_cons_zero,List.getD_cons_succ,List.drop_succ_cons,List.drop_zero,List.drop_nil]
 obtain ⟨hM,hBw⟩:=hJ
 clear hs3 hs4 hz1 hz2 hz3
 go_wp2
 go_loopg [6,7] n (fun g ov iv wx=>∃ (i:Nat) (s:ByteArray),i+g=n∧iv=.int .i64 i∧ov=.string s∧Hid (s.data.toList=B.b4 a.toNat++B.b2 q.toNat++B.ev (vs.take i))∧Mb wx bk1 k a q (.slice ad n c)∧Below w.heap.size w wx)
 case atStart=>exact ⟨0,s4,by omega,rfl,rfl,HS,hM,hBw⟩
 case round =>
  clear hM hBw
  obtain ⟨i,s,hi,rfl,rfl,HS,hM,hBw⟩:=hrel
  have c0:=hM.c0
  have c3:=hM.c3
  cases gk with
  | zero =>
   obtain rfl:i=n:=by omega
   have hl:¬ (i:Int) < (i:Int):=by omega
   have HL:Hid (s=encS a q vs):=by
    have h:=data_ext HS.out
    rw [List.take_of_length_le (by rw [HN.out]; omega),List.append_assoc] at h
    exact h
   have hw:IntKind.u8.wrap k=k:=by rw [IntKind.wrap_u8']; omega
   clear c3
   have c3:=hM.c3
   go_wp2
   exact bodyPost_ret (v:=.tuple #[.int .u8 k,.string s,.int .i64 0]) (by simp [results,Tryd.results10,go_sem]) rfl ⟨by rw [HL.out],hBw⟩
  | succ r =>
   have hlt:(i:Int) < (n:Int):=by omega
   have hin:i < vs.length:=by rw [HN.out]; omega
   obtain ⟨b2,o,rfl,hc⟩:=(HV.out.below hBw) i hin
   obtain ⟨x,hx⟩:∃ x,vs[i]=x:=⟨_,rfl⟩
   rw [hx] at hc
   have HO:Hid (okV x):=HK.out.2.2.2.2 x (hx ▸ List.getElem_mem hin)
   obtain ⟨s5,hs5⟩:∃ s,(⟨(B.b4 (B.tc x)).toArray⟩:ByteArray)=s:=⟨_,rfl⟩
   obtain ⟨s6,hs6⟩:∃ s6,s++s5=s6:=⟨_,rfl⟩
   have hz5:s5.size=4:=by rw [← hs5]; rfl
   have hzs:s.size=6+4*i:=by
    show s.data.toList.length=_
    rw [HS.out,List.length_append,List.length_append,B.ev_len,List.length_take,Nat.min_eq_left (by omega),B.len4,B.len2]
   have hzz:¬ 9223372036854775807 < s.size+s5.size:=by omega
   have HZ:=Lib.hid hz5
   have HS6:Hid (s6.data.toList=B.b4 a.toNat++B.b2 q.toNat++B.ev (vs.take (i+1))):=by
    show _=_
    rw [← hs6,ByteArray.data_append,Array.toList_append,HS.out,ev_take hin,hx,← hs5]
    simp only [List.append_assoc]
   have HX:=Lib.hid hx
   clear hx hz5 hzs
   by_cases hneg:x < 0
   ·
    have d:decide (x < 0)=true:=decide_eq_true hneg
    have hxb:-2147483647≤x:=HO.out.1
    have HF:Hid (∀ W,Calls Tryd.prog 19 #[.int .i64 (x+4294967296)] W (PVal (.string s5) W)):=fun W=>hs5 ▸ four_any (B.tc x) _ (by unfold B.tc; rw [if_pos hneg]; omega) (B.tc_lt ⟨by have:=HO.out.1; omega,HO.out.2⟩) W
    clear hs5
    go_wp2_with fail
    refine (HF.out _).mono ?_
    rintro e W5 ⟨rfl,hB⟩
    have hM2:=hM.below hB
    have hBw2:=hBw.trans (hB.mono hBw.size)
    clear hM hBw hB c0 c3 hc
    go_wp2
    go_roundg r
    case measure=>omega
    case rel=>exact ⟨i+1,s6,by omega,by go_num,by go_num,HS6,hM2,hBw2⟩
   ·
    have d:decide (x < 0)=false:=decide_eq_false hneg
    have HF:Hid (∀ W,Calls Tryd.prog 19 #[.int .i64 x] W (PVal (.string s5) W)):=fun W=>hs5 ▸ four_any (B.tc x) _ (by unfold B.tc; rw [if_neg hneg]; omega) (B.tc_lt ⟨by have:=HO.out.1; omega,HO.out.2⟩) W
    clear hs5 hneg
    go_wp2_with fail
    refine (HF.out _).mono ?_
    rintro e W5 ⟨rfl,hB⟩
    have hM2:=hM.below hB
    have hBw2:=hBw.trans (hB.mono hBw.size)
    clear hM hBw hB c0 c3 hc
    go_wp2
    go_roundg r
    case measure=>omega
    case rel=>exact ⟨i+1,s6,by omega,by go_num,by go_num,HS6,hM2,hBw2⟩
end Go.Proofs.YtcoenncgoepadaaDoor
