/- Parts of the proof. -/
import Derived.Test.YtcoenncgoepadaaDoorJg0
import Derived.Test.YtcoenncgoepadaaDoorJg17
import Derived.Test.YtcoenncgoepadaaDoorJg19
set_option linter.unusedSimpArgs false
set_option linter.unusedVariables false
/- Package codec: the laws' awake. No statement of the seat is proved here. -/
namespace Go.Proofs.YtcoenncgoepadaaDoor
open Go Go.RowKit
theorem il_one {w W:World} {l:List (Nat × Array Value × TypeId)} {g:Nat} {T:TypeId} {v:Int} (h:Es w W l) (j:Nat) (hj:l[j]?=some (g,#[.int .i64 v],T)):Il W (some ⟨g,0,none⟩) [v] :=
 il_of h j hj (fun i hi=>by
  obtain rfl:i=0:=by simpa using hi
  rfl)
theorem aw_enc {W:World} {ad:Option Addr} (hT:Tab W) (hv:Il W ad [-1]):Calls Tryd.prog 9 #[.agg #[.int .i64 3,.int .i64 258,.int .i64 3,(.slice ad 1 1)]] W (PVal (.tuple #[.int .u8 3,.string ⟨#[0,0,1,2,0,3,255,255,255,255]⟩,.int .i64 0]) W):=by
 have h:=encode_ok (k:=3) (a:=258) (q:=3) (c:=1) (by decide) hT hv rfl (by decide)
 rw [show encS 258 3 [-1]=⟨#[0,0,1,2,0,3,255,255,255,255]⟩ by kernel_rfl] at h
 exact h
theorem aw_dec {W:World} (hT:Tab W):Calls Tryd.prog 13 #[.int .u8 3,.string ⟨#[0,0,1,2,0,3,255,255,255,255]⟩] W (PDec 3 258 3 [-1] W):=by
 have h:=decode_ok (k:=3) (s:=⟨#[0,0,1,2,0,3,255,255,255,255]⟩) (w:=W) (m:=1) (by decide) (by decide) rfl (by decide) rfl (by kernel_rfl) hT
 rw [show ((dA ⟨#[0,0,1,2,0,3,255,255,255,255]⟩:Nat):Int)=258 by kernel_rfl,show ((dQ ⟨#[0,0,1,2,0,3,255,255,255,255]⟩:Nat):Int)=3 by kernel_rfl,show dV 3 ⟨#[0,0,1,2,0,3,255,255,255,255]⟩=[-1] by kernel_rfl] at h
 exact h
theorem aw_kind {W:World} (hT:Tab W):Calls Tryd.prog 13 #[.int .u8 5,.string ⟨#[0,0,1,2,0,3,255,255,255,255]⟩] W (PVal (.tuple #[.agg #[.int .i64 0,.int .i64 0,.int .i64 0,.slice none 0 0],.int .i64 120]) W) :=
 decode_kind (k:=5) (by decide) (by decide) rfl hT
theorem aw_size {W:World} (hT:Tab W):Calls Tryd.prog 13 #[.int .u8 3,.string ⟨#[49,50,51,52,53,54,55,56,57]⟩] W (PVal (.tuple #[.agg #[.int .i64 0,.int .i64 0,.int .i64 0,.slice none 0 0],.int .i64 121]) W) :=
 decode_size (k:=3) (m:=1) (by decide) (by decide) rfl (by decide) (by decide) hT
theorem aw_range {W:World} (hT:Tab W):Calls Tryd.prog 13 #[.int .u8 3,.string ⟨#[0,0,0,0,0,0,128,0,0,0]⟩] W (PVal (.tuple #[.agg #[.int .i64 0,.int .i64 0,.int .i64 0,.slice none 0 0],.int .i64 122]) W) :=
 decode_val (k:=3) (m:=1) (by decide) (by decide) rfl (by decide) rfl (by kernel_rfl) (by decide) hT
theorem aw_none {W:World} (hT:Tab W):Calls Tryd.prog 9 #[.agg #[.int .i64 3,.int .i64 0,.int .i64 0,(.slice none 0 0)]] W (PVal (.tuple #[.int .u8 0,.string ⟨#[]⟩,.int .i64 121]) W) :=
 encode_no (k:=3) (a:=0) (q:=0) (by decide) (by decide) hT (il_nil W none) rfl (by decide)
theorem aw_most {W:World} {ad:Option Addr} (hT:Tab W) (hv:Il W ad [2147483648]):Calls Tryd.prog 9 #[.agg #[.int .i64 3,.int .i64 0,.int .i64 0,(.slice ad 1 1)]] W (PVal (.tuple #[.int .u8 0,.string ⟨#[]⟩,.int .i64 122]) W) :=
 encode_no (k:=3) (a:=0) (q:=0) (c:=1) (by decide) (by decide) hT hv rfl (by decide)
theorem aw_at {W:World} {ad:Option Addr} (hT:Tab W) (hv:Il W ad [0]):Calls Tryd.prog 9 #[.agg #[.int .i64 3,.int .i64 4294967296,.int .i64 0,(.slice ad 1 1)]] W (PVal (.tuple #[.int .u8 0,.string ⟨#[]⟩,.int .i64 122]) W) :=
 encode_no (k:=3) (a:=4294967296) (q:=0) (c:=1) (by decide) (by decide) hT hv rfl (by decide)
set_option maxRecDepth 100000 in
set_option maxHeartbeats 6400000 in
theorem awake12_any (w:World) (hT:Tab w):Calls Tryd.prog 8 #[] w (PVal (.bool true) w):=by
 have HT:=Lib.hid hT
 clear hT
 have hJ0:=es_nil w
 go_enter Tryd.func8,Tryd.ntmps8
 have hJ1:=hJ0.new #[.int .i64 (-1)] 2
 go_wp2_with (refine stop_alloc 24 #[.int .i64 0,.int .i64 0,.int .i64 0,.slice none 0 0] (.agg #[.int .i64 0,.int .i64 0,.int .i64 0,.slice none 0 0]) rfl rfl zv24 rfl hJ1 (fun bk2 W2 hJ2=>?_))
 clear hJ1
 simp only [Stop,Act.put,zzC,zzD,zzE]
 go_wp2_with (refine stop_store 24 (.tmp 1) (.tmp 25) 0 bk2 0 #[.int .i64 0,.int .i64 0,.int .i64 0,.slice none 0 0] 24 4 #[.int .i64 3,.int .i64 258,.int .i64 3,(.slice (some ⟨w.heap.size,0,none⟩) 1 1)].toList #[.int .i64 3,.int .i64 258,.int .i64 3,(.slice (some ⟨w.heap.size,0,none⟩) 1 1)] [(bk2,#[.int .i64 3,.int .i64 258,.int .i64 3,(.slice (some ⟨w.heap.size,0,none⟩) 1 1)],24),(w.heap.size,#[.int .i64 (-1)],2)] rfl rfl rfl rfl sz24 hJ2 rfl (by kernel_rfl) (zzF (by kernel_rfl)) (by kernel_rfl) (by kernel_rfl) (by kernel_rfl) (fun W3 hJ3=>?_))
 clear hJ2
 simp only [Stop,Act.put,zzC,zzD,zzE]
 go_wp2_with (refine stop_load 24 (.tmp 1) 0 bk2 0 4 #[.int .i64 3,.int .i64 258,.int .i64 3,(.slice (some ⟨w.heap.size,0,none⟩) 1 1)] #[.int .i64 3,.int .i64 258,.int .i64 3,(.slice (some ⟨w.heap.size,0,none⟩) 1 1)] 24 rfl rfl rfl hJ3 rfl ag24 sz24 (zzF (by kernel_rfl)) (by kernel_rfl) ?_)
 simp only [Stop,Act.put,zzC,zzD,zzE]
 go_wp2_with fail
 refine (aw_enc (HT.out.below hJ3.below) (il_one hJ3 1 rfl)).mono ?_
 rintro e W4 ⟨rfl,hB⟩
 have hJ4:=hJ3.later hB
 clear hJ3 hB
 go_wp2_with fail
 refine (aw_dec (HT.out.below hJ4.below)).mono ?_
 rintro e V ⟨ad2,n2,c2,rfl,hn2,hv2,hB⟩
 cases hn2
 have HTV:=Lib.hid ((HT.out.below hJ4.below).below hB)
 have hI1:=Lib.hid ((il_one hJ4 1 rfl).below hB)
 have hCm:=Lib.hid ((hJ4.at' _ (List.mem_cons_self ..)).below hB)
 have hBw:=Lib.hid (hJ4.below.trans (hB.mono hJ4.below.size))
 have hI2:=Lib.hid hv2
 clear hJ4 hB hv2
 have hJ5:=es_nil V
 go_wp2_with (refine stop_alloc 24 #[.int .i64 0,.int .i64 0,.int .i64 0,.slice none 0 0] (.agg #[.int .i64 0,.int .i64 0,.int .i64 0,.slice none 0 0]) rfl rfl zv24 rfl hJ5 (fun bk6 W6 hJ6=>?_))
 clear hJ5
 simp only [Stop,Act.put,zzC,zzD,zzE]
 go_wp2_with (refine stop_store 24 (.tmp 5) (.tmp 34) 0 bk6 0 #[.int .i64 0,.int .i64 0,.int .i64 0,.slice none 0 0] 24 4 #[.int .i64 3,.int .i64 258,.int .i64 3,(.slice ad2 1 c2)].toList #[.int .i64 3,.int .i64 258,.int .i64 3,(.slice ad2 1 c2)] [(bk6,#[.int .i64 3,.int .i64 258,.int .i64 3,(.slice ad2 1 c2)],24)] rfl rfl rfl rfl sz24 hJ6 rfl (by kernel_rfl) (zzF (by kernel_rfl)) (by kernel_rfl) (by kernel_rfl) (by kernel_rfl) (fun W7 hJ7=>?_))
 clear hJ6
 simp only [Stop,Act.put,zzC,zzD,zzE]
 replace hI1:=Lib.hid hI1.out
 go_wp2_with fail
 refine (aw_kind (HTV.out.below hJ7.below)).mono ?_
 rintro e W8 ⟨rfl,hB⟩
 have hJ8:=hJ7.later hB
 clear hJ7 hB
 go_wp2_with (refine stop_alloc 24 #[.int .i64 0,.int .i64 0,.int .i64 0,.slice none 0 0] (.agg #[.int .i64 0,.int .i64 0,.int .i64 0,.slice none 0 0]) rfl rfl zv24 rfl hJ8 (fun bk9 W9 hJ9=>?_))
 clear hJ8
 simp only [Stop,Act.put,zzC,zzD,zzE]
 go_wp2_with (refine stop_store 24 (.tmp 7) (.tmp 39) 0 bk9 0 #[.int .i64 0,.int .i64 0,.int .i64 0,.slice none 0 0] 24 4 #[.int .i64 0,.int .i64 0,.int .i64 0,.slice none 0 0].toList #[.int .i64 0,.int .i64 0,.int .i64 0,.slice none 0 0] [(bk9,#[.int .i64 0,.int .i64 0,.int .i64 0,.slice none 0 0],24),(bk6,#[.int .i64 3,.int .i64 258,.int .i64 3,(.slice ad2 1 c2)],24)] rfl rfl rfl rfl sz24 hJ9 rfl (by kernel_rfl) (zzF (by kernel_rfl)) (by kernel_rfl) (by kernel_rfl) (by kernel_rfl) (fun W10 hJ10=>?_))
 clear hJ9
 simp only [Stop,Act.put,zzC,zzD,zzE]
 go_wp2_with fail
 refine (aw_size (HTV.out.below hJ10.below)).mono ?_
 rintro e W11 ⟨rfl,hB⟩
 have hJ11:=hJ10.later hB
 clear hJ10 hB
 go_wp2_with (refine stop_alloc 24 #[.int .i64 0,.int .i64 0,.int .i64 0,.slice none 0 0] (.agg #[.int .i64 0,.int .i64 0,.int .i64 0,.slice none 0 0]) rfl rfl zv24 rfl hJ11 (fun bk12 W12 hJ12=>?_))
 clear hJ11
 simp only [Stop,Act.put,zzC,zzD,zzE]
 go_wp2_with (refine stop_store 24 (.tmp 9) (.tmp 43) 0 bk12 0 #[.int .i64 0,.int .i64 0,.int .i64 0,.slice none 0 0] 24 4 #[.int .i64 0,.int .i64 0,.int .i64 0,.slice none 0 0].toList #[.int .i64 0,.int .i64 0,.int .i64 0,.slice none 0 0] [(bk12,#[.int .i64 0,.int .i64 0,.int .i64 0,.slice none 0 0],24),(bk9,#[.int .i64 0,.int .i64 0,.int .i64 0,.slice none 0 0],24),(bk6,#[.int .i64 3,.int .i64 258,.int .i64 3,(.slice ad2 1 c2)],24)] rfl rfl rfl rfl sz24 hJ12 rfl (by kernel_rfl) (zzF (by kernel_rfl)) (by kernel_rfl) (by kernel_rfl) (by kernel_rfl) (fun W13 hJ13=>?_))
 clear hJ12
 simp only [Stop,Act.put,zzC,zzD,zzE]
 go_wp2_with fail
 refine (aw_range (HTV.out.below hJ13.below)).mono ?_
 rintro e W14 ⟨rfl,hB⟩
 have hJ14:=hJ13.later hB
 clear hJ13 hB
 go_wp2_with (refine stop_alloc 24 #[.int .i64 0,.int .i64 0,.int .i64 0,.slice none 0 0] (.agg #[.int .i64 0,.int .i64 0,.int .i64 0,.slice none 0 0]) rfl rfl zv24 rfl hJ14 (fun bk15 W15 hJ15=>?_))
 clear hJ14
 simp only [Stop,Act.put,zzC,zzD,zzE]
 go_wp2_with (refine stop_store 24 (.tmp 11) (.tmp 47) 0 bk15 0 #[.int .i64 0,.int .i64 0,.int .i64 0,.slice none 0 0] 24 4 #[.int .i64 0,.int .i64 0,.int .i64 0,.slice none 0 0].toList #[.int .i64 0,.int .i64 0,.int .i64 0,.slice none 0 0] [(bk15,#[.int .i64 0,.int .i64 0,.int .i64 0,.slice none 0 0],24),(bk12,#[.int .i64 0,.int .i64 0,.int .i64 0,.slice none 0 0],24),(bk9,#[.int .i64 0,.int .i64 0,.int .i64 0,.slice none 0 0],24),(bk6,#[.int .i64 3,.int .i64 258,.int .i64 3,(.slice ad2 1 c2)],24)] rfl rfl rfl rfl sz24 hJ15 rfl (by kernel_rfl) (zzF (by kernel_rfl)) (by kernel_rfl) (by kernel_rfl) (by kernel_rfl) (fun W16 hJ16=>?_))
 clear hJ15
 simp only [Stop,Act.put,zzC,zzD,zzE]
 go_wp2_with fail
 refine (aw_none (HTV.out.below hJ16.below)).mono ?_
 rintro e W17 ⟨rfl,hB⟩
 have hJ17:=hJ16.later hB
 clear hJ16 hB
 have hJ18:=hJ17.new #[.int .i64 2147483648] 2
 go_wp2_with fail
 refine (aw_most (HTV.out.below hJ18.below) (il_one hJ18 0 rfl)).mono ?_
 rintro e W19 ⟨rfl,hB⟩
 have hJ19:=hJ18.later hB
 clear hJ18 hB
 have hJ20:=hJ19.new #[.int .i64 0] 2
 go_wp2_with fail
 refine (aw_at (HTV.out.below hJ20.below) (il_one hJ20 0 rfl)).mono ?_
 rintro e W21 ⟨rfl,hB⟩
 have hJ21:=hJ20.later hB
 clear hJ20 hB
 go_wp2_with fail
 refine (count_any 1 W21 (HTV.out.below hJ21.below)).mono ?_
 rintro e W22 ⟨rfl,hB⟩
 have hJ22:=hJ21.later hB
 clear hJ21 hB
 rw [show ((cnt 1:Nat):Int)=6 by kernel_rfl]
 go_wp2_with fail
 refine (count_any 9 W22 (HTV.out.below hJ22.below)).mono ?_
 rintro e W23 ⟨rfl,hB⟩
 have hJ23:=hJ22.later hB
 clear hJ22 hB
 rw [show ((cnt 9:Nat):Int)=0 by kernel_rfl]
 have hcm:=hCm.out.below hJ23.below
 have hcn:=hJ23.at' _ (zzG (i:=5) rfl)
 have m0:W23.cell? ⟨bk2,0,none⟩=some (.int .i64 3):=by simp [World.cell?,show W23.heap[bk2]?=some (.cells #[.int .i64 3,.int .i64 258,.int .i64 3,(.slice (some ⟨w.heap.size,0,none⟩) 1 1)] 24 (0,0)) from hcm]
 have m1:W23.cell? ⟨bk2,1,none⟩=some (.int .i64 258):=by simp [World.cell?,show W23.heap[bk2]?=some (.cells #[.int .i64 3,.int .i64 258,.int .i64 3,(.slice (some ⟨w.heap.size,0,none⟩) 1 1)] 24 (0,0)) from hcm]
 have m2:W23.cell? ⟨bk2,2,none⟩=some (.int .i64 3):=by simp [World.cell?,show W23.heap[bk2]?=some (.cells #[.int .i64 3,.int .i64 258,.int .i64 3,(.slice (some ⟨w.heap.size,0,none⟩) 1 1)] 24 (0,0)) from hcm]
 have m3:W23.cell? ⟨bk2,3,none⟩=some (.slice (some ⟨w.heap.size,0,none⟩) 1 1):=by simp [World.cell?,show W23.heap[bk2]?=some (.cells #[.int .i64 3,.int .i64 258,.int .i64 3,(.slice (some ⟨w.heap.size,0,none⟩) 1 1)] 24 (0,0)) from hcm]
 have hMn:=Mb.of hJ23 5 rfl
 have n0:=hMn.c0
 have n1:=hMn.c1
 have n2:=hMn.c2
 have n3:=hMn.c3
 clear hMn hcm hcn
 go_wp2_with fail
 refine (same12_w (hI1.out.below hJ23.below) (hI2.out.below hJ23.below) rfl rfl (by decide) (by decide)).mono ?_
 rintro e WE ⟨rfl,hB⟩
 rw [show sameM 3 258 3 [-1] 3 258 3 [-1]=true by kernel_rfl]
 have hBE:=hBw.out.trans ((hJ23.below.trans (hB.mono hJ23.below.size)).mono hBw.out.size)
 clear hB hJ23 m0 m1 m2 m3 n0 n1 n2 n3
 go_wp2
 go_ret
 exact ⟨rfl,hBE⟩
theorem Mb.ofCl {W:World} {b:Nat} {k a q:Int} {v:Value} {T:TypeId} (h:Cl W (b,#[.int .i64 k,.int .i64 a,.int .i64 q,v],T)):Mb W b k a q v:=by
 have hh:W.heap[b]?=some (.cells #[.int .i64 k,.int .i64 a,.int .i64 q,v] T (0,0)):=h
 constructor <;> simp [World.cell?,hh]
/-- A measurement and what is wrong are handed back. -/
def PDc (k a q:Int) (vs:List Int) (E:Int) (w:World) (e:Ending) (w':World):Prop:=∃ (ad:Option Addr) (n c:Nat),e=.returned (.tuple #[.agg #[.int .i64 k,.int .i64 a,.int .i64 q,(.slice ad n c)],.int .i64 E])∧vs.length=n∧Il w' ad vs∧Below w.heap.size w w'
theorem pdc_ok {k a q:Int} {vs:List Int} {w:World} {e:Ending} {w':World} (h:PDec k a q vs w e w'):PDc k a q vs 0 w e w':=h
theorem pdc_no {E:Int} {w:World} {e:Ending} {w':World} (h:PVal (.tuple #[.agg #[.int .i64 0,.int .i64 0,.int .i64 0,.slice none 0 0],.int .i64 E]) w e w'):PDc 0 0 0 [] E w e w':=⟨none,0,0,h.1,rfl,il_nil _ _,h.2⟩
section
variable {w:World} {k:Int} {s:ByteArray} (hk:0≤k∧k≤255) (hs:s.size≤1000000000000000)
include hk hs
theorem dec_ok (hT:Tab w) (h:dE k s=0):Calls Tryd.prog 13 #[.int .u8 k,.string s] w (PDc k (dA s) (dQ s) (dV k s) 0 w):=by
 obtain ⟨h1,h2,_⟩:=of_dE h
 exact (decode_ok hk hs rfl h1 h2 h hT).mono fun e W he=>pdc_ok he
theorem dec_no (hT:Tab w) {E:Int} (h:dE k s=E) (hE:E ≠ 0):Calls Tryd.prog 13 #[.int .u8 k,.string s] w (PDc 0 0 0 [] E w):=by
 by_cases h1:cnt k=0
 ·
  rw [← h,dE_kind h1]
  exact (decode_kind hk hs h1 hT).mono fun e W he=>pdc_no he
 ·
  by_cases h2:s.size=6+4*cnt k
  ·
   exact (decode_val hk hs rfl h1 h2 h hE hT).mono fun e W he=>pdc_no he
  ·
   rw [← h,dE_size h1 h2]
   exact (decode_size hk hs rfl h1 h2 hT).mono fun e W he=>pdc_no he
theorem rdec_ok (h:dE k s=0):Calls Tryd.prog 14 #[.int .u8 k,.string s] w (PDc k (dA s) (dQ s) (dV k s) 0 w):=by
 obtain ⟨h1,h2,_⟩:=of_dE h
 refine (rdecode_w hk hs rfl h1 h2 trivial).mono fun e W he=>?_
 rcases he with ⟨_,he⟩ | ⟨he,_⟩
 ·
  exact pdc_ok he
 ·
  omega
theorem rdec_no {E:Int} (h:dE k s=E) (hE:E ≠ 0):Calls Tryd.prog 14 #[.int .u8 k,.string s] w (PDc 0 0 0 [] E w):=by
 by_cases h1:cnt k=0
 ·
  rw [← h,dE_kind h1]
  exact (rdecode_kind hk hs h1 trivial).mono fun e W he=>pdc_no he
 ·
  by_cases h2:s.size=6+4*cnt k
  ·
   refine (rdecode_w hk hs rfl h1 h2 trivial).mono fun e W he=>?_
   rcases he with ⟨he,_⟩ | ⟨he,h3⟩
   ·
    omega
   ·
    rw [← h,he]
    exact pdc_no h3
  ·
   rw [← h,dE_size h1 h2]
   exact (rdecode_size hk hs rfl h1 h2 trivial).mono fun e W he=>pdc_no he
end
section
variable {k a q:Int} {vs:List Int}
theorem enc_size:(encS a q vs).size=6+4*vs.length:=by
 show (B.enc a.toNat q.toNat vs).length=_
 exact B.enc_len _ _ _
theorem back_all (h:err k a q vs=0):dE k (encS a q vs)=0∧((dA (encS a q vs):Nat):Int)=a∧((dQ (encS a q vs):Nat):Int)=q∧dV k (encS a q vs)=vs:=by
 obtain ⟨h1,h2,h3,h4,h5⟩:=of_err h
 have hb:=B.enc_back (at_:=a.toNat) (seq:=q.toNat) (v:=vs) (by omega) (by omega) (fun x hx=>⟨by have:=(h5 x hx).1; omega,(h5 x hx).2⟩)
 have hA:dA (encS a q vs)=a.toNat:=hb.1
 have hQ:dQ (encS a q vs)=q.toNat:=hb.2.1
 have hV:dV k (encS a q vs)=vs:=by
  show B.dv (cnt k) ((B.enc a.toNat q.toNat vs).drop 6)=vs
  rw [← h2]
  exact hb.2.2
 exact ⟨dE_ok h1 (by rw [enc_size,h2]) (by rw [hV]; exact h5),by rw [hA]; omega,by rw [hQ]; omega,hV⟩
theorem only_all {s:ByteArray} (h:dE k s=0):err k (dA s) (dQ s) (dV k s)=0∧encS (dA s) (dQ s) (dV k s)=s:=by
 obtain ⟨h1,h2,_⟩:=of_dE h
 refine ⟨(err_dE h1 h2).trans h,?_⟩
 have ho:=B.enc_only (n:=cnt k) (l:=s.data.toList) (by show s.size=_; exact h2)
 have e:encS (dA s) (dQ s) (dV k s)=⟨(B.enc (dA s) (dQ s) (dV k s)).toArray⟩:=by unfold encS; rw [Int.toNat_natCast,Int.toNat_natCast]
 rw [e]
 exact (data_ext ho.symm).symm
theorem same_self:sameM k a q vs k a q vs=true:=decide_eq_true ⟨rfl,rfl,rfl,rfl⟩
theorem same_bytes {s t:ByteArray} (h:dE k s=0) (h':dE k t=0):sameM k (dA s) (dQ s) (dV k s) k (dA t) (dQ t) (dV k t)=(s.toList == t.toList):=by
 unfold sameM
 rw [Bool.eq_iff_iff,decide_eq_true_iff,beq_iff_eq]
 constructor
 ·
  rintro ⟨_,h1,h2,h3⟩
  rw [← (only_all h).2,← (only_all h').2,h1,h2,h3]
 ·
  intro h1
  have e:s=t:=by
   rw [Lib.toList_data,Lib.toList_data] at h1
   rw [data_ext (s:=s) rfl,data_ext (s:=t) rfl,h1]
  subst e
  exact ⟨rfl,rfl,rfl,rfl⟩
end
set_option maxRecDepth 100000 in
set_option maxHeartbeats 6400000 in
theorem writes_w {w:World} {k a q:Int} {ad:Option Addr} {n c:Nat} {vs:List Int} {K E:Int} {T:ByteArray} (hT:Tab w) (hv:Il w ad vs) (h1:∀ W,Tab W→Il W ad vs→Calls Tryd.prog 9 #[.agg #[.int .i64 k,.int .i64 a,.int .i64 q,(.slice ad n c)]] W (PVal (.tuple #[.int .u8 K,.string T,.int .i64 E]) W)) (h2:∀ W,Il W ad vs→Calls Tryd.prog 10 #[.agg #[.int .i64 k,.int .i64 a,.int .i64 q,(.slice ad n c)]] W (PVal (.tuple #[.int .u8 K,.string T,.int .i64 E]) W)):Calls Tryd.prog 3 #[.agg #[.int .i64 k,.int .i64 a,.int .i64 q,(.slice ad n c)]] w (PVal (.bool true) w):=by
 have HT:=Lib.hid hT
 have HV:=Lib.hid hv
 have H1:=Lib.hid h1
 have H2:=Lib.hid h2
 clear hT hv h1 h2
 have hJ0:=es_nil w
 go_enter Tryd.func3,Tryd.ntmps3
 go_wp2_with (refine stop_box 24 (.tmp 0) #[.int .i64 k,.int .i64 a,.int .i64 q,(.slice ad n c)] rfl rfl rfl hJ0 (fun bk1 W1 hJ1=>?_))
 clear hJ0
 simp only [Stop,Act.put,zzC,zzD,zzE]
 go_wp2_with fail
 refine (awake12_any W1 (HT.out.below hJ1.below)).mono ?_
 rintro e W2 ⟨rfl,hB⟩
 have hJ2:=hJ1.later hB
 clear hJ1 hB
 go_wp2_with (refine stop_load 24 (.tmp 1) 0 bk1 0 4 #[.int .i64 k,.int .i64 a,.int .i64 q,(.slice ad n c)] #[.int .i64 k,.int .i64 a,.int .i64 q,(.slice ad n c)] 24 rfl rfl rfl hJ2 rfl ag24 sz24 (zzF (by kernel_rfl)) (by kernel_rfl) ?_)
 simp only [Stop,Act.put,zzC,zzD,zzE]
 go_wp2_with fail
 refine (H1.out _ (HT.out.below hJ2.below) (HV.out.below hJ2.below)).mono ?_
 rintro e W3 ⟨rfl,hB⟩
 have hJ3:=hJ2.later hB
 clear hJ2 hB
 go_wp2_with (refine stop_load 24 (.tmp 1) 0 bk1 0 4 #[.int .i64 k,.int .i64 a,.int .i64 q,(.slice ad n c)] #[.int .i64 k,.int .i64 a,.int .i64 q,(.slice ad n c)] 24 rfl rfl rfl hJ3 rfl ag24 sz24 (zzF (by kernel_rfl)) (by kernel_rfl) ?_)
 simp only [Stop,Act.put,zzC,zzD,zzE]
 go_wp2_with fail
 refine (H2.out _ (HV.out.below hJ3.below)).mono ?_
 rintro e W4 ⟨rfl,hB⟩
 have hJ4:=hJ3.later hB
 clear hJ3 hB
 have hMa:=Mb.of hJ4 0 rfl
 have a0:=hMa.c0
 have a1:=hMa.c1
 have a2:=hMa.c2
 have a3:=hMa.c3
 clear hMa a1 a2 a3
 go_wp2_with fail
 refine (count_any k W4 (HT.out.below hJ4.below)).mono ?_
 rintro e W5 ⟨rfl,hB⟩
 have hJ5:=hJ4.later hB
 clear hJ4
 replace a0:=cell_on a0 hB
 clear hB
 go_wp2_with fail
 refine (rcount_any k W5).mono ?_
 rintro e W6 ⟨rfl,hB⟩
 have hJ6:=hJ5.later hB
 clear hJ5 hB a0
 go_wp2
 go_ret
 exact ⟨rfl,hJ6.below⟩
theorem CodecWrites_any {w:World} {k a q:Int} {ad:Option Addr} {n c:Nat} {vs:List Int} (hT:Tab w) (hv:Il w ad vs) (hn:vs.length=n) (hnb:n≤20000000000000):Calls Tryd.prog 3 #[.agg #[.int .i64 k,.int .i64 a,.int .i64 q,(.slice ad n c)]] w (PVal (.bool true) w):=by
 by_cases h:err k a q vs=0
 ·
  exact writes_w hT hv (fun W hT hv=>encode_ok h hT hv hn hnb) (fun W hv=>rencode_ok h trivial hv hn hnb)
 ·
  exact writes_w hT hv (fun W hT hv=>encode_no rfl h hT hv hn hnb) (fun W hv=>rencode_no rfl h trivial hv hn hnb)
set_option maxRecDepth 100000 in
set_option maxHeartbeats 6400000 in
theorem sizes_w {w:World} {k a q:Int} {ad:Option Addr} {n c:Nat} {vs:List Int} {y:Int} {z m:Nat} {K E:Int} {T:ByteArray} (hy:cnt y=z) (hm:cnt k=m) (hor:E ≠ 0∨E=0∧T.size=6+4*m) (hT:Tab w) (hv:Il w ad vs) (h1:∀ W,Tab W→Il W ad vs→Calls Tryd.prog 9 #[.agg #[.int .i64 k,.int .i64 a,.int .i64 q,(.slice ad n c)]] W (PVal (.tuple #[.int .u8 K,.string T,.int .i64 E]) W)):Calls Tryd.prog 7 #[.int .i64 y,.agg #[.int .i64 k,.int .i64 a,.int .i64 q,(.slice ad n c)]] w (PVal (.bool true) w):=by
 have HT:=Lib.hid hT
 have HV:=Lib.hid hv
 have H1:=Lib.hid h1
 have HY:=Lib.hid hy
 have HM:=Lib.hid hm
 have HZ:Hid (0 < z↔1≤y∧y≤4):=by rw [← hy]; exact cnt_pos y
 have hz:z≤6:=by rw [← hy]; exact cnt_le y
 have hm6:m≤6:=by rw [← hm]; exact cnt_le k
 clear hT hv h1 hy hm
 have hJ0:=es_nil w
 go_enter Tryd.func7,Tryd.ntmps7
 go_wp2_with (refine stop_box 24 (.tmp 1) #[.int .i64 k,.int .i64 a,.int .i64 q,(.slice ad n c)] rfl rfl rfl hJ0 (fun bk1 W1 hJ1=>?_))
 clear hJ0
 simp only [Stop,Act.put,zzC,zzD,zzE]
 go_wp2_with fail
 refine (awake12_any W1 (HT.out.below hJ1.below)).mono ?_
 rintro e W2 ⟨rfl,hB⟩
 have hJ2:=hJ1.later hB
 clear hJ1 hB
 go_wp2_with fail
 refine (count_any y W2 (HT.out.below hJ2.below)).mono ?_
 rintro e W3 ⟨rfl,hB⟩
 have hJ3:=hJ2.later hB
 clear hJ2 hB
 rw [HY.out]
 go_wp2_with (refine stop_load 24 (.tmp 3) 0 bk1 0 4 #[.int .i64 k,.int .i64 a,.int .i64 q,(.slice ad n c)] #[.int .i64 k,.int .i64 a,.int .i64 q,(.slice ad n c)] 24 rfl rfl rfl hJ3 rfl ag24 sz24 (zzF (by kernel_rfl)) (by kernel_rfl) ?_)
 simp only [Stop,Act.put,zzC,zzD,zzE]
 go_wp2_with fail
 refine (H1.out _ (HT.out.below hJ3.below) (HV.out.below hJ3.below)).mono ?_
 rintro e W4 ⟨rfl,hB⟩
 have hJ4:=hJ3.later hB
 clear hJ3 hB
 have hMa:=Mb.of hJ4 0 rfl
 have a0:=hMa.c0
 have a1:=hMa.c1
 have a2:=hMa.c2
 have a3:=hMa.c3
 clear hMa a1 a2 a3
 go_wp2_with fail
 refine (count_any k W4 (HT.out.below hJ4.below)).mono ?_
 rintro e W5 ⟨rfl,hB⟩
 have hJ5:=hJ4.later hB
 clear hJ4 hB a0
 rw [HM.out]
 have hB:=hJ5.below
 clear hJ5
 by_cases hy:y < 1
 ·
  have d1:decide (1≤y)=false:=decide_eq_false (by omega)
  have d0:decide (0 < z)=false:=decide_eq_false (by have:=HZ.out; omega)
  clear hy
  rcases hor with hE | hE
  ·
   have e:(E != 0)=true:=by rw [bne_iff_ne]; exact hE
   clear hE
   go_wp2
   go_ret
   exact ⟨rfl,hB⟩
  ·
   have e:(E != 0)=false:=by rw [bne_eq_false_iff_eq]; exact hE.1
   have e2:((T.size:Int) == 6+4*(m:Int))=true:=by rw [beq_iff_eq]; have:=hE.2; omega
   clear hE
   go_wp2
   go_ret
   exact ⟨rfl,hB⟩
 by_cases hy:4 < y
 ·
  have d1:decide (1≤y)=true:=decide_eq_true (by omega)
  have d2:decide (y≤4)=false:=decide_eq_false (by omega)
  have d0:decide (0 < z)=false:=decide_eq_false (by have:=HZ.out; omega)
  clear hy
  rcases hor with hE | hE
  ·
   have e:(E != 0)=true:=by rw [bne_iff_ne]; exact hE
   clear hE
   go_wp2
   go_ret
   exact ⟨rfl,hB⟩
  ·
   have e:(E != 0)=false:=by rw [bne_eq_false_iff_eq]; exact hE.1
   have e2:((T.size:Int) == 6+4*(m:Int))=true:=by rw [beq_iff_eq]; have:=hE.2; omega
   clear hE
   go_wp2
   go_ret
   exact ⟨rfl,hB⟩
 have d1:decide (1≤y)=true:=decide_eq_true (by omega)
 have d2:decide (y≤4)=true:=decide_eq_true (by omega)
 have d0:decide (0 < z)=true:=decide_eq_true (by have:=HZ.out; omega)
 rcases hor with hE | hE
 ·
  have e:(E != 0)=true:=by rw [bne_iff_ne]; exact hE
  clear hE
  go_wp2
  go_ret
  exact ⟨rfl,hB⟩
 ·
  have e:(E != 0)=false:=by rw [bne_eq_false_iff_eq]; exact hE.1
  have e2:((T.size:Int) == 6+4*(m:Int))=true:=by rw [beq_iff_eq]; have:=hE.2; omega
  clear hE
  go_wp2
  go_ret
  exact ⟨rfl,hB⟩
theorem CodecSizes_any {w:World} {k a q:Int} {ad:Option Addr} {n c:Nat} {vs:List Int} {y:Int} (hT:Tab w) (hv:Il w ad vs) (hn:vs.length=n) (hnb:n≤20000000000000):Calls Tryd.prog 7 #[.int .i64 y,.agg #[.int .i64 k,.int .i64 a,.int .i64 q,(.slice ad n c)]] w (PVal (.bool true) w):=by
 by_cases h:err k a q vs=0
 ·
  exact sizes_w rfl rfl (.inr ⟨rfl,by rw [enc_size,(of_err h).2.1]⟩) hT hv (fun W hT hv=>encode_ok h hT hv hn hnb)
 ·
  exact sizes_w rfl rfl (.inl h) hT hv (fun W hT hv=>encode_no rfl h hT hv hn hnb)
set_option maxRecDepth 100000 in
set_option maxHeartbeats 6400000 in
theorem reads_w {w:World} {k K A Q E:Int} {s:ByteArray} {vs:List Int} (hl:vs.length≤6) (hT:Tab w) (h1:∀ W,Tab W→Calls Tryd.prog 13 #[.int .u8 k,.string s] W (PDc K A Q vs E W)) (h2:∀ W,Calls Tryd.prog 14 #[.int .u8 k,.string s] W (PDc K A Q vs E W)):Calls Tryd.prog 4 #[.int .u8 k,.string s] w (PVal (.bool true) w):=by
 have HT:=Lib.hid hT
 have H1:=Lib.hid h1
 have H2:=Lib.hid h2
 clear hT h1 h2
 have hJ0:=es_nil w
 go_enter Tryd.func4,Tryd.ntmps4
 go_wp2_with fail
 refine (awake12_any w (HT.out.below hJ0.below)).mono ?_
 rintro e W1 ⟨rfl,hB⟩
 have hJ1:=hJ0.later hB
 clear hJ0 hB
 go_wp2_with fail
 refine (H1.out _ (HT.out.below hJ1.below)).mono ?_
 rintro e V1 ⟨ad1,n1,c1,rfl,hl1,hv1,hB⟩
 replace HT:=Lib.hid ((HT.out.below hJ1.below).below hB)
 have hBw:=Lib.hid (hJ1.below.trans (hB.mono hJ1.below.size))
 have HI1:=Lib.hid hv1
 have HL1:=Lib.hid hl1
 clear hJ1 hB hv1 hl1
 have hJ2:=es_nil V1
 go_wp2_with (refine stop_alloc 24 #[.int .i64 0,.int .i64 0,.int .i64 0,.slice none 0 0] (.agg #[.int .i64 0,.int .i64 0,.int .i64 0,.slice none 0 0]) rfl rfl zv24 rfl hJ2 (fun bk3 W3 hJ3=>?_))
 clear hJ2
 simp only [Stop,Act.put,zzC,zzD,zzE]
 go_wp2_with (refine stop_store 24 (.tmp 6) (.tmp 15) 0 bk3 0 #[.int .i64 0,.int .i64 0,.int .i64 0,.slice none 0 0] 24 4 #[.int .i64 K,.int .i64 A,.int .i64 Q,(.slice ad1 n1 c1)].toList #[.int .i64 K,.int .i64 A,.int .i64 Q,(.slice ad1 n1 c1)] [(bk3,#[.int .i64 K,.int .i64 A,.int .i64 Q,(.slice ad1 n1 c1)],24)] rfl rfl rfl rfl sz24 hJ3 rfl (by kernel_rfl) (zzF (by kernel_rfl)) (by kernel_rfl) (by kernel_rfl) (by kernel_rfl) (fun W4 hJ4=>?_))
 clear hJ3
 simp only [Stop,Act.put,zzC,zzD,zzE]
 go_wp2_with fail
 refine (H2.out _).mono ?_
 rintro e V2 ⟨ad2,n2,c2,rfl,hl2,hv2,hB⟩
 replace HT:=Lib.hid ((HT.out.below hJ4.below).below hB)
 replace HI1:=Lib.hid ((HI1.out.below hJ4.below).below hB)
 have hC_bk3:=Lib.hid (Cl.below (hJ4.at' _ (zzG (i:=0) rfl)) hB)
 replace hBw:=Lib.hid (hBw.out.trans ((hJ4.below.trans (hB.mono hJ4.below.size)).mono hBw.out.size))
 have HI2:=Lib.hid hv2
 have HL2:=Lib.hid hl2
 clear hJ4 hB hv2 hl2
 have hJ5:=es_nil V2
 go_wp2_with (refine stop_alloc 24 #[.int .i64 0,.int .i64 0,.int .i64 0,.slice none 0 0] (.agg #[.int .i64 0,.int .i64 0,.int .i64 0,.slice none 0 0]) rfl rfl zv24 rfl hJ5 (fun bk6 W6 hJ6=>?_))
 clear hJ5
 simp only [Stop,Act.put,zzC,zzD,zzE]
 go_wp2_with (refine stop_store 24 (.tmp 8) (.tmp 21) 0 bk6 0 #[.int .i64 0,.int .i64 0,.int .i64 0,.slice none 0 0] 24 4 #[.int .i64 K,.int .i64 A,.int .i64 Q,(.slice ad2 n2 c2)].toList #[.int .i64 K,.int .i64 A,.int .i64 Q,(.slice ad2 n2 c2)] [(bk6,#[.int .i64 K,.int .i64 A,.int .i64 Q,(.slice ad2 n2 c2)],24)] rfl rfl rfl rfl sz24 hJ6 rfl (by kernel_rfl) (zzF (by kernel_rfl)) (by kernel_rfl) (by kernel_rfl) (by kernel_rfl) (fun W7 hJ7=>?_))
 clear hJ6
 simp only [Stop,Act.put,zzC,zzD,zzE]
 have hMa:=Mb.ofCl (hC_bk3.out.below hJ7.below)
 have a0:=hMa.c0
 have a1:=hMa.c1
 have a2:=hMa.c2
 have a3:=hMa.c3
 clear hMa
 have hMz:=Mb.of hJ7 0 rfl
 have z0:=hMz.c0
 have z1:=hMz.c1
 have z2:=hMz.c2
 have z3:=hMz.c3
 clear hMz
 go_wp2_with fail
 refine (same12_w (HI1.out.below hJ7.below) (HI2.out.below hJ7.below) HL1.out HL2.out (by have:=HL1.out; omega) (by have:=HL2.out; omega)).mono ?_
 rintro e WE ⟨rfl,hB⟩
 rw [same_self]
 have hBE:=hBw.out.trans ((hJ7.below.trans (hB.mono hJ7.below.size)).mono hBw.out.size)
 clear hB hJ7 a0 a1 a2 a3 z0 z1 z2 z3
 go_wp2
 go_ret
 exact ⟨rfl,hBE⟩
theorem CodecReads_any {w:World} {k:Int} {s:ByteArray} (hk:0≤k∧k≤255) (hs:s.size≤1000000000000000) (hT:Tab w):Calls Tryd.prog 4 #[.int .u8 k,.string s] w (PVal (.bool true) w):=by
 by_cases h:dE k s=0
 ·
  exact reads_w (by rw [dV_len]; exact cnt_le k) hT (fun W hT=>dec_ok hk hs hT h) (fun W=>rdec_ok hk hs h)
 ·
  exact reads_w (by decide) hT (fun W hT=>dec_no hk hs hT rfl h) (fun W=>rdec_no hk hs rfl h)
set_option maxRecDepth 100000 in
set_option maxHeartbeats 6400000 in
theorem back_no {w:World} {k a q:Int} {ad:Option Addr} {n c:Nat} {vs:List Int} {E:Int} (hE:E ≠ 0) (hT:Tab w) (hv:Il w ad vs) (h1:∀ W,Tab W→Il W ad vs→Calls Tryd.prog 9 #[.agg #[.int .i64 k,.int .i64 a,.int .i64 q,(.slice ad n c)]] W (PVal (.tuple #[.int .u8 0,.string ⟨#[]⟩,.int .i64 E]) W)):Calls Tryd.prog 5 #[.agg #[.int .i64 k,.int .i64 a,.int .i64 q,(.slice ad n c)]] w (PVal (.bool true) w):=by
 have HT:=Lib.hid hT
 have HV:=Lib.hid hv
 have H1:=Lib.hid h1
 have e0:(E != 0)=true:=by rw [bne_iff_ne]; exact hE
 clear hT hv h1 hE
 have hJ0:=es_nil w
 go_enter Tryd.func5,Tryd.ntmps5
 go_wp2_with (refine stop_box 24 (.tmp 0) #[.int .i64 k,.int .i64 a,.int .i64 q,(.slice ad n c)] rfl rfl rfl hJ0 (fun bk1 W1 hJ1=>?_))
 clear hJ0
 simp only [Stop,Act.put,zzC,zzD,zzE]
 go_wp2_with fail
 refine (awake12_any W1 (HT.out.below hJ1.below)).mono ?_
 rintro e W2 ⟨rfl,hB⟩
 have hJ2:=hJ1.later hB
 clear hJ1 hB
 go_wp2_with (refine stop_load 24 (.tmp 1) 0 bk1 0 4 #[.int .i64 k,.int .i64 a,.int .i64 q,(.slice ad n c)] #[.int .i64 k,.int .i64 a,.int .i64 q,(.slice ad n c)] 24 rfl rfl rfl hJ2 rfl ag24 sz24 (zzF (by kernel_rfl)) (by kernel_rfl) ?_)
 simp only [Stop,Act.put,zzC,zzD,zzE]
 go_wp2_with fail
 refine (H1.out _ (HT.out.below hJ2.below) (HV.out.below hJ2.below)).mono ?_
 rintro e W3 ⟨rfl,hB⟩
 have hJ3:=hJ2.later hB
 clear hJ2 hB
 go_wp2
 go_ret
 exact ⟨rfl,hJ3.below⟩
set_option maxRecDepth 100000 in
set_option maxHeartbeats 6400000 in
theorem back_w {w:World} {k a q:Int} {ad:Option Addr} {n c:Nat} {vs:List Int} {T:ByteArray} (hl:vs.length≤6) (hn6:n≤6) (hsz:T.size≤64) (hT:Tab w) (hv:Il w ad vs) (hn:vs.length=n) (h1:∀ W,Tab W→Il W ad vs→Calls Tryd.prog 9 #[.agg #[.int .i64 k,.int .i64 a,.int .i64 q,(.slice ad n c)]] W (PVal (.tuple #[.int .u8 k,.string T,.int .i64 0]) W)) (h2:∀ W,Tab W→Calls Tryd.prog 13 #[.int .u8 k,.string T] W (PDc k a q vs 0 W)):Calls Tryd.prog 5 #[.agg #[.int .i64 k,.int .i64 a,.int .i64 q,(.slice ad n c)]] w (PVal (.bool true) w):=by
 have HT:=Lib.hid hT
 have HI0:=Lib.hid hv
 have HL0:=Lib.hid hn
 have H1:=Lib.hid h1
 have H2:=Lib.hid h2
 have d:decide ((T.size:Int)≤64)=true:=decide_eq_true (by omega)
 clear hT hv hn h1 h2
 have hJ0:=es_nil w
 go_enter Tryd.func5,Tryd.ntmps5
 go_wp2_with (refine stop_box 24 (.tmp 0) #[.int .i64 k,.int .i64 a,.int .i64 q,(.slice ad n c)] rfl rfl rfl hJ0 (fun bk1 W1 hJ1=>?_))
 clear hJ0
 simp only [Stop,Act.put,zzC,zzD,zzE]
 go_wp2_with fail
 refine (awake12_any W1 (HT.out.below hJ1.below)).mono ?_
 rintro e W2 ⟨rfl,hB⟩
 have hJ2:=hJ1.later hB
 clear hJ1 hB
 go_wp2_with (refine stop_load 24 (.tmp 1) 0 bk1 0 4 #[.int .i64 k,.int .i64 a,.int .i64 q,(.slice ad n c)] #[.int .i64 k,.int .i64 a,.int .i64 q,(.slice ad n c)] 24 rfl rfl rfl hJ2 rfl ag24 sz24 (zzF (by kernel_rfl)) (by kernel_rfl) ?_)
 simp only [Stop,Act.put,zzC,zzD,zzE]
 go_wp2_with fail
 refine (H1.out _ (HT.out.below hJ2.below) (HI0.out.below hJ2.below)).mono ?_
 rintro e W3 ⟨rfl,hB⟩
 have hJ3:=hJ2.later hB
 clear hJ2 hB
 go_wp2_with fail
 refine (H2.out _ (HT.out.below hJ3.below)).mono ?_
 rintro e V1 ⟨ad1,n1,c1,rfl,hl1,hv1,hB⟩
 replace HT:=Lib.hid ((HT.out.below hJ3.below).below hB)
 replace HI0:=Lib.hid ((HI0.out.below hJ3.below).below hB)
 have hC_bk1:=Lib.hid (Cl.below (hJ3.at' _ (zzG (i:=0) rfl)) hB)
 have hBw:=Lib.hid (hJ3.below.trans (hB.mono hJ3.below.size))
 have HI1:=Lib.hid hv1
 have HL1:=Lib.hid hl1
 clear hJ3 hB hv1 hl1
 have hJ4:=es_nil V1
 go_wp2_with (refine stop_alloc 24 #[.int .i64 0,.int .i64 0,.int .i64 0,.slice none 0 0] (.agg #[.int .i64 0,.int .i64 0,.int .i64 0,.slice none 0 0]) rfl rfl zv24 rfl hJ4 (fun bk5 W5 hJ5=>?_))
 clear hJ4
 simp only [Stop,Act.put,zzC,zzD,zzE]
 go_wp2_with (refine stop_store 24 (.tmp 7) (.tmp 31) 0 bk5 0 #[.int .i64 0,.int .i64 0,.int .i64 0,.slice none 0 0] 24 4 #[.int .i64 k,.int .i64 a,.int .i64 q,(.slice ad1 n1 c1)].toList #[.int .i64 k,.int .i64 a,.int .i64 q,(.slice ad1 n1 c1)] [(bk5,#[.int .i64 k,.int .i64 a,.int .i64 q,(.slice ad1 n1 c1)],24)] rfl rfl rfl rfl sz24 hJ5 rfl (by kernel_rfl) (zzF (by kernel_rfl)) (by kernel_rfl) (by kernel_rfl) (by kernel_rfl) (fun W6 hJ6=>?_))
 clear hJ5
 simp only [Stop,Act.put,zzC,zzD,zzE]
 have hMa:=Mb.ofCl (hC_bk1.out.below hJ6.below)
 have a0:=hMa.c0
 have a1:=hMa.c1
 have a2:=hMa.c2
 have a3:=hMa.c3
 clear hMa
 have hMz:=Mb.of hJ6 0 rfl
 have z0:=hMz.c0
 have z1:=hMz.c1
 have z2:=hMz.c2
 have z3:=hMz.c3
 clear hMz
 go_wp2_with fail
 refine (same12_w (HI0.out.below hJ6.below) (HI1.out.below hJ6.below) HL0.out HL1.out (by omega) (by have:=HL1.out; omega)).mono ?_
 rintro e WE ⟨rfl,hB⟩
 rw [same_self]
 have hBE:=hBw.out.trans ((hJ6.below.trans (hB.mono hJ6.below.size)).mono hBw.out.size)
 clear hB hJ6 a0 a1 a2 a3 z0 z1 z2 z3
 go_wp2
 go_ret
 exact ⟨rfl,hBE⟩
theorem CodecBack_any {w:World} {k a q:Int} {ad:Option Addr} {n c:Nat} {vs:List Int} (hT:Tab w) (hv:Il w ad vs) (hn:vs.length=n) (hnb:n≤20000000000000):Calls Tryd.prog 5 #[.agg #[.int .i64 k,.int .i64 a,.int .i64 q,(.slice ad n c)]] w (PVal (.bool true) w):=by
 by_cases h:err k a q vs=0
 ·
  obtain ⟨b1,b2,b3,b4⟩:=back_all h
  have hk:1≤k∧k≤4:=(cnt_pos k).1 (Nat.pos_of_ne_zero (of_err h).1)
  have hl:vs.length≤6:=by rw [(of_err h).2.1]; exact cnt_le k
  refine back_w (T:=encS a q vs) hl (by omega) (by rw [enc_size]; omega) hT hv hn (fun W hT hv=>encode_ok h hT hv hn hnb) (fun W hT=>?_)
  have hd:=dec_ok (k:=k) (s:=encS a q vs) (by omega) (by rw [enc_size]; omega) hT b1
  rw [b2,b3,b4] at hd
  exact hd
 ·
  exact back_no h hT hv (fun W hT hv=>encode_no rfl h hT hv hn hnb)
set_option maxRecDepth 100000 in
set_option maxHeartbeats 6400000 in
theorem only_no {w:World} {k E K' A' Q' E':Int} {s t:ByteArray} {us:List Int} (hE:E ≠ 0) (hT:Tab w) (h1:∀ W,Tab W→Calls Tryd.prog 13 #[.int .u8 k,.string s] W (PDc 0 0 0 [] E W)) (h2:∀ W,Tab W→Calls Tryd.prog 13 #[.int .u8 k,.string t] W (PDc K' A' Q' us E' W)):Calls Tryd.prog 6 #[.int .u8 k,.string s,.string t] w (PVal (.bool true) w):=by
 have HT:=Lib.hid hT
 have H1:=Lib.hid h1
 have H2:=Lib.hid h2
 have e0:(E != 0)=true:=by rw [bne_iff_ne]; exact hE
 clear hT h1 h2 hE
 have hJ0:=es_nil w
 go_enter Tryd.func6,Tryd.ntmps6
 go_wp2_with fail
 refine (awake12_any w (HT.out.below hJ0.below)).mono ?_
 rintro e W1 ⟨rfl,hB⟩
 have hJ1:=hJ0.later hB
 clear hJ0 hB
 go_wp2_with fail
 refine (H1.out _ (HT.out.below hJ1.below)).mono ?_
 rintro e V1 ⟨ad1,n1,c1,rfl,hl1,hv1,hB⟩
 replace HT:=Lib.hid ((HT.out.below hJ1.below).below hB)
 have hBw:=Lib.hid (hJ1.below.trans (hB.mono hJ1.below.size))
 have HI1:=Lib.hid hv1
 have HL1:=Lib.hid hl1
 clear hJ1 hB hv1 hl1
 have hJ2:=es_nil V1
 obtain rfl:n1=0:=by have:=HL1.out; simp at this; omega
 go_wp2_with (refine stop_alloc 24 #[.int .i64 0,.int .i64 0,.int .i64 0,.slice none 0 0] (.agg #[.int .i64 0,.int .i64 0,.int .i64 0,.slice none 0 0]) rfl rfl zv24 rfl hJ2 (fun bk3 W3 hJ3=>?_))
 clear hJ2
 simp only [Stop,Act.put,zzC,zzD,zzE]
 go_wp2_with (refine stop_store 24 (.tmp 8) (.tmp 21) 0 bk3 0 #[.int .i64 0,.int .i64 0,.int .i64 0,.slice none 0 0] 24 4 #[.int .i64 0,.int .i64 0,.int .i64 0,(.slice ad1 0 c1)].toList #[.int .i64 0,.int .i64 0,.int .i64 0,(.slice ad1 0 c1)] [(bk3,#[.int .i64 0,.int .i64 0,.int .i64 0,(.slice ad1 0 c1)],24)] rfl rfl rfl rfl sz24 hJ3 rfl (by kernel_rfl) (zzF (by kernel_rfl)) (by kernel_rfl) (by kernel_rfl) (by kernel_rfl) (fun W4 hJ4=>?_))
 clear hJ3
 simp only [Stop,Act.put,zzC,zzD,zzE]
 go_wp2_with fail
 refine (H2.out _ (HT.out.below hJ4.below)).mono ?_
 rintro e V2 ⟨ad2,n2,c2,rfl,hl2,hv2,hB⟩
 replace HT:=Lib.hid ((HT.out.below hJ4.below).below hB)
 replace HI1:=Lib.hid ((HI1.out.below hJ4.below).below hB)
 have hC_bk3:=Lib.hid (Cl.below (hJ4.at' _ (zzG (i:=0) rfl)) hB)
 replace hBw:=Lib.hid (hBw.out.trans ((hJ4.below.trans (hB.mono hJ4.below.size)).mono hBw.out.size))
 have HI2:=Lib.hid hv2
 have HL2:=Lib.hid hl2
 clear hJ4 hB hv2 hl2
 have hJ5:=es_nil V2
 go_wp2_with (refine stop_alloc 24 #[.int .i64 0,.int .i64 0,.int .i64 0,.slice none 0 0] (.agg #[.int .i64 0,.int .i64 0,.int .i64 0,.slice none 0 0]) rfl rfl zv24 rfl hJ5 (fun bk6 W6 hJ6=>?_))
 clear hJ5
 simp only [Stop,Act.put,zzC,zzD,zzE]
 go_wp2_with (refine stop_store 24 (.tmp 10) (.tmp 27) 0 bk6 0 #[.int .i64 0,.int .i64 0,.int .i64 0,.slice none 0 0] 24 4 #[.int .i64 K',.int .i64 A',.int .i64 Q',(.slice ad2 n2 c2)].toList #[.int .i64 K',.int .i64 A',.int .i64 Q',(.slice ad2 n2 c2)] [(bk6,#[.int .i64 K',.int .i64 A',.int .i64 Q',(.slice ad2 n2 c2)],24)] rfl rfl rfl rfl sz24 hJ6 rfl (by kernel_rfl) (zzF (by kernel_rfl)) (by kernel_rfl) (by kernel_rfl) (by kernel_rfl) (fun W7 hJ7=>?_))
 clear hJ6
 simp only [Stop,Act.put,zzC,zzD,zzE]
 have hMa:=Mb.ofCl (hC_bk3.out.below hJ7.below)
 have a0:=hMa.c0
 have a1:=hMa.c1
 have a2:=hMa.c2
 have a3:=hMa.c3
 clear hMa a1 a2
 have hBE:=hBw.out.trans (hJ7.below.mono hBw.out.size)
 clear hJ7
 go_wp2
 go_ret
 exact ⟨rfl,hBE⟩
set_option maxRecDepth 100000 in
set_option maxHeartbeats 6400000 in
theorem only_w {w:World} {k A Q K' A' Q' E':Int} {s t:ByteArray} {vs us:List Int} {r:Bool} (hl:vs.length≤6) (hl2:us.length≤6) (hs:sameM k A Q vs K' A' Q' us=r) (hor:E' ≠ 0∨E'=0∧r=(s.toList == t.toList)) (hT:Tab w) (h1:∀ W,Tab W→Calls Tryd.prog 13 #[.int .u8 k,.string s] W (PDc k A Q vs 0 W)) (h2:∀ W,Tab W→Calls Tryd.prog 13 #[.int .u8 k,.string t] W (PDc K' A' Q' us E' W))
  (h3:∀ W ad n c,Tab W→Il W ad vs→vs.length=n→Calls Tryd.prog 9 #[.agg #[.int .i64 k,.int .i64 A,.int .i64 Q,(.slice ad n c)]] W (PVal (.tuple #[.int .u8 k,.string s,.int .i64 0]) W)):Calls Tryd.prog 6 #[.int .u8 k,.string s,.string t] w (PVal (.bool true) w):=by
 have HT:=Lib.hid hT
 have H1:=Lib.hid h1
 have H2:=Lib.hid h2
 have H3:=Lib.hid h3
 have HS:=Lib.hid hs
 clear hT h1 h2 h3 hs
 have hJ0:=es_nil w
 go_enter Tryd.func6,Tryd.ntmps6
 go_wp2_with fail
 refine (awake12_any w (HT.out.below hJ0.below)).mono ?_
 rintro e W1 ⟨rfl,hB⟩
 have hJ1:=hJ0.later hB
 clear hJ0 hB
 go_wp2_with fail
 refine (H1.out _ (HT.out.below hJ1.below)).mono ?_
 rintro e V1 ⟨ad1,n1,c1,rfl,hl1,hv1,hB⟩
 replace HT:=Lib.hid ((HT.out.below hJ1.below).below hB)
 have hBw:=Lib.hid (hJ1.below.trans (hB.mono hJ1.below.size))
 have HI1:=Lib.hid hv1
 have HL1:=Lib.hid hl1
 clear hJ1 hB hv1 hl1
 have hJ2:=es_nil V1
 go_wp2_with (refine stop_alloc 24 #[.int .i64 0,.int .i64 0,.int .i64 0,.slice none 0 0] (.agg #[.int .i64 0,.int .i64 0,.int .i64 0,.slice none 0 0]) rfl rfl zv24 rfl hJ2 (fun bk3 W3 hJ3=>?_))
 clear hJ2
 simp only [Stop,Act.put,zzC,zzD,zzE]
 go_wp2_with (refine stop_store 24 (.tmp 8) (.tmp 21) 0 bk3 0 #[.int .i64 0,.int .i64 0,.int .i64 0,.slice none 0 0] 24 4 #[.int .i64 k,.int .i64 A,.int .i64 Q,(.slice ad1 n1 c1)].toList #[.int .i64 k,.int .i64 A,.int .i64 Q,(.slice ad1 n1 c1)] [(bk3,#[.int .i64 k,.int .i64 A,.int .i64 Q,(.slice ad1 n1 c1)],24)] rfl rfl rfl rfl sz24 hJ3 rfl (by kernel_rfl) (zzF (by kernel_rfl)) (by kernel_rfl) (by kernel_rfl) (by kernel_rfl) (fun W4 hJ4=>?_))
 clear hJ3
 simp only [Stop,Act.put,zzC,zzD,zzE]
 go_wp2_with fail
 refine (H2.out _ (HT.out.below hJ4.below)).mono ?_
 rintro e V2 ⟨ad2,n2,c2,rfl,hl2,hv2,hB⟩
 replace HT:=Lib.hid ((HT.out.below hJ4.below).below hB)
 replace HI1:=Lib.hid ((HI1.out.below hJ4.below).below hB)
 have hC_bk3:=Lib.hid (Cl.below (hJ4.at' _ (zzG (i:=0) rfl)) hB)
 replace hBw:=Lib.hid (hBw.out.trans ((hJ4.below.trans (hB.mono hJ4.below.size)).mono hBw.out.size))
 have HI2:=Lib.hid hv2
 have HL2:=Lib.hid hl2
 clear hJ4 hB hv2 hl2
 have hJ5:=es_nil V2
 go_wp2_with (refine stop_alloc 24 #[.int .i64 0,.int .i64 0,.int .i64 0,.slice none 0 0] (.agg #[.int .i64 0,.int .i64 0,.int .i64 0,.slice none 0 0]) rfl rfl zv24 rfl hJ5 (fun bk6 W6 hJ6=>?_))
 clear hJ5
 simp only [Stop,Act.put,zzC,zzD,zzE]
 go_wp2_with (refine stop_store 24 (.tmp 10) (.tmp 27) 0 bk6 0 #[.int .i64 0,.int .i64 0,.int .i64 0,.slice none 0 0] 24 4 #[.int .i64 K',.int .i64 A',.int .i64 Q',(.slice ad2 n2 c2)].toList #[.int .i64 K',.int .i64 A',.int .i64 Q',(.slice ad2 n2 c2)] [(bk6,#[.int .i64 K',.int .i64 A',.int .i64 Q',(.slice ad2 n2 c2)],24)] rfl rfl rfl rfl sz24 hJ6 rfl (by kernel_rfl) (zzF (by kernel_rfl)) (by kernel_rfl) (by kernel_rfl) (by kernel_rfl) (fun W7 hJ7=>?_))
 clear hJ6
 simp only [Stop,Act.put,zzC,zzD,zzE]
 go_wp2_with (refine zso rfl (fun K hK=>wp_load 24 (.tmp 8) rfl bk3 0 4 #[.int .i64 k,.int .i64 A,.int .i64 Q,(.slice ad1 n1 c1)] #[.int .i64 k,.int .i64 A,.int .i64 Q,(.slice ad1 n1 c1)] 24 (Cl.below hC_bk3.out hJ7.below) rfl ag24 sz24 (zzF (by kernel_rfl)) (by kernel_rfl) (hK _ _ ?_)))
 simp only [Stop,Act.put,zzC,zzD,zzE]
 go_wp2_with fail
 refine (H3.out _ _ _ _ (HT.out.below hJ7.below) (HI1.out.below hJ7.below) HL1.out).mono ?_
 rintro e W8 ⟨rfl,hB⟩
 have hJ8:=hJ7.later hB
 clear hJ7 hB
 have hMa:=Mb.ofCl (hC_bk3.out.below hJ8.below)
 have a0:=hMa.c0
 have a1:=hMa.c1
 have a2:=hMa.c2
 have a3:=hMa.c3
 clear hMa
 have hMz:=Mb.of hJ8 0 rfl
 have z0:=hMz.c0
 have z1:=hMz.c1
 have z2:=hMz.c2
 have z3:=hMz.c3
 clear hMz
 go_wp2_with fail
 refine (same12_w (HI1.out.below hJ8.below) (HI2.out.below hJ8.below) HL1.out HL2.out (by have:=HL1.out; omega) (by have:=HL2.out; omega)).mono ?_
 rintro e WE ⟨rfl,hB⟩
 rw [HS.out]
 have hBE:=hBw.out.trans ((hJ8.below.trans (hB.mono hJ8.below.size)).mono hBw.out.size)
 clear hB hJ8 a0 a1 a2 a3 z0 z1 z2 z3
 rcases hor with hE | hE
 ·
  have e1:(E' != 0)=true:=by rw [bne_iff_ne]; exact hE
  clear hE
  go_wp2
  go_ret
  exact ⟨rfl,hBE⟩
 ·
  have e1:(E' != 0)=false:=by rw [bne_eq_false_iff_eq]; exact hE.1
  have e2:=hE.2
  clear hE
  subst e2
  go_wp2
  go_ret
  exact ⟨rfl,hBE⟩
theorem CodecOnly_any {w:World} {k:Int} {s t:ByteArray} (hk:0≤k∧k≤255) (hs:s.size≤1000000000000000) (ht:t.size≤1000000000000000) (hT:Tab w):Calls Tryd.prog 6 #[.int .u8 k,.string s,.string t] w (PVal (.bool true) w):=by
 by_cases h:dE k s=0
 ·
  have hl:∀ x,(dV k x).length≤6:=fun x=>by rw [dV_len]; exact cnt_le k
  obtain ⟨o1,o2⟩:=only_all h
  have h3:∀ W ad n c,Tab W→Il W ad (dV k s)→(dV k s).length=n→Calls Tryd.prog 9 #[.agg #[.int .i64 k,.int .i64 ((dA s:Nat):Int),.int .i64 ((dQ s:Nat):Int),(.slice ad n c)]] W (PVal (.tuple #[.int .u8 k,.string s,.int .i64 0]) W):=fun W ad n c hT hv hn=>by
   have he:=encode_ok (c:=c) o1 hT hv hn (by have:=hl s; omega)
   rw [o2] at he
   exact he
  by_cases h':dE k t=0
  ·
   exact only_w (hl s) (hl t) (same_bytes h h') (.inr ⟨rfl,rfl⟩) hT (fun W hT=>dec_ok hk hs hT h) (fun W hT=>dec_ok hk ht hT h') h3
  ·
   exact only_w (hl s) (by decide) rfl (.inl h') hT (fun W hT=>dec_ok hk hs hT h) (fun W hT=>dec_no hk ht hT rfl h') h3
 ·
  by_cases h':dE k t=0
  ·
   exact only_no h hT (fun W hT=>dec_no hk hs hT rfl h) (fun W hT=>dec_ok hk ht hT h')
  ·
   exact only_no h hT (fun W hT=>dec_no hk hs hT rfl h) (fun W hT=>dec_no hk ht hT rfl h')
end Go.Proofs.YtcoenncgoepadaaDoor
