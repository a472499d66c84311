/- Parts of the proof. -/
import Derived.Test.YtadbijfjfoeojaaJf0
import Derived.Test.YtadbijfjfoeojaaJf20
import Derived.Maps.AppendAt
import Derived.Laws.AppendOwnNone
import Derived.Test.YtadbijfjfoeojaaJf19
set_option linter.unusedSimpArgs false
set_option linter.unusedVariables false
/- What a scan tells, appended to an own slice: a law for the walk. No statement of the seat is proved here. -/
namespace Go.Proofs.Ytadbijfjfoeojaa
open Go Go.RowKit
theorem wpList_told {Scn:World→Value→List UInt8→Nat→(Nat→Prop)→Prop} (C:FrameC Scn) {w W:World} {sc:List Sx} {ts:List Tx} {v u:Value} {fs gs:Fs} {c:Nat} (hF:Fd Scn w W sc (⟨u,gs,c⟩ :: ts) v fs) (hn:fs.length+gs.length≤1000000000)
  {ops:Array Oper} {rest:List Oper} {o:Oper} {a:Act} {Q:Exit→Act→World→Prop} (hgd:o.guard=none) (s x:Operand) (ho:o.op=.call { callee:=.builtin .append,args:=#[s,x],argTypes:=#[30,30] })
  (hs:a.eval s=v) (hx:a.eval x=u) (h:∀ v' W',Fd Scn w W' sc ts v' (fs++gs)→wpList Try.prog ops Q rest (a.put o.dst v') W'):wpList Try.prog ops Q (o :: rest) a W:=by
 obtain ⟨i0,hi0,hz0,hzz1,hzz2⟩:=info_parts Try.finfo39
 have ht:Try.prog.underlying 30=some (.slice 39):=by kernel_rfl
 have hb:w.heap.size≤W.heap.size:=hF.sq.below.size
 have hT:=hF.sq.told 0 _ rfl
 have at_:∀ (ad:Addr) (m d:Nat),m=gs.length→u=.slice (some ad) m d→(∀ j y,(fcells gs)[j]?=some y→W.cell? (ad.add j)=some y)→wpList Try.prog ops Q (o :: rest) a W:=by
  rintro ad m d rfl hu hc
  refine wpList_append_own_at W hgd s x 30 ho w.heap.size 39 i0 _ 2 24 ht hi0 hz0 hzz1 hzz2 rfl (by decide) v fs.length (fcells fs) hs hF.row ad gs.length d (fcells gs) (by rw [hx,hu]) (fcells_len gs) hc (fcells_one gs) (by simp only [maxLen]; omega) (by omega) hb ?_
  intro v' W' h1 h2 _ h4
  refine h v' W' ?_
  refine hF.drop.grown C h2 ?_ ?_
  ·
   rw [List.length_append,fcells_app]
   exact h1
  ·
   intro g hg
   rcases h4 with h4 | h4
   ·
    exact .inl (h4 ▸ hg)
   ·
    rw [h4] at hg
    cases hg
    exact .inr (Nat.le_refl _)
 rcases hT with ⟨e0,ad,d,eu,hd⟩ | ⟨_,of,d,eu,hc,hcs⟩
 ·
  simp only at e0 eu
  subst e0
  cases ad with
  | none =>
   rw [hd rfl] at eu
   refine wpList_append_own_none hgd s x 30 ho w.heap.size 39 i0 2 ht hi0 v fs.length (fcells fs) hs hF.row (by rw [hx,eu]) ?_
   refine h v W ?_
   rw [List.append_nil]
   exact hF.drop
  | some ad=>exact at_ ad 0 d rfl eu (fun j y hj=>by simp [fcells] at hj)
 ·
  simp only at eu hc hcs
  exact at_ ⟨c,of,none⟩ gs.length d rfl eu (fcells_at hcs)
theorem rn_app (l z:List UInt8):rn_ (l++z)=((rn_ l).1++(rn_ ((rn_ l).2.2++z)).1,(rn_ l).2.1+(rn_ ((rn_ l).2.2++z)).2.1,(rn_ ((rn_ l).2.2++z)).2.2):=W.run_app _ l z rfl
theorem fd_feed {Scn} (C:FrameC Scn) {w W:World} {sc:List Sx} {ts:List Tx} {v:Value} {fs gs:Fs} (h:Fd Scn w W sc ts v fs) (i:Nat) {p:Value} {l l':List UInt8} {b d:Nat} {F:Nat→Prop} (hi:sc[i]?=some ⟨p,l,b,F⟩) (s:ByteArray) (hs:l.length+s.size≤1000000) (hr:rn_ (l++s.data.toList)=(gs,d,l')) :
  Calls Try.prog 13 #[p,.string s] W fun e W'=>∃ u F' c,e=.returned u∧Fd Scn w W' (sc.set i ⟨p,l',b+d,F'⟩) (⟨u,gs,c⟩ :: ts) v fs:=by
 refine (C.feed s (h.sq.scn i _ hi) hs).mono ?_
 rintro e W' ⟨u,F',c,rfl,hs',hF,hc,ht,hn⟩
 rw [hr] at hs' ht hn
 exact ⟨u,F',c,rfl,h.feed C i hi hs' hF hc ht hn⟩
set_option maxRecDepth 100000 in
set_option maxHeartbeats 6400000 in
theorem FrameReads_any {Scn} (P:FrameC Scn) (ad:Option Addr) (n c:Nat) (T:Nat→ByteArray) (w:World) (hn:n≤10000000000000)
  (hT:∀ i,i < n→∃ b o,ad=some ⟨b,o,none⟩∧b < w.heap.size∧w.cell? ⟨b,o+i,none⟩=some (.string (T i))∧(T i).size≤140737488355328) :
  Calls Try.prog 4 #[.slice ad n c] w (PVal (.bool true) w):=by
 have HA:=Lib.hid (fawake_any P)
 have HT:=Lib.hid hT
 have HP:=Lib.hid P
 clear hT
 have hQ0:=sq_nil (Scn:=Scn) w
 go_enter Try.func4,Try.ntmps4
 go_wp2_with fail
 refine (HA.out _).mono ?_
 rintro e0 W0 ⟨rfl,hB0⟩
 replace hQ0:=hQ0.later P hB0
 clear hB0
 go_wp2_with fail
 refine (P.new _).mono ?_
 rintro e1 W1 ⟨p1,F1,rfl,hs1,hF1,hB1⟩
 have hQ1:=hQ0.new P hB1 hs1 hF1
 obtain ⟨a1,rfl⟩:=P.ptr hs1
 have hD:=Lib.hid (fd_nil hQ1)
 have hE:Hid (rn_ (⟨#[]⟩:ByteArray).data.toList=([],0,[])):=rfl
 clear hs1 hF1 hB1 hQ0 hQ1 P
 go_wp2
 go_loopw [5,6,7] (fun av tv iv wr=>∃ (i b:Nat) (A:ByteArray) (fs:Fs) (l:List UInt8) (F:Nat→Prop),i≤n∧i≤100∧A.size≤4000∧av=.string A∧iv=.int .i64 i∧Hid (Fd Scn w wr [⟨.pointer (some a1),l,b,F⟩] [] tv fs)∧Hid (rn_ A.data.toList=(fs,b,l))) (fun _ _ iv _=>n - (intOf iv).toNat)
 case atStart=>exact ⟨0,0,⟨#[]⟩,[],[],F1,by omega,by omega,by decide,rfl,rfl,hD,hE⟩
 case round =>
  obtain ⟨i,b,A,fs,l,F,hi,hi1,hA,rfl,rfl,HD,HE⟩:=hrel
  by_cases h1:i < n
  ·
   by_cases h2:i < 100
   ·
    obtain ⟨bq,o,rfl,hbq,hcell,hsz⟩:=HT.out i h1
    have hc1:=(HD.out.sq.below.cell (p:=⟨bq,o+i,none⟩) hbq).trans hcell
    obtain ⟨t,ht⟩:∃ t,T i=t:=⟨_,rfl⟩
    rw [ht] at hc1 hsz
    clear hcell ht
    obtain ⟨Z,hZ⟩:∃ Z,A++t=Z:=⟨_,rfl⟩
    have hZs:(Z.size:Int)=A.size+t.size:=by rw [← hZ,ByteArray.size_append]; omega
    have HZ:=Lib.hid hZ
    by_cases h3:4000 < A.size+t.size
    ·
     have e3:decide (4000 < (Z.size:Int))=true:=decide_eq_true (by omega)
     go_wp2
     go_ret
     exact ⟨rfl,HD.out.sq.below⟩
    ·
     have e3:decide (4000 < (Z.size:Int))=false:=decide_eq_false (by omega)
     go_wp2_with fail
     obtain ⟨gs,d,l',hr⟩:∃ gs d l',rn_ (l++t.data.toList)=(gs,d,l'):=⟨_,_,_,rfl⟩
     have hl:l.length≤4000:=by
      have:=rn_count A.data.toList
      rw [HE.out] at this
      simp only [Array.length_toList] at this
      have e:A.data.size=A.size:=rfl
      omega
     have hE2:rn_ Z.data.toList=(fs++gs,b+d,l'):=by
      rw [← hZ,ByteArray.data_append,Array.toList_append,rn_app,HE.out]
      simp only
      rw [hr]
     have hlen:fs.length+gs.length≤4000:=by
      have:=rn_count Z.data.toList
      rw [hE2] at this
      simp only [Array.length_toList,List.length_append] at this
      have e:Z.data.size=Z.size:=rfl
      omega
     have hZ4:Z.size≤4000:=by omega
     have hl2:(fs++gs).length≤1000000000:=by rw [List.length_append]; omega
     refine (fd_feed HP.out HD.out 0 rfl t (by omega) hr).mono ?_
     rintro e2 W2 ⟨u,F2,c2,rfl,hD2⟩
     have HD2:=Lib.hid hD2
     have HE2:=Lib.hid hE2
     clear hD2 hE2 HD HE hr
     go_wp2_with (first | (at_builtin; refine wpList_told HP.out HD2.out (Nat.le_trans hlen (by decide)) rfl (.tmp 37) (.tmp 43) rfl rfl rfl ?_; intro v3 W3 hD3))
     refine (rread_any Z _ (by omega)).mono ?_
     rintro e3 W4 ⟨f4,b4,wt4,v4,rfl,⟨q1,q2,q3⟩,hrow4,hB4⟩
     have HE3:=HE2.out
     unfold rn_ at HE3
     rw [HE3] at q1 q2 q3
     simp only at q1 q2 q3
     subst q1 q2 q3
     have hL4:=frl_own hrow4
     have hD4:=hD3.later HP.out hB4
     clear HE3 hrow4 hB4 hD3
     go_wp2_with fail
     refine (HP.out.bad (hD4.sq.scn 0 _ rfl) (by have:=rn_badB HE2.out; show b+d≤1000000000; omega)).mono ?_
     rintro e4 W5 ⟨rfl,hB5⟩
     have hL5:=hL4.below hB5
     have hD5:=hD4.later HP.out hB5
     clear hL4 hD4 hB5
     go_wp2_with fail
     refine (HP.out.waiting (hD5.sq.scn 0 _ rfl)).mono ?_
     rintro e5 W6 ⟨rfl,hB6⟩
     have hL6:=hL5.below hB6
     have hD6:=hD5.later HP.out hB6
     clear hL5 hD5 hB6
     go_wp2_with fail
     refine (same_at true (decide_eq_true rfl) hD6.frl hL6 hl2 hl2).mono ?_
     rintro e6 W7 ⟨rfl,hB7⟩
     have hD7:=Lib.hid (hD6.later HP.out hB7)
     clear hL6 hD6 hB7
     go_wp2
     go_roundw
     case rel=>exact ⟨i+1,b+d,Z,fs++gs,l',F2,by omega,by omega,hZ4,rfl,by go_num,hD7,HE2⟩
     case measure=>simp [intOf]; omega
   ·
    go_wp2
    go_ret
    exact ⟨rfl,HD.out.sq.below⟩
  ·
   go_wp2
   go_ret
   exact ⟨rfl,HD.out.sq.below⟩
theorem take_more (s:ByteArray) {i m:Nat}:s.data.toList.take (i+m)=s.data.toList.take i++(s.extract i (i+m)).data.toList:=by
 rw [ByteArray.data_extract,Array.toList_extract,List.extract_eq_take_drop,show i+m - i=m by omega,List.take_add]
set_option maxRecDepth 100000 in
set_option maxHeartbeats 6400000 in
theorem FrameChunks_any {Scn} (P:FrameC Scn) (s:ByteArray) (n:Int) (w:World) (hs:s.size≤140737488355328) (hn:n≤9223372036854775807) :
  Calls Try.prog 5 #[.string s,.int .i64 n] w (PVal (.bool true) w):=by
 have HA:=Lib.hid (fawake_any P)
 have HP:=Lib.hid P
 have hQ0:=sq_nil (Scn:=Scn) w
 go_enter Try.func5,Try.ntmps5
 go_wp2_with fail
 refine (HA.out _).mono ?_
 rintro e0 W0 ⟨rfl,hB0⟩
 replace hQ0:=hQ0.later P hB0
 clear hB0
 by_cases h1:n < 1
 ·
  go_wp2
  go_ret
  exact ⟨rfl,hQ0.below⟩
 by_cases h2:4000 < s.size
 ·
  go_wp2
  go_ret
  exact ⟨rfl,hQ0.below⟩
 go_wp2_with fail
 refine (P.new _).mono ?_
 rintro e1 W1 ⟨p1,F1,rfl,hs1,hF1,hB1⟩
 have hQ1:=hQ0.new P hB1 hs1 hF1
 obtain ⟨a1,rfl⟩:=P.ptr hs1
 clear hs1 hF1 hB1 hQ0
 go_wp2_with fail
 refine (P.new _).mono ?_
 rintro e2 W2 ⟨p2,F2,rfl,hs2,hF2,hB2⟩
 have hQ2:=hQ1.new P hB2 hs2 hF2
 obtain ⟨a2,rfl⟩:=P.ptr hs2
 clear hs2 hF2 hB2 hQ1
 obtain ⟨fa,ba,la,hr⟩:∃ fa ba la,rn_ ([]++s.data.toList)=(fa,ba,la):=⟨_,_,_,rfl⟩
 go_wp2_with fail
 refine (feed_at P hQ2 1 rfl s (by simp; omega) hr).mono ?_
 rintro e3 W3 ⟨v3,F3,c3,rfl,hQ3⟩
 have hD:=Lib.hid (fd_nil hQ3)
 rw [List.nil_append] at hr
 have HR:=Lib.hid hr
 have hE:Hid (rn_ (s.data.toList.take 0)=([],0,[])):=by rw [List.take_zero]; rfl
 clear hQ3 hr hQ2 P
 go_wp2
 go_loopw [9,10] (fun tv iv wr=>∃ (i b:Nat) (fs:Fs) (l:List UInt8) (F:Nat→Prop),i≤s.size∧iv=.int .i64 i∧Hid (Fd Scn w wr [⟨.pointer (some a2),l,b,F⟩,⟨.pointer (some a1),la,0+ba,F3⟩] [⟨v3,fa,c3⟩] tv fs)∧Hid (rn_ (s.data.toList.take i)=(fs,b,l))) (fun _ iv _=>s.size - (intOf iv).toNat)
 case atStart=>exact ⟨0,0,[],[],F2,by omega,rfl,hD,hE⟩
 case round =>
  obtain ⟨i,b,fs,l,F,hi,rfl,HD,HE⟩:=hrel
  by_cases h3:i < s.size
  ·
   obtain ⟨m,hm⟩:∃ m:Nat,min n ((s.size:Int) - (i:Int))=(m:Nat):=⟨(min n ((s.size:Int) - (i:Int))).toNat,by omega⟩
   have hm1:1≤m:=by omega
   have hm2:i+m≤s.size:=by omega
   obtain ⟨t,ht⟩:∃ t,s.extract i (i+m)=t:=⟨_,rfl⟩
   have hts:t.size=m:=by rw [← ht,ByteArray.size_extract]; omega
   obtain ⟨gs,d,l',hr⟩:∃ gs d l',rn_ (l++t.data.toList)=(gs,d,l'):=⟨_,_,_,rfl⟩
   have hcnt:=rn_count (s.data.toList.take i)
   have ht0:=List.length_take_le i s.data.toList
   have hl:l.length≤4000:=by
    rw [HE.out] at hcnt
    simp only at hcnt
    omega
   have hE2:rn_ (s.data.toList.take (i+m))=(fs++gs,b+d,l'):=by
    rw [take_more,ht,rn_app,HE.out]
    simp only
    rw [hr]
   have hlen:fs.length+gs.length≤4000:=by
    have h5:=rn_count (s.data.toList.take (i+m))
    have h6:=List.length_take_le (i+m) s.data.toList
    rw [hE2] at h5
    simp only [List.length_append] at h5
    omega
   have HE2:=Lib.hid hE2
   have HX:=Lib.hid hr
   clear hE2 hcnt ht0 hr
   go_wp2_with fail
   refine (fd_feed HP.out HD.out 0 rfl t (by omega) HX.out).mono ?_
   rintro e4 W4 ⟨u,F4,c4,rfl,hD4⟩
   have HD4:=Lib.hid hD4
   clear hD4 HD HE HX ht
   go_wp2_with (first | (at_builtin; refine wpList_told HP.out HD4.out (Nat.le_trans hlen (by decide)) rfl (.tmp 47) (.tmp 60) rfl rfl rfl ?_; intro v5 W5 hD5))
   have HD5:=Lib.hid hD5
   clear hD5
   go_roundw
   case rel=>exact ⟨i+m,b+d,fs++gs,l',F4,hm2,by go_num,HD5,HE2⟩
   case measure=>simp [intOf]; omega
  ·
   have hE:=HE.out
   rw [List.take_of_length_le (by simp only [Array.length_toList]; have e:s.data.size=s.size:=rfl; omega),HR.out] at hE
   obtain ⟨rfl,rfl,rfl⟩:fa=fs∧ba=b∧la=l:=by injection hE with h4 h5; injection h5 with h5 h6; exact ⟨h4,h5,h6⟩
   have hfl:fa.length≤1000000000:=by
    have h5:=rn_count s.data.toList
    rw [HR.out] at h5
    simp only [Array.length_toList] at h5
    have e:s.data.size=s.size:=rfl
    omega
   have hD4:=HD.out
   clear hE HE HD
   go_wp2_with fail
   have hbd:=rn_badB HR.out
   refine (HP.out.bad (hD4.sq.scn 1 _ rfl) (by simp only; omega)).mono ?_
   rintro e4 W4 ⟨rfl,hB⟩
   have hD5:=hD4.later HP.out hB
   clear hD4 hB
   go_wp2_with fail
   refine (HP.out.bad (hD5.sq.scn 0 _ rfl) (by simp only; omega)).mono ?_
   clear hbd
   rintro e5 W5 ⟨rfl,hB⟩
   have hD6:=hD5.later HP.out hB
   clear hD5 hB
   go_wp2_with fail
   refine (HP.out.waiting (hD6.sq.scn 1 _ rfl)).mono ?_
   rintro e6 W6 ⟨rfl,hB⟩
   have hD7:=hD6.later HP.out hB
   clear hD6 hB
   go_wp2_with fail
   refine (HP.out.waiting (hD7.sq.scn 0 _ rfl)).mono ?_
   rintro e7 W7 ⟨rfl,hB⟩
   have hD8:=hD7.later HP.out hB
   clear hD7 hB
   go_wp2_with fail
   refine (same_at true (decide_eq_true rfl) (hD8.sq.told 0 _ rfl).frl hD8.frl hfl hfl).mono ?_
   rintro e8 W8 ⟨rfl,hB⟩
   have hD9:=Lib.hid (hD8.later HP.out hB)
   clear hD8 hB
   go_wp2
   go_ret
   exact ⟨rfl,hD9.out.sq.below⟩
theorem right_seal (l:List UInt8):X.rightB (X.sealB l)=true:=by
 unfold X.rightB
 rw [X.seal_take]
 simp [X.seal_len]
theorem head_list (k:UInt8) (s:ByteArray):(headB k s).data.toList=k :: UInt8.ofNat s.size :: s.data.toList:=by
 unfold headB
 rw [ByteArray.data_append,Array.toList_append]
 rfl
theorem rn_wrap (k:UInt8) (p:ByteArray) (hp:p.size≤64):rn_ (wrapS k p).data.toList=([(k,p.data.toList)],0,[]):=by
 have hl:p.data.toList.length=p.size:=by rw [Array.length_toList]; rfl
 have h:=W.run_told (rt:=X.rightB) (k:=k) (n:=UInt8.ofNat p.size) (p:=p.data.toList) (s:=X.twoB (X.csB 65535 (headB k p).data.toList)) (z:=[]) (by rw [hl,UInt8.toNat_ofNat']; omega) (by omega) (by unfold X.twoB; rfl) (by
  have h1:=right_seal (headB k p).data.toList
  unfold X.sealB at h1
  rw [head_list] at h1 ⊢
  exact h1)
 rw [List.append_nil] at h
 rw [wrap_list]
 exact h
theorem back_one {A:ByteArray} {g:Fs} (h:rn_ A.data.toList=(g,0,[])) (k:UInt8) (p:ByteArray) (hp:p.size≤64):rn_ (A++wrapS k p).data.toList=(g++[(k,p.data.toList)],0,[]):=by
 rw [ByteArray.data_append,Array.toList_append,rn_app,h]
 simp only [List.nil_append]
 rw [rn_wrap k p hp]
 rfl
theorem back_junk {A:ByteArray} {g:Fs} (h:rn_ A.data.toList=(g,0,[])) (t:ByteArray) (ht:∀ j (h:j < t.size),t[j] ≠ 165):rn_ (A++t).data.toList=(g,0,[]):=by
 have hj:∀ x,x ∈ t.data.toList→x ≠ 165:=by
  intro x hx
  obtain ⟨j,hj,rfl⟩:=List.getElem_of_mem hx
  exact ht j (by simpa using hj)
 have:=W.run_junk (rt:=X.rightB) t.data.toList [] hj
 rw [List.append_nil] at this
 rw [ByteArray.data_append,Array.toList_append,rn_app,h]
 simp only [List.nil_append]
 rw [rn_,this]
 simp [W.run,W.rn]
theorem frl_get {w:World} {ad:Option Addr} {n c:Nat} {fs:Fs} (h:FrL w (.slice ad n c) fs) (i:Nat) (hi:i < fs.length):∃ b o,ad=some ⟨b,o,none⟩∧b < w.heap.size∧w.cell? ⟨b,o+i*2,none⟩=some (.int .u8 ((fs[i]).1.toNat:Nat))∧w.cell? ⟨b,o+i*2+1,none⟩=some (.string ⟨(fs[i]).2.toArray⟩):=by
 rcases h with ⟨h,_⟩ | ⟨b,o,c',e,hb,hc⟩
 ·
  rw [h] at hi
  exact absurd hi (Nat.not_lt_zero _)
 ·
  cases e
  exact ⟨b,o,rfl,hb,hc i hi⟩
set_option maxRecDepth 100000 in
set_option maxHeartbeats 12800000 in
theorem FrameBack_any {Scn} (P:FrameC Scn) (adl ad:Option Addr) (cl n c:Nat) (fs:Fs) (T:Nat→ByteArray) (w:World) (hn:n≤10000000000000) (hfn:fs.length≤10000000000000)
  (hL:FrL w (.slice adl fs.length cl) fs) (hLs:∀ i (h:i < fs.length),(fs[i]).2.length≤140737488355328)
  (hT:∀ i,i < n→∃ b o,ad=some ⟨b,o,none⟩∧b < w.heap.size∧w.cell? ⟨b,o+i,none⟩=some (.string (T i))∧(T i).size≤140737488355328) :
  Calls Try.prog 6 #[.slice adl fs.length cl,.slice ad n c] w (PVal (.bool true) w):=by
 have HA:=Lib.hid (fawake_any P)
 have HT:=Lib.hid hT
 have HL:=Lib.hid hL
 have HLs:=Lib.hid hLs
 have HP:=Lib.hid P
 clear hT hL hLs P
 go_enter Try.func6,Try.ntmps6
 go_wp2_with fail
 refine (HA.out _).mono ?_
 rintro e0 W0 ⟨rfl,hB0⟩
 obtain ⟨N,hN⟩:∃ N,fs.length=N:=⟨_,rfl⟩
 rw [hN] at hfn ⊢
 replace hN:=Lib.hid hN
 by_cases h1:50 < N
 ·
  go_wp2
  go_ret
  exact ⟨rfl,hB0⟩
 have hE:Hid (rn_ (⟨#[]⟩:ByteArray).data.toList=(fs.take 0,0,[])):=by rw [List.take_zero]; rfl
 go_wp2
 go_loopw [6,7] (fun av iv wr=>∃ (i:Nat) (A:ByteArray),i≤N∧A.size≤i*300∧av=.string A∧iv=.int .i64 i∧Below w.heap.size w wr∧Hid (rn_ A.data.toList=(fs.take i,0,[]))) (fun _ iv _=>N - (intOf iv).toNat)
 case atStart=>exact ⟨0,⟨#[]⟩,by omega,by decide,rfl,rfl,hB0,hE⟩
 case round =>
  obtain ⟨i,A,hi,hA,rfl,rfl,hB,HE⟩:=hrel
  clear hB0 hE
  by_cases h2:i < N
  ·
   have h2':i < fs.length:=by have:=hN.out; omega
   obtain ⟨bl,ol,rfl,hbl,hl1,hl2⟩:=frl_get HL.out i h2'
   replace hl1:=(hB.cell (p:=⟨bl,ol+i*2,none⟩) hbl).trans hl1
   replace hl2:=(hB.cell (p:=⟨bl,ol+i*2+1,none⟩) hbl).trans hl2
   have hps:=HLs.out i h2'
   have htk:=List.take_succ_eq_append_getElem h2'
   obtain ⟨k,hk⟩:∃ k,(fs[i]).1=k:=⟨_,rfl⟩
   obtain ⟨p,hp⟩:∃ p:ByteArray,⟨(fs[i]).2.toArray⟩=p:=⟨_,rfl⟩
   have hpl:(fs[i]).2=p.data.toList:=by rw [← hp]
   have hf:fs[i]=(k,p.data.toList):=Prod.ext hk hpl
   rw [hf] at htk
   rw [hk] at hl1
   rw [hp] at hl2
   have hps2:p.size≤140737488355328:=by rw [hpl] at hps; rw [Array.length_toList] at hps; exact hps
   have HK:=Lib.hid htk
   clear hk hp hpl hf hps htk
   by_cases h3:p.size≤64
   ·
    go_wp2
    refine wp_region_vals 16 [some 27,some 28,some 29,some 30,some 31,some 32,some 33,some 34,some 35,some 36,some 37,some 26,some 38,some 39,some 8,some 9] (lstV [.slice (some ⟨bl,ol,none⟩) N cl,.int .i64 (i:Nat),.pointer (some ⟨bl,ol+i*2,none⟩),.pointer (some ⟨bl,ol+i*2,none⟩),.int .u8 (k.toNat:Nat),.slice (some ⟨bl,ol,none⟩) N cl,.int .i64 (i:Nat),.pointer (some ⟨bl,ol+i*2,none⟩),.pointer (some ⟨bl,ol+i*2+1,none⟩),.string p,.tuple #[.string (wrapS k p),.int .i64 0],.tuple #[.string (wrapS k p),.int .i64 0],.string (wrapS k p),.int .i64 0,.string (wrapS k p),.int .i64 0]) (fun W=>W.cell? ⟨bl,ol+i*2,none⟩=some (.int .u8 (k.toNat:Nat))∧W.cell? ⟨bl,ol+i*2+1,none⟩=some (.string p)∧Below w.heap.size w W) (by kernel_rfl) (by kernel_rfl) (by decide) (⟨hl1,hl2,hB.drew⟩) ?_ ?_
    ·
     intro q hl hi u W hJ hd
     obtain rfl | rfl | rfl | rfl | rfl | rfl | rfl | rfl | rfl | rfl | rfl | rfl | rfl | rfl | rfl | rfl:q=0∨q=1∨q=2∨q=3∨q=4∨q=5∨q=6∨q=7∨q=8∨q=9∨q=10∨q=11∨q=12∨q=13∨q=14∨q=15:=by omega
     ·
      clear hd
      simp only [zzA,zzB]
      clear hl
      refine .inr ⟨rfl,fun K' hK=>?_⟩
      have HK:=Lib.hid hK
      clear hK
      simp only [layS,Act.put,zzC,zzD,zzE,Nat.zero_add,Nat.reduceAdd]
      go_simp
      exact HK.out _ _ (by simp [layS,updV,lstV,Act.put]) hJ
     ·
      clear hd
      simp only [zzA,zzB]
      clear hl
      refine .inr ⟨rfl,fun K' hK=>?_⟩
      have HK:=Lib.hid hK
      clear hK
      simp only [layS,Act.put,zzC,zzD,zzE,Nat.zero_add,Nat.reduceAdd]
      go_simp
      exact HK.out _ _ (by simp [layS,updV,lstV,Act.put]) hJ
     ·
      have e0:u 0=.slice (some ⟨bl,ol,none⟩) N cl:=hd 0 (by kernel_rfl)
      have e1:u 1=.int .i64 (i:Nat):=hd 1 (by kernel_rfl)
      clear hd
      simp only [zzA,zzB]
      clear hl
      refine .inr ⟨rfl,fun K' hK=>?_⟩
      have HK:=Lib.hid hK
      clear hK
      simp only [layS,Act.put,zzC,zzD,zzE,Nat.zero_add,Nat.reduceAdd,e0,e1]
      have E0:=Lib.hid e0
      have E1:=Lib.hid e1
      clear e0 e1
      have hti:((i:Nat):Int).toNat=i:=rfl
      go_simp
      exact HK.out _ _ (by simp [layS,updV,lstV,Act.put,E0.out,E1.out]) hJ
     ·
      have e2:u 2=.pointer (some ⟨bl,ol+i*2,none⟩):=hd 2 (by kernel_rfl)
      clear hd
      simp only [zzA,zzB]
      clear hl
      refine .inr ⟨rfl,fun K' hK=>?_⟩
      have HK:=Lib.hid hK
      clear hK
      simp only [layS,Act.put,zzC,zzD,zzE,Nat.zero_add,Nat.reduceAdd,e2]
      have E2:=Lib.hid e2
      clear e2
      go_simp
      exact HK.out _ _ (by simp [layS,updV,lstV,Act.put,E2.out]) hJ
     ·
      have e3:u 3=.pointer (some ⟨bl,ol+i*2,none⟩):=hd 3 (by kernel_rfl)
      clear hd
      simp only [zzA,zzB]
      clear hl
      refine .inr ⟨rfl,fun K' hK=>?_⟩
      have HK:=Lib.hid hK
      clear hK
      simp only [layS,Act.put,zzC,zzD,zzE,Nat.zero_add,Nat.reduceAdd,e3]
      have E3:=Lib.hid e3
      clear e3
      have c1:=hJ.1
      go_simp
      exact HK.out _ _ (by simp [layS,updV,lstV,Act.put,E3.out]) hJ
     ·
      clear hd
      simp only [zzA,zzB]
      clear hl
      refine .inr ⟨rfl,fun K' hK=>?_⟩
      have HK:=Lib.hid hK
      clear hK
      simp only [layS,Act.put,zzC,zzD,zzE,Nat.zero_add,Nat.reduceAdd]
      go_simp
      exact HK.out _ _ (by simp [layS,updV,lstV,Act.put]) hJ
     ·
      clear hd
      simp only [zzA,zzB]
      clear hl
      refine .inr ⟨rfl,fun K' hK=>?_⟩
      have HK:=Lib.hid hK
      clear hK
      simp only [layS,Act.put,zzC,zzD,zzE,Nat.zero_add,Nat.reduceAdd]
      go_simp
      exact HK.out _ _ (by simp [layS,updV,lstV,Act.put]) hJ
     ·
      have e5:u 5=.slice (some ⟨bl,ol,none⟩) N cl:=hd 5 (by kernel_rfl)
      have e6:u 6=.int .i64 (i:Nat):=hd 6 (by kernel_rfl)
      clear hd
      simp only [zzA,zzB]
      clear hl
      refine .inr ⟨rfl,fun K' hK=>?_⟩
      have HK:=Lib.hid hK
      clear hK
      simp only [layS,Act.put,zzC,zzD,zzE,Nat.zero_add,Nat.reduceAdd,e5,e6]
      have E5:=Lib.hid e5
      have E6:=Lib.hid e6
      clear e5 e6
      have hti:((i:Nat):Int).toNat=i:=rfl
      go_simp
      exact HK.out _ _ (by simp [layS,updV,lstV,Act.put,E5.out,E6.out]) hJ
     ·
      have e7:u 7=.pointer (some ⟨bl,ol+i*2,none⟩):=hd 7 (by kernel_rfl)
      clear hd
      simp only [zzA,zzB]
      clear hl
      refine .inr ⟨rfl,fun K' hK=>?_⟩
      have HK:=Lib.hid hK
      clear hK
      simp only [layS,Act.put,zzC,zzD,zzE,Nat.zero_add,Nat.reduceAdd,e7]
      have E7:=Lib.hid e7
      clear e7
      go_simp
      exact HK.out _ _ (by simp [layS,updV,lstV,Act.put,E7.out]) hJ
     ·
      have e8:u 8=.pointer (some ⟨bl,ol+i*2+1,none⟩):=hd 8 (by kernel_rfl)
      clear hd
      simp only [zzA,zzB]
      clear hl
      refine .inr ⟨rfl,fun K' hK=>?_⟩
      have HK:=Lib.hid hK
      clear hK
      simp only [layS,Act.put,zzC,zzD,zzE,Nat.zero_add,Nat.reduceAdd,e8]
      have E8:=Lib.hid e8
      clear e8
      have c2:=hJ.2.1
      go_simp
      exact HK.out _ _ (by simp [layS,updV,lstV,Act.put,E8.out]) hJ
     ·
      have e4:u 4=.int .u8 (k.toNat:Nat):=hd 4 (by kernel_rfl)
      have e9:u 9=.string p:=hd 9 (by kernel_rfl)
      clear hd
      simp only [zzA,zzB]
      clear hl
      refine .inr ⟨rfl,fun K' hK=>?_⟩
      have HK:=Lib.hid hK
      clear hK
      simp only [layS,Act.put,zzC,zzD,zzE,Nat.zero_add,Nat.reduceAdd,e4,e9]
      have E4:=Lib.hid e4
      have E9:=Lib.hid e9
      clear e4 e9
      go_simp
      refine (HP.out.wrap k p _ h3).mono ?_
      rintro e W' ⟨rfl,hC⟩
      exact HK.out _ _ (by simp [layS,updV,lstV,Act.put,E4.out,E9.out]) (⟨(hC.cell (p:=⟨bl,ol+i*2,none⟩) (World.block_lt_of_cell? _ _ hJ.1)).trans hJ.1,(hC.cell (p:=⟨bl,ol+i*2+1,none⟩) (World.block_lt_of_cell? _ _ hJ.2.1)).trans hJ.2.1,hJ.2.2.trans (hC.mono hJ.2.2.size)⟩)
     ·
      have e10:u 10=.tuple #[.string (wrapS k p),.int .i64 0]:=hd 10 (by kernel_rfl)
      clear hd
      simp only [zzA,zzB]
      clear hl
      refine .inr ⟨rfl,fun K' hK=>?_⟩
      have HK:=Lib.hid hK
      clear hK
      simp only [layS,Act.put,zzC,zzD,zzE,Nat.zero_add,Nat.reduceAdd,e10]
      have E10:=Lib.hid e10
      clear e10
      go_simp
      exact HK.out _ _ (by simp [layS,updV,lstV,Act.put,E10.out]) hJ
     ·
      have e11:u 11=.tuple #[.string (wrapS k p),.int .i64 0]:=hd 11 (by kernel_rfl)
      clear hd
      simp only [zzA,zzB]
      clear hl
      refine .inr ⟨rfl,fun K' hK=>?_⟩
      have HK:=Lib.hid hK
      clear hK
      simp only [layS,Act.put,zzC,zzD,zzE,Nat.zero_add,Nat.reduceAdd,e11]
      have E11:=Lib.hid e11
      clear e11
      go_simp
      exact HK.out _ _ (by simp [layS,updV,lstV,Act.put,E11.out]) hJ
     ·
      have e11:u 11=.tuple #[.string (wrapS k p),.int .i64 0]:=hd 11 (by kernel_rfl)
      clear hd
      simp only [zzA,zzB]
      clear hl
      refine .inr ⟨rfl,fun K' hK=>?_⟩
      have HK:=Lib.hid hK
      clear hK
      simp only [layS,Act.put,zzC,zzD,zzE,Nat.zero_add,Nat.reduceAdd,e11]
      have E11:=Lib.hid e11
      clear e11
      go_simp
      exact HK.out _ _ (by simp [layS,updV,lstV,Act.put,E11.out]) hJ
     ·
      have e12:u 12=.string (wrapS k p):=hd 12 (by kernel_rfl)
      clear hd
      simp only [zzA,zzB]
      clear hl
      refine .inr ⟨rfl,fun K' hK=>?_⟩
      have HK:=Lib.hid hK
      clear hK
      simp only [layS,Act.put,zzC,zzD,zzE,Nat.zero_add,Nat.reduceAdd,e12]
      have E12:=Lib.hid e12
      clear e12
      go_simp
      exact HK.out _ _ (by simp [layS,updV,lstV,Act.put,E12.out]) hJ
     ·
      have e13:u 13=.int .i64 0:=hd 13 (by kernel_rfl)
      clear hd
      simp only [zzA,zzB]
      clear hl
      refine .inr ⟨rfl,fun K' hK=>?_⟩
      have HK:=Lib.hid hK
      clear hK
      simp only [layS,Act.put,zzC,zzD,zzE,Nat.zero_add,Nat.reduceAdd,e13]
      have E13:=Lib.hid e13
      clear e13
      go_simp
      exact HK.out _ _ (by simp [layS,updV,lstV,Act.put,E13.out]) hJ
    intro W hJ
    simp only [layS,lstV,Act.put,zzC,zzD,zzE,Nat.zero_add,Nat.reduceAdd,List.getD_cons_zero,List.getD_cons_succ,List.drop_succ_cons,List.drop_zero,List.drop_nil]
    obtain ⟨_,c3,hB2⟩:=hJ
    clear hl1 hl2 hB
    by_cases h4:i < n
    ·
     obtain ⟨bt,ot,rfl,hbt,hcell,hsz⟩:=HT.out i h4
     have d1:=(hB2.cell (p:=⟨bt,ot+i,none⟩) hbt).trans hcell
     obtain ⟨t,ht⟩:∃ t,T i=t:=⟨_,rfl⟩
     rw [ht] at d1 hsz
     clear hcell ht c3
     by_cases h5:200 < t.size
     ·
      go_wp2
      go_ret
      exact ⟨rfl,hB2⟩
     ·
      have h0:Hid (∀ j (h:j < t.size),j < 0→t[j] ≠ 165):=fun j h hj=>absurd hj (Nat.not_lt_zero _)
      go_wp2
      go_loopw [10] (fun kv wq=>∃ q:Nat,q≤t.size∧kv=.int .i64 q∧Below w.heap.size w wq∧wq.cell? ⟨bt,ot+i,none⟩=some (.string t)∧Hid (∀ j (h:j < t.size),j < q→t[j] ≠ 165)) (fun kv _=>t.size - (intOf kv).toNat)
      case atStart=>exact ⟨0,by omega,rfl,hB2,d1,h0⟩
      case round =>
       obtain ⟨q,hq,rfl,hB3,d2,HQ⟩:=hrel
       clear hB2 d1 h0
       by_cases h6:q < t.size
       ·
        by_cases h7:t[q]=165
        ·
         have e7:(((t[q].toNat:Nat):Int) == 165)=true:=by rw [h7]; rfl
         go_wp2
         go_ret
         exact ⟨rfl,hB3⟩
        ·
         have e7:(((t[q].toNat:Nat):Int) == 165)=false:=by
          rw [beq_eq_false_iff_ne]
          intro e
          exact h7 (UInt8.toNat_inj.1 (by show t[q].toNat=165; omega))
         have HQ2:Hid (∀ j (h:j < t.size),j < q+1→t[j] ≠ 165):=fun j h hj=>by
          rcases Nat.lt_succ_iff_lt_or_eq.1 hj with h8 | rfl
          ·
           exact HQ.out j h h8
          ·
           exact h7
         go_wp2
         go_roundw
         case rel=>exact ⟨q+1,by omega,by go_num,hB3,d2,HQ2⟩
         case measure=>simp [intOf]; omega
       ·
        have HY:Hid (rn_ (A++t).data.toList=(fs.take i,0,[])):=back_junk HE.out t fun j h=>HQ.out j h (by omega)
        have hys:(A++t).size=A.size+t.size:=ByteArray.size_append
        obtain ⟨Z,hZ⟩:∃ Z,(A++t)++wrapS k p=Z:=⟨_,rfl⟩
        have hzs:Z.size=((A++t)).size+(p.size+6):=by rw [← hZ,ByteArray.size_append,wrap_size]
        have HZ:Hid (rn_ Z.data.toList=(fs.take (i+1),0,[])):=by
         rw [← hZ,HK.out]
         exact back_one HY.out k p h3
        have hws:(wrapS k p).size=p.size+6:=wrap_size k p
        go_wp2
        go_roundw
        case rel=>exact ⟨i+1,Z,by omega,by omega,rfl,by go_num,hB3,HZ⟩
        case measure=>simp [intOf]; omega
    ·
     clear c3
     obtain ⟨Z,hZ⟩:∃ Z,A++wrapS k p=Z:=⟨_,rfl⟩
     have hzs:Z.size=(A).size+(p.size+6):=by rw [← hZ,ByteArray.size_append,wrap_size]
     have HZ:Hid (rn_ Z.data.toList=(fs.take (i+1),0,[])):=by
      rw [← hZ,HK.out]
      exact back_one HE.out k p h3
     have hws:(wrapS k p).size=p.size+6:=wrap_size k p
     go_wp2
     go_roundw
     case rel=>exact ⟨i+1,Z,by omega,by omega,rfl,by go_num,hB2,HZ⟩
     case measure=>simp [intOf]; omega
   ·
    go_wp2
    refine wp_region_vals 16 [some 27,some 28,some 29,some 30,some 31,some 32,some 33,some 34,some 35,some 36,some 37,some 26,some 38,some 39,some 8,some 9] (lstV [.slice (some ⟨bl,ol,none⟩) N cl,.int .i64 (i:Nat),.pointer (some ⟨bl,ol+i*2,none⟩),.pointer (some ⟨bl,ol+i*2,none⟩),.int .u8 (k.toNat:Nat),.slice (some ⟨bl,ol,none⟩) N cl,.int .i64 (i:Nat),.pointer (some ⟨bl,ol+i*2,none⟩),.pointer (some ⟨bl,ol+i*2+1,none⟩),.string p,.tuple #[.string ⟨#[]⟩,.int .i64 2],.tuple #[.string ⟨#[]⟩,.int .i64 2],.string ⟨#[]⟩,.int .i64 2,.string ⟨#[]⟩,.int .i64 2]) (fun W=>W.cell? ⟨bl,ol+i*2,none⟩=some (.int .u8 (k.toNat:Nat))∧W.cell? ⟨bl,ol+i*2+1,none⟩=some (.string p)∧Below w.heap.size w W) (by kernel_rfl) (by kernel_rfl) (by decide) (⟨hl1,hl2,hB.drew⟩) ?_ ?_
    ·
     intro q hl hi u W hJ hd
     obtain rfl | rfl | rfl | rfl | rfl | rfl | rfl | rfl | rfl | rfl | rfl | rfl | rfl | rfl | rfl | rfl:q=0∨q=1∨q=2∨q=3∨q=4∨q=5∨q=6∨q=7∨q=8∨q=9∨q=10∨q=11∨q=12∨q=13∨q=14∨q=15:=by omega
     ·
      clear hd
      simp only [zzA,zzB]
      clear hl
      refine .inr ⟨rfl,fun K' hK=>?_⟩
      have HK:=Lib.hid hK
      clear hK
      simp only [layS,Act.put,zzC,zzD,zzE,Nat.zero_add,Nat.reduceAdd]
      go_simp
      exact HK.out _ _ (by simp [layS,updV,lstV,Act.put]) hJ
     ·
      clear hd
      simp only [zzA,zzB]
      clear hl
      refine .inr ⟨rfl,fun K' hK=>?_⟩
      have HK:=Lib.hid hK
      clear hK
      simp only [layS,Act.put,zzC,zzD,zzE,Nat.zero_add,Nat.reduceAdd]
      go_simp
      exact HK.out _ _ (by simp [layS,updV,lstV,Act.put]) hJ
     ·
      have e0:u 0=.slice (some ⟨bl,ol,none⟩) N cl:=hd 0 (by kernel_rfl)
      have e1:u 1=.int .i64 (i:Nat):=hd 1 (by kernel_rfl)
      clear hd
      simp only [zzA,zzB]
      clear hl
      refine .inr ⟨rfl,fun K' hK=>?_⟩
      have HK:=Lib.hid hK
      clear hK
      simp only [layS,Act.put,zzC,zzD,zzE,Nat.zero_add,Nat.reduceAdd,e0,e1]
      have E0:=Lib.hid e0
      have E1:=Lib.hid e1
      clear e0 e1
      have hti:((i:Nat):Int).toNat=i:=rfl
      go_simp
      exact HK.out _ _ (by simp [layS,updV,lstV,Act.put,E0.out,E1.out]) hJ
     ·
      have e2:u 2=.pointer (some ⟨bl,ol+i*2,none⟩):=hd 2 (by kernel_rfl)
      clear hd
      simp only [zzA,zzB]
      clear hl
      refine .inr ⟨rfl,fun K' hK=>?_⟩
      have HK:=Lib.hid hK
      clear hK
      simp only [layS,Act.put,zzC,zzD,zzE,Nat.zero_add,Nat.reduceAdd,e2]
      have E2:=Lib.hid e2
      clear e2
      go_simp
      exact HK.out _ _ (by simp [layS,updV,lstV,Act.put,E2.out]) hJ
     ·
      have e3:u 3=.pointer (some ⟨bl,ol+i*2,none⟩):=hd 3 (by kernel_rfl)
      clear hd
      simp only [zzA,zzB]
      clear hl
      refine .inr ⟨rfl,fun K' hK=>?_⟩
      have HK:=Lib.hid hK
      clear hK
      simp only [layS,Act.put,zzC,zzD,zzE,Nat.zero_add,Nat.reduceAdd,e3]
      have E3:=Lib.hid e3
      clear e3
      have c1:=hJ.1
      go_simp
      exact HK.out _ _ (by simp [layS,updV,lstV,Act.put,E3.out]) hJ
     ·
      clear hd
      simp only [zzA,zzB]
      clear hl
      refine .inr ⟨rfl,fun K' hK=>?_⟩
      have HK:=Lib.hid hK
      clear hK
      simp only [layS,Act.put,zzC,zzD,zzE,Nat.zero_add,Nat.reduceAdd]
      go_simp
      exact HK.out _ _ (by simp [layS,updV,lstV,Act.put]) hJ
     ·
      clear hd
      simp only [zzA,zzB]
      clear hl
      refine .inr ⟨rfl,fun K' hK=>?_⟩
      have HK:=Lib.hid hK
      clear hK
      simp only [layS,Act.put,zzC,zzD,zzE,Nat.zero_add,Nat.reduceAdd]
      go_simp
      exact HK.out _ _ (by simp [layS,updV,lstV,Act.put]) hJ
     ·
      have e5:u 5=.slice (some ⟨bl,ol,none⟩) N cl:=hd 5 (by kernel_rfl)
      have e6:u 6=.int .i64 (i:Nat):=hd 6 (by kernel_rfl)
      clear hd
      simp only [zzA,zzB]
      clear hl
      refine .inr ⟨rfl,fun K' hK=>?_⟩
      have HK:=Lib.hid hK
      clear hK
      simp only [layS,Act.put,zzC,zzD,zzE,Nat.zero_add,Nat.reduceAdd,e5,e6]
      have E5:=Lib.hid e5
      have E6:=Lib.hid e6
      clear e5 e6
      have hti:((i:Nat):Int).toNat=i:=rfl
      go_simp
      exact HK.out _ _ (by simp [layS,updV,lstV,Act.put,E5.out,E6.out]) hJ
     ·
      have e7:u 7=.pointer (some ⟨bl,ol+i*2,none⟩):=hd 7 (by kernel_rfl)
      clear hd
      simp only [zzA,zzB]
      clear hl
      refine .inr ⟨rfl,fun K' hK=>?_⟩
      have HK:=Lib.hid hK
      clear hK
      simp only [layS,Act.put,zzC,zzD,zzE,Nat.zero_add,Nat.reduceAdd,e7]
      have E7:=Lib.hid e7
      clear e7
      go_simp
      exact HK.out _ _ (by simp [layS,updV,lstV,Act.put,E7.out]) hJ
     ·
      have e8:u 8=.pointer (some ⟨bl,ol+i*2+1,none⟩):=hd 8 (by kernel_rfl)
      clear hd
      simp only [zzA,zzB]
      clear hl
      refine .inr ⟨rfl,fun K' hK=>?_⟩
      have HK:=Lib.hid hK
      clear hK
      simp only [layS,Act.put,zzC,zzD,zzE,Nat.zero_add,Nat.reduceAdd,e8]
      have E8:=Lib.hid e8
      clear e8
      have c2:=hJ.2.1
      go_simp
      exact HK.out _ _ (by simp [layS,updV,lstV,Act.put,E8.out]) hJ
     ·
      have e4:u 4=.int .u8 (k.toNat:Nat):=hd 4 (by kernel_rfl)
      have e9:u 9=.string p:=hd 9 (by kernel_rfl)
      clear hd
      simp only [zzA,zzB]
      clear hl
      refine .inr ⟨rfl,fun K' hK=>?_⟩
      have HK:=Lib.hid hK
      clear hK
      simp only [layS,Act.put,zzC,zzD,zzE,Nat.zero_add,Nat.reduceAdd,e4,e9]
      have E4:=Lib.hid e4
      have E9:=Lib.hid e9
      clear e4 e9
      go_simp
      refine (HP.out.wrapLong k p _ (by omega) hps2).mono ?_
      rintro e W' ⟨rfl,hC⟩
      exact HK.out _ _ (by simp [layS,updV,lstV,Act.put,E4.out,E9.out]) (⟨(hC.cell (p:=⟨bl,ol+i*2,none⟩) (World.block_lt_of_cell? _ _ hJ.1)).trans hJ.1,(hC.cell (p:=⟨bl,ol+i*2+1,none⟩) (World.block_lt_of_cell? _ _ hJ.2.1)).trans hJ.2.1,hJ.2.2.trans (hC.mono hJ.2.2.size)⟩)
     ·
      have e10:u 10=.tuple #[.string ⟨#[]⟩,.int .i64 2]:=hd 10 (by kernel_rfl)
      clear hd
      simp only [zzA,zzB]
      clear hl
      refine .inr ⟨rfl,fun K' hK=>?_⟩
      have HK:=Lib.hid hK
      clear hK
      simp only [layS,Act.put,zzC,zzD,zzE,Nat.zero_add,Nat.reduceAdd,e10]
      have E10:=Lib.hid e10
      clear e10
      go_simp
      exact HK.out _ _ (by simp [layS,updV,lstV,Act.put,E10.out]) hJ
     ·
      have e11:u 11=.tuple #[.string ⟨#[]⟩,.int .i64 2]:=hd 11 (by kernel_rfl)
      clear hd
      simp only [zzA,zzB]
      clear hl
      refine .inr ⟨rfl,fun K' hK=>?_⟩
      have HK:=Lib.hid hK
      clear hK
      simp only [layS,Act.put,zzC,zzD,zzE,Nat.zero_add,Nat.reduceAdd,e11]
      have E11:=Lib.hid e11
      clear e11
      go_simp
      exact HK.out _ _ (by simp [layS,updV,lstV,Act.put,E11.out]) hJ
     ·
      have e11:u 11=.tuple #[.string ⟨#[]⟩,.int .i64 2]:=hd 11 (by kernel_rfl)
      clear hd
      simp only [zzA,zzB]
      clear hl
      refine .inr ⟨rfl,fun K' hK=>?_⟩
      have HK:=Lib.hid hK
      clear hK
      simp only [layS,Act.put,zzC,zzD,zzE,Nat.zero_add,Nat.reduceAdd,e11]
      have E11:=Lib.hid e11
      clear e11
      go_simp
      exact HK.out _ _ (by simp [layS,updV,lstV,Act.put,E11.out]) hJ
     ·
      have e12:u 12=.string ⟨#[]⟩:=hd 12 (by kernel_rfl)
      clear hd
      simp only [zzA,zzB]
      clear hl
      refine .inr ⟨rfl,fun K' hK=>?_⟩
      have HK:=Lib.hid hK
      clear hK
      simp only [layS,Act.put,zzC,zzD,zzE,Nat.zero_add,Nat.reduceAdd,e12]
      have E12:=Lib.hid e12
      clear e12
      go_simp
      exact HK.out _ _ (by simp [layS,updV,lstV,Act.put,E12.out]) hJ
     ·
      have e13:u 13=.int .i64 2:=hd 13 (by kernel_rfl)
      clear hd
      simp only [zzA,zzB]
      clear hl
      refine .inr ⟨rfl,fun K' hK=>?_⟩
      have HK:=Lib.hid hK
      clear hK
      simp only [layS,Act.put,zzC,zzD,zzE,Nat.zero_add,Nat.reduceAdd,e13]
      have E13:=Lib.hid e13
      clear e13
      go_simp
      exact HK.out _ _ (by simp [layS,updV,lstV,Act.put,E13.out]) hJ
    intro W hJ
    simp only [layS,lstV,Act.put,zzC,zzD,zzE,Nat.zero_add,Nat.reduceAdd,List.getD_cons_zero,List.getD_cons_succ,List.drop_succ_cons,List.drop_zero,List.drop_nil]
    obtain ⟨_,c3,hB2⟩:=hJ
    clear hl1 hl2 hB
    have e9:decide (64 < (p.size:Int))=true:=decide_eq_true (by omega)
    go_wp2
    go_ret
    exact ⟨rfl,hB2⟩
  ·
   have hE2:=HE.out
   rw [List.take_of_length_le (by have:=hN.out; omega)] at hE2
   have HE2:=Lib.hid hE2
   have hA2:A.size≤15000:=by omega
   have hQ:=(sq_nil (Scn:=Scn) w).later HP.out hB
   clear hE2 HE hB
   go_wp2_with fail
   refine (HP.out.new _).mono ?_
   rintro e1 W1 ⟨p1,F1,rfl,hs1,hF1,hB1⟩
   have hQ1:=hQ.new HP.out hB1 hs1 hF1
   obtain ⟨a1,rfl⟩:=HP.out.ptr hs1
   clear hs1 hF1 hB1 hQ
   go_wp2_with fail
   refine (feed_at HP.out hQ1 0 rfl A (by simp; omega) (fs:=fs) (d:=0) (l':=[]) (by rw [List.nil_append]; exact HE2.out)).mono ?_
   rintro e2 W2 ⟨v2,F2,c2,rfl,hQ2⟩
   clear hQ1
   go_wp2_with fail
   refine (HP.out.bad (hQ2.scn 0 _ rfl) (by show 0+0≤1000000000; omega)).mono ?_
   rintro e3 W3 ⟨rfl,hB3⟩
   have hQ3:=hQ2.later HP.out hB3
   clear hQ2 hB3
   go_wp2_with fail
   refine (HP.out.waiting (hQ3.scn 0 _ rfl)).mono ?_
   rintro e4 W4 ⟨rfl,hB4⟩
   have hQ4:=hQ3.later HP.out hB4
   clear hQ3 hB4
   go_wp2_with fail
   rw [← hN.out]
   refine (same_at true (decide_eq_true rfl) (hQ4.told 0 _ rfl).frl (HL.out.below hQ4.below) (by have:=hN.out; show fs.length≤1000000000; omega) (by have:=hN.out; show fs.length≤1000000000; omega)).mono ?_
   rintro e5 W5 ⟨rfl,hB5⟩
   have hQ5:=Lib.hid (hQ4.later HP.out hB5)
   clear hQ4 hB5
   go_wp2
   go_ret
   exact ⟨rfl,hQ5.out.below⟩
theorem turnN_none {f:Nat→Nat} {a:Nat} {p:Nat→Bool}:∀ {i:Nat},anyN p i=false→X.turnN f a p i=f
 | 0,_=>rfl
 | i+1,h=>by
  have h2:(anyN p i || p i)=false:=h
  rw [Bool.or_eq_false_iff] at h2
  rw [turnN_no h2.2,turnN_none h2.1]
theorem turnN_low {f:Nat→Nat} {a j:Nat} {p:Nat→Bool} (h:j*8+8≤a):∀ i,X.turnN f a p i j=f j
 | 0=>rfl
 | i+1=>by
  cases hp:p i
  ·
   rw [turnN_no hp,turnN_low h i]
  ·
   rw [turnN_yes hp]
   unfold X.turn1
   rw [if_neg (by omega),turnN_low h i]
theorem turnN_shift (f:Nat→Nat) (b:Nat) (p:Nat→Bool):∀ i j,X.turnN f (16+b) p i (j+2)=X.turnN (fun j=>f (j+2)) b p i j
 | 0,_=>rfl
 | i+1,j=>by
  cases hp:p i
  ·
   rw [turnN_no hp,turnN_no hp,turnN_shift f b p i j]
  ·
   rw [turnN_yes hp,turnN_yes hp]
   unfold X.turn1
   rw [turnN_shift f b p i j]
   by_cases h:j=(b+i) / 8
   ·
    rw [if_pos h,if_pos (by omega),show (16+b+i) % 8=(b+i) % 8 by omega]
   ·
    rw [if_neg h,if_neg (by omega)]
theorem byF_two (F:Nat→Nat) (n:Nat):X.byF F (n+2)=UInt8.ofNat (F 0) :: UInt8.ofNat (F 1) :: X.byF (fun j=>F (j+2)) n:=by
 unfold X.byF
 rw [List.range_succ_eq_map,List.range_succ_eq_map]
 simp [List.map_map,Function.comp_def]
/-- A frame's bytes, some of them turned behind its count. -/
theorem turned_bytes (k:UInt8) (p:ByteArray) (b i:Nat) (q:Nat→Bool) :
  ∃ g:Nat→Nat,(∀ j,g j < 256)∧X.byF g (p.size+4)=X.sealB (headB k p).data.toList ∧
   X.byF (X.turnN (byA (wrapS k p)) (32+b) q i) (p.size+6)=165 :: 90 :: X.byF (X.turnN g (16+b) q i) (p.size+4) ∧
   X.byF (X.turnN g (16+b) q i) (p.size+4)=k :: UInt8.ofNat p.size :: X.byF (fun j=>X.turnN g (16+b) q i (j+2)) (p.size+2):=by
 obtain ⟨f,hf⟩:∃ f,f=byA (wrapS k p):=⟨_,rfl⟩
 have h1:X.byF f (p.size+4+2)=165 :: 90 :: X.sealB (headB k p).data.toList:=by
  have:=byF_byA (wrapS k p)
  rw [wrap_size,← hf] at this
  rw [this,wrap_list]
  unfold X.sealB
  rw [head_list]
  rfl
 rw [byF_two] at h1
 injection h1 with e0 h2
 injection h2 with e1 h3
 refine ⟨fun j=>f (j+2),fun j=>by rw [hf]; exact byA_lt _ _,h3,?_,?_⟩
 ·
  rw [← hf,show p.size+6=p.size+4+2 from rfl,byF_two,turnN_low (by omega),turnN_low (by omega),e0,e1,show 32+b=16+(16+b) by omega]
  congr 2
  unfold X.byF
  exact List.map_congr_left fun j _=>congrArg UInt8.ofNat (turnN_shift f (16+b) q i j)
 ·
  rw [show p.size+4=p.size+2+2 from rfl,byF_two,turnN_low (by omega),turnN_low (by omega)]
  rw [show p.size+4=p.size+2+2 from rfl,byF_two] at h3
  unfold X.sealB at h3
  rw [head_list] at h3
  injection h3 with e2 h4
  injection h4 with e3 _
  rw [e2,e3]
theorem turned_no (k:UInt8) (p:ByteArray) (hp:p.size≤64) {a i:Nat} {q:Nat→Bool} (h:anyN q i=false):rn_ (X.byF (X.turnN (byA (wrapS k p)) a q i) (p.size+6))=([(k,p.data.toList)],0,[]):=by
 rw [turnN_none h]
 have:=byF_byA (wrapS k p)
 rw [wrap_size] at this
 rw [this]
 exact rn_wrap k p hp
theorem turned_yes (k:UInt8) (p:ByteArray) (hp:p.size≤64) {b i:Nat} {q:Nat→Bool} (h:anyN q i=true) (hi:32+b+i≤8*(p.size+6)∧(i=16∨(i < 16∧8*(p.size+6)≤32+b+i))):0 < (rn_ (X.byF (X.turnN (byA (wrapS k p)) (32+b) q i) (p.size+6))).2.1:=by
 obtain ⟨g,g1,g2,g3,g4⟩:=turned_bytes k p b i q
 have hr:X.rightB (X.byF (X.turnN g (16+b) q i) (p.size+4))=false:=by
  rw [X.right_iff,decide_eq_true (show 2≤(X.byF (X.turnN g (16+b) q i) (p.size+4)).length by rw [X.byF_len]; omega),Bool.true_and,decide_eq_false]
  intro hc
  have key:=turn_sum (f:=g) (n:=p.size+4) (a:=16+b) (i:=i) (p:=q) g1 ⟨by omega,by omega⟩ 65535
  rw [g2,X.seal_zero,hc] at key
  have:=key.1 rfl
  rw [h] at this
  cases this
 rw [g3]
 rw [g4] at hr ⊢
 have:=W.run_wrong (rt:=X.rightB) (k:=k) (n:=UInt8.ofNat p.size) (t:=X.byF (fun j=>X.turnN g (16+b) q i (j+2)) (p.size+2)) (z:=[]) (by rw [UInt8.toNat_ofNat']; omega) (by rw [X.byF_len,UInt8.toNat_ofNat']; omega) hr
 rw [List.append_nil] at this
 exact this
theorem rn_cut (k:UInt8) (p:ByteArray) (hp:p.size≤64) (c:Nat) (hc:c < p.size+6):rn_ ((wrapS k p).extract 0 c).data.toList=([],0,((wrapS k p).extract 0 c).data.toList):=by
 refine W.run_none ?_
 have e:((wrapS k p).extract 0 c).data.toList=(wrapS k p).data.toList.take c:=by
  rw [ByteArray.data_extract,Array.toList_extract,List.extract_eq_take_drop,List.drop_zero,Nat.sub_zero]
 rw [e,wrap_list]
 have hl:p.data.toList.length=p.size:=by rw [Array.length_toList]; rfl
 refine W.stp_cut (by rw [UInt8.toNat_ofNat']; omega) ?_ c ?_
 ·
  rw [UInt8.toNat_ofNat',List.length_append,hl]
  unfold X.twoB
  simp
  omega
 ·
  rw [List.length_append,hl]
  unfold X.twoB
  simp
  omega
end Go.Proofs.Ytadbijfjfoeojaa
