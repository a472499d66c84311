/- Parts of the proof. -/
import Derived.Test.YtjclllindbfmhabGreatDoorHs39
import Derived.Test.YtjclllindbfmhabGreatDoorHs41
import Derived.Test.YtjclllindbfmhabGreatDoorHs42
set_option linter.unusedSimpArgs false
set_option linter.unusedVariables false
namespace Go.Proofs.YtjclllindbfmhabGreatDoor
/- The law QuadSums of layer 8, walked. No statement of the seat is proved here. -/
open Go Go.RowKit
open Classical in
theorem uqsAny {X0:Nat→Prop} {w:World} (hX:NX X0 w) (ra qa rb pb la:Sl) (m kx m2 kp kl:Nat) (c c2:Nat→Nat) (R R2:Nat→Nat→Int) (x:Nat→Int) (cc:Int) (xp xl_:Nat→Int) (hra:Mi m c R ra X0 w) (hqa:Li kx x qa X0 w) (hrb:Mi m2 c2 R2 rb X0 w) (hpb:Li kp xp pb X0 w) (hla:Li kl xl_ la X0 w) (rgR0:∀ i j,i < m→j < c i→-9223372036854775808≤R i j∧R i j≤9223372036854775807) (rgx0:∀ i,i < kx→-9223372036854775808≤x i∧x i≤9223372036854775807) (hcc:-9223372036854775808≤cc∧cc≤9223372036854775807) (rgG0:∀ i j,i < m2→j < c2 i→-9223372036854775808≤R2 i j∧R2 i j≤9223372036854775807) (rgp0:∀ i,i < kp→-9223372036854775808≤xp i∧xp i≤9223372036854775807) (rgl0:∀ i,i < kl→-9223372036854775808≤xl_ i∧xl_ i≤9223372036854775807) (kk:Int):Calls Tryz.prog 3 #[ra.v,qa.v,.int .i64 cc,rb.v,pb.v,la.v,.int .i64 kk] w (PVal (.bool true) w):=by
 obtain ⟨n,hnm,hmin,hnu⟩:∃ n:Nat,n≤m∧((((m:Nat):Int)≤((6:Nat):Int)∧((n:Nat):Int)=((m:Nat):Int))∨(((6:Nat):Int) < ((m:Nat):Int)∧((n:Nat):Int)=((6:Nat):Int)))∧n≤6:=by
  by_cases h:m≤6
  ·
   exact ⟨m,Nat.le_refl _,.inl ⟨by omega,rfl⟩,h⟩
  ·
   exact ⟨6,by omega,.inr ⟨by omega,rfl⟩,Nat.le_refl _⟩
 by_cases h1:kk < 0
 ·
  exact uqs1 hX ra qa rb pb la m kx m2 kp kl c c2 R R2 x cc xp xl_ hra hqa hrb hpb hla rgR0 rgx0 hcc rgG0 rgp0 rgl0 n kk hnm hmin hnu h1
 by_cases h2:(n:Int) < kk
 ·
  exact uqs2 hX ra qa rb pb la m kx m2 kp kl c c2 R R2 x cc xp xl_ hra hqa hrb hpb hla rgR0 rgx0 hcc rgG0 rgp0 rgl0 n kk hnm hmin hnu (by omega) h2
 obtain ⟨k,rfl⟩:∃ k:Nat,kk=((k:Nat):Int):=⟨kk.toNat,by omega⟩
 obtain ⟨r,rfl⟩:∃ r,n=k+r:=⟨n - k,by omega⟩
 obtain ⟨n2,hnm2,hmin2,hnu2⟩:∃ n:Nat,n≤m2∧((((m2:Nat):Int)≤((r:Nat):Int)∧((n:Nat):Int)=((m2:Nat):Int))∨(((r:Nat):Int) < ((m2:Nat):Int)∧((n:Nat):Int)=((r:Nat):Int)))∧n≤r:=by
  by_cases h:m2≤r
  ·
   exact ⟨m2,Nat.le_refl _,.inl ⟨by omega,rfl⟩,h⟩
  ·
   exact ⟨r,by omega,.inr ⟨by omega,rfl⟩,Nat.le_refl _⟩
 by_cases hne:n2=r
 ·
  subst hne
  by_cases ho:(Sym k (mir c R)∧∀ i,i < k→0 < M.dt (i+1) (mir c R))
  ·
   exact uqs5 hX ra qa rb pb la m kx m2 kp kl c c2 R R2 x cc xp xl_ hra hqa hrb hpb hla rgR0 rgx0 hcc rgG0 rgp0 rgl0 k n2 hnm hmin hnu hnm2 hmin2 hnu2 ho
  ·
   exact uqs4 hX ra qa rb pb la m kx m2 kp kl c c2 R R2 x cc xp xl_ hra hqa hrb hpb hla rgR0 rgx0 hcc rgG0 rgp0 rgl0 k n2 hnm hmin hnu hnm2 hmin2 hnu2 ho
 ·
  exact uqs3 hX ra qa rb pb la m kx m2 kp kl c c2 R R2 x cc xp xl_ hra hqa hrb hpb hla rgR0 rgx0 hcc rgG0 rgp0 rgl0 k r n2 hnm hmin hnu hnm2 hmin2 hnu2 hne
end Go.Proofs.YtjclllindbfmhabGreatDoor
