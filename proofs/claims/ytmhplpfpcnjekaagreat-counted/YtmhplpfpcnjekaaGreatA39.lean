/- Counted: its pieces, walked. -/
import Derived.Test.YtmhplpfpcnjekaaGreatA38
import Derived.ProofKit
import Derived.ChangeStays
open Go.Proofs.Tryz
namespace Go.Fxa
open Go.Conc Go.Proofs Go.RowKit
set_option maxRecDepth 1000000
set_option maxHeartbeats 0
def VE (f:Y_) (s0 s1 s2 s5 s6 s7 s8 s9 s42:n_):X_:=#[s0,s1,s2,f 3,f 4,s5,s6,s7,s8,s9,f 10,f 11,f 12,f 13,f 14,f 15,f 16,f 17,f 18,f 19,f 20,f 21,f 22,f 23,f 24,f 25,f 26,f 27,f 28,f 29,f 30,f 31,f 32,f 33,f 34,f 35,f 36,f 37,f 38,f 39,f 40,f 41,s42,f 43,f 44,f 45,f 46,f 47,f 48,f 49,f 50,f 51,f 52,f 53,f 54,f 55,f 56,f 57,f 58,f 59,f 60,f 61,f 62,f 63,f 64,f 65,f 66,f 67,f 68,f 69,f 70,f 71,f 72,f 73,f 74,f 75,f 76,f 77,f 78,f 79,f 80,f 81,f 82,f 83,f 84,f 85,f 86,f 87,f 88,f 89,f 90,f 91,f 92,f 93,f 94,f 95,f 96,f 97,f 98,f 99,f 100,f 101,f 102,f 103,f 104,f 105,f 106,f 107]
def Ol (w:o_) (b o i:Nat) (kd pid nn:Int):Prop:=-9223372036854775808<=kd/\kd<=9223372036854775807/\w.cell? (T_ b (o+i*3))=some (b_ kd)/\w.cell? (T_ b (o+i*3+1))=some (b_ pid)/\w.cell? (T_ b (o+i*3+2))=some (b_ nn)
theorem Ol.no {w w':o_} {b o i:Nat} {kd pid nn:Int} (h:Ol w b o i kd pid nn) (hK:Keep No w w'):Ol w' b o i kd pid nn:=⟨h.1,h.2.1,hK.has h.2.2.1,hK.has h.2.2.2.1,hK.has h.2.2.2.2⟩
def SH (X:Nat) (core swap:Int) (s fa:d_ f_) (n c nf fc:Nat) (w:o_):Prop:=w.heap[X]?=some (O_ #[b_ core,b_ swap,.slice s n c,.slice fa nf fc] 25)
def NewAt (Ea:n_) (X:Nat) (core swap:Int) (w:o_) (tm:X_) (w':o_):Prop:=Keep No w w'/\((∃g,tm=TN 108 (AY g [(1,Ea),(6,.pointer none),(7,b_ 1)]))\/∃g K C M,tm=TN 108 (AY g [(1,Ea),(2,ptr X),(6,ptr K.kb)])/\AV K w'/\Ez C M K/\(∀k,K.T k≠(0,0)->w.heap.size<=k)/\core=(C:Nat)/\swap=(M:Nat)/\16<=C)
def am9 (Ea bx iv:n_) (sb:Nat) (K:KS) (C M:Nat) (w:o_) (tm:X_) (w':o_):Prop:=∃g K',tm=TN 108 (AY g [(1,Ea),(2,bx),(6,ptr K.kb),(8,iv),(9,ptr sb)])/\AV K' w'/\Ez C M K'/\CJ K K'/\BM K.T K'.T w w'
theorem tZ {K K':KS} {pid s s':Int} (m:CJ K K') (h:vg K pid s) (h':vg K' pid s'):s=s':=by
 obtain⟨rfl,h⟩|⟨b,r,d,a,e,j,rfl⟩:=h
 .obtain⟨rfl,_⟩|⟨b,r,d,a,e,_⟩:=h'
  .rfl
  .obtain⟨f,i⟩:=m.ps;rw[m.AP]at d;rw[i]at a;cases hb:K.ps b with
   |none=>rw[hb]at a;cases a
   |some q=>rw[hb]at a;cases a;exact absurd e (h b d q hb)
 .obtain⟨rfl,h'⟩|⟨_,_,_,_,_,_,rfl⟩:=h'
  .obtain⟨c,g⟩:=m.get a;exact(h' b (by rw[m.AP];exact d) _ g e).elim
  .rfl
theorem Υ {NC NS b:Nat} {K K':KS} {r:PR} {pid s:Int} (ok:Ez NC NS K) (m:CJ K K') (h:yu K pid b r) (h':vg K' pid s):False:=by
 obtain⟨k,e,l,n⟩:=h;obtain⟨c,o⟩:=m.get e;obtain⟨_,h'⟩|⟨g,t,i,a,j,d,_⟩:=h'
 .exact h' b (by rw[m.AP];exact k) _ o l
 .obtain⟨f,p⟩:=m.ps;rw[m.AP]at i;rw[p]at a;cases hb:K.ps g with
  |none=>rw[hb]at a;cases a
  |some q=>
   rw[hb]at a;cases a
   obtain rfl:=ok.one g q b r i k hb e (by have j:((q.pid:Nat):Int)=pid:=j;omega)
   rw[e]at hb;cases hb
   have d:r.en=true:=d
   rw[n]at d;cases d
theorem Ρ {NC NS b:Nat} {K K':KS} {pid s:Int} {r:PR} (ok:Ez NC NS K) (m:CJ K K') (h:yu K' pid b r) (h':vg K pid s):False:=by
 obtain⟨d,a,e,g⟩:=h;obtain⟨f,l⟩:=m.ps;rw[m.AP]at d;rw[l]at a;cases hb:K.ps b with
 |none=>rw[hb]at a;cases a
 |some q=>
  rw[hb]at a;cases a
  obtain⟨_,h'⟩|⟨j,n,k,c,o,i,_⟩:=h'
  .exact h' b d q hb e
  .obtain rfl:=ok.one j n b q k d c hb (by have e:((q.pid:Nat):Int)=pid:=e;omega);rw[hb]at c;cases c;have g:q.en=false:=g;rw[g]at i;cases i
theorem Τ {NC NS b b':Nat} {K K':KS} {pid:Int} {r r':PR} (ok:Ez NC NS K) (m:CJ K K') (h:yu K pid b r) (h':yu K' pid b' r'):b'=b:=by
 obtain⟨e,g,k,l⟩:=h;obtain⟨c,a,d,j⟩:=h';obtain⟨f,i⟩:=m.ps;rw[m.AP]at c;rw[i]at a;cases hb:K.ps b' with
 |none=>rw[hb]at a;cases a
 |some q=>
  rw[hb]at a;cases a
  exact ok.one b' q b r c e hb g (by have d:((q.pid:Nat):Int)=pid:=d;omega)
theorem ao3 {K:KS} {pid s:Int} (h:vg K pid s):(s==0)=false:=by
 obtain⟨rfl,_⟩|⟨_,_,_,_,_,_,rfl⟩:=h<;>rfl
theorem xe {C M:Nat} {K K':KS} {pid s s' x y z:Int} (ok:Ez C M K) (m:CJ K K') (h1:vg K pid s\/(s=0/\∃b r,yu K pid b r/\∃q,K'.ps b=some q/\q.co=-1)) (h2:vg K' pid s'\/(s'=0/\∃b r,yu K' pid b r/\x=(r.sw:Nat)/\y=r.co/\z=(Aj r.Ag.length:Nat))):(s'=s/\(s==0)=false)\/(s=0/\s'=0/\y=-1):=by
 obtain h1|⟨e1,b,r,h1,q,d,c⟩:=h1
 .obtain h2|⟨_,a,f,h2,_⟩:=h2
  .exact .inl ⟨(tZ m h1 h2).symm,ao3 h1⟩
  .exact(Ρ ok m h2 h1).elim
 .obtain h2|⟨e2,a,f,h2,_,e,_⟩:=h2
  .exact(Υ ok m h1 h2).elim
  .obtain rfl:=Τ ok m h1 h2;have:=h2.2.1;rw[d]at this;cases this;exact .inr ⟨e1,e2,e.trans c⟩
theorem Ϻ {C M:Nat} {K K':KS} {pid s s' x y z:Int} (ok:Ez C M K) (h16:16<=C) (m:CJ K K') (hC:BR C (0,0) K') (h1:vg K pid s\/(s=0/\∃b r,yu K pid b r/\UB C b r K')) (h2:vg K' pid s'\/(s'=0/\∃b r,yu K' pid b r/\x=(r.sw:Nat)/\y=r.co/\z=(Aj r.Ag.length:Nat))):(s'=s/\(s==0)=false)\/(s=0/\s'=0/\¬y<0):=by
 obtain h1|⟨e1,b,r,h1,h⟩:=h1
 .obtain h2|⟨_,e,d,h2,_⟩:=h2
  .exact .inl ⟨(tZ m h1 h2).symm,ao3 h1⟩
  .exact(Ρ ok m h2 h1).elim
 .obtain h2|⟨e2,e,d,h2,_,i,_⟩:=h2
  .exact(Υ ok m h1 h2).elim
  .obtain rfl:=Τ ok m h1 h2;obtain⟨k,j,l,_⟩:=(ok.pr _ r h1.2.1).len h1.2.2.2;obtain⟨q,c,g⟩:=h h16 (by rw[j];unfold Aj;omega);rw[h2.2.1]at c;cases c;refine .inr ⟨e1,e2,?_⟩;obtain⟨a,f,_⟩:=(hC.pl _ d h2.2.1).2.resolve_left g;rw[i,f];omega
section
variable (m:Nat) (w:o_) (f:Y_)
theorem bx9 (core swap:Int) (v fv Ea:n_):(cq prog 0).wpIn NF m prog (Ends λtm w'=>(∃g,tm=TN 108 (AY g [(1,Ea),(2,ptr w.heap.size)]))/\Keep No w w'/\w'.heap[w.heap.size]?=some (O_ #[b_ core,b_ swap,v,fv] 25)) ⟨TN 108 (AY f [(0,.agg #[b_ core,b_ swap,v,fv]),(1,Ea)]),[]⟩ w:=by
 unfold cq;rw[body6];dsimp only[Tryz.f6,Option.getD,behind,piece];show Code.wpIn (Fence.list LF none) m prog _ _ ⟨VE f (.agg #[b_ core,b_ swap,v,fv]) Ea (f 2) (f 5) (f 6) (f 7) (f 8) (f 9) (f 42),[]⟩ _;unfold VE;gi_wp2;exact⟨rfl,rfl,⟨_,DW rfl (by simp[ptr])⟩,(p_ _ _).alloc _,heap_alloc_new rfl⟩
theorem bx8 (Ea bx:n_):(cq prog 2).wpIn NF m prog (Ends λtm w'=>(∃g,tm=TN 108 (AY g [(1,Ea),(2,bx)]))/\Keep No w w') ⟨TN 108 (AY f [(1,Ea),(2,bx),(5,.bool true)]),[]⟩ w:=by
 unfold cq;rw[body6];dsimp only[Tryz.f6,Option.getD,behind,piece];show Code.wpIn (Fence.list LF none) m prog _ _ ⟨VE f (f 0) Ea bx (.bool true) (f 6) (f 7) (f 8) (f 9) (f 42),[]⟩ _;unfold VE;gi_wp2;exact⟨rfl,rfl,⟨_,DW rfl (by simp)⟩,p_ _ _⟩
theorem bx7 (core swap:Int) (Ea:n_) (s fa:d_ f_) (c fc:Nat) (X n nf:Nat) (fn:Nat->Int) (ff:Nat->n_×Nat×(Nat->Int)) (hP:kZ w (.slice s n c) n fn) (hF:Uo w (.slice fa nf fc) nf ff) (hX:SH X core swap s fa n c nf fc w):(cq prog 3).wpIn NF m prog (Ends (NewAt Ea X core swap w)) ⟨TN 108 (AY f [(1,Ea),(2,ptr X)]),[]⟩ w:=by
 have d:=λm=>ao2 m w core swap _ _ n nf fn ff hP hF
 have i:w.cell? (S_ X)=some (b_ core):=bce hX rfl;have j:w.cell? (T_ X 1)=some (b_ swap):=bce hX rfl;have c2:w.cell? (T_ X 2)=some (.slice s n c):=bce hX rfl;have c3:w.cell? (T_ X 3)=some (.slice fa nf fc):=bce hX rfl;unfold cq;rw[body6];dsimp only[Tryz.f6,Option.getD,behind,piece];show Code.wpIn (Fence.list LF none) m prog _ _ ⟨VE f (f 0) Ea (ptr X) (f 5) (f 6) (f 7) (f 8) (f 9) (f 42),[]⟩ _;unfold VE ptr;gi_wp2_with fail;refine(d _).mono ?_;rintro e w1 ⟨a,⟨rfl,_⟩|⟨K,b,l,k,C,M,rfl,h,ok,_,_,g⟩⟩
 .gi_wp2;exact⟨rfl,rfl,a,.inl ⟨_,DW rfl (by simp)⟩⟩
 .unfold ptr;gi_wp2;exact⟨rfl,rfl,a,.inr ⟨_,K,C,M,DW rfl (by simp[ptr]),h,ok,g⟩⟩
theorem bn7 (Ea:n_):(cq prog 4).wpIn NF m prog (VZ λtm w'=>(∃g,tm=TN 108 (AY g [(4,.bool true)]))/\Keep No w w') ⟨TN 108 (AY f [(1,Ea),(6,.pointer none),(7,b_ 1)]),[]⟩ w:=by
 unfold cq;rw[body6];dsimp only[Tryz.f6,Option.getD,behind,piece];show Code.wpIn (Fence.list LF none) m prog _ _ ⟨VE f (f 0) Ea (f 2) (f 5) (.pointer none) (b_ 1) (f 8) (f 9) (f 42),[]⟩ _;unfold VE;gi_wp2;exact⟨rfl,rfl,⟨_,DW rfl (by simp)⟩,p_ _ _⟩
theorem bx6 (Ea bx:n_) (kb:Nat):(cq prog 4).wpIn NF m prog (Ends λtm w'=>(∃g,tm=TN 108 (AY g [(1,Ea),(2,bx),(6,ptr kb)]))/\Keep No w w') ⟨TN 108 (AY f [(1,Ea),(2,bx),(6,ptr kb)]),[]⟩ w:=by
 unfold cq;rw[body6];dsimp only[Tryz.f6,Option.getD,behind,piece];show Code.wpIn (Fence.list LF none) m prog _ _ ⟨VE f (f 0) Ea bx (f 5) (ptr kb) (f 7) (f 8) (f 9) (f 42),[]⟩ _;unfold VE ptr;gi_wp2;exact⟨rfl,rfl,⟨_,DW rfl (by simp)⟩,p_ _ _⟩
theorem bx5 (C M X:Nat) (s fa:d_ f_) (n c nf fc:Nat) (K:KS) (h:AV K w) (ok:Ez C M K) (hX:SH X C M s fa n c nf fc w):(cX prog 6).wpIn NF m prog (VZ λtm w'=>(∃g,tm=TN 108 (AY g [(4,.bool true)]))/\Keep No w w') ⟨TN 108 (AY f [(2,ptr X),(6,ptr K.kb)]),[]⟩ w:=by
 have b:=λm=>Zu m w C M K s fa n c nf fc h ok
 have d:w.cell? (S_ X)=some (b_ C):=bce hX rfl;have i:w.cell? (T_ X 1)=some (b_ M):=bce hX rfl;have c2:w.cell? (T_ X 2)=some (.slice s n c):=bce hX rfl;have c3:w.cell? (T_ X 3)=some (.slice fa nf fc):=bce hX rfl;unfold cX;rw[body6];dsimp only[Tryz.f6,Option.getD,behind,piece];show Code.wpIn (Fence.list LF none) m prog _ _ ⟨VE f (f 0) (f 1) (ptr X) (f 5) (ptr K.kb) (f 7) (f 8) (f 9) (f 42),[]⟩ _;unfold VE ptr;gi_wp2_with (gi_at_call 23;refine(b _).mono ?_;rintro e w1 ⟨a,rfl⟩);exact⟨rfl,rfl,⟨_,DW rfl (by simp)⟩,a⟩
theorem bx2 (C M X:Nat) (Ea iv:n_) (s fa:d_ f_) (n c nf fc:Nat) (K:KS) (h:AV K w) (ok:Ez C M K) (hX:SH X C M s fa n c nf fc w):(cW prog).wpIn NF m prog (Ends λtm w'=>(∃g,tm=TN 108 (AY g [(1,Ea),(2,ptr X),(6,ptr K.kb),(8,iv)]))/\Keep No w w') ⟨TN 108 (AY f [(1,Ea),(2,ptr X),(6,ptr K.kb),(8,iv)]),[]⟩ w:=by
 have b:=λm=>Zu m w C M K s fa n c nf fc h ok
 have d:w.cell? (S_ X)=some (b_ C):=bce hX rfl;have i:w.cell? (T_ X 1)=some (b_ M):=bce hX rfl;have c2:w.cell? (T_ X 2)=some (.slice s n c):=bce hX rfl;have c3:w.cell? (T_ X 3)=some (.slice fa nf fc):=bce hX rfl;unfold cW cI cL cq;rw[body6];dsimp only[Tryz.f6,Option.getD,behind,piece];show Code.wpIn (Fence.list LF none) m prog _ _ ⟨VE f (f 0) Ea (ptr X) (f 5) (ptr K.kb) (f 7) iv (f 9) (f 42),[]⟩ _;unfold VE ptr;gi_wp2_with (gi_at_call 23;refine(b _).mono ?_;rintro e w1 ⟨a,rfl⟩);exact⟨rfl,rfl,⟨_,DW rfl (by simp)⟩,a⟩
theorem bx4 (bx kp:n_) (s:d_ f_) (n c i:Nat):(cp8 prog).wpIn NF m prog (Ends λtm w'=>(∃g,tm=TN 108 (AY g [(1,.slice s n c),(2,bx),(6,kp),(8,b_ i),(33,.bool (decide (i<n)))]))/\Keep No w w') ⟨TN 108 (AY f [(1,.slice s n c),(2,bx),(6,kp),(8,b_ i)]),[]⟩ w:=by
 unfold cp8 cL cq;rw[body6];dsimp only[Tryz.f6,Option.getD,behind,piece];show Code.wpIn (Fence.list LF none) m prog _ _ ⟨VE f (f 0) (.slice s n c) bx (f 5) kp (f 7) (b_ i) (f 9) (f 42),[]⟩ _;unfold VE;by_cases h:i<n
 .have a:(i:Int)<n:=by omega
  gi_wp2;exact⟨rfl,rfl,⟨_,DW rfl (by simp[h])⟩,p_ _ _⟩
 .have a:¬(i:Int)<n:=by omega
  gi_wp2;exact⟨rfl,rfl,⟨_,DW rfl (by simp)⟩,p_ _ _⟩
theorem bx3 (Ea bx kp:n_) (i:Nat) (hi:i<9223372036854775807):(yI prog).wpIn NF m prog (Ends λtm w'=>(∃g,tm=TN 108 (AY g [(1,Ea),(2,bx),(6,kp),(8,b_ (i+1:Nat))]))/\Keep No w w') ⟨TN 108 (AY f [(1,Ea),(2,bx),(6,kp),(8,b_ i)]),[]⟩ w:=by
 unfold yI cL cq;rw[body6];dsimp only[Tryz.f6,Option.getD,behind,piece];show Code.wpIn (Fence.list LF none) m prog _ _ ⟨VE f (f 0) Ea bx (f 5) kp (f 7) (b_ i) (f 9) (f 42),[]⟩ _;unfold VE;gi_wp2;exact⟨rfl,rfl,⟨_,DW rfl (by simp)⟩,p_ _ _⟩
theorem bn9 (bx kp:n_) (b o n c i:Nat) (kd pid nn:Int) (hi:i<n) (h:Ol w b o i kd pid nn):(cp10 prog).wpIn NF m prog (Ends λtm w'=>(∃g,tm=TN 108 (AY g [(1,.slice (some (T_ b o)) n c),(2,bx),(6,kp),(8,b_ i),(9,ptr w.heap.size)]))/\Keep No w w'/\w'.heap[w.heap.size]?=some (O_ #[b_ kd,b_ pid,b_ nn] 38)) ⟨TN 108 (AY f [(1,.slice (some (T_ b o)) n c),(2,bx),(6,kp),(8,b_ i)]),[]⟩ w:=by
 obtain⟨_,_,a,d,c2⟩:=h;have e:(i:Int)<n:=by omega
 unfold cp10 cI cL cq;rw[body6];dsimp only[Tryz.f6,Option.getD,behind,piece];show Code.wpIn (Fence.list LF none) m prog _ _ ⟨VE f (f 0) (.slice (some (T_ b o)) n c) bx (f 5) kp (f 7) (b_ i) (f 9) (f 42),[]⟩ _;unfold VE;gi_wp2;exact⟨rfl,rfl,⟨_,DW rfl (by simp[ptr])⟩,(p_ _ _).alloc _,heap_alloc_new rfl⟩
theorem bn8 (Ea bx kp iv:n_) (sb r4:Nat) (kd:Int) (JL:-9223372036854775808<=kd) (OU:kd<=9223372036854775807) (hr4:U4 kd 4=r4) (hs:w.cell? (S_ sb)=some (b_ kd)):(cp12 prog).wpIn NF m prog (Ends λtm w'=>(∃g,tm=TN 108 (AY g [(1,Ea),(2,bx),(6,kp),(8,iv),(9,ptr sb),(42,b_ r4)]))/\Keep No w w') ⟨TN 108 (AY f [(1,Ea),(2,bx),(6,kp),(8,iv),(9,ptr sb)]),[]⟩ w:=by
 unfold cp12 cZ cI cL cq;rw[body6];dsimp only[Tryz.f6,Option.getD,behind,piece];show Code.wpIn (Fence.list LF none) m prog _ _ ⟨VE f (f 0) Ea bx (f 5) kp (f 7) iv (ptr sb) (f 42),[]⟩ _;unfold VE ptr;gi_wp2_with fail;refine(Ξ _ w kd 4 r4 JL OU (by omega) (by omega) hr4).mono ?_;rintro e w1 ⟨rfl,a⟩;have a:=a.symm;subst a;gi_wp2;exact⟨rfl,rfl,⟨_,DW rfl (by simp)⟩,p_ _ _⟩
theorem bw9 (Ea bx iv:n_) (C M sb r4:Nat) (kd pid nn:Int) (K:KS) (h:AV K w) (ok:Ez C M K) (h16:16<=C) (JL:-9223372036854775808<=kd) (OU:kd<=9223372036854775807) (hr4:U4 kd 4=r4) (h2:r4=2\/r4=3) (hs:w.heap[sb]?=some (O_ #[b_ kd,b_ pid,b_ nn] 38)) (htb:K.T sb=(0,0)):
  (cZ prog).wpIn NF m prog (Ends (am9 Ea bx iv sb K C M w)) ⟨TN 108 (AY f [(1,Ea),(2,bx),(6,ptr K.kb),(8,iv),(9,ptr sb)]),[]⟩ w:=by
 have J:w.cell? (S_ sb)=some (b_ kd):=bce hs rfl;have E:w.cell? (T_ sb 1)=some (b_ pid):=bce hs rfl;have D:=ok.len;have o:=λm=>Ξ m w kd 4 r4 JL OU (by omega) (by omega) hr4
 have B:=λm=>bi3 m w K C pid h ok.th ok.nd ok.co (by omega)
 have A:=λm=>bt1 m w K C pid h ok.th ok.nd ok.co (by omega)
 unfold cZ cI cL cq;rw[body6];dsimp only[Tryz.f6,Option.getD,behind,piece];show Code.wpIn (Fence.list LF none) m prog _ _ ⟨VE f (f 0) Ea bx (f 5) (ptr K.kb) (f 7) iv (ptr sb) (f 42),[]⟩ _;unfold VE ptr;obtain rfl|rfl:=h2
 .clear hr4 A;gi_wp2_with (first|(gi_at_call 16;refine(o _).mono ?_;rintro e I ⟨rfl,g⟩;have g:=g.symm;subst g)|(gi_at_call 17;refine(B _).mono ?_;rintro e w1 ⟨s,rfl,i,p,c,t,l,u⟩;have a:=ok.moved c t;have E:w1.cell? (T_ sb 1)=some (b_ pid):=bce (l.old hs htb) rfl;have n:=λm=>ZT m w1 i C pid p a.th a.co (by have:=a.len;omega);rw[c.kb]at n)|(gi_at_call 22;refine(n _).mono ?_;rintro e w2 ⟨j,x,y,z,H,rfl,d⟩;obtain⟨w3,b,q,r⟩:=SL (w:=w2.alloc (.cells #[b_ 0,b_ 0,b_ 0] 54)) (rb:=w2.heap.size) (x:=x) (y:=y) (z:=z) (heap_alloc_new rfl);have F:w3.cell? (T_ w2.heap.size 1)=some (b_ y):=bce r rfl;have k:Keep No w1 w3:=(j.then ((p_ No w2).alloc (.cells #[b_ 0,b_ 0,b_ 0] 54))).trans q (λx G e=>absurd (show x=w2.heap.size from e) (by have:=j.size;omega));obtain⟨rfl,v⟩|⟨rfl,rfl,rfl⟩:=xe ok c u d)|refine Dk rfl (.tmp 11) (.tmp 60) 54 rfl rfl rfl b ?_)
  all_goals exact⟨rfl,rfl,_,i,DW rfl (by simp[ptr]),p.no k,a,c,l.then k⟩
 .clear hr4 B;gi_wp2_with (first|(gi_at_call 16;refine(o _).mono ?_;rintro e I ⟨rfl,g⟩;have g:=g.symm;subst g)|(gi_at_call 18;refine(A _).mono ?_;rintro e w1 ⟨s,rfl,i,p,c,t,l,u⟩;have a:=ok.moved c t;have E:w1.cell? (T_ sb 1)=some (b_ pid):=bce (l.old hs htb) rfl;have n:=λm=>ZT m w1 i C pid p a.th a.co (by have:=a.len;omega);rw[c.kb]at n)|(gi_at_call 22;refine(n _).mono ?_;rintro e w2 ⟨j,x,y,z,H,rfl,d⟩;obtain⟨w3,b,q,r⟩:=SL (w:=w2.alloc (.cells #[b_ 0,b_ 0,b_ 0] 54)) (rb:=w2.heap.size) (x:=x) (y:=y) (z:=z) (heap_alloc_new rfl);have F:w3.cell? (T_ w2.heap.size 1)=some (b_ y):=bce r rfl;have k:Keep No w1 w3:=(j.then ((p_ No w2).alloc (.cells #[b_ 0,b_ 0,b_ 0] 54))).trans q (λx G e=>absurd (show x=w2.heap.size from e) (by have:=j.size;omega));obtain⟨rfl,v⟩|⟨rfl,rfl,v⟩:=Ϻ ok h16 c a.co u d)|refine Dk rfl (.tmp 14) (.tmp 85) 54 rfl rfl rfl b ?_)
  all_goals exact⟨rfl,rfl,_,i,DW rfl (by simp[ptr]),p.no k,a,c,l.then k⟩
end
section
variable {Od:Old} {v0:o_} {cs:Z_} {R:Frame×Z_->o_->Prop} {s sp fa:d_ f_} {b o n c C M X np cp nf fc:Nat}
theorem YD {i X sb:Nat} {K K':KS} {g:Nat->n_} {v v':o_} (hn:n<9223372036854775808) (hi:i<n)
  (next:∀(f:Y_) (K:KS) (v:o_),AV K v->Ez C M K->Keep No v0 v->(∀k,K.T k≠(0,0)->v0.heap.size<=k)->SH X C M sp fa np cp nf fc v->K.T X=(0,0)->Goes Od prog (kyA (.slice s n c) (ptr X) (ptr K.kb) (b_ (i+1:Nat)) cs f) v R)
  (h0:Keep No v0 v) (ht:∀k,K.T k≠(0,0)->v0.heap.size<=k) (hX:SH X C M sp fa np cp nf fc v) (hTX:K.T X=(0,0)) (ka':AV K' v') (ok':Ez C M K') (Mv:BM K.T K'.T v v') (hkb:K'.kb=K.kb):
  Goes Od prog (Frame.mk 6 (TN 108 (AY g [(1,.slice s n c),(2,ptr X),(6,ptr K.kb),(8,b_ i),(9,ptr sb)])) (.code (cW prog)::.inBlock 1::.code (yI prog)::[.inLoop (cL prog),.inBlock 0,.code (cX prog 6)]) [] .run .normal none,cs) v' R:=by
 rw[<-hkb];obtain⟨t,lt⟩:=Mv.low h0 ht;have a:SH X C M sp fa np cp nf fc v':=Mv.old hX hTX;have d:K'.T X=(0,0):=(Dv.fresh Mv X (BQ hX)).trans hTX;have q:TN 108 (AY g [(1,.slice s n c),(2,ptr X),(6,ptr K'.kb),(8,b_ i),(9,ptr sb)])=TN 108 (AY (AY g [(9,ptr sb)]) [(1,.slice s n c),(2,ptr X),(6,ptr K'.kb),(8,b_ i)]):=by kernel_rfl
 rw[q];refine Goes.part (m:=0) yh rfl ba1 (λv1 b=>bx2 0 v1 _ C M X _ (b_ i) sp fa np cp nf fc K' (ka'.no b) ok' (b.old a id)) λv1 u v2 b ⟨⟨r,e⟩,l⟩=>?_
 subst e;have k2:=b.then l;refine Goes.AB (x:=kuA (.slice s n c) (ptr X) (ptr K'.kb) (b_ i) cs r) (bm4 _ _ _ _ _ _) ?_;rw[bm3];refine Goes.part (m:=0) yh rfl ak8 (λv1 _=>bx3 0 v1 _ _ _ _ i (by omega)) λv3 u v4 o ⟨⟨j,e⟩,p⟩=>?_
 subst e;have h:=k2.then (o.then p);refine Goes.AB (x:=kuB (.slice s n c) (ptr X) (ptr K'.kb) (b_ (i+1:Nat)) cs j) (bm2 _ _ _ _ _ _) ?_;rw[bm1];exact next j K' v4 (ka'.no h) ok' (t.then h) lt (h.old a id) d
theorem bj4 (Ea bx kp iv:n_) (cs:Z_) (f:Y_):slotsOf (kyE Ea bx kp iv cs f) [2,6]=[bx,kp]:=by kernel_rfl
theorem Ro (hn:n<9223372036854775808) (hs:0<n->s=some (T_ b o)) (BX:∀i,i<n->∃kd pid nn,Ol v0 b o i kd pid nn) (h16:16<=C)
  (hk:∀v' g todo,Keep No v0 v'->Goes Od prog (Frame.mk 6 (TN 108 (AY g [(4,.bool true)])) todo [] .returning .normal none,cs) v' R) {i:Nat} {f:Nat->n_} {K:KS} {v:o_} (ka:AV K v) (ok:Ez C M K) (h0:Keep No v0 v) (ht:∀k,K.T k≠(0,0)->v0.heap.size<=k) (hX:SH X C M sp fa np cp nf fc v) (hTX:K.T X=(0,0))
  (next:i<n->∀(f:Y_) (K:KS) (v:o_),AV K v->Ez C M K->Keep No v0 v->(∀k,K.T k≠(0,0)->v0.heap.size<=k)->SH X C M sp fa np cp nf fc v->K.T X=(0,0)->Goes Od prog (kyA (.slice s n c) (ptr X) (ptr K.kb) (b_ (i+1:Nat)) cs f) v R):Goes Od prog (kyA (.slice s n c) (ptr X) (ptr K.kb) (b_ (i:Nat)) cs f) v R:=by
  refine Goes.AB (bk6 _ _ _ _ _ _) ?_;rw[show run prog 2 (kyA (.slice s n c) (ptr X) (ptr K.kb) (b_ (i:Nat)) cs f)=kyB (.slice s n c) (ptr X) (ptr K.kb) (b_ (i:Nat)) cs f from rfl,at_toldM (l:=[(1,.slice s n c),(2,ptr X),(6,ptr K.kb),(8,b_ (i:Nat))]) (bk5 _ _ _ _ _ _) (bk4 _ _ _ _ _ _) (bk3 _ _ _ _ _ _)];refine Goes.part (m:=0) yh rfl ak9 (λv1 _=>bx4 0 v1 _ _ _ s n c i) λv1 E v2 U ⟨⟨w,e⟩,V⟩=>?_
  subst e;have k2:=U.then V;by_cases y:i<n
  .obtain rfl:=hs (by omega);rw[decide_eq_true y];refine Goes.AB (x:=kyC (.slice (some (T_ b o)) n c) (ptr X) (ptr K.kb) (b_ (i:Nat)) cs w true) (bk0 _ _ _ _ _ _) ?_;rw[show run prog 4 (kyC (.slice (some (T_ b o)) n c) (ptr X) (ptr K.kb) (b_ (i:Nat)) cs w true)=kyD (.slice (some (T_ b o)) n c) (ptr X) (ptr K.kb) (b_ (i:Nat)) cs w from rfl,at_toldM (l:=[(1,(.slice (some (T_ b o)) n c)),(2,ptr X),(6,ptr K.kb),(8,b_ (i:Nat))]) (bj9 _ _ _ _ _ _) (bj8 _ _ _ _ _ _) (bj7 _ _ _ _ _ _),ba2];obtain⟨kd,pid,nn,A⟩:=BX i y;refine Goes.seq (Goes.part (m:=0) yh rfl ab1 (λv1 p=>bn9 0 v1 _ _ (ptr K.kb) b o n c i kd pid nn y (A.no ((h0.then k2).then p))) λv3 E v4 p ⟨⟨N,e⟩,F,u⟩=>?_);subst e;have k3:=k2.then p;have I:=k3.then F;have tb:K.T v3.heap.size=(0,0):=ka.lt _ k3.size;have next:=next y
   have G:=ka.no I;have l4:=h0.then I;have x4:=I.old hX id;have H:U4 kd 4<4:=ϥ kd (by omega);generalize P:U4 kd 4=z at H;have after:=λ(K':KS) (g:Y_) (v v':o_) (O:Keep No v4 v)=>YD (Od:=Od) (sb:=v3.heap.size) (K':=K') (g:=g) (v':=v') hn y next (l4.then O) ht (O.old x4 id) hTX
   by_cases Z:z=2\/z=3
   .refine Goes.seq (Goes.part (m:=0) yh rfl ba0 (λv1 q=>bw9 0 v1 _ _ _ (b_ (i:Nat)) C M v3.heap.size z kd pid nn K (G.no q) ok h16 A.1 A.2.1 P Z (q.old u id) tb) λS E a q ⟨t,K',e,j,J,hM,Y⟩=>?_);subst e;exact after K' t S a q j J Y hM.kb
   .rw[az9];refine Goes.seq (Goes.seq (Goes.part (m:=0) yh rfl aa9 (λv1 q=>bn8 0 v1 _ _ _ (ptr K.kb) (b_ (i:Nat)) v3.heap.size z kd A.1 A.2.1 P (by rw[Af (q.old u id)];rfl)) λS E a q ⟨⟨t,e⟩,W⟩=>?_));subst e;have D:=q.then W;have B:=D.old u id;have L:a.cell? (T_ v3.heap.size 1)=some (b_ pid):=bce B rfl;have c2:a.cell? (T_ v3.heap.size 2)=some (b_ nn):=bce B rfl;have fin:∀(g:Y_) (K':KS) (told:n_) (e:Int) (v':o_),χ false C M K pid a told e v' K'->Goes Od prog (Frame.mk 6 (TN 108 (AY g [(1,(.slice (some (T_ b o)) n c)),(2,ptr X),(6,ptr K.kb),(8,b_ i),(9,ptr v3.heap.size)])) (.code (cW prog)::.inBlock 1::.code (yI prog)::[.inLoop (cL prog),.inBlock 0,.code (cX prog 6)]) [] .run .normal none,cs) v' R:=λg K' told e v' d=>by
     obtain e|⟨x,r,hm,hx,Su,hR⟩:=d.rel
     .have Q:=d.mv;have j:=d.ka;rw[e]at Q j;exact after K g a v' D j ok Q rfl
     .exact after K' g a v' D d.ka d.ok d.mv hR.kb
    have hr:z=0\/z=1:=(by omega);obtain rfl|rfl:=hr
    .refine Goes.AB (x:=kzA (.slice (some (T_ b o)) n c) (ptr X) (ptr K.kb) (b_ (i:Nat)) cs t v3.heap.size 0) (ay5 _ _ _ _ _ _ _) ?_;show Goes Od prog (kzB _ _ _ _ _ _ _ 0) a R;refine Goes.reads (ay3 _ _ _ _ _ _ _ pid) ⟨L,trivial⟩ ?_;refine Goes.AB (ay1 _ _ _ _ _ _ _ _) ?_;show Goes Od prog (kzC _ _ _ _ _ _ _ _ 0) a R;refine Goes.reads (ay0 _ _ _ _ _ _ _ _ nn) ⟨c2,trivial⟩ ?_;refine Goes.AB (ax7 _ _ _ _ _ _ _ _ _) ?_;rw[ax6];refine UI (bg:=false) (NC:=C) (NS:=M) (G.no D) ok (λh=>by cases h) λtold e v' K' d=>?_
     refine Goes.AB (ax3 _ _ _ _ _ _ _ _ _ _ _) ?_;rw[show run prog 2 ((kzD (.slice (some (T_ b o)) n c) (ptr X) (ptr K.kb) (b_ (i:Nat)) cs t v3.heap.size pid nn 0).finish (.tuple #[told,b_ e]),cs)=kzE (.slice (some (T_ b o)) n c) (ptr X) (ptr K.kb) (b_ (i:Nat)) told (b_ e) cs t v3.heap.size pid nn 0 from rfl,at_toldM (l:=[(1,(.slice (some (T_ b o)) n c)),(2,ptr X),(6,ptr K.kb),(8,b_ (i:Nat)),(9,ptr v3.heap.size)]) (ax2 _ _ _ _ _ _ _ _ _ _ _) (ax1 _ _ _ _ _ _ _ _ _ _ _) (ax0 _ _ _ _ _ _ _ _ _ _ _)];exact fin _ K' told e v' d
    .refine Goes.AB (x:=kzA (.slice (some (T_ b o)) n c) (ptr X) (ptr K.kb) (b_ (i:Nat)) cs t v3.heap.size 1) (ay4 _ _ _ _ _ _ _) ?_;show Goes Od prog (kzB _ _ _ _ _ _ _ 1) a R;refine Goes.reads (ay2 _ _ _ _ _ _ _ pid) ⟨L,trivial⟩ ?_;refine Goes.AB (ax9 _ _ _ _ _ _ _ _) ?_;show Goes Od prog (kzC _ _ _ _ _ _ _ _ 1) a R;refine Goes.reads (ax8 _ _ _ _ _ _ _ _ nn) ⟨c2,trivial⟩ ?_;refine Goes.AB (ax5 _ _ _ _ _ _ _ _ _) ?_;rw[ax4];refine UI (bg:=false) (NC:=C) (NS:=M) (G.no D) ok (λh=>by cases h) λtold e v' K' d=>?_
     refine Goes.AB (aw9 _ _ _ _ _ _ _ _ _ _ _) ?_;rw[show run prog 2 ((kzD (.slice (some (T_ b o)) n c) (ptr X) (ptr K.kb) (b_ (i:Nat)) cs t v3.heap.size pid nn 1).finish (.tuple #[told,b_ e]),cs)=kzE (.slice (some (T_ b o)) n c) (ptr X) (ptr K.kb) (b_ (i:Nat)) told (b_ e) cs t v3.heap.size pid nn 1 from rfl,at_toldM (l:=[(1,(.slice (some (T_ b o)) n c)),(2,ptr X),(6,ptr K.kb),(8,b_ (i:Nat)),(9,ptr v3.heap.size)]) (aw8 _ _ _ _ _ _ _ _ _ _ _) (aw7 _ _ _ _ _ _ _ _ _ _ _) (aw6 _ _ _ _ _ _ _ _ _ _ _)];exact fin _ K' told e v' d
  .rw[decide_eq_false y];refine Goes.AB (x:=kyC (.slice s n c) (ptr X) (ptr K.kb) (b_ (i:Nat)) cs w false) (bj6 _ _ _ _ _ _) ?_;rw[show run prog 2 (kyC (.slice s n c) (ptr X) (ptr K.kb) (b_ (i:Nat)) cs w false)=kyE (.slice s n c) (ptr X) (ptr K.kb) (b_ (i:Nat)) cs w from rfl,at_toldM (l:=[(2,ptr X),(6,ptr K.kb)]) (bj5 _ _ _ _ _ _) (bj4 _ _ _ _ _ _) (bj3 _ _ _ _ _ _)];refine Goes.yP (m:=0) yh rfl al1 (λv1 p=>bx5 0 v1 _ C M X sp fa np cp nf fc K (ka.no (k2.then p)) ok ((k2.then p).old hX id)) λv3 E todo v4 p ⟨⟨N,e⟩,F⟩=>?_
   subst e;exact hk v4 N todo ((h0.then k2).then (p.then F))
theorem bJ (hn:n<9223372036854775808) (hs:0<n->s=some (T_ b o)) (BX:∀i,i<n->∃kd pid nn,Ol v0 b o i kd pid nn) (h16:16<=C)
  (hk:∀v' g todo,Keep No v0 v'->Goes Od prog (Frame.mk 6 (TN 108 (AY g [(4,.bool true)])) todo [] .returning .normal none,cs) v' R) (d:Nat):
  ∀(i:Nat) (f:Y_) (K:KS) (v:o_),n-i=d->AV K v->Ez C M K->Keep No v0 v->(∀k,K.T k≠(0,0)->v0.heap.size<=k)->SH X C M sp fa np cp nf fc v->K.T X=(0,0)->Goes Od prog (kyA (.slice s n c) (ptr X) (ptr K.kb) (b_ (i:Nat)) cs f) v R:=by
 induction d with
 |zero=>exact λi f K v x m ok a l j e=>Ro hn hs BX h16 hk m ok a l j e λh=>absurd h (by omega)
 |succ d y=>exact λi f K v x m ok a l j e=>Ro hn hs BX h16 hk m ok a l j e λ_ f K v p q r t u w=>y (i+1) f K v (by omega) p q r t u w
theorem bK {core swap:Int} {fn:Nat->Int} {ff:Nat->n_×Nat×(Nat->Int)} (hP:kZ v0 (.slice sp np cp) np fn) (hF:Uo v0 (.slice fa nf fc) nf ff) (hn:n<9223372036854775808) (hs:0<n->s=some (T_ b o)) (BX:∀i,i<n->∃kd pid nn,Ol v0 b o i kd pid nn)
  (hk:∀v' g todo,Keep No v0 v'->Goes Od prog (Frame.mk 6 (TN 108 (AY g [(4,.bool true)])) todo [] .returning .normal none,cs) v' R):
  Goes Od prog (Frame.enter prog 6 #[.agg #[b_ core,b_ swap,.slice sp np cp,.slice fa nf fc],.slice s n c] .normal,cs) v0 R:=by
 refine Goes.AB (bm0 _ _ _) ?_;rw[show run prog 1 (Frame.enter prog 6 #[.agg #[b_ core,b_ swap,.slice sp np cp,.slice fa nf fc],.slice s n c] .normal,cs)=kxA (.agg #[b_ core,b_ swap,.slice sp np cp,.slice fa nf fc]) (.slice s n c) cs from rfl,at_toldM (l:=[(0,.agg #[b_ core,b_ swap,.slice sp np cp,.slice fa nf fc]),(1,.slice s n c)]) (bl9 _ _ _) (bl8 _ _ _) (bl7 _ _ _)];refine Goes.part (m:=0) yh rfl ak7 (λv1 _=>bx9 0 v1 _ core swap _ _ _) λv1 j v2 J ⟨⟨v,e⟩,L,F⟩=>?_
 subst e;have k2:=J.then L;refine Goes.AB (x:=kxB (.slice s n c) (ptr v1.heap.size) cs v) (bl6 _ _ _ _) ?_;rw[bl5];refine qR λv3 p=>?_
 have k3:=k2.then p;have z:=p.old F id;refine Goes.AB (bl4 _ _ _ _) ?_;rw[show run prog 2 ((kxC (.slice s n c) (ptr v1.heap.size) cs v).finish (.bool true),cs)=kxD (.slice s n c) (ptr v1.heap.size) cs v from rfl,at_toldM (l:=[(1,.slice s n c),(2,ptr v1.heap.size),(5,.bool true)]) (bl3 _ _ _ _) (bl2 _ _ _ _) (bl1 _ _ _ _),ny 2 (by omega)];refine Goes.seq (Goes.part (m:=0) yh rfl ak6 (λv1 _=>bx8 0 v1 _ _ _) λv4 j U q ⟨⟨S,e⟩,r⟩=>?_);subst e;have B:=k3.then (q.then r);have f:=r.old (q.old z id) id;rw[ny 3 (by omega)];refine Goes.seq (Goes.part (m:=0) yh rfl ak5 (λv1 a=>bx7 0 v1 _ core swap (.slice s n c) sp fa cp fc _ np nf fn ff (hP.kp (B.then a)) (hF.kp (B.then a)) (a.old f id)) λv6 j V a ⟨E,O⟩=>?_);have H:=B.then a;have I:=H.then E;have A:=E.old (a.old f id) id;rw[ny 4 (by omega)];obtain⟨N,e⟩|⟨N,K,C,M,e,P,ok,G,rfl,rfl,w⟩:=O
 .subst e;refine Goes.seq (Goes.yP (m:=0) yh rfl uz (λv1 _=>bn7 0 v1 _ _) λQ j todo D t ⟨⟨h,e⟩,u⟩=>?_);subst e;exact hk D h todo (I.then (t.then u))
 .subst e;refine Goes.seq (Goes.part (m:=0) yh rfl uz (λv1 _=>bx6 0 v1 _ _ _ _) λQ j D t ⟨⟨h,e⟩,u⟩=>?_);subst e;have d:=t.then u;refine Goes.AB (bl0 _ _ _ _ _) ?_;rw[show run prog 7 (Frame.mk 6 (TN 108 (AY h [(1,.slice s n c),(2,ptr v1.heap.size),(6,ptr K.kb)])) [.code (cX prog 5)] [] .run .normal none,cs)=kxE (.slice s n c) (ptr v1.heap.size) (ptr K.kb) cs h from rfl,at_toldM (l:=[(1,.slice s n c),(2,ptr v1.heap.size),(6,ptr K.kb),(8,b_ (0:Nat))]) (bk9 _ _ _ _ _) (bk8 _ _ _ _ _) (bk7 _ _ _ _ _)];have y:K.T v1.heap.size=(0,0):=by
   cases Decidable.em (K.T v1.heap.size=(0,0))with
   |inl e=>exact e
   |inr e=>have:=G _ e;have:=BQ F;have:=p.size;have:=q.size;have:=r.size;have:=a.size;omega
  exact bJ hn hs BX w hk n 0 _ K D (by omega) (P.no d) ok (I.then d) (λk hk=>Nat.le_trans H.size (G k hk)) (d.old A id) y
end
end Go.Fxa
namespace Go.Fxa
open Go.Conc Go.Proofs Go.RowKit Go.ChangeShapes
def yQ:Obj->Bool
 |.view ..=>true
 |o=>!o.plain
def Odd (W:o_) (r:Nat):Prop:=∃o,W.heap[r]?=some o/\yQ o=true
abbrev zG (W:o_):Old:=⟨Odd W,λr=>(W.heap[r]?).getD DK⟩
section
def Gi (W:o_):o_:={ W with heap:=W.heap.map λo=>if yQ o then DK else o }
theorem LD (W:o_):(Gi W).heap.size=W.heap.size:=by simp[Gi]
theorem Vg {W:o_} {r:Nat} (h:Odd W r):(Gi W).heap[r]?=some DK:=by
 obtain⟨o,a,b⟩:=h;simp[Gi,a,b]
theorem LG {W:o_} {r:Nat} (h:¬Odd W r):(Gi W).heap[r]?=W.heap[r]?:=by
 cases e:W.heap[r]? with
 |none=>simp[Gi,e]
 |some o=>
  have a:yQ o=false:=by
   cases h3:yQ o with
   |false=>rfl
   |true=>exact(h ⟨o,e,h3⟩).elim
  simp[Gi,e,a]
theorem oQ (W:o_):Twin (zG W) (λ_=>False) (Gi W) W:=by
 refine⟨LD W,λr _ a=>LG a,λ_ h=>h.elim,λr o a=>?_,rfl,rfl,λr a=>Vg a,λr a=>?_,λ_ _ h=>h⟩
 .by_cases h:Odd W r
  .rw[Vg h]at a;cases a
   rfl
  .rw[LG h]at a;cases e:o.plain with
   |true=>rfl
   |false=>exact(h ⟨o,a,by cases o<;>first|rfl|simp[yQ,e]⟩).elim
 .obtain⟨o,b,_⟩:=a;show W.heap[r]?=some ((W.heap[r]?).getD DK);rw[b]
  rfl
theorem Nk {W:o_} {a:f_} {x:n_} (h:W.cell? a=some x):(Gi W).cell? a=some x:=by
 have ne:¬Odd W a.block:=by
  rintro⟨o,b,d⟩
  unfold World.cell? at h
  rw[b]at h
  cases o with
  |cells c t f=>cases d
  |_=>cases h
 unfold World.cell? at h ⊢;rw[LG ne];exact h
theorem ϩ {W v' w':o_} {Z:Nat->Prop} (T:Twin (zG W) Z v' w') (K:Keep No (Gi W) v'):∀r,r<W.heap.size->w'.heap[r]?=W.heap[r]?:=λr a=>by
 by_cases h:Odd W r
 .have e:=T.kept r h;obtain⟨o,b,_⟩:=h;rw[e];show some ((W.heap[r]?).getD DK)=W.heap[r]?;rw[b]
  rfl
 .have e1:v'.heap[r]?=W.heap[r]?:=(K.block r (by rw[LD];exact a) id).trans (LG h);have d:¬Z r:=λc=>by
   have e2:=T.dead r c (Nat.lt_of_lt_of_le a (by have:=K.size;rw[LD]at this;exact this))
   exact h ⟨DK,e1.symm.trans e2,rfl⟩
  exact(T.same r d h).symm.trans e1
end
def Stood (W:o_) (x:n_) (w':o_):Prop:=x=.bool true/\(∀r,r<W.heap.size->w'.heap[r]?=W.heap[r]?)/\W.heap.size<=w'.heap.size/\w'.os=W.os/\w'.output=W.output
theorem bI (W:o_) {core swap:Int} {sp fa:d_ f_} {np nf cp fc:Nat} {fn:Nat->Int} {ff:Nat->n_×Nat×(Nat->Int)} {s:d_ f_} {n c b o:Nat} (hP:kZ W (.slice sp np cp) np fn) (hF:Uo W (.slice fa nf fc) nf ff) (hn:n<9223372036854775808) (hs:0<n->s=some (T_ b o)) (BX:∀i,i<n->∃kd pid nn,Ol W b o i kd pid nn):
  ∃N last x w' t',runNT prog (N+1) (solo (G (Frame.enter prog 6 #[.agg #[b_ core,b_ swap,.slice sp np cp,.slice fa nf fc],.slice s n c] .normal) []) W) #[]=(.ended x w',t')/\
   runN prog N (solo (G (Frame.enter prog 6 #[.agg #[b_ core,b_ swap,.slice sp np cp,.slice fa nf fc],.slice s n c] .normal) []) W)=.next last/\step prog last=.ended x w'/\Conc.Good prog (Stood W) last x w' t':=by
 have sl:∀{v:n_} {n:Nat} {f:Nat->Int},kZ W v n f->kZ (Gi W) v n f:=λh=>⟨h.1,λhn=>let ⟨h1,s,c,e,h2⟩:=h.2 hn;⟨h1,s,c,e,λt=>let ⟨b,o,e',h3⟩:=h2 t;⟨b,o,e',λi k=>Nk (h3 i k)⟩⟩⟩
 have p:Uo (Gi W) (.slice fa nf fc) nf ff:=let ⟨s,c,e,h2⟩:=hF;⟨s,c,e,λt=>let ⟨b,o,e',h3⟩:=h2 t;⟨b,o,e',λi k=>⟨Nk (h3 i k).1,sl (h3 i k).2⟩⟩⟩
 have l:∀i,i<n->∃kd pid nn,Ol (Gi W) b o i kd pid nn:=λi k=>let ⟨kd,pid,nn,h1,h2,h3,h4,h5⟩:=BX i k;⟨kd,pid,nn,h1,h2,Nk h3,Nk h4,Nk h5⟩
 have F:=bK (Od:=zG W) (v0:=Gi W) (cs:=[]) (core:=core) (swap:=swap) (c:=c) (R:=λy u=>(∃g j,y=(Frame.mk 6 (TN 108 (AY g [(4,.bool true)])) j [] .returning .normal none,[]))/\Keep No (Gi W) u) (sl hP) p hn hs l (λu g j K=>.now ⟨⟨g,j,rfl⟩,K⟩);obtain⟨N,E,w',A,t',z,U,C,w,y,u,Y,⟨q,T,X,J,hP,V⟩,I,⟨g,j,rfl⟩,K⟩:=F (λ_=>False) (λ_=>False) W.heap.size #[BL (Frame.enter prog 6 #[.agg #[b_ core,b_ swap,.slice sp np cp,.slice fa nf fc],.slice s n c] .normal,[])] W none #[] ⟨λ_ h=>h.elim,λ_ h=>h.elim⟩
  ⟨λ_=>0,oQ W,λ_ h=>h.elim,leavers_one _ _,past_nil.mono (Nat.zero_le _),w_ _⟩ rfl;have m:∀d,Stood W (.bool true) (w'.at d):=λd=>⟨rfl,(show ∀r,r<W.heap.size->w'.heap[r]?=W.heap[r]? from ϩ T K),by
  have a:=K.size
  rw[LD,T.size]at a
  exact a,T.os.symm.trans K.os,T.output.symm.trans K.output⟩
 obtain⟨H,last,x,w2,S,L,M,O,Q⟩:=beside_ends (P:=prog) (Shun:=C) (B:=w) (D:=λ_ _ _=>False) (Post:=Stood W) (λ_ _ _ h=>h.elim) (sl:=A) (n:=0) I J hP (show ∀w1,AtRel w' w1->Conc.AtEnd prog C w (Stood W) _ w1 from λw1 ⟨d,e⟩=>by
  subst e
  exact⟨rfl,_,_,xK g j _,by simp,m d⟩);refine⟨N+H,last,x,w2,S,?_,?_,O,Q⟩
 .rw[solo_eq_crowd,Nat.add_assoc,runNT_add];erw [z];exact L
 .rw[solo_eq_crowd,runN_add];have e:runN prog N (crowd #[BL (Frame.enter prog 6 #[.agg #[b_ core,b_ swap,.slice sp np cp,.slice fa nf fc],.slice s n c] .normal,[])] W none)=.next (crowd E w' A):=by rw[<-runNT_fst _ _ _ #[],z]
  erw [e];exact M
theorem cells3:prog.cellsOf 3=1:=by kernel_rfl
theorem cells22:prog.cellsOf 22=1:=by kernel_rfl
theorem cells23:prog.cellsOf 23=1:=by kernel_rfl
theorem cells25:prog.cellsOf 25=4:=by kernel_rfl
theorem cells38:prog.cellsOf 38=3:=by kernel_rfl
section
variable {H:Type} {enc:j_×n_->H} {W:o_} {sp:Nat->Bool}
theorem WH {t e:j_} (ht:prog.underlying t=some (.slice e)) {fuel:Nat} {c:n_} {x:DataW H×List MemPlace} (h:DataW.trod enc prog W 0 sp true fuel t [c]=some x):∃s n k,c=.slice s n k:=by
 obtain⟨b,_⟩|⟨a,len,cap,_,_,_,_,b,_⟩:=DataW.trod_slice ht h
 .cases b;exact⟨none,0,0,rfl⟩
 .cases b;exact⟨some a,len,cap,rfl⟩
theorem Zb {fuel:Nat} {s:d_ f_} {n k:Nat} {x:DataW H×List MemPlace} (hsp:∀r,sp r=true) (h:DataW.trod enc prog W 0 sp true fuel 22 [.slice s n k]=some x):∃fn,kZ W (.slice s n k) n fn:=by
 obtain⟨b,_⟩|⟨a,len,cap,o,b,_,l,_,m,_,c,_⟩:=open_ints underlying22 underlying3 cells3 h
 .cases b;exact⟨λ_=>0,⟨_,_,rfl⟩,λ_=>⟨by omega,none,0,rfl,λh=>absurd h (by omega)⟩⟩
 .cases b;rw[hsp,if_pos rfl]at m;refine⟨λi=>o.getD i 0,⟨_,_,rfl⟩,λq=>⟨by omega,some a,k,rfl,λt=>?_⟩⟩;have j:=c 0 (by omega);have e:a.spot=none:=by simpa [Addr.add]using World.cell?_spot j
  obtain⟨d,f,g⟩:=a;simp only at e;subst e;exact⟨d,f,rfl,λi p=>by have:=c i (by omega);rw[Addr.add_lit]at this;exact this⟩
theorem pO {fuel:Nat} {s:d_ f_} {n k:Nat} {x:DataW H×List MemPlace} (hsp:∀r,sp r=true) (h:DataW.trod enc prog W 0 sp true fuel 23 [.slice s n k]=some x):∃ff,Uo W (.slice s n k) n ff:=by
 obtain⟨p,_⟩|⟨a,len,cap,o,C,m,_,p,K,_,_,_,A,c,_⟩:=DataW.trod_slice underlying23 h
 .cases p;exact⟨λ_=>(.slice none 0 0,0,λ_=>0),_,_,rfl,λh=>absurd h (by omega)⟩
 .cases p;rw[cells22]at c;have j:0<n->a.spot=none:=λv=>by
   have e:=c 0 v
   rw[Ii (by omega)]at e
   obtain⟨w,t,_⟩:=Option.bind_eq_some_iff.1 e
   obtain⟨_,z,u⟩:=World.cells?_some t
   have f:=u 0 (by omega)
   rw[Ii (by omega)]at f
   simpa [Addr.add]using World.cell?_spot f
  have b:∀i,i<n->∃q:n_×Nat×(Nat->Int),W.cell? (T_ a.block (a.off+i))=some q.1/\kZ W q.1 q.2.1 q.2.2/\a.spot=none:=λi d=>by
   have e:=c i d
   rw[Ii (by omega)]at e
   obtain⟨w,t,y⟩:=Option.bind_eq_some_iff.1 e
   obtain⟨_,z,u⟩:=World.cells?_some t
   match w,z with
   |[J],_=>
    obtain⟨I,B,G,rfl⟩:=WH underlying22 y
    obtain⟨fn,F⟩:=Zb hsp y
    have f:=u 0 (by omega)
    have g:a.spot=none:=j (by omega)
    obtain⟨D,E,l⟩:=a
    simp only at g
    subst g
    rw[Addr.add_lit,Addr.add_lit]at f
    exact⟨(.slice I B G,B,fn),by simpa using f,F,rfl⟩
  refine⟨λi=>if d:i<n then Classical.choose (b i d)else(.slice none 0 0,0,λ_=>0),some a,k,rfl,λv=>⟨a.block,a.off,?_,λi d=>?_⟩⟩
  .obtain⟨_,_,_,e⟩:=b 0 v;obtain⟨D,E,l⟩:=a;simp only at e;rw[e]
  .simp only[dif_pos d];exact⟨(Classical.choose_spec (b i d)).1,(Classical.choose_spec (b i d)).2.1⟩
theorem jJ {fuel:Nat} {c0 c1 c2 c3:n_} {x:DataW H×List MemPlace} (hsp:∀r,sp r=true) (h:DataW.trod enc prog W 0 sp true fuel 25 [c0,c1,c2,c3]=some x):
  ∃co sw sp fa np nf cp fc fn ff,c0=b_ co/\c1=b_ sw/\c2=.slice sp np cp/\c3=.slice fa nf fc/\kZ W (.slice sp np cp) np fn/\Uo W (.slice fa nf fc) nf ff:=by
 obtain⟨xs,m,rfl,rfl,_,i,a⟩:=DataW.trod_struct underlying25 h;have b:xs.length=4:=i
 match xs,b with
 |[t,u,v,y3],_=>
  have p:DataW.trod enc prog W 0 sp true m 3 [c0]=some t:=by simpa [cells3]using a 0 _ rfl
  have q:DataW.trod enc prog W 0 sp true m 3 [c1]=some u:=by simpa [cells3]using a 1 _ rfl
  have c:DataW.trod enc prog W 0 sp true m 22 [c2]=some v:=by simpa [cells22]using a 2 _ rfl
  have d:DataW.trod enc prog W 0 sp true m 23 [c3]=some y3:=by simpa [cells23]using a 3 _ rfl
  obtain⟨co,e,_⟩:=DataW.trod_int underlying3 p
  obtain⟨sw,e1,_⟩:=DataW.trod_int underlying3 q
  obtain⟨s,n,k,rfl⟩:=WH underlying22 c
  obtain⟨o,l,j,rfl⟩:=WH underlying23 d
  cases e
  cases e1
  obtain⟨fn,g⟩:=Zb hsp c
  obtain⟨ff,f⟩:=pO hsp d
  exact⟨co,sw,s,o,n,l,k,j,fn,ff,rfl,rfl,rfl,rfl,g,f⟩
theorem pM {fuel:Nat} {v:n_} {x:DataW H×List MemPlace} (h:DataW.trod enc prog W 0 sp true fuel 31 [v]=some x):
  ∃t k d b o,v=.slice t k d/\k<9223372036854775808/\(0<k->t=some (T_ b o))/\∀i,i<k->∃kd pid nn,Ol W b o i kd pid nn:=by
 obtain⟨A,_⟩|⟨a,len,cap,z,L,n,_,A,X,_,O,C,K,l,_⟩:=DataW.trod_slice underlying31 h
 .cases A;exact⟨none,0,0,0,0,rfl,by omega,λh=>absurd h (by omega),λi p=>absurd p (by omega)⟩
 .cases A;rw[cells38]at l;have c:∀i,i<len->∃g y,W.cells? 0 (a.add (i*3)) 3=some g/\DataW.trod enc prog W 0 sp true n 38 g=some y:=λi p=>by
   have e:=l i p
   rw[Ii (by omega)]at e
   obtain⟨g,j,s⟩:=Option.bind_eq_some_iff.1 e
   exact⟨g,_,j,s⟩
  have f:0<len->a.spot=none:=λF=>by
   obtain⟨g,y,j,s⟩:=c 0 F
   obtain⟨_,u,B⟩:=World.cells?_some j
   have r:=B 0 (by omega)
   rw[Ii (by omega)]at r
   have e1:=World.cell?_spot r
   simpa [Addr.add]using e1
  refine⟨some a,len,cap,a.block,a.off,rfl,by unfold maxLen at C;omega,λF=>?_,λi p=>?_⟩
  .have e:=f F;obtain⟨I,J,w⟩:=a;simp only at e;rw[e]
  .obtain⟨g,y,j,s⟩:=c i p;obtain⟨_,u,B⟩:=World.cells?_some j;have e:=f (by omega);obtain⟨I,J,w⟩:=a;simp only at e;subst e
   match g,u with
   |[M,N,c2],_=>
    obtain⟨xs,m,rfl,rfl,_,u,D⟩:=DataW.trod_struct underlying38 s
    have E:xs.length=3:=u
    match xs,E with
    |[T,U,V],_=>
     have Q:DataW.trod enc prog W 0 sp true m 3 [M]=some T:=by simpa [cells3]using D 0 _ rfl
     have R:DataW.trod enc prog W 0 sp true m 3 [N]=some U:=by simpa [cells3]using D 1 _ rfl
     have S:DataW.trod enc prog W 0 sp true m 3 [c2]=some V:=by simpa [cells3]using D 2 _ rfl
     obtain⟨kd,r,_,G⟩:=DataW.trod_int underlying3 Q
     obtain⟨pid,e1,_⟩:=DataW.trod_int underlying3 R
     obtain⟨nn,e2,_⟩:=DataW.trod_int underlying3 S
     cases r
     cases e1
     cases e2
     have wr:(IntKind.i64).min<=kd/\kd<=(IntKind.i64).max:=by simpa [Lit.wf]using G
     have Y:(IntKind.i64).min=-9223372036854775808:=by decide
     have Z:(IntKind.i64).max=9223372036854775807:=by decide
     have go:∀q,q<3->W.cell? (T_ I (J+i*3+q))=([b_ kd,b_ pid,b_ nn]:U_)[q]?:=λq P=>by
      have:=B q P
      rw[Addr.add_lit,Addr.add_lit]at this
      exact this
     exact⟨kd,pid,nn,by omega,by omega,go 0 (by omega),go 1 (by omega),go 2 (by omega)⟩
end
end Go.Fxa
