/- A new kernel is made. -/
import Derived.Test.YtmhplpfpcnjekaaGreatA32
namespace Go.Fxa
open Conc Proofs RowKit Proofs.Tryz
set_option maxRecDepth 1000000
set_option maxHeartbeats 0
def valOf:Result n_->n_
 |.ok x _=>x
 |_=>undef
def N9 (cb sb:Nat):X_:=#[Q_ cb 1 1,Q_ sb 1 1,.slice none 0 0,b_ 0,.pointer none,.pointer none,.pointer none,.pointer none,.pointer none,.pointer none,.pointer none,.pointer none,.pointer none,.pointer none,.pointer none,.pointer none,.pointer none,.pointer none,.pointer none,.pointer none,.slice none 0 0,.nilIface,b_ 0,.nilIface,b_ 0,.nilIface,b_ 0,.nilIface,b_ 0,.nilIface,b_ 0,.nilIface,b_ 0,.nilIface,b_ 0,.nilIface,b_ 0,.nilIface,b_ 0,.nilIface,b_ 0,.nilIface,b_ 0,.nilIface,b_ 0,.nilIface,b_ 0,.nilIface,b_ 0,.nilIface,b_ 0,.nilIface,b_ 0,.nilIface,b_ 0,.nilIface,b_ 0,.nilIface,b_ 0,.nilIface,b_ 0]
section
variable (m:Nat) (w:o_)
theorem pV {ib fb L:Nat}:∃x,(Instr.build 128 #[(5,.agg #[a_ 0,a_ 0,a_ 0,Q_ ib L L]),(6,Q_ fb 6 6)]).run prog w=.ok x w/\x.cells=bG ib L fb:=
 ⟨valOf ((Instr.build 128 #[(5,.agg #[a_ 0,a_ 0,a_ 0,Q_ ib L L]),(6,Q_ fb 6 6)]).run prog w),by kernel_rfl,by kernel_rfl⟩
end
def bw8 (base C:Nat) (_i:Nat) (v:n_) (W:o_):Prop:=∃cb,base<=cb/\v=.agg #[Q_ cb 1 1]/\W.heap[cb]?=some (O_ #[b_ 0,b_ C] 186)
def yf (base n N8:Nat) (Ae:Nat->Nat):Nat->n_->o_->Prop
 |3,v,W=>∃ab,v=.slice (some (S_ ab)) n n/\Fe 123 .u16 W ab n (λj=>Ae j)
 |7,v,_=>v=.int .i64 (Am n)
 |8,v,W=>∃ib,base<=ib/\v=.slice (some (S_ ib)) N8 N8/\Fe 123 .u16 W ib N8 (λj=>padded n Ae j)
 |9,v,W=>∃ib,base<=ib/\v=.agg #[.int .u16 0,.int .u16 0,.int .u16 0,.slice (some (S_ ib)) N8 N8]/\Fe 123 .u16 W ib N8 (λj=>padded n Ae j)
 |10,v,W=>∃vb,v=.slice (some (S_ vb)) 1 1/\W.heap[vb]?=some (O_ #[.int .i64 (-1)] 3)
 |11,v,W=>∃fb,base<=fb/\v=.slice (some (S_ fb)) 6 6/\Fe 3 .i64 W fb 6 (λ_=>-1)
 |12,v,W=>∃ib fb,base<=ib/\base<=fb/\v=.agg (bG ib N8 fb)/\Fe 123 .u16 W ib N8 (λj=>padded n Ae j)/\Fe 3 .i64 W fb 6 (λ_=>-1)
 |13,v,W=>∃pb ib fb,base<=pb/\base<=ib/\base<=fb/\v=R_ pb/\W.heap[pb]?=some (O_ (bG ib N8 fb) 128)/\Fe 123 .u16 W ib N8 (λj=>padded n Ae j)/\Fe 3 .i64 W fb 6 (λ_=>-1)
 |_,_,_=>True
theorem yf.keep {base n N8:Nat} {Ae:Nat->Nat} (i:Nat) (hi:i∈[3,7,8,9,10,11,12,13]) (v:n_) (W W':o_) (h:yf base n N8 Ae i v W) (hK:Keep No W W'):yf base n N8 Ae i v W':=by
 obtain rfl|rfl|rfl|rfl|rfl|rfl|rfl|rfl:=(by simpa using hi:i=3\/i=7\/i=8\/i=9\/i=10\/i=11\/i=12\/i=13)
 .obtain⟨e,c,d⟩:=h;exact⟨e,c,d.keep hK id⟩
 .exact h
 .obtain⟨e,c,d,f⟩:=h;exact⟨e,c,d,f.keep hK id⟩
 .obtain⟨e,c,d,f⟩:=h;exact⟨e,c,d,f.keep hK id⟩
 .obtain⟨e,c,d⟩:=h;exact⟨e,c,hK.old d id⟩
 .obtain⟨e,c,d,f⟩:=h;exact⟨e,c,d,f.keep hK id⟩
 .obtain⟨a,b,c,d,f,g,j⟩:=h;exact⟨a,b,c,d,f,g.keep hK id,j.keep hK id⟩
 .obtain⟨p,a,b,k,c,d,f,g,j,l⟩:=h;exact⟨p,a,b,k,c,d,f,hK.old g id,j.keep hK id,l.keep hK id⟩
def ao9 (kb base k:Nat) (L:Nat->Nat) (uh:X_) (w wr:o_):Prop:=∃T nm ct ks,GU kb base k L uh ks T nm ct wr/\Keep (At kb) w wr
def bw7 (base n:Nat) (Ae:Nat->Nat) (_i:Nat) (v:n_) (W:o_):Prop:=∃g,base<=g/\v=Q_ g n n/\Fe 123 .u16 W g n (λj=>Ae j)
theorem ag9 {cb sb:Nat} (i:Nat) (hi:i<20):(N9 cb sb)[21+i*2]?=some .nilIface/\(N9 cb sb)[21+i*2+1]?=some (b_ 0):=by
 have:i=0\/i=1\/i=2\/i=3\/i=4\/i=5\/i=6\/i=7\/i=8\/i=9\/i=10\/i=11\/i=12\/i=13\/i=14\/i=15\/i=16\/i=17\/i=18\/i=19:=by omega
 obtain rfl|rfl|rfl|rfl|rfl|rfl|rfl|rfl|rfl|rfl|rfl|rfl|rfl|rfl|rfl|rfl|rfl|rfl|rfl|rfl:=this<;>exact⟨rfl,rfl⟩
def as4 (K:KS) (b M L:Nat):Prop:=K.BK=1/\K.swap=(Aw [(0,M)] (Am L)).2/\K.nl=[]/\(∀i,K.desc i=0)/\(∀i,K.op i=0)/\∀k,k≠b->K.ps k=none
def am1 (core swap:Int) (n nf:Nat) (f:Nat->Int) (w:o_) (e:Ending) (w':o_):Prop:=
 Keep No w w'/\((e=.returned (.tuple #[.pointer none,b_ 1])/\(nf=0->¬YB core swap n f))\/∃K b ib fb C M,e=.returned (.tuple #[ptr K.kb,b_ 0])/\A8 K w'/\GK C M K/\K.AV=[b]/\K.ps b=some (Ef ib fb (XO n (8*Am n) λi=>(f i).toNat))/\(∀k,K.T k≠(0,0)->w.heap.size<=k)/\core=(C:Nat)/\swap=(M:Nat)/\16<=C/\as4 K b M (8*Am n))
section
variable (m:Nat) (w:o_)
theorem bV (v:n_) (n:Nat) (f:Nat->Int) (h:SlI w v n f) (hW:Words n f) (hn:n<=128):P_ m 45 #[v] w λe w'=>Keep No w w'/\e=.returned (Q_ w.heap.size n n)/\Fe 123 .u16 w' w.heap.size n (λi=>((f i).toNat:Nat)):=by
 obtain⟨_,s,c,rfl,p⟩:=h;by_cases d:n=0
 .subst d;refine(fP m w s c).mono ?_;rintro e w' ⟨g,j,k⟩;exact⟨g,j,k.ext λi a=>absurd a (by omega)⟩
 .obtain⟨b,o,rfl,l⟩:=p (by omega);refine XV m w b o n c (λi=>(f i).toNat) (λi a=>?_) (λi a=>?_) (by omega) hn
  .rw[l i a];have:=hW i a;rw[show((f i).toNat:Int)=f i by omega]
  .have:=hW i a;omega
theorem an1 (core swap:Int) (v fv:n_) (n nf:Nat) (f:Nat->Int) (ff:Nat->n_×Nat×(Nat->Int)) (h:PgI w v n f) (hF:bu w fv nf ff):P_ m 14 #[.agg #[b_ core,b_ swap,v,fv]] w (am1 core swap n nf f w):=by
 obtain⟨⟨s,c,rfl⟩,hS⟩:=id h;obtain⟨fa,fc,rfl,S⟩:=id hF;have K1:Keep No w (w.alloc (.cells #[b_ core,b_ swap,.slice s n c,.slice fa nf fc] 25)):=(p_ _ _).alloc _;have J6:(w.alloc (.cells #[b_ core,b_ swap,.slice s n c,.slice fa nf fc] 25)).heap[w.heap.size]?=some (O_ #[b_ core,b_ swap,.slice s n c,.slice fa nf fc] 25):=heap_alloc_new rfl;gi_enter func14,ntmps14;gi_wp2_with fail;refine(ag4 _ (w.alloc (.cells #[b_ core,b_ swap,.slice s n c,.slice fa nf fc] 25)) core swap _ _ n nf f ff (h.kp K1) (hF.kp K1)).mono ?_;rintro e w1 ⟨K2,r,rfl,He,X⟩;have b2:=K2.old J6 id;have Kw1:Keep No w w1:=K1.then K2;clear J6 h hF K1 K2;cases r
 case false=>
  have hno:nf=0->¬YB core swap n f:=λh1 h2=>by have:=X h1 h2;cases this
  clear He X
  gi_wp2
  go_ret2
  exact⟨Kw1,.inl ⟨by simp,hno⟩⟩
 obtain⟨hm,hnf,B,hfs⟩:=He rfl;clear He X;obtain⟨⟨m1,m2,m3,m4⟩,⟨m5,m6,m7⟩,m8⟩:=id hm;obtain⟨C,rfl⟩:∃C:Nat,core=C:=⟨core.toNat,by omega⟩;obtain⟨M,rfl⟩:∃M:Nat,swap=M:=⟨swap.toNat,by omega⟩;have hSl:=hS m6;clear hS;generalize N:8*Am n=b;have c0:w1.cell? (S_ w.heap.size)=some (b_ C):=bce b2 rfl;have c1:w1.cell? (T_ w.heap.size 1)=some (b_ M):=bce b2 rfl;gi_wp2;refine CP (P:=prog) No _ rfl rfl (by kernel_rfl) 5 50 [0,1,3,4] [2] (by kernel_rfl) (by rfl) (bw8 w.heap.size C)
  (λ_ _ _ _ _ h a=>let ⟨cb,q1,q2,d⟩:=h;⟨cb,q1,q2,a.old d id⟩) _ _ rfl rfl ?_;gi_wp2;refine⟨rfl,by kernel_rfl,?_,?_,?_⟩
 .intro W a;have d0:=a.has (w:=w1.drew) c0;have d1:=a.has (w:=w1.drew) c1
  repeat' (refine Az ?_ ?_)
  all_goals first|exact trivial|gi_wp2
 .intro i p u W a j;obtain rfl:i=2:=by simpa using p
  refine BJ rfl λKK F=>?_
  show wpListIn NF m prog _ _ _ (Act.put _ (some 12) (u 2)) _;gi_wp2_with fail;refine(oz _ W C (by omega)).mono ?_;rintro e w2 ⟨k2,cb,q1,rfl,d⟩;gi_wp2;exact⟨_,rfl,k2,cb,Nat.le_trans (Nat.le_trans Kw1.size a.size) q1,rfl,d⟩
 intro u W a j;obtain⟨cb,q1,q2,d⟩:=j 2 (by simp);show wpListIn NF m prog _ _ _ (Act.put _ (some 12) (u 2)) _;rw[q2];have KW:Keep No w W:=Kw1.drew.then a;have b3:=a.old (heap_drew.trans b2) id;clear a j q2 c0 c1;gi_wp2_with fail;refine(oq _ W M (by omega)).mono ?_;rintro e w2 ⟨k2,sb,q4,rfl,y⟩;have KW2:=KW.then k2;have d:=k2.old d id;have b4:=k2.old b3 id;have q4:w.heap.size<=sb:=Nat.le_trans KW.size q4;have hal:w2.alloc (.cells (N9 cb sb) 114)=w2.alloc (.cells (N9 cb sb) 114):=rfl
 conv at hal=>lhs;unfold N9
 clear b3 k2 KW;gi_upto_region 4 with fail;obtain⟨big,A⟩:∃big,big=Value.agg (N9 cb sb):=⟨_,rfl⟩;unfold N9 at A;rw[<-A];clear A;have K3:Keep No w2 (w2.alloc (.cells (N9 cb sb) 114)):=(p_ _ _).alloc _;have D:(w2.alloc (.cells (N9 cb sb) 114)).heap[w2.heap.size]?=some (O_ (N9 cb sb) 114):=heap_alloc_new rfl;have KW3:=KW2.then K3;have b5:=K3.old b4 id;have d:=K3.old d id;have y:=K3.old y id;have hkb:w.heap.size<=w2.heap.size:=KW2.size;clear hal b4 K3 KW2;generalize w2.alloc (.cells (N9 cb sb) 114)=w3 at*;generalize w2.heap.size=kb at*;have c3:w3.cell? (T_ w.heap.size 3)=some (.slice fa nf fc):=bce b5 rfl;have lk:kb<w3.heap.size:=DN D;have lc:cb<w3.heap.size:=DN d;have lS:sb<w3.heap.size:=DN y;have R:ao9 kb w3.heap.size 0 (λi=>(ff i).2.1) (N9 cb sb) w3 w3:=⟨_,_,_,_,GU.start D (λi p=>by
  have:i=0\/i=1\/i=2\/i=3\/i=4\/i=5\/i=6\/i=7\/i=8\/i=9\/i=10\/i=11\/i=12\/i=13\/i=14\/i=15:=by omega
  obtain rfl|rfl|rfl|rfl|rfl|rfl|rfl|rfl|rfl|rfl|rfl|rfl|rfl|rfl|rfl|rfl:=this<;>rfl),p_ _ _⟩;gi_wp2;gi_loopw [21] (λi wr=>∃k:Nat,k<=nf/\i=b_ k/\ao9 kb w3.heap.size k (λi=>(ff i).2.1) (N9 cb sb) w3 wr) (λi _=>nf-(intOf i).toNat)
 case atStart=>exact⟨0,by omega,rfl,R⟩
 case round=>
  obtain⟨k,hk,rfl,T,nm,ct,ks,z,KF⟩:=hrel
  have Kwr:Keep No w wr:=KW3.trans KF (λx t e=>absurd t (by have e:x=kb:=e;omega))
  have Cj:w3.heap.size<=wr.heap.size:=KF.size
  by_cases Bv:k<nf
  .obtain⟨fb',fo,rfl,hcf⟩:=S (by omega);obtain⟨d0,⟨s',c',hv⟩,hI⟩:=hcf k Bv;obtain⟨g64,gW⟩:=B k Bv;generalize hq:ff k=q at*;obtain⟨v',n',f'⟩:=q;simp only at d0 hv hI g64 gW;subst hv;have d1:=Kwr.has d0;have hS':=(hI (by omega)).keep Kwr;clear R hcf S d0 hI;gi_wp2;refine CP (P:=prog) No _ rfl rfl (by kernel_rfl) 6 50 [0,1,2,3,4] [5] (by kernel_rfl) (by rfl) (bw7 wr.heap.size n' λi=>(f' i).toNat) (λ_ _ _ _ _ h a=>let ⟨g,q1,q2,d⟩:=h;⟨g,q1,q2,d.keep a id⟩) _ _ rfl rfl ?_;gi_wp2;refine⟨rfl,by kernel_rfl,?_,?_,?_⟩
   .intro W a
    repeat' (refine Az ?_ ?_)
    all_goals first|exact trivial|gi_wp2
   .intro i p u W a j;obtain rfl:i=5:=(by simpa using p);refine BJ rfl λKK F=>?_
    show wpListIn NF m prog _ _ _ (Act.put _ (some 31) (u 5)) _;gi_wp2_with fail;refine(bV _ W _ n' f' (hS'.keep ((p_ No wr).drew.then a)) gW (by omega)).mono ?_;rintro e w4 ⟨Z,rfl,r4⟩;gi_wp2;exact⟨_,rfl,Z,_,a.size,rfl,r4⟩
   intro u W a j;obtain⟨g,O,Q,g3⟩:=j 5 (by simp);show wpListIn NF m prog _ _ _ (Act.put _ (some 31) (u 5)) _;rw[Q];have KW:Keep No wr W:=(p_ No wr).drew.then a;have Ϸ:=z.kp KW;have hnk:ks[4+k]?=some (.pointer none):=(by rw[z.nmv k (by omega),z.out k (by omega)];rfl);clear a j Q hS' d1;gi_wp2_with fail;refine(be9 _ W kb k ks (some (S_ g)) n' n' Ϸ.kh (by omega) hnk).mono ?_;rintro e w4 ⟨rfl,K,V,U⟩;have hgT:T g=(0,0):=by
    cases Decidable.em (T g=(0,0))with
    |inl e=>exact e
    |inr e=>have:=(z.tg _ e).2.1;omega
   have hF4:=Ϸ.make (by show(ff k).2.1=n';rw[hq]) (by omega) lk (by have:=KW.size;omega) (by omega) hgT g3 g64 (λi p=>by have:=gW i p;omega) K V U;gi_wp2;go_roundw
   case rel=>exact⟨k+1,by omega,by go_num,_,_,_,_,hF4,(KF.trans KW (λ_ _ e=>e.elim)).trans K (λ_ _ e=>e)⟩
   case measure=>simp[intOf];omega
  obtain rfl:k=nf:=by omega
  have b6:=KF.old b5 (λe=>by have e:w.heap.size=kb:=e;exact BL b5 D (by decide) e);have c2:wr.cell? (T_ w.heap.size 2)=some (.slice s n c):=bce b6 rfl;have d:=KF.old d (λe=>BL d D (by decide) e);have y:=KF.old y (λe=>BL y D (by decide) e);clear R S b5 c3 B;gi_wp2;refine CP (P:=prog) No _ rfl rfl (by kernel_rfl) 14 50 [0,1,2,4,5,6] [3,7,8,9,10,11,12,13] (by kernel_rfl) (by rfl) (yf wr.heap.size n b (λi=>(f i).toNat)) yf.keep _ _ rfl rfl ?_;gi_wp2;refine⟨rfl,by kernel_rfl,?_,?_,?_⟩
  .intro W a;have d2:=a.has (w:=wr.drew) c2
   repeat' (refine Az ?_ ?_)
   all_goals first|exact trivial|gi_wp2
  .intro i p u W a j;have KW:Keep No wr W:=(p_ No wr).drew.then a;obtain rfl|rfl|rfl|rfl|rfl|rfl|rfl|rfl:=(by simpa using p:i=3\/i=7\/i=8\/i=9\/i=10\/i=11\/i=12\/i=13)
   .refine BJ rfl λKK F=>?_
    show wpListIn NF m prog _ _ _ (Act.put (Act.put (Act.put (Act.put (Act.put (Act.put (Act.put (Act.put _ (some 37) (u 3)) (some 41) (u 7)) (some 42) (u 8)) (some 43) (u 9)) (some 44) (u 10)) (some 45) (u 11)) (some 46) (u 12)) (some 47) (u 13)) _;gi_wp2_with fail;refine(bV _ W _ n f (hSl.keep (Kwr.then KW)) m7 (by omega)).mono ?_;rintro e w4 ⟨Z,rfl,r4⟩;gi_wp2;exact⟨Q_ W.heap.size n n,by kernel_rfl,Z,_,rfl,r4⟩
   .refine BJ rfl λKK F=>?_
    show wpListIn NF m prog _ _ _ (Act.put (Act.put (Act.put (Act.put (Act.put (Act.put (Act.put (Act.put _ (some 37) (u 3)) (some 41) (u 7)) (some 42) (u 8)) (some 43) (u 9)) (some 44) (u 10)) (some 45) (u 11)) (some 46) (u 12)) (some 47) (u 13)) _;gi_wp2_with fail;refine(Ig _ W n (by omega)).mono ?_;rintro e w4 ⟨rfl,Y⟩;have Y:=Y.symm;subst Y;gi_wp2;exact⟨b_ (Am n),by kernel_rfl,p_ _ _,rfl⟩
   .obtain⟨ab,e3,r3⟩:=j 3 (by simp) (by decide);have e7:=j 7 (by simp) (by decide);have e7:u 7=b_ (Am n):=e7;refine BJ rfl λKK F=>?_
    show wpListIn NF m prog _ _ _ (Act.put (Act.put (Act.put (Act.put (Act.put (Act.put (Act.put (Act.put _ (some 37) (u 3)) (some 41) (u 7)) (some 42) (u 8)) (some 43) (u 9)) (some 44) (u 10)) (some 45) (u 11)) (some 46) (u 12)) (some 47) (u 13)) _;rw[e3,e7];gi_wp2_with fail;refine(Yi _ W ab n (Am n) b (λi=>(f i).toNat) r3 N (by unfold Am at N;omega) (by unfold Am at N;omega)).mono ?_;rintro e w4 ⟨Z,rfl,r4⟩;gi_wp2;exact⟨Q_ W.heap.size b b,by rw[<-e3,<-e7];kernel_rfl,Z,_,KW.size,rfl,r4⟩
   .obtain⟨ib,O,e8,r8⟩:=j 8 (by simp) (by decide);refine BJ rfl λKK F=>?_
    show wpListIn NF m prog _ _ _ (Act.put (Act.put (Act.put (Act.put (Act.put (Act.put (Act.put (Act.put _ (some 37) (u 3)) (some 41) (u 7)) (some 42) (u 8)) (some 43) (u 9)) (some 44) (u 10)) (some 45) (u 11)) (some 46) (u 12)) (some 47) (u 13)) _;rw[e8];gi_wp2;exact⟨.agg #[a_ 0,a_ 0,a_ 0,.slice (some (S_ ib)) b b],by rw[<-e8];kernel_rfl,p_ _ _,ib,O,rfl,r8⟩
   .refine BJ rfl λKK F=>?_
    show wpListIn NF m prog _ _ _ (Act.put (Act.put (Act.put (Act.put (Act.put (Act.put (Act.put (Act.put _ (some 37) (u 3)) (some 41) (u 7)) (some 42) (u 8)) (some 43) (u 9)) (some 44) (u 10)) (some 45) (u 11)) (some 46) (u 12)) (some 47) (u 13)) _;gi_wp2;exact⟨Q_ W.heap.size 1 1,by kernel_rfl,(p_ _ _).alloc _,_,rfl,heap_alloc_new rfl⟩
   .obtain⟨vb,e10,r10⟩:=j 10 (by simp) (by decide);refine BJ rfl λKK F=>?_
    show wpListIn NF m prog _ _ _ (Act.put (Act.put (Act.put (Act.put (Act.put (Act.put (Act.put (Act.put _ (some 37) (u 3)) (some 41) (u 7)) (some 42) (u 8)) (some 43) (u 9)) (some 44) (u 10)) (some 45) (u 11)) (some 46) (u 12)) (some 47) (u 13)) _;rw[e10];gi_wp2_with fail;refine(ak _ W vb r10).mono ?_;rintro e w4 ⟨Z,rfl,r4⟩;gi_wp2;exact⟨Q_ W.heap.size 6 6,by rw[<-e10];kernel_rfl,Z,_,KW.size,rfl,r4⟩
   .obtain⟨ib,O,e9,r9⟩:=j 9 (by simp) (by decide);obtain⟨fb,Q,e11,r11⟩:=j 11 (by simp) (by decide);obtain⟨x,hbx,hxc⟩:=pV W (ib:=ib) (fb:=fb) (L:=b);refine BJ rfl λKK F=>?_
    show wpListIn NF m prog _ _ _ (Act.put (Act.put (Act.put (Act.put (Act.put (Act.put (Act.put (Act.put _ (some 37) (u 3)) (some 41) (u 7)) (some 42) (u 8)) (some 43) (u 9)) (some 44) (u 10)) (some 45) (u 11)) (some 46) (u 12)) (some 47) (u 13)) _;rw[e9,e11];gi_wp2;exact⟨.agg #[b_ 0,b_ 0,.bool false,a_ 0,.nilFunc,a_ 0,a_ 0,a_ 0,.slice (some (S_ ib)) b b,.slice (some (S_ fb)) 6 6,b_ 0,b_ 0],by rw[<-e9,<-e11];kernel_rfl,p_ _ _,ib,fb,O,Q,rfl,r9,r11⟩
   .obtain⟨ib,fb,O,Q,G,r1,r2⟩:=j 12 (by simp) (by decide);refine BJ rfl λKK F=>?_
    show wpListIn NF m prog _ _ _ (Act.put (Act.put (Act.put (Act.put (Act.put (Act.put (Act.put (Act.put _ (some 37) (u 3)) (some 41) (u 7)) (some 42) (u 8)) (some 43) (u 9)) (some 44) (u 10)) (some 45) (u 11)) (some 46) (u 12)) (some 47) (u 13)) _;have G:u 12=.agg #[b_ 0,b_ 0,.bool false,a_ 0,.nilFunc,a_ 0,a_ 0,a_ 0,.slice (some (S_ ib)) b b,.slice (some (S_ fb)) 6 6,b_ 0,b_ 0]:=G;rw[G];gi_wp2;exact⟨R_ W.heap.size,by rw[<-G];kernel_rfl,(p_ _ _).alloc _,W.heap.size,ib,fb,KW.size,O,Q,rfl,heap_alloc_new rfl,r1.keep ((p_ No _).alloc _) id,r2.keep ((p_ No _).alloc _) id⟩
  intro u W a j;obtain⟨pb,ib,fb,g0,O,Q,e13,J,r1,r2⟩:=j 13 (by simp);show wpListIn NF m prog _ _ _ (Act.put (Act.put (Act.put (Act.put (Act.put (Act.put (Act.put (Act.put _ (some 37) (u 3)) (some 41) (u 7)) (some 42) (u 8)) (some 43) (u 9)) (some 44) (u 10)) (some 45) (u 11)) (some 46) (u 12)) (some 47) (u 13)) _;rw[e13];have KW:Keep No wr W:=(p_ No wr).drew.then a;have H:=a.old (heap_drew.trans z.kh) id;have d:=a.old (heap_drew.trans d) id;have y:=a.old (heap_drew.trans y) id;have hnb:Am b<=M:=by unfold Am at N m8 ⊢;omega
  have hL1:1<=b:=by unfold Am at N;omega
  have hL2:b<=128:=by unfold Am at N;omega
  have hms:Mp 188 W sb 1 [(0,M)]:=⟨⟨_,y,rfl,rfl⟩,by simp,by unfold maxLen;simp,rfl,by simp[rc,Value.oneCell']⟩;have hmc:Mp 186 W cb 1 [(0,C)]:=⟨⟨_,d,rfl,rfl⟩,by simp,by unfold maxLen;simp,rfl,by simp[rc,Value.oneCell']⟩;have k1:ks[1]?=some (Q_ sb 1 1):=(z.off 1 (by omega)).trans rfl;have k2:ks[2]?=some (.slice none 0 0):=(z.off 2 (by omega)).trans rfl;have k3:ks[3]?=some (b_ 0):=(z.off 3 (by omega)).trans rfl;have k0:ks[0]?=some (Q_ cb 1 1):=(z.off 0 (by omega)).trans rfl;have I:∀x,wr.heap.size<=x->T x=(0,0):=λx t=>by
   cases Decidable.em (T x=(0,0))with
   |inl e=>exact e
   |inr e=>have:=(z.tg _ e).2.1;omega
  have Ϸ:=z.kp KW;clear a j c2 z;gi_wp2_with fail;refine(ax4 _ W kb pb sb 1 M ib b fb ks J H k1 k2 k3 hms hnb hL1 hL2 (by omega)).mono ?_;rintro e w4 ⟨rfl,K,ϥ,g,cg,hg,V,ms4,pr4⟩;gi_wp2;go_ret2;have o:(XO n b λi=>(f i).toNat).length=b:=by simp[XO]
  have KZ:Keep No w w4:=(Kwr.then KW).trans K (λx t e=>absurd t (by have:=Kwr.size;obtain e|e|e:=e<;>omega));have tik:ib≠kb:=by obtain⟨_,E,_⟩:=id r1;exact BL E H (by decide)
  have tis:ib≠sb:=by obtain⟨_,E,_⟩:=id r1;exact BL E y (by decide)
  have tip:ib≠pb:=by obtain⟨_,E,_⟩:=id r1;exact BL E J (by decide)
  have tfk:fb≠kb:=by obtain⟨_,E,_⟩:=id r2;exact BL E H (by decide)
  have tfs:fb≠sb:=by obtain⟨_,E,_⟩:=id r2;exact BL E y (by decide)
  have tfp:fb≠pb:=by obtain⟨_,E,_⟩:=id r2;exact BL E J (by decide)
  have tck:cb≠kb:=BL d H (by decide);have tcs:cb≠sb:=BL d y (by decide);have tcp:cb≠pb:=BL d J (by decide);have hi4:Rw 123 1 w4 ib b b (AB (XO n b λi=>(f i).toNat)):=by
   have:=(r1.rw (by omega)).keep K (by rintro(e|e|e)<;>contradiction)
   simpa [AB,XO,Function.comp_def]using this
  have U:Rw 3 1 w4 fb 6 6 (Fh [-1,-1,-1,-1,-1,-1]):=(r2.rw (by omega)).keep K (by rintro(e|e|e)<;>contradiction);have hk5:=A8.fresh (k:=k) (C:=C) (Ae:=XO n b λi=>(f i).toNat) (c:=cg) (g:=g) (cb:=cb) (l:=(Aw [(0,M)] (Am b)).2) Ϸ (by omega) hfs K V
   (by rw[BC (by decide),BC (by decide),BC (by decide)];exact k0) (by rw[BC (by decide),BC (by decide)];exact Nq k1) (Nq (by rw[BC (by decide),BC (by decide)];exact k2)) (by rw[BC (by decide)];exact Nq (by rw[BC (by decide)];exact k3))
   (λi p=>by rw[BC (by omega),BC (by omega),BC (by omega)]) (by rw[BC (by decide),BC (by decide),BC (by decide)];exact(Ϸ.off 20 (by omega)).trans rfl)
   (λi p=>by rw[BC (by omega),BC (by omega),BC (by omega),BC (by omega),BC (by omega),BC (by omega),Ϸ.off _ (by omega),Ϸ.off _ (by omega)];exact ag9 i p)
   (Rw.keep hmc K (by rintro(e|e|e)<;>contradiction)) ms4 pr4 (ϥ _ o) (by rw[o];exact hi4) U lk lS lc ⟨I g (by have:=KW.size;omega),I pb (by omega),I ib (by omega),I fb (by omega)⟩;have Hy:=GK.fresh (ct:=ct) (kb:=kb) (cb:=cb) (sb:=sb) (g:=g) (c:=cg) (pb:=pb) (ib:=ib) (fb:=fb) (C:=C) (M:=M) (T:=T) (Ae:=XO n b λi=>(f i).toNat) (l:=(Aw [(0,M)] (Am b)).2) ⟨by omega,by omega⟩ (by omega) ⟨Am n,by rw[o];exact N.symm,by unfold Am;omega,by unfold Am;omega⟩ (λx t=>by
   obtain⟨i,_,rfl⟩:=List.mem_map.1 t
   unfold padded
   split
   .rename_i p;have:=m7 i p;show(f i).toNat<65536;omega
   .omega) (by rw[o];exact hnb) (by rw[o]) Ϸ.inj
  subst N;refine⟨KZ,.inr ⟨_,pb,ib,fb,C,M,by simp[Na,ptr],hk5,Hy,rfl,by simp[Na,BX],λx t=>?_,rfl,rfl,by omega,rfl,rfl,rfl,λ_=>rfl,λ_=>rfl,λk hk=>(Bg hk:BX (λ_=>none) pb _ k=none)⟩⟩;have hWs:=KW.size;have t:LM kb cb sb g pb ib fb T x≠(0,0):=t;by_cases e1:x=fb
  .omega
  by_cases e2:x=ib
  .omega
  by_cases e3:x=pb
  .omega
  by_cases e4:x=g
  .omega
  by_cases e5:x=sb
  .omega
  by_cases e6:x=cb
  .omega
  by_cases e7:x=kb
  .omega
  unfold LM at t;rw[Bj e1,Bj e2,Bj e3,Bj e4,Bj e5,Bj e6,Bj e7]at t;have:=(Ϸ.tg x t).1;omega
end
def Goes (Od:Old) (P:l_) (x:Frame×Z_) (v:o_) (Q:Frame×Z_->o_->Prop):Prop:=
 ∀(Z:Nat->Prop) (Ac:Loc->Prop) (B:Nat) (gs:Array m_) (w:o_) (sl:d_ (W_)) (t:Trace),FT Ac Z->Beside Od P Ac Z B v gs w t->gs[0]?=some (BD x)->
  LX P gs w sl t λA7 w' t'=>∃Z' Oc B' y v',FT Oc Z'/\Beside Od P Oc Z' B' v' A7 w' t'/\A7[0]?=some (BD y)/\Q y v'
section
variable {P:l_} {x:Frame×Z_} {v:o_} {Q R:Frame×Z_->o_->Prop}
theorem Goes.now {Od:Old} (h:Q x v):Goes Od P x v Q:=λZ a B _ _ _ _ d b c=>.now ⟨Z,a,B,x,v,d,b,c,h⟩
theorem Beside.re {Od:Old} {Ac:Loc->Prop} {Z:Nat->Prop} {B:Nat} {gs:Array m_} {w:o_} {t:Trace} (h:Beside Od P Ac Z B v gs w t) (τ:Nat->Question->Nat) (d:Nat):Beside Od P Ac Z B (v.re τ d) gs w t:=
 let ⟨q,T,hZ,h3⟩:=h;⟨q,T.V8 τ w.tape d w.drawn,hZ,h3⟩
theorem Goes.re {Od:Old} {τ:Nat->Question->Nat} {d:Nat} (h:Goes Od P x (v.re τ d) Q):Goes Od P x v Q:=λZ a B c w sl t f b e=>h Z a B c w sl t f (b.re τ d) e
theorem Goes.Ar {Od:Old} {n:Nat} (h:Ar P n x=some []) (k:Goes Od P (run P n x) v Q):Goes Od P x v Q:=λZ b B _ _ _ _ g c e=>
 (c.RH e (Dv h)).then λa j d i _ ⟨f,Bs1,_⟩=>k Z b B a j d i g Bs1 f
theorem Goes.step {Od:Old} {y:Frame×Z_} (h:Qv P x=some y) (k:Goes Od P y v Q):Goes Od P x v Q:=λZ b B _ _ _ _ g c e=>
 (c.RH (k:=1) e ⟨rfl,BD y,λw _=>quiet_step h w,rfl⟩).then λa j d i _ ⟨f,Bs1,_⟩=>k Z b B a j d i g Bs1 f
end
section
variable {Ei:h_} {kd:CallKind} {tmps:X_} {k:List Item} {ds:List Deferred} {cs:Z_} {c:Code} {v:o_} {m:Nat} {Q:o_->X_->o_->Prop} {R:Frame×Z_->o_->Prop}
theorem Goes.part {Od:Old} (hn:(prog.funcs[Ei]?).any (·.norace)=false) (hkd:(kd==CallKind.early)=false) (hc:c.Bf (Cb prog)=true) (hw:∀v1,Keep No v v1->c.wpIn NF m prog (Ends (Q v1)) ⟨tmps,[]⟩ v1)
  (hk:∀v1 tm v',Keep No v v1->Q v1 tm v'->Goes Od prog (Frame.mk Ei tm k ds .run kd none,cs) v' R):Goes Od prog (Frame.mk Ei tmps (.code c::k) ds .run kd none,cs) v R:=λZ l B A w sl t i o q=>by
 refine(KU OO i Sv.PE (IL hn UM) hkd hc (Q:=Ends λtm b=>∃τ d,Q (v.re τ d) tm b) ZP (λτ d=>wpIn_mono (hw _ (CO v τ d)) λe a b h=>⟨h.1,h.2.1,τ,d,h.2.2⟩) o q).then λj b p z _ ⟨g,v',n,r,⟨tm,τ,d,u⟩,_,_,s⟩=>?_
 obtain⟨rfl,_,_,f,d1,y⟩|⟨_,_,x,_⟩:=u
 .exact(hk _ tm _ (CO v f d1) y).re Z l n j b p z i s r
 .cases x
theorem Goes.aa2 {Od:Old} (hn:(prog.funcs[Ei]?).any (·.norace)=false) (hkd:(kd==CallKind.early)=false) (hc:c.Bf (Cb prog)=true) (hw:∀v1,Keep No v v1->c.wpIn NF m prog (XU (Q v1)) ⟨tmps,[]⟩ v1)
  (hk:∀v1 tm todo v',Keep No v v1->Q v1 tm v'->Goes Od prog (Frame.mk Ei tm todo ds .returning kd none,cs) v' R):Goes Od prog (Frame.mk Ei tmps (.code c::k) ds .run kd none,cs) v R:=λZ l B A w sl t i o q=>by
 refine(KU OO i Sv.PE (IL hn UM) hkd hc (Q:=XU λtm b=>∃τ d,Q (v.re τ d) tm b) rO (λτ d=>wpIn_mono (hw _ (CO v τ d)) λe a b h=>⟨h.1,h.2.1,τ,d,h.2.2⟩) o q).then λj b p z _ ⟨g,v',n,r,⟨tm,τ,d,u⟩,_,_,s⟩=>?_
 obtain⟨_,x,_⟩|⟨todo,rfl,_,_,f,d1,y⟩:=u
 .cases x
 .exact(hk _ tm todo _ (CO v f d1) y).re Z l n j b p z i s r
theorem Goes.either {Od:Old} {Q':o_->X_->o_->Prop} (hn:(prog.funcs[Ei]?).any (·.norace)=false) (hkd:(kd==CallKind.early)=false) (hc:c.Bf (Cb prog)=true) (hw:∀v1,Keep No v v1->c.wpIn NF m prog (fun e a w'=>a.defers=[]/\((e=.normal/\Q v1 a.tmps w')\/(e=.ret/\Q' v1 a.tmps w'))) ⟨tmps,[]⟩ v1)
  (hk:∀v1 tm v',Keep No v v1->Q v1 tm v'->Goes Od prog (Frame.mk Ei tm k ds .run kd none,cs) v' R) (hk':∀v1 tm todo v',Keep No v v1->Q' v1 tm v'->Goes Od prog (Frame.mk Ei tm todo ds .returning kd none,cs) v' R):Goes Od prog (Frame.mk Ei tmps (.code c::k) ds .run kd none,cs) v R:=λZ l B y w sl t i s u=>by
 refine(KU OO i Sv.PE (IL hn UM) hkd hc (Q:=λe a w'=>a.defers=[]/\((e=.normal/\∃τ d,Q (v.re τ d) a.tmps w')\/(e=.ret/\∃τ d,Q' (v.re τ d) a.tmps w'))) (λ_ _ _ h=>⟨h.2.imp (·.1) (·.1),h.1⟩) (λτ d=>wpIn_mono (hw _ (CO v τ d)) λe a w' h=>⟨h.1,h.2.imp (λh=>⟨h.1,τ,d,h.2⟩) (λh=>⟨h.1,τ,d,h.2⟩)⟩) s u).then λj w' o r _ ⟨g,v',n,p,⟨tm,τ,d,x⟩,_,_,q⟩=>?_
 obtain⟨rfl,_,b⟩|⟨todo,rfl,_,b⟩:=x
 .obtain⟨_,f,d1,b⟩|⟨e,_⟩:=b
  .exact(hk _ tm _ (CO v f d1) b).re Z l n j w' o r i q p
  .cases e
 .obtain⟨e,_⟩|⟨_,f,d1,b⟩:=b
  .cases e
  .exact(hk' _ tm todo _ (CO v f d1) b).re Z l n j w' o r i q p
theorem Goes.seq {Od:Old} {a b:Code} (h:Goes Od prog (Frame.mk Ei tmps (.code a::.code b::k) ds .run kd none,cs) v R):Goes Od prog (Frame.mk Ei tmps (.code (a.seq b)::k) ds .run kd none,cs) v R:=Goes.step rfl h
end
theorem vM {Od:Old} {NC NS b:Nat} {K:KS} {r:PR} {v:o_} {n:Nat} {c0:Frame} {cs:Z_} {R:Frame×Z_->o_->Prop} (hn:n<=1000) (Ϧ:NR NC NS b K n) (ka:A8 K v) (ok:GK NC NS K) (hb:K.ps b=some r) (hen:r.en=false) (hm:b∈K.AV)
  (hk:∀told v',SF NC NS b K v n told v'->Goes Od prog (c0.finish told,cs) v' R):Goes Od prog (z0 prog (ptr K.kb) (S_ b) (n:Nat) (c0::cs)) v R:=λZ s B u w sl t o e k=>by
 have h:SO NC NS b K v CS v:=⟨r,⟨ka,ok,Rel.refl b K,BV.no (p_ _ _) ka.lt,⟨World.ownsRow_nil _ _ _ _,λg h=>by cases h⟩,hb,⟨by rw[hb];simp,ok.th⟩⟩,hen,hm⟩;refine(iP wU Sv (vH 0) (mY 0) (by omega) (by omega) (ru NC NS b K v n 0 hn Ϧ) (au9 NC NS b K v n 0 hn Ϧ) o h e k).bind λc q f p ⟨j,i,_,a,told,v',d,m,l,Bs'⟩=>?_
 exact hk told v' m j i d c q f p a Bs' l
theorem uq:(prog.funcs[19]?).any (·.norace)=false:=by kernel_rfl
theorem Ug:Gj prog 19=Tryz.f19.body.getD .skip:=by kernel_rfl
def XJ (P:l_) (i:Nat):Code:=piece (behind i (Gj P 19))
def pkX (P:l_):Code:=behind 2 (Gj P 19)
def pkZ (P:l_):Code:=behind 5 (Gj P 19)
theorem Ω:(XJ prog 1).Bf (Cb prog)=true:=by kernel_rfl
theorem dH:(XJ prog 2).Bf (Cb prog)=true:=by kernel_rfl
theorem dE:(XJ prog 3).Bf (Cb prog)=true:=by kernel_rfl
theorem Ψ:(XJ prog 4).Bf (Cb prog)=true:=by kernel_rfl
theorem ad8:pkX prog=(XJ prog 2).seq ((XJ prog 3).seq ((XJ prog 4).seq (pkZ prog))):=by kernel_rfl
section
variable (kp pid n:n_) (cs:Z_)
def pA (P:l_:=prog):Frame×Z_:=run P 6 (Frame.enter P 19 #[kp,pid,n] .normal,cs)
theorem bq6:Ar prog 6 (Frame.enter prog 19 #[kp,pid,n] .normal,cs)=some []:=by kernel_rfl
theorem bq5:CU (pA kp pid n cs)=(19,[.code (XJ prog 1),.code (pkX prog)],[],.run,.normal,none,cs):=by kernel_rfl
theorem bq4:slotsOf (pA kp pid n cs) [0,1,2]=[kp,pid,n]:=by kernel_rfl
theorem bq3:(pA kp pid n cs).1.tmps.size=27:=by kernel_rfl
variable (pa:f_) (f:Y_) (told:n_) (c0:Frame)
def pB (P:l_:=prog):Frame×Z_:=(Frame.mk 19 (TN 27 (AL f [(0,kp),(2,n),(8,pv pa)])) [.code (pkZ P)] [] .run .normal none,cs)
def pC (P:l_:=prog):Frame:=(below (run P 6 (pB kp n cs pa f P))).1
theorem bq2:Ar prog 6 (pB kp n cs pa f)=some []:=by kernel_rfl
theorem bq1:run prog 6 (pB kp n cs pa f)=(Frame.enter prog 56 #[kp,pv pa,n] .normal,pC kp n cs pa f::cs):=by kernel_rfl
theorem bq0:Ar prog 5 ((pC kp n (c0::cs) pa f).finish told,c0::cs)=some []:=by kernel_rfl
theorem bp9:run prog 5 ((pC kp n (c0::cs) pa f).finish told,c0::cs)=(c0.finish (.tuple #[told,b_ 0]),cs):=by kernel_rfl
theorem ap6 (e:Int) (todo:List Item):Ar prog 1 (Frame.mk 19 (TN 27 (AL f [(6,told),(7,b_ e)])) todo [] .returning .normal none,c0::cs)=some []:=by kernel_rfl
theorem ap5 (e:Int) (todo:List Item):run prog 1 (Frame.mk 19 (TN 27 (AL f [(6,told),(7,b_ e)])) todo [] .returning .normal none,c0::cs)=(c0.finish (.tuple #[told,b_ e]),cs):=by kernel_rfl
end
theorem bd7 (kp pid n:n_) (cs:Z_):pA kp pid n cs=(Frame.mk 19 (TN 27 (AL (slot (pA kp pid n cs)) [(0,kp),(1,pid),(2,n)])) [.code (XJ prog 1),.code (pkX prog)] [] .run .normal none,cs):=
 at_toldM (l:=[(0,kp),(1,pid),(2,n)]) (bq5 kp pid n cs) (bq4 kp pid n cs) (bq3 kp pid n cs)
def ab2 (e:Int) (w:o_) (tm:X_) (w':o_):Prop:=(∃g,tm=TN 27 (AL g [(6,.slice none 0 0),(7,b_ e)]))/\Keep No w w'
def yc (kp n p:n_) (w:o_) (tm:X_) (w':o_):Prop:=(∃g,tm=TN 27 (AL g [(0,kp),(2,n),(8,p)]))/\Keep No w w'
def sl27 (f:Y_) (a b c d:n_):X_:=#[a,b,c,f 3,f 4,f 5,f 6,f 7,d,f 9,f 10,f 11,f 12,f 13,f 14,f 15,f 16,f 17,f 18,f 19,f 20,f 21,f 22,f 23,f 24,f 25,f 26]
section
variable (m:Nat) (w:o_) (f:Y_)
def am0 (K:KS) (pid:Int) (n:n_) (w:o_) (tm:X_) (w':o_):Prop:=∃v,tV K pid v/\yc (ptr K.kb) n v w tm w'
theorem ve (K:KS) (pid:Int) (n:n_) (h:A8 K w) (hT:K.EZ) (hl:K.AV.length<=12):(XJ prog 1).wpIn NF m prog (Ends (am0 K pid n w)) ⟨TN 27 (AL f [(0,ptr K.kb),(1,b_ pid),(2,n)]),[]⟩ w:=by
 unfold XJ;rw[Ug];dsimp only[Tryz.f19,Option.getD,behind,piece];show Code.wpIn (Fence.list LF none) m prog _ _ ⟨sl27 f (ptr K.kb) (b_ pid) n (f 8),[]⟩ _;unfold sl27 ptr;gi_wp2_with fail;refine(Zr _ w K pid h hT (by omega)).mono ?_;rintro e w2 ⟨b,v,rfl,a⟩;gi_wp2;exact⟨rfl,rfl,v,a,⟨_,C9 rfl (by simp[ptr])⟩,b⟩
theorem ε (kp n:n_):(XJ prog 2).wpIn NF m prog (XU (ab2 2 w)) ⟨TN 27 (AL f [(0,kp),(2,n),(8,.pointer none)]),[]⟩ w:=by
 unfold XJ;rw[Ug];dsimp only[Tryz.f19,Option.getD,behind,piece];show Code.wpIn (Fence.list LF none) m prog _ _ ⟨sl27 f kp (f 1) n (.pointer none),[]⟩ _;unfold sl27;gi_wp2;exact⟨rfl,rfl,⟨_,C9 rfl (by simp)⟩,p_ _ _⟩
theorem ae2 (kp n:n_) (pa:f_):(XJ prog 2).wpIn NF m prog (Ends (yc kp n (.pointer (some pa)) w)) ⟨TN 27 (AL f [(0,kp),(2,n),(8,.pointer (some pa))]),[]⟩ w:=by
 unfold XJ;rw[Ug];dsimp only[Tryz.f19,Option.getD,behind,piece];show Code.wpIn (Fence.list LF none) m prog _ _ ⟨sl27 f kp (f 1) n (.pointer (some pa)),[]⟩ _;unfold sl27;gi_wp2;exact⟨rfl,rfl,⟨_,C9 rfl (by simp)⟩,p_ _ _⟩
theorem γ (kp p:n_) (n:Int) (hn:¬(1<=n/\n<=1000)):(XJ prog 3).wpIn NF m prog (XU (ab2 4 w)) ⟨TN 27 (AL f [(0,kp),(2,b_ n),(8,p)]),[]⟩ w:=by
 unfold XJ;rw[Ug];dsimp only[Tryz.f19,Option.getD,behind,piece];show Code.wpIn (Fence.list LF none) m prog _ _ ⟨sl27 f kp (f 1) (b_ n) p,[]⟩ _;unfold sl27;by_cases a:n<1
 .clear hn;gi_wp2;exact⟨rfl,rfl,⟨_,C9 rfl (by simp)⟩,p_ _ _⟩
 .have b:1000<n:=by omega
  clear hn;gi_wp2;exact⟨rfl,rfl,⟨_,C9 rfl (by simp)⟩,p_ _ _⟩
theorem ae1 (kp p:n_) (n:Int) (h1:¬n<1) (h2:¬1000<n):(XJ prog 3).wpIn NF m prog (Ends (yc kp (b_ n) p w)) ⟨TN 27 (AL f [(0,kp),(2,b_ n),(8,p)]),[]⟩ w:=by
 unfold XJ;rw[Ug];dsimp only[Tryz.f19,Option.getD,behind,piece];show Code.wpIn (Fence.list LF none) m prog _ _ ⟨sl27 f kp (f 1) (b_ n) p,[]⟩ _;unfold sl27;gi_wp2;exact⟨rfl,rfl,⟨_,C9 rfl (by simp)⟩,p_ _ _⟩
def bw6 (K:KS) (kp n:n_) (b:Nat) (r:PR) (w:o_) (e:Exit) (a:Act) (w':o_):Prop:=a.defers=[]/\((e=.normal/\K.Eg r=0/\yc kp n (ptr b) w a.tmps w')\/(e=.ret/\K.Eg r≠0/\ab2 3 w a.tmps w'))
theorem ae0 (kp n:n_) (K:KS) (b:Nat) (r:PR) (h:A8 K w) (hT:K.EZ) (hl:K.AV.length<=12) (hb:K.ps b=some r):(XJ prog 4).wpIn NF m prog (bw6 K kp n b r w) ⟨TN 27 (AL f [(0,kp),(2,n),(8,ptr b)]),[]⟩ w:=by
 unfold XJ;rw[Ug];dsimp only[Tryz.f19,Option.getD,behind,piece];show Code.wpIn (Fence.list LF none) m prog _ _ ⟨sl27 f kp (f 1) n (ptr b),[]⟩ _;unfold sl27 ptr;have p:=λm=>ry m w K b r h hT hb (by omega)
 gi_wp2_with fail;refine(p _).mono ?_;rintro e w2 ⟨j,s,rfl,o,d⟩;clear o;have a:s=0->Hid (K.Eg r=0):=λe=>d.out.symm.trans e
 have c:s≠0->Hid (K.Eg r≠0):=λe k=>e (d.out.trans k)
 clear d;by_cases g:s=0
 .have i:=a g;clear a c;subst g;gi_wp2;exact⟨rfl,.inl ⟨rfl,i,⟨_,C9 rfl (by simp[ptr])⟩,j⟩⟩
 .have i:=c g;clear a c;have l:(s==0)=false:=by simpa using g
  gi_wp2;exact⟨rfl,.inr ⟨rfl,i,⟨_,C9 rfl (by simp)⟩,j⟩⟩
end
def UU (K:KS) (pid n:Int) (BA:List Ev) (e:Int) (K':KS):Prop:=
 ((∀b∈K.AV,∀r,K.ps b=some r->(r.pid:Int)≠pid)/\e=2/\BA=[]/\K'=K)\/∃b r,b∈K.AV/\K.ps b=some r/\(r.pid:Int)=pid/\
  ((¬(1<=n/\n<=1000)/\e=4/\BA=[]/\K'=K)\/((1<=n/\n<=1000)/\K.Eg r≠0/\e=3/\BA=[]/\K'=K)\/((1<=n/\n<=1000)/\K.Eg r=0/\e=0/\VT b n.toNat K BA K'/\Rel b K K'))
structure Uj (NC NS:Nat) (K:KS) (pid n:Int) (v:o_) (told:n_) (e:Int) (v':o_) (K':KS) (BA:List Ev):Prop where
 ka:A8 K' v'
 ok:GK NC NS K'
 mv:BV K.T K'.T v v'
 told:O8 v.heap.size K'.T told v' BA
 x:UU K pid n BA e K'
theorem Uj.rel {NC NS:Nat} {K K':KS} {pid n e:Int} {v v':o_} {told:n_} {BA:List Ev} (h:Uj NC NS K pid n v told e v' K' BA):K'=K\/∃b r,b∈K.AV/\K.ps b=some r/\(r.pid:Int)=pid/\Rel b K K':=by
 obtain⟨_,_,_,e⟩|⟨b,r,a,c,d,⟨_,_,_,e⟩|⟨_,_,_,_,e⟩|⟨_,_,_,_,f⟩⟩:=h.x
 .exact .inl e
 .exact .inl e
 .exact .inl e
 .exact .inr ⟨b,r,a,c,d,f⟩
theorem Uj.kb {NC NS:Nat} {K K':KS} {pid n e:Int} {v v':o_} {told:n_} {BA:List Ev} (h:Uj NC NS K pid n v told e v' K' BA):K'.kb=K.kb:=by
 obtain e|⟨_,_,_,_,_,a⟩:=h.rel
 .rw[e]
 .exact a.kb
theorem SV {K:KS} {r:PR} (h:K.Eg r=0):r.en=false:=by
 cases he:r.en with
 |false=>rfl
 |true=>unfold KS.Eg at h;rw[he]at h;simp at h
section
variable {v:o_} {c0:Frame} {cs:Z_} {R:Frame×Z_->o_->Prop}
theorem Qx {Od:Old} {NC NS:Nat} {K:KS} {pid n:Int} (ka:A8 K v) (ok:GK NC NS K) (Ϧ:∀b r,b∈K.AV->K.ps b=some r->(r.pid:Int)=pid->K.Eg r=0->NR NC NS b K n.toNat)
  (hk:∀told e v' K' BA,Uj NC NS K pid n v told e v' K' BA->Goes Od prog (c0.finish (.tuple #[told,b_ e]),cs) v' R):
  Goes Od prog (Frame.enter prog 19 #[ptr K.kb,b_ pid,b_ n] .normal,c0::cs) v R:=by
 have a:∀{e:Int} {v':o_},UU K pid n [] e K->Keep No v v'->Goes Od prog (c0.finish (.tuple #[.slice none 0 0,b_ e]),cs) v' R:=fun {e v'} d G=>hk _ e v' K [] ⟨ka.no G,ok,BV.no G ka.lt,⟨World.ownsRow_nil _ _ _ _,λg h=>by cases h⟩,d⟩
 refine Goes.Ar (bq6 _ _ _ _) ?_;rw[show run prog 6 (Frame.enter prog 19 #[ptr K.kb,b_ pid,b_ n] .normal,c0::cs)=pA (ptr K.kb) (b_ pid) (b_ n) (c0::cs)from rfl,bd7];refine Goes.part (m:=0) uq rfl Ω (λv1 s=>ve 0 v1 _ K pid (b_ n) (ka.no s) ok.th ok.len) λv1 c v2 s ⟨p,M,⟨g,e⟩,I⟩=>?_
 subst e;have k2:=s.then I;rw[ad8];obtain⟨b,r,rfl,l,d,o⟩|⟨rfl,B⟩:=M
 .refine Goes.seq (Goes.part (m:=0) uq rfl dH (λv1 _=>ae2 0 v1 _ _ _ _) λv3 c v4 t ⟨⟨J,e⟩,u⟩=>?_);subst e;have H:=k2.then (t.then u);by_cases q:1<=n/\n<=1000
  .refine Goes.seq (Goes.part (m:=0) uq rfl dE (λv1 _=>ae1 0 v1 _ _ _ n (by omega) (by omega)) λP c v6 w ⟨⟨L,e⟩,y⟩=>?_);subst e;have C:=H.then (w.then y);refine Goes.seq (Goes.either (m:=0) (Q:=λv1 c E=>K.Eg r=0/\yc (ptr K.kb) (b_ n) (ptr b) v1 c E) (Q':=λv1 c E=>K.Eg r≠0/\ab2 3 v1 c E) uq rfl Ψ (λv1 k=>ae0 0 v1 _ _ _ K b r (ka.no (C.then k)) ok.th ok.len d) (λS c T k ⟨i,⟨F,e⟩,z⟩=>?_) λS c f T k ⟨A,⟨F,e⟩,z⟩=>?_)
   .subst e;have D:=C.then (k.then z);obtain⟨N,rfl⟩:∃N:Nat,n=N:=⟨n.toNat,by omega⟩;refine Goes.Ar (x:=pB (ptr K.kb) (b_ (N:Nat)) (c0::cs) (S_ b) F) (bq2 _ _ _ _ _) ?_;rw[bq1];refine vM (NC:=NC) (NS:=NS) (by omega) (Ϧ b r l d o i) (ka.no D) ok d (SV i) l λtold v' ⟨BA,K',U,j,O⟩=>?_
    refine Goes.Ar (bq0 _ _ _ _ _ _ _) ?_;rw[bp9];exact hk told 0 v' K' BA ⟨j.ka,j.ok,(BV.no D ka.lt).trans j.mv,⟨YS j.told.row D.size,j.told.no⟩,.inr ⟨b,r,l,d,o,.inr (.inr ⟨q,i,rfl,O,j.rel⟩)⟩⟩
   .subst e;refine Goes.Ar (ap6 _ _ _ _ _ _) ?_;rw[ap5];exact a (.inr ⟨b,r,l,d,o,.inr (.inl ⟨q,A,rfl,rfl,rfl⟩)⟩) (C.then (k.then z))
  .refine Goes.seq (Goes.aa2 (m:=0) uq rfl dE (λv1 _=>γ 0 v1 _ _ _ n q) λP c f v6 w ⟨⟨L,e⟩,y⟩=>?_);subst e;refine Goes.Ar (ap6 _ _ _ _ _ _) ?_;rw[ap5];exact a (.inr ⟨b,r,l,d,o,.inl ⟨q,rfl,rfl,rfl⟩⟩) (H.then (w.then y))
 .refine Goes.seq (Goes.aa2 (m:=0) uq rfl dH (λv1 _=>ε 0 v1 _ _ _) λv3 c f v4 t ⟨⟨J,e⟩,u⟩=>?_);subst e;refine Goes.Ar (ap6 _ _ _ _ _ _) ?_;rw[ap5];exact a (.inl ⟨B,rfl,rfl,rfl⟩) (k2.then (t.then u))
end
end Go.Fxa
