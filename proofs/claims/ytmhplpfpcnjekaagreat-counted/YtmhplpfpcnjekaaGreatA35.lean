/- A new kernel is made. -/
import Derived.Test.YtmhplpfpcnjekaaGreatA34
namespace Go.Fxa
open Conc Proofs RowKit Proofs.Tryz
set_option maxRecDepth 1000000
set_option maxHeartbeats 0
def valOf:Result n_->n_
 |.ok x _=>x
 |_=>undef
def Ov (cb sb:Nat):X_:=#[Q_ cb 1 1,Q_ sb 1 1,.slice none 0 0,b_ 0,.pointer none,.pointer none,.pointer none,.pointer none,.pointer none,.pointer none,.pointer none,.pointer none,.pointer none,.pointer none,.pointer none,.pointer none,.pointer none,.pointer none,.pointer none,.pointer none,.slice none 0 0,.nilIface,b_ 0,.nilIface,b_ 0,.nilIface,b_ 0,.nilIface,b_ 0,.nilIface,b_ 0,.nilIface,b_ 0,.nilIface,b_ 0,.nilIface,b_ 0,.nilIface,b_ 0,.nilIface,b_ 0,.nilIface,b_ 0,.nilIface,b_ 0,.nilIface,b_ 0,.nilIface,b_ 0,.nilIface,b_ 0,.nilIface,b_ 0,.nilIface,b_ 0,.nilIface,b_ 0,.nilIface,b_ 0,.nilIface,b_ 0]
section
variable (m:Nat) (w:o_)
theorem qP {ib fb L:Nat}:∃x,(Instr.build 128 #[(5,.agg #[a_ 0,a_ 0,a_ 0,Q_ ib L L]),(6,Q_ fb 6 6)]).run prog w=.ok x w/\x.cells=dO ib L fb:=
 ⟨valOf ((Instr.build 128 #[(5,.agg #[a_ 0,a_ 0,a_ 0,Q_ ib L L]),(6,Q_ fb 6 6)]).run prog w),by kernel_rfl,by kernel_rfl⟩
end
def bz5 (base C:Nat) (_i:Nat) (v:n_) (W:o_):Prop:=∃cb,base<=cb/\v=.agg #[Q_ cb 1 1]/\W.heap[cb]?=some (O_ #[b_ 0,b_ C] 186)
def zo (base n N8:Nat) (Ag:Nat->Nat):Nat->n_->o_->Prop
 |3,v,W=>∃ab,v=.slice (some (S_ ab)) n n/\Fe 123 .u16 W ab n (λj=>Ag j)
 |7,v,_=>v=.int .i64 (Aj n)
 |8,v,W=>∃ib,base<=ib/\v=.slice (some (S_ ib)) N8 N8/\Fe 123 .u16 W ib N8 (λj=>padded n Ag j)
 |9,v,W=>∃ib,base<=ib/\v=.agg #[.int .u16 0,.int .u16 0,.int .u16 0,.slice (some (S_ ib)) N8 N8]/\Fe 123 .u16 W ib N8 (λj=>padded n Ag j)
 |10,v,W=>∃vb,v=.slice (some (S_ vb)) 1 1/\W.heap[vb]?=some (O_ #[.int .i64 (-1)] 3)
 |11,v,W=>∃fb,base<=fb/\v=.slice (some (S_ fb)) 6 6/\Fe 3 .i64 W fb 6 (λ_=>-1)
 |12,v,W=>∃ib fb,base<=ib/\base<=fb/\v=.agg (dO ib N8 fb)/\Fe 123 .u16 W ib N8 (λj=>padded n Ag j)/\Fe 3 .i64 W fb 6 (λ_=>-1)
 |13,v,W=>∃pb ib fb,base<=pb/\base<=ib/\base<=fb/\v=R_ pb/\W.heap[pb]?=some (O_ (dO ib N8 fb) 128)/\Fe 123 .u16 W ib N8 (λj=>padded n Ag j)/\Fe 3 .i64 W fb 6 (λ_=>-1)
 |_,_,_=>True
theorem zo.keep {base n N8:Nat} {Ag:Nat->Nat} (i:Nat) (hi:i∈[3,7,8,9,10,11,12,13]) (v:n_) (W W':o_) (h:zo base n N8 Ag i v W) (hK:Keep No W W'):zo base n N8 Ag i v W':=by
 obtain rfl|rfl|rfl|rfl|rfl|rfl|rfl|rfl:=(by simpa using hi:i=3\/i=7\/i=8\/i=9\/i=10\/i=11\/i=12\/i=13)
 .obtain⟨e,c,d⟩:=h;exact⟨e,c,d.keep hK id⟩
 .exact h
 .obtain⟨e,c,d,f⟩:=h;exact⟨e,c,d,f.keep hK id⟩
 .obtain⟨e,c,d,f⟩:=h;exact⟨e,c,d,f.keep hK id⟩
 .obtain⟨e,c,d⟩:=h;exact⟨e,c,hK.old d id⟩
 .obtain⟨e,c,d,f⟩:=h;exact⟨e,c,d,f.keep hK id⟩
 .obtain⟨a,b,c,d,f,g,j⟩:=h;exact⟨a,b,c,d,f,g.keep hK id,j.keep hK id⟩
 .obtain⟨p,a,b,k,c,d,f,g,j,l⟩:=h;exact⟨p,a,b,k,c,d,f,hK.old g id,j.keep hK id,l.keep hK id⟩
def aq1 (kb base k:Nat) (L:Nat->Nat) (uP:X_) (w wr:o_):Prop:=∃T nm ks,Ho kb base k L uP ks T nm wr/\Keep (At kb) w wr
def bz4 (base n:Nat) (Ag:Nat->Nat) (_i:Nat) (v:n_) (W:o_):Prop:=∃g,base<=g/\v=Q_ g n n/\Fe 123 .u16 W g n (λj=>Ag j)
theorem ai7 {cb sb:Nat} (i:Nat) (hi:i<20):(Ov cb sb)[21+i*2]?=some .nilIface/\(Ov cb sb)[21+i*2+1]?=some (b_ 0):=by
 have:i=0\/i=1\/i=2\/i=3\/i=4\/i=5\/i=6\/i=7\/i=8\/i=9\/i=10\/i=11\/i=12\/i=13\/i=14\/i=15\/i=16\/i=17\/i=18\/i=19:=by omega
 obtain rfl|rfl|rfl|rfl|rfl|rfl|rfl|rfl|rfl|rfl|rfl|rfl|rfl|rfl|rfl|rfl|rfl|rfl|rfl|rfl:=this<;>exact⟨rfl,rfl⟩
def am8 (core swap:Int) (n nf:Nat) (f:Nat->Int) (w:o_) (e:Ending) (w':o_):Prop:=
 Keep No w w'/\((e=.returned (.tuple #[.pointer none,b_ 1])/\(nf=0->¬YR core swap n f))\/∃K b ib fb C M,e=.returned (.tuple #[ptr K.kb,b_ 0])/\AV K w'/\Ez C M K/\K.AP=[b]/\K.ps b=some (Fq ib fb (di n (8*Aj n) λi=>(f i).toNat))/\(∀k,K.T k≠(0,0)->w.heap.size<=k)/\core=(C:Nat)/\swap=(M:Nat)/\16<=C)
section
variable (m:Nat) (w:o_)
theorem fE (v:n_) (n:Nat) (f:Nat->Int) (h:SlI w v n f) (hW:Words n f) (hn:n<=128):P_ m 45 #[v] w λe w'=>Keep No w w'/\e=.returned (Q_ w.heap.size n n)/\Fe 123 .u16 w' w.heap.size n (λi=>((f i).toNat:Nat)):=by
 obtain⟨_,s,c,rfl,p⟩:=h;by_cases d:n=0
 .subst d;refine(iZ m w s c).mono ?_;rintro e w' ⟨g,j,k⟩;exact⟨g,j,k.ext λi a=>absurd a (by omega)⟩
 .obtain⟨b,o,rfl,l⟩:=p (by omega);refine Yj m w b o n c (λi=>(f i).toNat) (λi a=>?_) (λi a=>?_) (by omega) hn
  .rw[l i a];have:=hW i a;rw[show((f i).toNat:Int)=f i by omega]
  .have:=hW i a;omega
theorem ao2 (core swap:Int) (v fv:n_) (n nf:Nat) (f:Nat->Int) (ff:Nat->n_×Nat×(Nat->Int)) (h:kZ w v n f) (hF:Uo w fv nf ff):P_ m 14 #[.agg #[b_ core,b_ swap,v,fv]] w (am8 core swap n nf f w):=by
 obtain⟨⟨s,c,rfl⟩,hS⟩:=id h;obtain⟨fa,fc,rfl,U⟩:=id hF;have K1:Keep No w (w.alloc (.cells #[b_ core,b_ swap,.slice s n c,.slice fa nf fc] 25)):=(p_ _ _).alloc _;have JG:(w.alloc (.cells #[b_ core,b_ swap,.slice s n c,.slice fa nf fc] 25)).heap[w.heap.size]?=some (O_ #[b_ core,b_ swap,.slice s n c,.slice fa nf fc] 25):=heap_alloc_new rfl;gi_enter func14,ntmps14;gi_wp2_with fail;refine(ai1 _ (w.alloc (.cells #[b_ core,b_ swap,.slice s n c,.slice fa nf fc] 25)) core swap _ _ n nf f ff (h.kp K1) (hF.kp K1)).mono ?_;rintro e w1 ⟨K2,r,rfl,IY,Y⟩;have b2:=K2.old JG id;have Kw1:Keep No w w1:=K1.then K2;clear JG h hF K1 K2;cases r
 case false=>
  have hno:nf=0->¬YR core swap n f:=λh1 h2=>by have:=Y h1 h2;cases this
  clear IY Y
  gi_wp2
  go_ret2
  exact⟨Kw1,.inl ⟨by simp,hno⟩⟩
 obtain⟨hm,hnf,D,hfs⟩:=IY rfl;clear IY Y;obtain⟨⟨m1,m2,m3,m4⟩,⟨m5,m6,m7⟩,m8⟩:=id hm;obtain⟨C,rfl⟩:∃C:Nat,core=C:=⟨core.toNat,by omega⟩;obtain⟨M,rfl⟩:∃M:Nat,swap=M:=⟨swap.toNat,by omega⟩;have hSl:=hS m6;clear hS;generalize O:8*Aj n=b;have c0:w1.cell? (S_ w.heap.size)=some (b_ C):=bce b2 rfl;have c1:w1.cell? (T_ w.heap.size 1)=some (b_ M):=bce b2 rfl;gi_wp2;refine Cf (P:=prog) No _ rfl rfl (by kernel_rfl) 5 50 [0,1,3,4] [2] (by kernel_rfl) (by rfl) (bz5 w.heap.size C)
  (λ_ _ _ _ _ h a=>let ⟨cb,q1,q2,d⟩:=h;⟨cb,q1,q2,a.old d id⟩) _ _ rfl rfl ?_;gi_wp2;refine⟨rfl,by kernel_rfl,?_,?_,?_⟩
 .intro W a;have d0:=a.has (w:=w1.drew) c0;have d1:=a.has (w:=w1.drew) c1
  repeat' (refine Ae ?_ ?_)
  all_goals first|exact trivial|gi_wp2
 .intro i t u W a o;obtain rfl:i=2:=by simpa using t
  refine Bh rfl λKK G=>?_
  show wpListIn NF m prog _ _ _ (Act.put _ (some 12) (u 2)) _;gi_wp2_with fail;refine(pW _ W C (by omega)).mono ?_;rintro e w2 ⟨k2,cb,q1,rfl,d⟩;gi_wp2;exact⟨_,rfl,k2,cb,Nat.le_trans (Nat.le_trans Kw1.size a.size) q1,rfl,d⟩
 intro u W a o;obtain⟨cb,q1,q2,d⟩:=o 2 (by simp);show wpListIn NF m prog _ _ _ (Act.put _ (some 12) (u 2)) _;rw[q2];have KW:Keep No w W:=Kw1.drew.then a;have b3:=a.old (heap_drew.trans b2) id;clear a o q2 c0 c1;gi_wp2_with fail;refine(pU _ W M (by omega)).mono ?_;rintro e w2 ⟨k2,sb,q4,rfl,z⟩;have lh:=KW.then k2;have d:=k2.old d id;have b4:=k2.old b3 id;have q4:w.heap.size<=sb:=Nat.le_trans KW.size q4;have hal:w2.alloc (.cells (Ov cb sb) 114)=w2.alloc (.cells (Ov cb sb) 114):=rfl
 conv at hal=>lhs;unfold Ov
 clear b3 k2 KW;gi_upto_region 4 with fail;obtain⟨big,B⟩:∃big,big=Value.agg (Ov cb sb):=⟨_,rfl⟩;unfold Ov at B;rw[<-B];clear B;have K3:Keep No w2 (w2.alloc (.cells (Ov cb sb) 114)):=(p_ _ _).alloc _;have E:(w2.alloc (.cells (Ov cb sb) 114)).heap[w2.heap.size]?=some (O_ (Ov cb sb) 114):=heap_alloc_new rfl;have KW3:=lh.then K3;have b5:=K3.old b4 id;have d:=K3.old d id;have z:=K3.old z id;have hkb:w.heap.size<=w2.heap.size:=lh.size;clear hal b4 K3 lh;generalize w2.alloc (.cells (Ov cb sb) 114)=w3 at*;generalize w2.heap.size=kb at*;have c3:w3.cell? (T_ w.heap.size 3)=some (.slice fa nf fc):=bce b5 rfl;have lk:kb<w3.heap.size:=BQ E;have lc:cb<w3.heap.size:=BQ d;have lS:sb<w3.heap.size:=BQ z;have S:aq1 kb w3.heap.size 0 (λi=>(ff i).2.1) (Ov cb sb) w3 w3:=⟨_,_,_,Ho.start E (λi t=>by
  have:i=0\/i=1\/i=2\/i=3\/i=4\/i=5\/i=6\/i=7\/i=8\/i=9\/i=10\/i=11\/i=12\/i=13\/i=14\/i=15:=by omega
  obtain rfl|rfl|rfl|rfl|rfl|rfl|rfl|rfl|rfl|rfl|rfl|rfl|rfl|rfl|rfl|rfl:=this<;>rfl),p_ _ _⟩;gi_wp2;gi_loopw [21] (λi wr=>∃k:Nat,k<=nf/\i=b_ k/\aq1 kb w3.heap.size k (λi=>(ff i).2.1) (Ov cb sb) w3 wr) (λi _=>nf-(intOf i).toNat)
 case atStart=>exact⟨0,by omega,rfl,S⟩
 case round=>
  obtain⟨k,hk,rfl,T,nm,ks,A,KF⟩:=hrel
  have Kwr:Keep No w wr:=KW3.trans KF (λx y e=>absurd y (by have e:x=kb:=e;omega))
  have BN:w3.heap.size<=wr.heap.size:=KF.size
  by_cases BI:k<nf
  .obtain⟨fb',fo,rfl,hcf⟩:=U (by omega);obtain⟨d0,⟨s',c',hv⟩,hI⟩:=hcf k BI;obtain⟨yE,gW⟩:=D k BI;generalize hq:ff k=q at*;obtain⟨v',n',f'⟩:=q;simp only at d0 hv hI yE gW;subst hv;have d1:=Kwr.has d0;have hS':=(hI (by omega)).keep Kwr;clear S hcf U d0 hI;gi_wp2;refine Cf (P:=prog) No _ rfl rfl (by kernel_rfl) 6 50 [0,1,2,3,4] [5] (by kernel_rfl) (by rfl) (bz4 wr.heap.size n' λi=>(f' i).toNat) (λ_ _ _ _ _ h a=>let ⟨g,q1,q2,d⟩:=h;⟨g,q1,q2,d.keep a id⟩) _ _ rfl rfl ?_;gi_wp2;refine⟨rfl,by kernel_rfl,?_,?_,?_⟩
   .intro W a
    repeat' (refine Ae ?_ ?_)
    all_goals first|exact trivial|gi_wp2
   .intro i t u W a o;obtain rfl:i=5:=(by simpa using t);refine Bh rfl λKK G=>?_
    show wpListIn NF m prog _ _ _ (Act.put _ (some 31) (u 5)) _;gi_wp2_with fail;refine(fE _ W _ n' f' (hS'.keep ((p_ No wr).drew.then a)) gW (by omega)).mono ?_;rintro e w4 ⟨k4,rfl,r4⟩;gi_wp2;exact⟨_,rfl,k4,_,a.size,rfl,r4⟩
   intro u W a o;obtain⟨g,Q,R,g3⟩:=o 5 (by simp);show wpListIn NF m prog _ _ _ (Act.put _ (some 31) (u 5)) _;rw[R];have KW:Keep No wr W:=(p_ No wr).drew.then a;have j:=A.kp KW;have hnk:ks[4+k]?=some (.pointer none):=(by rw[A.nmv k (by omega),A.out k (by omega)];rfl);clear a o R hS' d1;gi_wp2_with fail;refine(bj2 _ W kb k ks (some (S_ g)) n' n' j.kh (by omega) hnk).mono ?_;rintro e w4 ⟨rfl,N,X,V⟩;have hgT:T g=(0,0):=by
    cases Decidable.em (T g=(0,0))with
    |inl e=>exact e
    |inr e=>have:=(A.tg _ e).2.1;omega
   have hF4:=j.make (by show(ff k).2.1=n';rw[hq]) (by omega) lk (by have:=KW.size;omega) (by omega) hgT g3 yE (λi t=>by have:=gW i t;omega) N X V;gi_wp2;go_roundw
   case rel=>exact⟨k+1,by omega,by go_num,_,_,_,hF4,(KF.trans KW (λ_ _ e=>e.elim)).trans N (λ_ _ e=>e)⟩
   case measure=>simp[intOf];omega
  obtain rfl:k=nf:=by omega
  have b6:=KF.old b5 (λe=>by have e:w.heap.size=kb:=e;exact BU b5 E (by decide) e);have c2:wr.cell? (T_ w.heap.size 2)=some (.slice s n c):=bce b6 rfl;have d:=KF.old d (λe=>BU d E (by decide) e);have z:=KF.old z (λe=>BU z E (by decide) e);clear S U b5 c3 D;gi_wp2;refine Cf (P:=prog) No _ rfl rfl (by kernel_rfl) 14 50 [0,1,2,4,5,6] [3,7,8,9,10,11,12,13] (by kernel_rfl) (by rfl) (zo wr.heap.size n b (λi=>(f i).toNat)) zo.keep _ _ rfl rfl ?_;gi_wp2;refine⟨rfl,by kernel_rfl,?_,?_,?_⟩
  .intro W a;have d2:=a.has (w:=wr.drew) c2
   repeat' (refine Ae ?_ ?_)
   all_goals first|exact trivial|gi_wp2
  .intro i t u W a o;have KW:Keep No wr W:=(p_ No wr).drew.then a;obtain rfl|rfl|rfl|rfl|rfl|rfl|rfl|rfl:=(by simpa using t:i=3\/i=7\/i=8\/i=9\/i=10\/i=11\/i=12\/i=13)
   .refine Bh rfl λKK G=>?_
    show wpListIn NF m prog _ _ _ (Act.put (Act.put (Act.put (Act.put (Act.put (Act.put (Act.put (Act.put _ (some 37) (u 3)) (some 41) (u 7)) (some 42) (u 8)) (some 43) (u 9)) (some 44) (u 10)) (some 45) (u 11)) (some 46) (u 12)) (some 47) (u 13)) _;gi_wp2_with fail;refine(fE _ W _ n f (hSl.keep (Kwr.then KW)) m7 (by omega)).mono ?_;rintro e w4 ⟨k4,rfl,r4⟩;gi_wp2;exact⟨Q_ W.heap.size n n,by kernel_rfl,k4,_,rfl,r4⟩
   .refine Bh rfl λKK G=>?_
    show wpListIn NF m prog _ _ _ (Act.put (Act.put (Act.put (Act.put (Act.put (Act.put (Act.put (Act.put _ (some 37) (u 3)) (some 41) (u 7)) (some 42) (u 8)) (some 43) (u 9)) (some 44) (u 10)) (some 45) (u 11)) (some 46) (u 12)) (some 47) (u 13)) _;gi_wp2_with fail;refine(FW _ W n (by omega)).mono ?_;rintro e w4 ⟨rfl,Z⟩;have Z:=Z.symm;subst Z;gi_wp2;exact⟨b_ (Aj n),by kernel_rfl,p_ _ _,rfl⟩
   .obtain⟨ab,e3,r3⟩:=o 3 (by simp) (by decide);have e7:=o 7 (by simp) (by decide);have e7:u 7=b_ (Aj n):=e7;refine Bh rfl λKK G=>?_
    show wpListIn NF m prog _ _ _ (Act.put (Act.put (Act.put (Act.put (Act.put (Act.put (Act.put (Act.put _ (some 37) (u 3)) (some 41) (u 7)) (some 42) (u 8)) (some 43) (u 9)) (some 44) (u 10)) (some 45) (u 11)) (some 46) (u 12)) (some 47) (u 13)) _;rw[e3,e7];gi_wp2_with fail;refine(Yy _ W ab n (Aj n) b (λi=>(f i).toNat) r3 O (by unfold Aj at O;omega) (by unfold Aj at O;omega)).mono ?_;rintro e w4 ⟨k4,rfl,r4⟩;gi_wp2;exact⟨Q_ W.heap.size b b,by rw[<-e3,<-e7];kernel_rfl,k4,_,KW.size,rfl,r4⟩
   .obtain⟨ib,Q,e8,r8⟩:=o 8 (by simp) (by decide);refine Bh rfl λKK G=>?_
    show wpListIn NF m prog _ _ _ (Act.put (Act.put (Act.put (Act.put (Act.put (Act.put (Act.put (Act.put _ (some 37) (u 3)) (some 41) (u 7)) (some 42) (u 8)) (some 43) (u 9)) (some 44) (u 10)) (some 45) (u 11)) (some 46) (u 12)) (some 47) (u 13)) _;rw[e8];gi_wp2;exact⟨.agg #[a_ 0,a_ 0,a_ 0,.slice (some (S_ ib)) b b],by rw[<-e8];kernel_rfl,p_ _ _,ib,Q,rfl,r8⟩
   .refine Bh rfl λKK G=>?_
    show wpListIn NF m prog _ _ _ (Act.put (Act.put (Act.put (Act.put (Act.put (Act.put (Act.put (Act.put _ (some 37) (u 3)) (some 41) (u 7)) (some 42) (u 8)) (some 43) (u 9)) (some 44) (u 10)) (some 45) (u 11)) (some 46) (u 12)) (some 47) (u 13)) _;gi_wp2;exact⟨Q_ W.heap.size 1 1,by kernel_rfl,(p_ _ _).alloc _,_,rfl,heap_alloc_new rfl⟩
   .obtain⟨vb,e10,r10⟩:=o 10 (by simp) (by decide);refine Bh rfl λKK G=>?_
    show wpListIn NF m prog _ _ _ (Act.put (Act.put (Act.put (Act.put (Act.put (Act.put (Act.put (Act.put _ (some 37) (u 3)) (some 41) (u 7)) (some 42) (u 8)) (some 43) (u 9)) (some 44) (u 10)) (some 45) (u 11)) (some 46) (u 12)) (some 47) (u 13)) _;rw[e10];gi_wp2_with fail;refine(aW _ W vb r10).mono ?_;rintro e w4 ⟨k4,rfl,r4⟩;gi_wp2;exact⟨Q_ W.heap.size 6 6,by rw[<-e10];kernel_rfl,k4,_,KW.size,rfl,r4⟩
   .obtain⟨ib,Q,e9,r9⟩:=o 9 (by simp) (by decide);obtain⟨fb,R,e11,r11⟩:=o 11 (by simp) (by decide);obtain⟨x,hbx,hxc⟩:=qP W (ib:=ib) (fb:=fb) (L:=b);refine Bh rfl λKK G=>?_
    show wpListIn NF m prog _ _ _ (Act.put (Act.put (Act.put (Act.put (Act.put (Act.put (Act.put (Act.put _ (some 37) (u 3)) (some 41) (u 7)) (some 42) (u 8)) (some 43) (u 9)) (some 44) (u 10)) (some 45) (u 11)) (some 46) (u 12)) (some 47) (u 13)) _;rw[e9,e11];gi_wp2;exact⟨.agg #[b_ 0,b_ 0,.bool false,a_ 0,.nilFunc,a_ 0,a_ 0,a_ 0,.slice (some (S_ ib)) b b,.slice (some (S_ fb)) 6 6,b_ 0,b_ 0],by rw[<-e9,<-e11];kernel_rfl,p_ _ _,ib,fb,Q,R,rfl,r9,r11⟩
   .obtain⟨ib,fb,Q,R,H,r1,r2⟩:=o 12 (by simp) (by decide);refine Bh rfl λKK G=>?_
    show wpListIn NF m prog _ _ _ (Act.put (Act.put (Act.put (Act.put (Act.put (Act.put (Act.put (Act.put _ (some 37) (u 3)) (some 41) (u 7)) (some 42) (u 8)) (some 43) (u 9)) (some 44) (u 10)) (some 45) (u 11)) (some 46) (u 12)) (some 47) (u 13)) _;have H:u 12=.agg #[b_ 0,b_ 0,.bool false,a_ 0,.nilFunc,a_ 0,a_ 0,a_ 0,.slice (some (S_ ib)) b b,.slice (some (S_ fb)) 6 6,b_ 0,b_ 0]:=H;rw[H];gi_wp2;exact⟨R_ W.heap.size,by rw[<-H];kernel_rfl,(p_ _ _).alloc _,W.heap.size,ib,fb,KW.size,Q,R,rfl,heap_alloc_new rfl,r1.keep ((p_ No _).alloc _) id,r2.keep ((p_ No _).alloc _) id⟩
  intro u W a o;obtain⟨pb,ib,fb,g0,Q,R,e13,K,r1,r2⟩:=o 13 (by simp);show wpListIn NF m prog _ _ _ (Act.put (Act.put (Act.put (Act.put (Act.put (Act.put (Act.put (Act.put _ (some 37) (u 3)) (some 41) (u 7)) (some 42) (u 8)) (some 43) (u 9)) (some 44) (u 10)) (some 45) (u 11)) (some 46) (u 12)) (some 47) (u 13)) _;rw[e13];have KW:Keep No wr W:=(p_ No wr).drew.then a;have I:=a.old (heap_drew.trans A.kh) id;have d:=a.old (heap_drew.trans d) id;have z:=a.old (heap_drew.trans z) id;have hnb:Aj b<=M:=by unfold Aj at O m8 ⊢;omega
  have hL1:1<=b:=by unfold Aj at O;omega
  have hL2:b<=128:=by unfold Aj at O;omega
  have hms:Mp 188 W sb 1 [(0,M)]:=⟨⟨_,z,rfl,rfl⟩,by simp,by unfold maxLen;simp,rfl,by simp[rc,Value.oneCell']⟩;have hmc:Mp 186 W cb 1 [(0,C)]:=⟨⟨_,d,rfl,rfl⟩,by simp,by unfold maxLen;simp,rfl,by simp[rc,Value.oneCell']⟩;have k1:ks[1]?=some (Q_ sb 1 1):=(A.off 1 (by omega)).trans rfl;have k2:ks[2]?=some (.slice none 0 0):=(A.off 2 (by omega)).trans rfl;have k3:ks[3]?=some (b_ 0):=(A.off 3 (by omega)).trans rfl;have k0:ks[0]?=some (Q_ cb 1 1):=(A.off 0 (by omega)).trans rfl;have J:∀x,wr.heap.size<=x->T x=(0,0):=λx y=>by
   cases Decidable.em (T x=(0,0))with
   |inl e=>exact e
   |inr e=>have:=(A.tg _ e).2.1;omega
  have j:=A.kp KW;clear a o c2 A;gi_wp2_with fail;refine(ba4 _ W kb pb sb 1 M ib b fb ks K I k1 k2 k3 hms hnb hL1 hL2 (by omega)).mono ?_;rintro e w4 ⟨rfl,N,hp4,g,cg,hg,X,ms4,pr4⟩;gi_wp2;go_ret2;have p:(di n b λi=>(f i).toNat).length=b:=by simp[di]
  have KZ:Keep No w w4:=(Kwr.then KW).trans N (λx y e=>absurd y (by have:=Kwr.size;obtain e|e|e:=e<;>omega));have tik:ib≠kb:=by obtain⟨_,F,_⟩:=id r1;exact BU F I (by decide)
  have tis:ib≠sb:=by obtain⟨_,F,_⟩:=id r1;exact BU F z (by decide)
  have tip:ib≠pb:=by obtain⟨_,F,_⟩:=id r1;exact BU F K (by decide)
  have tfk:fb≠kb:=by obtain⟨_,F,_⟩:=id r2;exact BU F I (by decide)
  have tfs:fb≠sb:=by obtain⟨_,F,_⟩:=id r2;exact BU F z (by decide)
  have tfp:fb≠pb:=by obtain⟨_,F,_⟩:=id r2;exact BU F K (by decide)
  have tck:cb≠kb:=BU d I (by decide);have tcs:cb≠sb:=BU d z (by decide);have tcp:cb≠pb:=BU d K (by decide);have hi4:Rw 123 1 w4 ib b b (Az (di n b λi=>(f i).toNat)):=by
   have:=(r1.rw (by omega)).keep N (by rintro(e|e|e)<;>contradiction)
   simpa [Az,di,Function.comp_def]using this
  have V:Rw 3 1 w4 fb 6 6 (Fp [-1,-1,-1,-1,-1,-1]):=(r2.rw (by omega)).keep N (by rintro(e|e|e)<;>contradiction);have hk5:=AV.fresh (k:=k) (C:=C) (Ag:=di n b λi=>(f i).toNat) (c:=cg) (g:=g) (cb:=cb) (l:=(Aw [(0,M)] (Aj b)).2) j (by omega) hfs N X
   (by rw[BK (by decide),BK (by decide),BK (by decide)];exact k0) (by rw[BK (by decide),BK (by decide)];exact NR k1) (NR (by rw[BK (by decide),BK (by decide)];exact k2)) (by rw[BK (by decide)];exact NR (by rw[BK (by decide)];exact k3))
   (λi t=>by rw[BK (by omega),BK (by omega),BK (by omega)]) (by rw[BK (by decide),BK (by decide),BK (by decide)];exact(j.off 20 (by omega)).trans rfl)
   (λi t=>by rw[BK (by omega),BK (by omega),BK (by omega),BK (by omega),BK (by omega),BK (by omega),j.off _ (by omega),j.off _ (by omega)];exact ai7 i t)
   (Rw.keep hmc N (by rintro(e|e|e)<;>contradiction)) ms4 pr4 (hp4 _ p) (by rw[p];exact hi4) V lk lS lc ⟨J g (by have:=KW.size;omega),J pb (by omega),J ib (by omega),J fb (by omega)⟩;have Ic:=Ez.fresh (kb:=kb) (cb:=cb) (sb:=sb) (g:=g) (c:=cg) (pb:=pb) (ib:=ib) (fb:=fb) (C:=C) (M:=M) (T:=T) (Ag:=di n b λi=>(f i).toNat) (l:=(Aw [(0,M)] (Aj b)).2) ⟨by omega,by omega⟩ (by omega) ⟨Aj n,by rw[p];exact O.symm,by unfold Aj;omega,by unfold Aj;omega⟩ (λx y=>by
   obtain⟨i,_,rfl⟩:=List.mem_map.1 y
   unfold padded
   split
   .rename_i t;have:=m7 i t;show(f i).toNat<65536;omega
   .omega) (by rw[p];exact hnb) (by rw[p]) j.inj
  subst O;refine⟨KZ,.inr ⟨_,pb,ib,fb,C,M,by simp[Nz,ptr],hk5,Ic,rfl,by simp[Nz,Dz],λx y=>?_,rfl,rfl,by omega⟩⟩;have hWs:=KW.size;have y:MJ kb cb sb g pb ib fb T x≠(0,0):=y;by_cases e1:x=fb
  .omega
  by_cases e2:x=ib
  .omega
  by_cases e3:x=pb
  .omega
  by_cases e4:x=g
  .omega
  by_cases e5:x=sb
  .omega
  by_cases e6:x=cb
  .omega
  by_cases e7:x=kb
  .omega
  unfold MJ at y;rw[Bf e1,Bf e2,Bf e3,Bf e4,Bf e5,Bf e6,Bf e7]at y;have:=(j.tg x y).1;omega
end
def Goes (Od:Old) (P:l_) (x:Frame×Z_) (v:o_) (Q:Frame×Z_->o_->Prop):Prop:=
 ∀(Z:Nat->Prop) (Ac:Loc->Prop) (B:Nat) (gs:Array m_) (w:o_) (sl:d_ (W_)) (t:Trace),F9 Ac Z->Beside Od P Ac Z B v gs w t->gs[0]?=some (BL x)->
  MS P gs w sl t λBg w' t'=>∃Z' Oy B' y v',F9 Oy Z'/\Beside Od P Oy Z' B' v' Bg w' t'/\Bg[0]?=some (BL y)/\Q y v'
section
variable {P:l_} {x:Frame×Z_} {v:o_} {Q R:Frame×Z_->o_->Prop}
theorem Goes.now {Od:Old} (h:Q x v):Goes Od P x v Q:=λZ a B _ _ _ _ d b c=>.now ⟨Z,a,B,x,v,d,b,c,h⟩
theorem Beside.re {Od:Old} {Ac:Loc->Prop} {Z:Nat->Prop} {B:Nat} {gs:Array m_} {w:o_} {t:Trace} (h:Beside Od P Ac Z B v gs w t) (τ:Nat->Question->Nat) (d:Nat):Beside Od P Ac Z B (v.re τ d) gs w t:=
 let ⟨q,T,hZ,h3⟩:=h;⟨q,T.Rz τ w.tape d w.drawn,hZ,h3⟩
theorem Goes.re {Od:Old} {τ:Nat->Question->Nat} {d:Nat} (h:Goes Od P x (v.re τ d) Q):Goes Od P x v Q:=λZ a B c w sl t f b e=>h Z a B c w sl t f (b.re τ d) e
theorem Goes.AB {Od:Old} {n:Nat} (h:AB P n x=some []) (k:Goes Od P (run P n x) v Q):Goes Od P x v Q:=λZ a B _ _ _ _ g c e=>
 (c.Si e (DI h)).then λb j d i _ ⟨f,Bs1,_⟩=>k Z a B b j d i g Bs1 f
theorem Goes.step {Od:Old} {y:Frame×Z_} (h:QJ P x=some y) (k:Goes Od P y v Q):Goes Od P x v Q:=λZ a B _ _ _ _ g c e=>
 (c.Si (k:=1) e ⟨rfl,BL y,λw _=>quiet_step h w,rfl⟩).then λb j d i _ ⟨f,Bs1,_⟩=>k Z a B b j d i g Bs1 f
theorem Goes.reads {Od:Old} {vs:U_} {Yb:List f_} {y:n_} (hr:Gj P x vs=some (Yb,y)) (hc:Cells v Yb vs) (k:Goes Od P (BG x y) v Q):Goes Od P x v Q:=λZ n B u w sl t r s A=>by
 obtain⟨q,T,G,E,F,D⟩:=s;obtain⟨J,i⟩:=Pm T hc;have c:AO P u w sl t λf m l=>f[0]?=some (BL (BG x y))/\Beside Od P n Z B v f m l:=by
  refine go_mute O7 A rfl E F λd L h=>⟨_,_,_,Xq hr (w:=w.at d) (Pm (T.Rz v.tape w.tape v.drawn d) hc).1,λf K _ z g o=>.now ⟨z,K,T.Rz v.tape w.tape v.drawn d,G,g,h.own λe p=>?_,D⟩⟩
  simp only[He,List.mem_toArray,List.mem_map]at p
  obtain⟨a,H,rfl⟩:=p
  obtain⟨z1,M⟩:=i a H
  refine⟨λb I j=>?_,by simp,by simp,?_⟩
  .obtain rfl:=x_ I;exact(z1 (r.1 _ j)).elim
  .show a.block<B;omega
 exact c.then λf m o l _ ⟨C,Bs1⟩=>k Z n B f m o l r Bs1 C
end
section
variable {Ep:h_} {kd:CallKind} {tmps:X_} {k:List Item} {ds:List Deferred} {cs:Z_} {c:Code} {v:o_} {m:Nat} {Q:o_->X_->o_->Prop} {R:Frame×Z_->o_->Prop}
theorem Goes.part {Od:Old} (hn:(prog.funcs[Ep]?).any (·.norace)=false) (hkd:(kd==CallKind.early)=false) (hc:c.BC (CS prog)=true) (hw:∀v1,Keep No v v1->c.wpIn NF m prog (Ends (Q v1)) ⟨tmps,[]⟩ v1)
  (hk:∀v1 tm v',Keep No v v1->Q v1 tm v'->Goes Od prog (Frame.mk Ep tm k ds .run kd none,cs) v' R):Goes Od prog (Frame.mk Ep tmps (.code c::k) ds .run kd none,cs) v R:=λZ j B A w sl t i o q=>by
 refine(LK Pj i Tm.PV (IP hn U5) hkd hc (Q:=Ends λtm b=>∃τ d,Q (v.re τ d) tm b) ax (λτ d=>wpIn_mono (hw _ (CU v τ d)) λe a b h=>⟨h.1,h.2.1,τ,d,h.2.2⟩) o q).then λn b p z _ ⟨g,v',l,r,⟨tm,τ,d,u⟩,_,_,s⟩=>?_
 obtain⟨rfl,_,_,f,d1,y⟩|⟨_,_,x,_⟩:=u
 .exact(hk _ tm _ (CU v f d1) y).re Z j l n b p z i s r
 .cases x
theorem Goes.yP {Od:Old} (hn:(prog.funcs[Ep]?).any (·.norace)=false) (hkd:(kd==CallKind.early)=false) (hc:c.BC (CS prog)=true) (hw:∀v1,Keep No v v1->c.wpIn NF m prog (VZ (Q v1)) ⟨tmps,[]⟩ v1)
  (hk:∀v1 tm todo v',Keep No v v1->Q v1 tm v'->Goes Od prog (Frame.mk Ep tm todo ds .returning kd none,cs) v' R):Goes Od prog (Frame.mk Ep tmps (.code c::k) ds .run kd none,cs) v R:=λZ j B A w sl t i o q=>by
 refine(LK Pj i Tm.PV (IP hn U5) hkd hc (Q:=VZ λtm b=>∃τ d,Q (v.re τ d) tm b) tu (λτ d=>wpIn_mono (hw _ (CU v τ d)) λe a b h=>⟨h.1,h.2.1,τ,d,h.2.2⟩) o q).then λn b p z _ ⟨g,v',l,r,⟨tm,τ,d,u⟩,_,_,s⟩=>?_
 obtain⟨_,x,_⟩|⟨todo,rfl,_,_,f,d1,y⟩:=u
 .cases x
 .exact(hk _ tm todo _ (CU v f d1) y).re Z j l n b p z i s r
theorem Goes.either {Od:Old} {Q':o_->X_->o_->Prop} (hn:(prog.funcs[Ep]?).any (·.norace)=false) (hkd:(kd==CallKind.early)=false) (hc:c.BC (CS prog)=true) (hw:∀v1,Keep No v v1->c.wpIn NF m prog (fun e a w'=>a.defers=[]/\((e=.normal/\Q v1 a.tmps w')\/(e=.ret/\Q' v1 a.tmps w'))) ⟨tmps,[]⟩ v1)
  (hk:∀v1 tm v',Keep No v v1->Q v1 tm v'->Goes Od prog (Frame.mk Ep tm k ds .run kd none,cs) v' R) (hk':∀v1 tm todo v',Keep No v v1->Q' v1 tm v'->Goes Od prog (Frame.mk Ep tm todo ds .returning kd none,cs) v' R):Goes Od prog (Frame.mk Ep tmps (.code c::k) ds .run kd none,cs) v R:=λZ j B y w sl t i s u=>by
 refine(LK Pj i Tm.PV (IP hn U5) hkd hc (Q:=λe a w'=>a.defers=[]/\((e=.normal/\∃τ d,Q (v.re τ d) a.tmps w')\/(e=.ret/\∃τ d,Q' (v.re τ d) a.tmps w'))) (λ_ _ _ h=>⟨h.2.imp (·.1) (·.1),h.1⟩) (λτ d=>wpIn_mono (hw _ (CU v τ d)) λe a w' h=>⟨h.1,h.2.imp (λh=>⟨h.1,τ,d,h.2⟩) (λh=>⟨h.1,τ,d,h.2⟩)⟩) s u).then λn w' o r _ ⟨g,v',l,p,⟨tm,τ,d,x⟩,_,_,q⟩=>?_
 obtain⟨rfl,_,b⟩|⟨todo,rfl,_,b⟩:=x
 .obtain⟨_,f,d1,b⟩|⟨e,_⟩:=b
  .exact(hk _ tm _ (CU v f d1) b).re Z j l n w' o r i q p
  .cases e
 .obtain⟨e,_⟩|⟨_,f,d1,b⟩:=b
  .cases e
  .exact(hk' _ tm todo _ (CU v f d1) b).re Z j l n w' o r i q p
theorem Goes.seq {Od:Old} {a b:Code} (h:Goes Od prog (Frame.mk Ep tmps (.code a::.code b::k) ds .run kd none,cs) v R):Goes Od prog (Frame.mk Ep tmps (.code (a.seq b)::k) ds .run kd none,cs) v R:=Goes.step rfl h
end
theorem xE {Od:Old} {bg:Bool} {NC NS b:Nat} {K:KS} {r:PR} {v:o_} {n:Nat} {c0:Frame} {cs:Z_} {R:Frame×Z_->o_->Prop} (hbg:bg=true->n=1) (hn:n<=1000) (ka:AV K v) (ok:Ez NC NS K) (hb:K.ps b=some r) (hen:r.en=false) (hm:b∈K.AP) (hx:bg=true->r.pid=1/\r.P=0/\r.Ag=[11,12,0,0,0,0,0,0])
  (hk:∀told v',SF bg NC NS b K v told v'->Goes Od prog (c0.finish told,cs) v' R):Goes Od prog (z0 prog (ptr K.kb) (S_ b) (n:Nat) (c0::cs)) v R:=λZ s B u w sl t o e k=>by
 have h:SI bg NC NS b K v 0 CY v:=⟨0,[],K,r,rfl,by simp,⟨ka,ok,Rel.refl b K,BM.no (p_ _ _) ka.lt,⟨World.ownsRow_nil _ _ _ _,λg h=>by cases h⟩,hb,⟨by rw[hb];simp,ok.th⟩⟩,hen,hm,λ_ h=>⟨rfl,hx h⟩,λh=>absurd h (by omega)⟩;refine(jV yf Tm (xw 0) (oO 0) (by omega) (by omega) (sH bg NC NS b K v n 0 hbg hn) (av5 bg NC NS b K v n 0 hbg hn) o h e k).bind λd q f p ⟨j,i,_,a,told,v',c,m,l,Bs'⟩=>?_
 exact hk told v' m j i c d q f p a Bs' l
theorem vC:(prog.funcs[19]?).any (·.norace)=false:=by kernel_rfl
theorem Ux:FP prog 19=Tryz.f19.body.getD .skip:=by kernel_rfl
def X0 (P:l_) (i:Nat):Code:=piece (behind i (FP P 19))
def pkX (P:l_):Code:=behind 2 (FP P 19)
def pkZ (P:l_):Code:=behind 5 (FP P 19)
theorem Ϣ:(X0 prog 1).BC (CS prog)=true:=by kernel_rfl
theorem gy:(X0 prog 2).BC (CS prog)=true:=by kernel_rfl
theorem gu:(X0 prog 3).BC (CS prog)=true:=by kernel_rfl
theorem ϡ:(X0 prog 4).BC (CS prog)=true:=by kernel_rfl
theorem ag2:pkX prog=(X0 prog 2).seq ((X0 prog 3).seq ((X0 prog 4).seq (pkZ prog))):=by kernel_rfl
section
variable (kp pid n:n_) (cs:Z_)
def pA (P:l_:=prog):Frame×Z_:=run P 6 (Frame.enter P 19 #[kp,pid,n] .normal,cs)
theorem bs2:AB prog 6 (Frame.enter prog 19 #[kp,pid,n] .normal,cs)=some []:=by kernel_rfl
theorem bs1:Dj (pA kp pid n cs)=(19,[.code (X0 prog 1),.code (pkX prog)],[],.run,.normal,none,cs):=by kernel_rfl
theorem bs0:slotsOf (pA kp pid n cs) [0,1,2]=[kp,pid,n]:=by kernel_rfl
theorem br9:(pA kp pid n cs).1.tmps.size=27:=by kernel_rfl
variable (pa:f_) (f:Y_) (told:n_) (c0:Frame)
def pB (P:l_:=prog):Frame×Z_:=(Frame.mk 19 (TN 27 (AY f [(0,kp),(2,n),(8,pv pa)])) [.code (pkZ P)] [] .run .normal none,cs)
def pC (P:l_:=prog):Frame:=(below (run P 6 (pB kp n cs pa f P))).1
theorem br8:AB prog 6 (pB kp n cs pa f)=some []:=by kernel_rfl
theorem br7:run prog 6 (pB kp n cs pa f)=(Frame.enter prog 56 #[kp,pv pa,n] .normal,pC kp n cs pa f::cs):=by kernel_rfl
theorem br6:AB prog 5 ((pC kp n (c0::cs) pa f).finish told,c0::cs)=some []:=by kernel_rfl
theorem br5:run prog 5 ((pC kp n (c0::cs) pa f).finish told,c0::cs)=(c0.finish (.tuple #[told,b_ 0]),cs):=by kernel_rfl
theorem aq8 (e:Int) (todo:List Item):AB prog 1 (Frame.mk 19 (TN 27 (AY f [(6,told),(7,b_ e)])) todo [] .returning .normal none,c0::cs)=some []:=by kernel_rfl
theorem aq7 (e:Int) (todo:List Item):run prog 1 (Frame.mk 19 (TN 27 (AY f [(6,told),(7,b_ e)])) todo [] .returning .normal none,c0::cs)=(c0.finish (.tuple #[told,b_ e]),cs):=by kernel_rfl
end
theorem bi2 (kp pid n:n_) (cs:Z_):pA kp pid n cs=(Frame.mk 19 (TN 27 (AY (slot (pA kp pid n cs)) [(0,kp),(1,pid),(2,n)])) [.code (X0 prog 1),.code (pkX prog)] [] .run .normal none,cs):=
 at_toldM (l:=[(0,kp),(1,pid),(2,n)]) (bs1 kp pid n cs) (bs0 kp pid n cs) (br9 kp pid n cs)
def ad3 (w:o_) (tm:X_) (w':o_):Prop:=(∃g e,tm=TN 27 (AY g [(6,.slice none 0 0),(7,b_ e)]))/\Keep No w w'
def zl (kp n p:n_) (w:o_) (tm:X_) (w':o_):Prop:=(∃g,tm=TN 27 (AY g [(0,kp),(2,n),(8,p)]))/\Keep No w w'
def sl27 (f:Y_) (a b c d:n_):X_:=#[a,b,c,f 3,f 4,f 5,f 6,f 7,d,f 9,f 10,f 11,f 12,f 13,f 14,f 15,f 16,f 17,f 18,f 19,f 20,f 21,f 22,f 23,f 24,f 25,f 26]
section
variable (m:Nat) (w:o_) (f:Y_)
theorem jk (pb:Nat) (h2:w.cell? (T_ pb 2)=some (.bool false)) (h4:w.cell? (T_ pb 4)=some .nilFunc):
  P_ m 55 #[R_ pb] w λe w'=>e=.returned (b_ 0)/\w'=w:=by
 have a:=QN w;gi_enter func55,ntmps55;gi_wp2;refine⟨(λf h=>by cases h),?_⟩;gi_wp2;go_ret;exact⟨by simp,rfl⟩
def am7 (K:KS) (pid:Int) (n:n_) (w:o_) (tm:X_) (w':o_):Prop:=∃v,uH K pid v/\zl (ptr K.kb) n v w tm w'
theorem wX (K:KS) (pid:Int) (n:n_) (h:AV K w) (hT:K.EC) (hl:K.AP.length<=12):(X0 prog 1).wpIn NF m prog (Ends (am7 K pid n w)) ⟨TN 27 (AY f [(0,ptr K.kb),(1,b_ pid),(2,n)]),[]⟩ w:=by
 unfold X0;rw[Ux];dsimp only[Tryz.f19,Option.getD,behind,piece];show Code.wpIn (Fence.list LF none) m prog _ _ ⟨sl27 f (ptr K.kb) (b_ pid) n (f 8),[]⟩ _;unfold sl27 ptr;gi_wp2_with fail;refine(ZP _ w K pid h hT (by omega)).mono ?_;rintro e w2 ⟨b,v,rfl,a⟩;gi_wp2;exact⟨rfl,rfl,v,a,⟨_,DW rfl (by simp[ptr])⟩,b⟩
theorem Ϥ (kp n:n_):(X0 prog 2).wpIn NF m prog (VZ (ad3 w)) ⟨TN 27 (AY f [(0,kp),(2,n),(8,.pointer none)]),[]⟩ w:=by
 unfold X0;rw[Ux];dsimp only[Tryz.f19,Option.getD,behind,piece];show Code.wpIn (Fence.list LF none) m prog _ _ ⟨sl27 f kp (f 1) n (.pointer none),[]⟩ _;unfold sl27;gi_wp2;exact⟨rfl,rfl,⟨_,2,DW rfl (by simp)⟩,p_ _ _⟩
theorem ag5 (kp n:n_) (pa:f_):(X0 prog 2).wpIn NF m prog (Ends (zl kp n (.pointer (some pa)) w)) ⟨TN 27 (AY f [(0,kp),(2,n),(8,.pointer (some pa))]),[]⟩ w:=by
 unfold X0;rw[Ux];dsimp only[Tryz.f19,Option.getD,behind,piece];show Code.wpIn (Fence.list LF none) m prog _ _ ⟨sl27 f kp (f 1) n (.pointer (some pa)),[]⟩ _;unfold sl27;gi_wp2;exact⟨rfl,rfl,⟨_,DW rfl (by simp)⟩,p_ _ _⟩
theorem ϣ (kp p:n_) (n:Int) (hn:¬(1<=n/\n<=1000)):(X0 prog 3).wpIn NF m prog (VZ (ad3 w)) ⟨TN 27 (AY f [(0,kp),(2,b_ n),(8,p)]),[]⟩ w:=by
 unfold X0;rw[Ux];dsimp only[Tryz.f19,Option.getD,behind,piece];show Code.wpIn (Fence.list LF none) m prog _ _ ⟨sl27 f kp (f 1) (b_ n) p,[]⟩ _;unfold sl27;by_cases a:n<1
 .clear hn;gi_wp2;exact⟨rfl,rfl,⟨_,4,DW rfl (by simp)⟩,p_ _ _⟩
 .have b:1000<n:=by omega
  clear hn;gi_wp2;exact⟨rfl,rfl,⟨_,4,DW rfl (by simp)⟩,p_ _ _⟩
theorem ag4 (kp p:n_) (n:Int) (h1:¬n<1) (h2:¬1000<n):(X0 prog 3).wpIn NF m prog (Ends (zl kp (b_ n) p w)) ⟨TN 27 (AY f [(0,kp),(2,b_ n),(8,p)]),[]⟩ w:=by
 unfold X0;rw[Ux];dsimp only[Tryz.f19,Option.getD,behind,piece];show Code.wpIn (Fence.list LF none) m prog _ _ ⟨sl27 f kp (f 1) (b_ n) p,[]⟩ _;unfold sl27;gi_wp2;exact⟨rfl,rfl,⟨_,DW rfl (by simp)⟩,p_ _ _⟩
def bz3 (bg:Bool) (kp n:n_) (b:Nat) (r:PR) (w:o_) (e:Exit) (a:Act) (w':o_):Prop:=a.defers=[]/\((e=.normal/\r.en=false/\zl kp n (ptr b) w a.tmps w')\/(e=.ret/\bg=false/\ad3 w a.tmps w'))
theorem ag3 (bg:Bool) (kp n:n_) (K:KS) (b:Nat) (r:PR) (h:AV K w) (hT:K.EC) (hl:K.AP.length<=12) (hb:K.ps b=some r) (hx:bg=true->r.en=false/\r.bl=.nilFunc):(X0 prog 4).wpIn NF m prog (bz3 bg kp n b r w) ⟨TN 27 (AY f [(0,kp),(2,n),(8,ptr b)]),[]⟩ w:=by
 unfold X0;rw[Ux];dsimp only[Tryz.f19,Option.getD,behind,piece];show Code.wpIn (Fence.list LF none) m prog _ _ ⟨sl27 f kp (f 1) n (ptr b),[]⟩ _;unfold sl27 ptr;cases bg with
 |true=>
  obtain⟨x1,k⟩:=hx rfl
  have c2:=h.GG hb 2
  have c4:=h.GG hb 4
  simp[PR.arr]at c2 c4
  rw[x1]at c2
  rw[k]at c4
  have c:=λm=>jk m w b c2 c4
  clear hx k c2 c4
  gi_wp2_with fail
  refine(c _).mono ?_
  rintro e w2 ⟨rfl,d⟩
  have d:=d.symm
  subst d
  gi_wp2
  exact⟨rfl,.inl ⟨rfl,x1,⟨_,DW rfl (by simp[ptr])⟩,p_ _ _⟩⟩
 |false=>
  have c:=λm=>sK m w K b r h hT hb (by omega)
  clear hx
  gi_wp2_with fail
  refine(c _).mono ?_
  rintro e w2 ⟨i,s,rfl,j⟩
  by_cases g:s=0
  .subst g;have a:r.en=false:=by
    cases he:r.en with
    |false=>rfl
    |true=>have:=j.1 he;omega
   clear j;gi_wp2;exact⟨rfl,.inl ⟨rfl,a,⟨_,DW rfl (by simp[ptr])⟩,i⟩⟩
  .have l:(s==0)=false:=(by simpa using g);gi_wp2;exact⟨rfl,.inr ⟨rfl,rfl,⟨_,3,DW rfl (by simp)⟩,i⟩⟩
end
def Beg (K:KS) (pid n:Int):Prop:=pid=1/\n=1/\∃b r,K.AP=[b]/\K.ps b=some r/\r.pid=1/\r.P=0/\r.Ag=[11,12,0,0,0,0,0,0]/\r.en=false/\r.bl=.nilFunc
structure χ (bg:Bool) (NC NS:Nat) (K:KS) (pid:Int) (v:o_) (told:n_) (e:Int) (v':o_) (K':KS):Prop where
 ka:AV K' v'
 ok:Ez NC NS K'
 mv:BM K.T K'.T v v'
 rel:K'=K\/∃b r,b∈K.AP/\K.ps b=some r/\(r.pid:Int)=pid/\Rel b K K'
 bg:bg=true->e=0/\v'.ownsRow 0 59 4 told 1 (Vx [(1,12,1,0)])/\∃b r,b∈K'.AP/\K'.ps b=some r/\r.A=1/\r.P=2/\r.Ag.length=8/\r.pid=1/\r.en=false
section
variable {v:o_} {c0:Frame} {cs:Z_} {R:Frame×Z_->o_->Prop}
theorem UI {Od:Old} {bg:Bool} {NC NS:Nat} {K:KS} {pid n:Int} (ka:AV K v) (ok:Ez NC NS K) (hbg:bg=true->Beg K pid n)
  (hk:∀told e v' K',χ bg NC NS K pid v told e v' K'->Goes Od prog (c0.finish (.tuple #[told,b_ e]),cs) v' R):
  Goes Od prog (Frame.enter prog 19 #[ptr K.kb,b_ pid,b_ n] .normal,c0::cs) v R:=by
 have a:∀{e:Int} {v':o_},bg=false->Keep No v v'->Goes Od prog (c0.finish (.tuple #[.slice none 0 0,b_ e]),cs) v' R:=fun {e v'} i H=>hk _ e v' K ⟨ka.no H,ok,BM.no H ka.lt,.inl rfl,λh=>by rw[i]at h;cases h⟩
 refine Goes.AB (bs2 _ _ _ _) ?_;rw[show run prog 6 (Frame.enter prog 19 #[ptr K.kb,b_ pid,b_ n] .normal,c0::cs)=pA (ptr K.kb) (b_ pid) (b_ n) (c0::cs)from rfl,bi2];refine Goes.part (m:=0) vC rfl Ϣ (λv1 q=>wX 0 v1 _ K pid (b_ n) (ka.no q) ok.th ok.len) λv1 c v2 q ⟨p,V,⟨g,e⟩,M⟩=>?_
 subst e;have k2:=q.then M;rw[ag2];obtain⟨b,r,rfl,l,i,O⟩|⟨rfl,C⟩:=V
 .refine Goes.seq (Goes.part (m:=0) vC rfl gy (λv1 _=>ag5 0 v1 _ _ _ _) λv3 c v4 s ⟨⟨T,e⟩,t⟩=>?_);subst e;have I:=k2.then (s.then t);by_cases X:1<=n/\n<=1000
  .refine Goes.seq (Goes.part (m:=0) vC rfl gu (λv1 _=>ag4 0 v1 _ _ _ n (by omega) (by omega)) λY c v6 u ⟨⟨U,e⟩,w⟩=>?_);subst e;have D:=I.then (u.then w);have o:bg=true->r.pid=1/\r.P=0/\r.Ag=[11,12,0,0,0,0,0,0]/\r.en=false/\r.bl=.nilFunc:=λh=>by
    obtain⟨_,_,S,L,G,k,z⟩:=hbg h
    rw[G]at l
    obtain rfl:b=S:=by simpa using l
    rw[i]at k
    cases k
    exact z
   refine Goes.seq (Goes.either (m:=0) (Q:=λv1 c E=>r.en=false/\zl (ptr K.kb) (b_ n) (ptr b) v1 c E) (Q':=λv1 c E=>bg=false/\ad3 v1 c E) vC rfl ϡ (λv1 j=>ag3 0 v1 _ bg _ _ K b r (ka.no (D.then j)) ok.th ok.len i λh=>(o h).2.2.2) (λZ c v8 j ⟨B,⟨F,e⟩,y⟩=>?_) λZ c d v8 j ⟨A,⟨F,e8,e⟩,y⟩=>?_)
   .subst e;have J:=D.then (j.then y);obtain⟨N,rfl⟩:∃N:Nat,n=N:=⟨n.toNat,by omega⟩;refine Goes.AB (x:=pB (ptr K.kb) (b_ (N:Nat)) (c0::cs) (S_ b) F) (br8 _ _ _ _ _) ?_;rw[br7];refine xE (bg:=bg) (NC:=NC) (NS:=NS) (λh=>by have:=(hbg h).2.1;omega) (by omega) (ka.no J) ok i B l (λh=>⟨(o h).1,(o h).2.1,(o h).2.2.1⟩) λtold v' ⟨D5,K',L,f,W⟩=>?_
    refine Goes.AB (br6 _ _ _ _ _ _ _) ?_;rw[br5];refine hk told 0 v' K' ⟨f.ka,f.ok,(BM.no J ka.lt).trans f.mv,.inr ⟨b,r,l,i,O,f.rel⟩,λh=>?_⟩;obtain⟨rfl,x2,x3,x4,x5,x6,x7⟩:=W h;exact⟨rfl,wZ f.told.row (Nat.zero_le _),b,L,x7,f.ps,x2,x3,x4,x5,x6⟩
   .subst e;refine Goes.AB (aq8 _ _ _ _ _ _) ?_;rw[aq7];exact a A (D.then (j.then y))
  .refine Goes.seq (Goes.yP (m:=0) vC rfl gu (λv1 _=>ϣ 0 v1 _ _ _ n X) λY c d v6 u ⟨⟨U,e6,e⟩,w⟩=>?_);subst e;refine Goes.AB (aq8 _ _ _ _ _ _) ?_;rw[aq7];refine a ?_ (I.then (u.then w));cases bg
   .rfl
   .have:=(hbg rfl).2.1;omega
 .refine Goes.seq (Goes.yP (m:=0) vC rfl gy (λv1 _=>Ϥ 0 v1 _ _ _) λv3 c d v4 s ⟨⟨T,e4,e⟩,t⟩=>?_);subst e;refine Goes.AB (aq8 _ _ _ _ _ _) ?_;rw[aq7];refine a ?_ (k2.then (s.then t));cases bg
  .rfl
  .obtain⟨G,_,b,r,k,z,h4,_⟩:=hbg rfl;have:=C b (by rw[k];simp) r z;omega
end
end Go.Fxa
