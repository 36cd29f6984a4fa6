/- Files, as they are told: List, -/
import Derived.Test.YtmhplpfpcnjekaaGreatA39
namespace Go.Fxa
open Conc Proofs RowKit Proofs.Tryz
set_option maxRecDepth 1000000
set_option maxHeartbeats 0
variable {base n o b k NC NS jw jD:Nat} {w w':o_} {fs:List (Int×Nat×List Nat)} {S R:Nat->Nat->Prop} {v kv ev told:n_} {c:Bool} {e pid:Int} {t t':Tag} {K L:KS} {r:PR} {f:Nat->Int} {CQ:List Ev}
structure zN (base:Nat) (w:o_) (xs:U_) (fs:List (Int×Nat×List Nat)):Prop where
 len:xs.length=fs.length*3
 get:∀i q,fs[i]?=some q->xs[i*3]?=some (b_ q.1)/\xs[i*3+1]?=some (b_ (q.2.1:Nat))/\∃a c,xs[i*3+2]?=some (.slice a q.2.2.length c)/\WG base (.slice a q.2.2.length c) (ints q.2.2) w
theorem zN.nil:zN base w [] []:=⟨rfl,λi q h=>by simp at h⟩
theorem zN.keep {xs:U_} {S:Nat->Prop} (h:zN base w xs fs) (d:Ac S w w') (g:∀k cs,base<=k->w.heap[k]?=some (N_ cs 3)->¬S k):zN base w' xs fs:=
 ⟨h.len,λi q b=>let ⟨h1,h2,a,c,h3,h4⟩:=h.get i q b;⟨h1,h2,a,c,h3,h4.keep d g⟩⟩
theorem zN.no {xs:U_} (h:zN base w xs fs) (a:Ac No w w'):zN base w' xs fs:=h.keep a λ_ _ _ _ x=>x
theorem Xe {g:o_} {xs:U_} (h:g.ownsRow base 147 3 v n xs):∀x cs,base<=x->g.heap[x]?=some (N_ cs 3)->¬(v.ownBlock=some x):=λx cs _ e c=>by
 obtain⟨rfl,_⟩|⟨d,f,b,rfl,_,a,_⟩:=h.2
 .cases c
 .obtain rfl:d=x:=x_ c;rw[e]at a;cases a
theorem zN.snoc {xs:U_} {x:Int} {c:Nat} {l:List Nat} {a:d_ f_} (h:zN base w xs fs) (g:WG base (.slice a l.length c) (ints l) w):zN base w (xs++[b_ x,b_ (o:Nat),.slice a l.length c]) (fs++[(x,o,l)]):=by
 refine⟨by simp[h.len];omega,λi q b=>?_⟩;have f:=h.len;by_cases e:i<fs.length
 .rw[List.getElem?_append_left e]at b;rw[List.getElem?_append_left zD,List.getElem?_append_left zD,List.getElem?_append_left zD];exact h.get i q b
 .rw[List.getElem?_append_right zD]at b;have d:i=fs.length:=by have:=(KT.1 b).1;simp at this;omega
  subst d;simp at b;subst b;rw[List.getElem?_append_right zD,List.getElem?_append_right zD,List.getElem?_append_right zD];rw[show fs.length*3-xs.length=0 by omega,show fs.length*3+1-xs.length=1 by omega,show fs.length*3+2-xs.length=2 by omega];exact⟨rfl,rfl,a,c,rfl,g⟩
def RH (K:KS):Nat->List (Int×Nat×List Nat)
 |0=>[]
 |k+1=>RH K k++match K.nm k with|some f=>[((k:Int),K.op f,(K.ct f).ws)]|none=>[]
def Zr (K:KS) (l:List Nat):List (Int×Nat×List Nat):=l.map λf=>(-1,K.op f,(K.ct f).ws)
theorem bd0:(prog.info? 147).map (λi=>(i.zero,i.size,i.bytes))=some (some (.agg #[b_ 0,b_ 0,.slice none 0 0]),3,40):=sJ
theorem V3 {x y z:n_} {t:j_} (h:w.heap[b]?=some (N_ #[x,y,z] t)):∀q u,([x,y,z]:U_)[q]?=some u->w.cell? (((R_ b):f_).add q)=some u:=λq u a=>by
 rw[Addr.add_lit,Nat.zero_add,Ah h q,<-a];simp
def aT (w:o_) (base:Nat) (v:n_) (fs:List (Int×Nat×List Nat)):Prop:=∃xs,w.ownsRow base 147 3 v fs.length xs/\zN base w xs fs
section
variable (m:Nat) (w:o_)
theorem bb8 (K:KS) (h:AV K w) (hnl:K.nl.length<=1000):O_ m 107 #[.pointer (some (S_ K.kb 4))] w λe w'=>Ac No w w'/\∃v,e=.returned v/\aT w' w.heap.size v (RH K 16++Zr K K.nl):=by
 obtain⟨V,C,F,G,H⟩:=info_parts bd0;obtain⟨es,Q,O⟩:=yP h;gi_enter func107,ntmps107;gi_wp2_with (refine VF rfl (.tmp 10) 102 rfl rfl Q ?_);gi_loopw [3,4,5,12] (λa _ _ i wr=>∃k:Nat,k<=16/\i=b_ k/\Ac No w wr/\aT wr w.heap.size a (RH K k)) (λ_ _ _ i _=>16-(intOf i).toNat)
 case atStart=>exact⟨0,zD,rfl,Ac.refl _ _,[],World.ownsRow_nil _ _ _ _,zN.nil⟩
 case round=>
  obtain⟨k,l,rfl,KK,xs,u,b⟩:=hrel
  by_cases S:k<16
  .have T:(k:Int)<16:=zD;have t:=O k S wr;have U:=h.no KK;have D:(RH K k).length<=16:=by
    have key:∀k,(RH K k).length<=k:=λk=>by
     induction k with
     |zero=>exact w_ _
     |succ k ih=>simp only[RH,jR];cases K.nm k<;>simp<;>omega
    exact pV (key k) l
   cases hnm:K.nm k with
   |none=>
    rw[hnm]at t
    simp only[U8]at t
    gi_wp2_with (refine QX rfl (.tmp 11) (.tmp 12) 102 rfl rfl rfl t ?_)
    go_roundw
    case rel=>exact⟨k+1,zD,by go_num,KK,xs,by simpa [RH,hnm]using u,by simpa [RH,hnm]using b⟩
    case measure=>simp[intOf];omega
   |some f=>
    rw[hnm]at t
    simp only[U8,ptr]at t
    obtain⟨ks,_,N⟩:=U.k
    have R:=(N.nm k S).2 f hnm
    have L:=λm=>yh m wr K f k U R
    gi_wp2_with (first|refine QX rfl (.tmp 11) (.tmp 12) 102 rfl rfl rfl t ?_|(gi_at_call 161;refine(L _).mono ?_;rintro e w2 ⟨y,a,c,rfl,n⟩;have q:Ac No w2 (w2.alloc (.cells #[b_ (k:Int),b_ (K.op f:Nat),.slice a (K.ct f).ws.length c] 147)):=(Ac.refl _ _).alloc _;have r:=IJ (IJ u y) q;have KC:Ac No w (w2.alloc (.cells #[b_ (k:Int),b_ (K.op f:Nat),.slice a (K.ct f).ws.length c] 147)):=(KK.then y).then q)|(gi_at_builtin;refine wpListIn_append_own _ rfl (.tmp 18) (.tmp 22) 144 rfl w.heap.size 147 V (.agg #[b_ 0,b_ 0,.slice none 0 0]) 3 40 underlying144 C F G H rfl wB _ (RH K k).length xs rfl r (R_ w2.heap.size) 1 1 [b_ (k:Int),b_ (K.op f:Nat),.slice a (K.ct f).ws.length c] rfl rfl (V3 (Y7 rfl)) (by simp[Value.oneCell']) (by unfold maxLen;omega) zD KC.size ?_;intro W w4 d p _;have J:Ac No w w4:=KC.trans (DD p λk l _=>l) (λx hx e=>ql (r.lt x e).1 zD);have z:=((b.no y).no q).keep (DD p λk l _=>l) (Xe r);have A:=((n.mono KK.size).no q).keep (DD p λk l _=>l) (Xe r);clear p n))
    go_roundw
    case rel=>exact⟨k+1,zD,by go_num,J,_,by simpa [RH,hnm]using d,by simpa [RH,hnm]using z.snoc (x:=k) (o:=K.op f) (a:=a) (c:=c) A⟩
    case measure=>simp[intOf];omega
  .obtain rfl:k=16:=zD;have D:(RH K 16).length<=16:=by
    have key:∀k,(RH K k).length<=k:=λk=>by
     induction k with
     |zero=>exact w_ _
     |succ k ih=>simp only[RH,jR];cases K.nm k<;>simp<;>omega
    exact key 16
   obtain⟨ks,P,N⟩:=h.k;obtain⟨v,t,Z,M⟩:=N.nl;have q20:=KK.has ((Ah P 20).trans t);obtain⟨rfl,s⟩|⟨g,c,rfl,hR,tg⟩:=Z
   .gi_wp2;refine wpIn_loop_once ?_;gi_wp2;go_ret;exact⟨KK,_,rfl,xs,by rw[s];simpa [Zr]using u,by rw[s];simpa [Zr]using b⟩
   .gi_wp2;gi_loopw [3,7,30] (λa _ i X=>∃j:Nat,j<=K.nl.length/\i=b_ j/\Ac No w X/\aT X w.heap.size a (RH K 16++Zr K (K.nl.take j))) (λ_ _ i _=>K.nl.length-(intOf i).toNat)
    case atStart=>exact⟨0,zD,rfl,KK,xs,by simpa [Zr]using u,by simpa [Zr]using b⟩
    case round=>
     obtain⟨j,hj,rfl,B,xs,u,b⟩:=hrel
     by_cases E:j<K.nl.length
     .have I:K.nl[j]?=some K.nl[j]:=IG E;generalize K.nl[j]=f at I;have R:=M f (t_ I);have d3:=B.has ((hR.cell (i:=j) zD).trans (by simp[Bj,I,ptr]:(Bj K.nl)[j]?=some (Q_ f)));have L:=λm=>yh m _ K f (-1) (h.no B) R
      have Y:(RH K 16++Zr K (K.nl.take j)).length<=2000:=(by simp[Zr];omega);have e2:RH K 16++Zr K (K.nl.take (j+1))=(RH K 16++Zr K (K.nl.take j))++[(-1,K.op f,(K.ct f).ws)]:=(by rw[List.take_add_one,I];simp[Zr]);gi_wp2_with (first|(gi_at_call 161;refine(L _).mono ?_;rintro e w2 ⟨y,a,c,rfl,n⟩;have q:Ac No w2 (w2.alloc (.cells #[b_ (-1),b_ (K.op f:Nat),.slice a (K.ct f).ws.length c] 147)):=(Ac.refl _ _).alloc _;have r:=IJ (IJ u y) q;have KC:Ac No w (w2.alloc (.cells #[b_ (-1),b_ (K.op f:Nat),.slice a (K.ct f).ws.length c] 147)):=(B.then y).then q)|(gi_at_builtin;refine wpListIn_append_own _ rfl (.tmp 34) (.tmp 37) 144 rfl w.heap.size 147 V (.agg #[b_ 0,b_ 0,.slice none 0 0]) 3 40 underlying144 C F G H rfl wB _ (RH K 16++Zr K (K.nl.take j)).length xs rfl r (R_ w2.heap.size) 1 1 [b_ (-1),b_ (K.op f:Nat),.slice a (K.ct f).ws.length c] rfl rfl (V3 (Y7 rfl)) (by simp[Value.oneCell']) (by unfold maxLen;omega) zD KC.size ?_;intro W w4 d p _;have J:Ac No w w4:=KC.trans (DD p λk l _=>l) (λx hx e=>ql (r.lt x e).1 zD);have z:=((b.no y).no q).keep (DD p λk l _=>l) (Xe r);have A:=((n.mono B.size).no q).keep (DD p λk l _=>l) (Xe r);clear p n));go_roundw
      case rel=>exact⟨W,_,b_ ((j:Int)+1),_,_,_,_,_,_,_,_,_,⟨j+1,zD,zF,J,_,by rw[e2,jR];exact d,by rw[e2];exact z.snoc (x:=-1) (o:=K.op f) (a:=a) (c:=c) A⟩,rfl⟩
      case measure=>simp[intOf];omega
     .obtain rfl:j=K.nl.length:=zD;gi_wp2;go_ret;exact⟨B,_,rfl,xs,by simpa using u,by simpa using b⟩
theorem yV (K:KS) (h:AV K w) (d:K.nl.length<=1000):O_ m 63 #[Q_ K.kb] w λe w'=>Ac No w w'/\∃v,e=.returned v/\aT w' w.heap.size v (RH K 16++Zr K K.nl):=by
 have c:=λm=>bb8 m w K h d
 gi_enter func63,ntmps63;gi_wp2_with (gi_at_call 107;refine(c _).mono ?_;rintro e w1 ⟨a,v,rfl,b⟩);go_ret;exact⟨a,v,zF,b⟩
end
@[simp] theorem lf24:(24:h_)∈LF:=wB
@[simp] theorem lf64:(64:h_)∈LF:=wB
@[simp] theorem lf65:(65:h_)∈LF:=wB
section
variable (m:Nat) (w:o_)
theorem uJ (v v':n_) (l:List (W_)) (h:af1 w v l) (C:af1 w v' l) (D:l.length<=100000):O_ m 65 #[v,v'] w λe w'=>e=.returned (.bool true)/\Ac No w w':=by
 obtain⟨s,c,rfl,n⟩:=h;obtain⟨B,t,rfl,g⟩:=C;by_cases p:l.length=0
 .rw[p];gi_enter func65,ntmps65;gi_wp2;refine wpIn_loop_once ?_;gi_wp2;go_ret;exact⟨zF,Ac.refl _ _⟩
 .obtain⟨b,rfl,_,j⟩:=n zD;obtain⟨q,rfl,_,d⟩:=g zD;clear n g;gi_enter func65,ntmps65;gi_wp2;gi_loopw [5] (λi wr=>∃k:Nat,k<=l.length/\i=b_ k/\Ac No w wr) (λi _=>l.length-(intOf i).toNat)
  case atStart=>exact⟨0,Nat.zero_le _,rfl,Ac.refl _ _⟩
  case round=>
   obtain⟨k,A,rfl,a⟩:=hrel
   by_cases o:k<l.length
   .have f:l[k]?=some l[k]:=IG o;generalize l[k]=r at f;have u:=a.has (j k r f).1;have x:=a.has (j k r f).2;have y:=a.has (d k r f).1;have z:=a.has (d k r f).2;gi_wp2;gi_region
    all_goals gi_wp2
    all_goals go_roundw
    all_goals first|exact⟨k+1,zD,by go_num,a.drew⟩|(simp[intOf];omega)
   .gi_wp2;go_ret;exact⟨zF,a⟩
end
def EvI (w:o_) (v:n_) (l:List Ev):Prop:=∃s c,v=.slice s l.length c/\(0<l.length->∃b,s=some (R_ b)/\∀i x,l[i]?=some x->w.cell? (S_ b (i*4))=some (b_ x.1)/\w.cell? (S_ b (i*4+1))=some (b_ x.2.1)/\w.cell? (S_ b (i*4+2))=some (b_ x.2.2.1)/\w.cell? (S_ b (i*4+3))=some (b_ x.2.2.2))
theorem EvI.no {l:List Ev} (h:EvI w v l) (g:Ac No w w'):EvI w' v l:=let ⟨s,c,e,h⟩:=h;⟨s,c,e,λa=>let ⟨b,e',h⟩:=h a;⟨b,e',λi x d=>let ⟨a1,a2,a3,a4⟩:=h i x d;⟨g.has a1,g.has a2,g.has a3,g.has a4⟩⟩⟩
theorem lG {a b c d f g:Int} {i j:n_} (h:w.heap[k]?=some (N_ (LG a b c d e f g i j) 48)):w.cell? (S_ k 1)=some (b_ b)/\w.cell? (S_ k 2)=some (b_ c)/\w.cell? (S_ k 3)=some (b_ d)/\w.cell? (S_ k 4)=some (b_ e)/\w.cell? (S_ k 5)=some (b_ f)/\w.cell? (S_ k 6)=some (b_ g)/\w.cell? (S_ k 7)=some i/\w.cell? (S_ k 8)=some j:=
 ⟨bce h rfl,bce h rfl,bce h rfl,bce h rfl,bce h rfl,bce h rfl,bce h rfl,bce h rfl⟩
section
variable (m:Nat) (w:o_)
theorem uK (K L:KS) (a b k k':Nat) (r s:PR) (ka:AV K w) (kb:AV L w) (ok:Eo NC NS K) (ol:Eo jw jD L) (hI:CZ c t t' R S K L) (hR:Eu c R r s) (hg:K.Aw[k]?=some a) (hr:K.ps a=some r) (hg':L.Aw[k']?=some b) (hs:L.ps b=some s):
  O_ m 64 #[Q_ K.kb,Q_ L.kb,b_ r.pid] w λe w'=>e=.returned (.bool true)/\Ac No w w':=by
 have hk:=λm=>(rq m w NC NS K r.pid ka ok).mono λe w2 D=>gG ok hg hr D
 have H:=ok.pr a r hr;have J:r.Af.length<=1000:=by have:=(ok.co.pl a r hr).1;omega
 have o:r.fds.length<=1000:=by
  cases e:r.en
  .rw[H.fds e];omega
  .rw[(H.off e).1];simp
 have z:=hI.Ec hR;have E:=λm w1 (i:Ac No w w1)=>(rq m w1 jw jD L s.pid (kb.no i) ol).mono λe w2 D=>gG ol hg' hs D
 rw[<-hR.pid]at E;gi_enter func64,ntmps64;obtain⟨e1,e2,e3,e4,e5⟩:ag (s.par=r.par)/\ag (s.A=r.A)/\ag (s.B=r.B)/\ag (s.P=r.P)/\ag (s.st=r.st):=⟨hR.par.symm,hR.A.symm,hR.B.symm,hR.P.symm,hR.st.symm⟩;have e6:ag (s.Af=r.Af):=hR.Af.symm;have e7:ag (s.fds=r.fds):=hR.fds.symm
 replace z:ag _:=z
 have p:(ints r.Af).length<=1000:=by simpa [ints]using J
 clear hR hI H J;gi_wp2_with (first
  |(gi_at_call 20;refine(hk _).mono ?_;rintro e w1 ⟨K1,st,a7,n7,c7,a8,n8,c8,rfl,Z,i7,i8⟩;clear hk;obtain⟨w3,h,M,T⟩:=JP (w:=w1.alloc (.cells Ij 48)) (rb:=w1.heap.size) (a:=r.pid) (b:=r.par) (c:=st) (d:=r.A) (e:=r.B) (f:=r.P) (g:=r.st) (n7:=n7) (c7:=c7) (n8:=n8) (c8:=c8) (a7:=a7) (a8:=a8) (Y7 rfl);have O:Ac No w1 w3:=((Ac.refl No w1).alloc (.cells Ij 48)).trans M (λx hx e=>ql (show x=w1.heap.size from e) zD);have KW:Ac No w w3:=K1.then O;clear M)
  |(gi_at_call 20;refine(E _ _ KW).mono ?_;rintro e w2 ⟨C,u,V,m7,X,W,m8,Y,rfl,n,F,G⟩;clear E;obtain rfl:u=st:=n.2.out.trans (z.out.symm.trans Z.2.out.symm);obtain⟨j,q,N,U⟩:=JP (w:=w2.alloc (.cells Ij 48)) (rb:=w2.heap.size) (a:=s.pid) (b:=s.par) (c:=u) (d:=s.A) (e:=s.B) (f:=s.P) (g:=s.st) (n7:=m7) (c7:=X) (n8:=m8) (c8:=Y) (a7:=V) (a8:=W) (Y7 rfl);have l:Ac No w2 j:=((Ac.refl No w2).alloc (.cells Ij 48)).trans N (λx hx e=>ql (show x=w2.heap.size from e) zD);have Q:Ac No w1 j:=O.then (C.then l);have KZ:Ac No w j:=KW.then (C.then l);obtain⟨x1,x2,x3,x4,x5,x6,x7,x8⟩:=lG ((C.then l).old T id);obtain⟨I,y2,y3,y4,y5,y6,y7,y8⟩:=lG U;rw[e1.out]at I;rw[e2.out]at y3;rw[e3.out]at y4;rw[e4.out]at y5;rw[e5.out]at y6;rw[e6.out]at F;rw[e7.out]at G;have s7:=λm v (i:Ac No j v)=>PN m v (.slice a7 n7 c7) (.slice V m7 X) _ _ (((i7.no Q).no i).sl p) (((F.no l).no i).sl p);have s8:=λm v (i:Ac No j v)=>PN m v (.slice a8 n8 c8) (.slice W m8 Y) _ _ (((i8.no Q).no i).sl o) (((G.no l).no i).sl o);clear N h T U i7 i8 F G Z n)
  |refine Dw rfl (.tmp 7) (.tmp 17) 48 rfl rfl rfl h ?_
  |refine Dw rfl (.tmp 9) (.tmp 23) 48 rfl rfl rfl q ?_
  |(gi_at_call 21;refine(s7 _ _ (Ac.refl No j)).mono ?_;rintro e w6 ⟨rfl,y⟩;have x8:=y.has x8;have y8:=y.has y8;clear s7)
  |(gi_at_call 21;refine(s8 _ _ y).mono ?_;rintro e w7 ⟨rfl,K7⟩;have KK:=y.then K7;have x1:=KK.has x1;have x2:=KK.has x2;have x3:=KK.has x3;have x4:=KK.has x4;have x5:=KK.has x5;have x6:=KK.has x6;have I:=KK.has I;have y2:=KK.has y2;have y3:=KK.has y3;have y4:=KK.has y4;have y5:=KK.has y5;have y6:=KK.has y6;clear s8));go_ret;exact⟨zF,KZ.then KK⟩
end
def pR (r:PR):Int×Int×Int×Int:=if r.en then(0,0,0,3)else((r.sw:Nat),r.co,(Ai r.Af.length:Nat),0)
theorem kG {a:Nat} {e:Ending} (ok:Eo NC NS K) (l:a∈K.Aw) (j:K.ps a=some r) (h:dE K r.pid w e w'):Ac No w w'/\e=.returned (.tuple #[.agg #[b_ (pR r).1,b_ (pR r).2.1,b_ (pR r).2.2.1],b_ (pR r).2.2.2]):=by
 obtain⟨g,x,y,z,s,rfl,⟨⟨rfl,h⟩|⟨b,q,d,c,i,f,rfl⟩,rfl,rfl,rfl⟩|⟨rfl,b,q,⟨d,c,i,f⟩,rfl,rfl,rfl⟩⟩:=h
 .exact ql rfl (h a l r j)
 .obtain rfl:=ok.one b q a r d l c j zD;rw[j]at c;cases c;exact⟨g,by simp[pR,f]⟩
 .obtain rfl:=ok.one b q a r d l c j zD;rw[j]at c;cases c;exact⟨g,by simp[pR,f]⟩
def jG (K:KS) (i:Nat):Int:=match K.Aw[i]? with|some b=>(match K.ps b with|some r=>(r.pid:Int)|none=>0)|none=>0
theorem bo8 (h:CZ c t t' R S K L):jG L=jG K:=by
 funext i;unfold jG;have e:=h.Aw.get i;cases e1:K.Aw[i]? with
 |none=>rw[e.none.1 e1]
 |some a=>
  obtain⟨b,e2,d⟩:=e.jM e1
  obtain⟨r,s,q1,g,f⟩:=h.sd a b d
  rw[e2]
  simp only[q1,g,f.pid]
theorem yL (h:w.ownsRow base 3 1 v K.Aw.length (Xx K K.Aw.length)) (j:K.Aw.length<=12):ϭ w v K.Aw.length (jG K):=by
 obtain⟨e,e2⟩|⟨g,cap,a,e,_,d,_⟩:=id h.2
 .exact⟨zD,none,0,by rw[e,e2],λc=>ql c zD⟩
 .subst e;refine⟨zD,_,_,rfl,λ_=>⟨g,0,rfl,λi b=>?_⟩⟩;rw[Nat.zero_add];refine(h.cellAt i zD).trans ?_;simp only[Xx,jG,List.getElem?_map,List.take_length,IG b,Option.map_some];cases K.ps K.Aw[i]<;>rfl
theorem ax2 {d:Nat} {a:Nat->Int} (e:d=n) (g:a=f) (h:ϭ w v d a):ϭ w v n f:=by subst e g;exact h
theorem bo1 (d:w.ownsRow base 3 1 v K.Aw.length (Xx K K.Aw.length)):∃s c,v=.slice s K.Aw.length c:=by
 obtain⟨e,e2⟩|⟨g,cap,a,e,_⟩:=d.2
 .exact⟨none,0,by rw[e,e2]⟩
 .exact⟨_,_,e⟩
theorem bz3 {s:PR} (h:Eu c R r s):(pR s).1=(pR r).1/\(pR s).2.2.1=(pR r).2.2.1/\(pR s).2.2.2=(pR r).2.2.2:=by
 unfold pR;rw[h.en];split<;>simp[h.sw,h.Af]
theorem bj1 {c:Bool} {t t':Tag} {R S:Nat->Nat->Prop} {K L:KS} (h:CZ c t t' R S K L):∀k,RH L k=RH K k
 |0=>rfl
 |k+1=>by
  have d:=h.nm k
  simp only[RH,bj1 h k]
  cases e1:K.nm k with
  |none=>rw[d.none.1 e1]
  |some f=>
   obtain⟨a,e2,b⟩:=d.jM e1
   rw[e2]
   simp only[(h.rd f a b).2,(h.rd f a b).1.ws]
theorem bj2 {c:Bool} {t t':Tag} {R S:Nat->Nat->Prop} {K L:KS} (h:CZ c t t' R S K L):∀{l d:List Nat},LR R l d->Zr L d=Zr K l
 |[],[],_=>rfl
 |f::l,b::d,a=>by
  have:=bj2 h a.2
  unfold Zr at this ⊢
  simp only[List.map_cons,this,(h.rd f b a.1).2,(h.rd f b a.1).1.ws]
 |[],_::_,a=>a.elim
 |_::_,[],a=>a.elim
theorem Ws (h:aT w base v fs):∃s c,v=.slice s fs.length c:=by
 obtain⟨xs,h,_⟩:=h;obtain⟨e,e2⟩|⟨g,cap,a,e,_⟩:=h.2
 .exact⟨none,0,by rw[e,e2]⟩
 .exact⟨_,_,e⟩
theorem bU {c:Nat} {s:d_ f_} {q:Int×Nat×List Nat} (h:aT w base (.slice s fs.length c) fs) (p:Ac No w w') (u:fs[k]?=some q):∃g a d,s=some (R_ g)/\w'.cell? (S_ g (k*3))=some (b_ q.1)/\w'.cell? (S_ g (k*3+1))=some (b_ (q.2.1:Nat))/\w'.cell? (S_ g (k*3+2))=some (.slice a q.2.2.length d)/\WG base (.slice a q.2.2.length d) (ints q.2.2) w':=by
 obtain⟨xs,h,m⟩:=h;have n:=(KT.1 u).1;obtain⟨f,i,a,d,j,l⟩:=m.get k q u;obtain⟨_,e2⟩|⟨g,cap,b,e,_,o,_⟩:=id h.2
 .omega
 .cases e;exact⟨g,a,d,rfl,p.has ((h.cellAt (k*3) zD).trans f),p.has ((h.cellAt (k*3+1) zD).trans i),p.has ((h.cellAt (k*3+2) zD).trans j),l.no p⟩
section
variable (m:Nat) (w:o_)
theorem nH (K L:KS) (ka:AV K w) (kb:AV L w) (ok:Eo NC NS K) (ol:Eo jw jD L) (hI:CZ c t t' R S K L) (hc1:K.core.length<=1000) (hc1':L.core.length<=1000) (hc2:K.swap.length<=1000) (hnl:K.nl.length<=1000) (hws:∀q∈RH K 16++Zr K K.nl,q.2.2.length<=64) (hfl:(RH K 16++Zr K K.nl).length<=2000):
  O_ m 24 #[Q_ K.kb,Q_ L.kb] w λe w'=>e=.returned (.bool true)/\Ac No w w':=by
 have hl:=ok.len;have N:=ol.len;have hll:ag (K.Aw.length=L.Aw.length):=hI.Aw.len;have hpi:ag (jG L=jG K):=bo8 hI;have p1:=λm=>ag2 m w K ka ok.th hl
 have p2:=λm w1 (d:Ac No w w1)=>ag2 m w1 L (kb.no d) ol.th N
 gi_enter func24,ntmps24;gi_wp2_with (first|(gi_at_call 50;refine(p1 _).mono ?_;rintro e w1 ⟨K1,v,rfl,Q⟩;clear p1;obtain⟨s,cp,hv⟩:=bo1 Q;subst hv)|(gi_at_call 50;refine(p2 _ _ K1).mono ?_;rintro e w2 ⟨K2,v',rfl,f⟩;clear p2;have sp:=λm=>PN m w2 (.slice s K.Aw.length cp) v' K.Aw.length (jG K) (yL (Xj Q K2) hl) (ax2 hll.out.symm hpi.out (yL f N));clear f)|(gi_at_call 21;refine(sp _).mono ?_;rintro e w3 ⟨rfl,K3⟩;clear sp));have K03:Ac No w1 w3:=K2.then K3;gi_loopw [8] (λi wr=>∃k:Nat,k<=K.Aw.length/\i=b_ k/\Ac No w1 wr) (λi _=>K.Aw.length-(intOf i).toNat)
 case atStart=>exact⟨0,zD,rfl,K03⟩
 case round=>
  obtain⟨k,hk,rfl,KK1⟩:=hrel
  have KK:Ac No w wr:=K1.then KK1
  by_cases BL:k<K.Aw.length
  .have E:K.Aw[k]?=some K.Aw[k]:=IG BL;generalize K.Aw[k]=a at E;obtain⟨r,hr⟩:=AV.mem ok.th E;have o:=hI.Aw.get k;rw[E]at o;obtain⟨b,M,hab⟩:=o.jM rfl;obtain⟨s',hs,Z⟩:=hI.get hab hr;obtain⟨g,cap,h,rfl,hgb⟩:∃g cap h,s=some (R_ g)/\w1.heap[g]?=some (N_ h cap):=by
    obtain⟨_,e2⟩|⟨g,cap,h,e,_,hx,_⟩:=Q.2
    .omega
    .cases e;exact⟨g,_,h,rfl,hx⟩
   have d0:wr.cell? (S_ g k)=some (b_ r.pid):=KK1.has ((Q.cellAt k zD).trans (by simp[Xx,E,hr]));have h0:=λm=>uK m wr K L a b k k r s' (ka.no KK) (kb.no KK) ok ol hI Z E hr M hs
   have Y:=λm w2 (d:Ac No wr w2)=>(yg m w2 K NC r.pid ((ka.no KK).no d) ok.th ok.co zD).mono λe w2 hh=>kG ok (t_ E) hr hh
   have D:=λm w2 (d:Ac No wr w2)=>(yg m w2 L jw s'.pid ((kb.no KK).no d) ol.th ol.co zD).mono λe w3 hh=>kG ol (t_ M) hs hh
   obtain⟨z1,z2,z3⟩:=bz3 Z;rw[<-Z.pid,z1,z2,z3]at D;generalize (pR s').2.1=q5 at D;generalize pR r=q at Y D;obtain⟨q1,q2,q3,q4⟩:=q;simp only at Y D;clear Z o z1 z2 z3;gi_wp2_with (first
    |(gi_at_call 64;refine(h0 _).mono ?_;rintro e w4 ⟨rfl,C⟩;clear h0;have d0:=C.has d0)
    |(gi_at_call 22;refine(Y _ _ C).mono ?_;rintro e p ⟨G,rfl⟩;clear Y;obtain⟨w6,J,T,b6⟩:=Xg (w:=p.alloc (.cells #[.int .i64 0,.int .i64 0,.int .i64 0] 54)) (rb:=p.heap.size) (x:=q1) (y:=q2) (z:=q3) (Y7 rfl);have KA:Ac No p w6:=((Ac.refl No p).alloc (.cells #[.int .i64 0,.int .i64 0,.int .i64 0] 54)).trans T (λx hx e=>ql (show x=p.heap.size from e) zD);have KB:Ac No wr w6:=(C.then G).then KA;have d1:=(G.then KA).has d0;clear T)
    |(gi_at_call 22;refine(D _ _ KB).mono ?_;rintro e F ⟨U,rfl⟩;clear D;obtain⟨P,AL,H,b8⟩:=Xg (w:=F.alloc (.cells #[.int .i64 0,.int .i64 0,.int .i64 0] 54)) (rb:=F.heap.size) (x:=q1) (y:=q5) (z:=q3) (Y7 rfl);have KC:Ac No F P:=((Ac.refl No F).alloc (.cells #[.int .i64 0,.int .i64 0,.int .i64 0] 54)).trans H (λx hx e=>ql (show x=F.heap.size from e) zD);have KD:Ac No w1 P:=(KK1.then KB).then (U.then KC);obtain⟨x0,x1,x2⟩:=au5 ((U.then KC).old b6 id);obtain⟨u,A,y2⟩:=au5 b8;clear H J b6 d1)
    |refine Dw rfl (.tmp 10) (.tmp 51) 54 rfl rfl rfl J ?_
    |refine Dw rfl (.tmp 12) (.tmp 60) 54 rfl rfl rfl AL ?_);go_roundw
   case rel=>exact⟨k+1,zD,by go_num,KD⟩
   case measure=>simp[intOf];omega
  .have hn2:L.nl.length<=1000:=(by rw[<-hI.nl.len];exact hnl);have f1:=λm=>ah1 m wr K (ka.no KK) hc1 hc2
   have f2:=λm w2 (d:Ac No wr w2)=>ah1 m w2 L ((kb.no KK).no d) hc1' (by rw[<-hI.swap];exact hc2)
   rw[<-hI.swap]at f2;have g1:=λm w2 (d:Ac No wr w2)=>yV m w2 K ((ka.no KK).no d) hnl
   have X:=λm w2 (d:Ac No wr w2)=>yV m w2 L ((kb.no KK).no d) hn2
   rw[bj1 hI 16,bj2 hI hI.nl]at X;generalize RH K 16++Zr K K.nl=n at g1 X hws hfl;obtain rfl:k=K.Aw.length:=zD;gi_wp2_with (first|(gi_at_call 59;refine(f1 _).mono ?_;rintro e w4 ⟨C,v1,v2,rfl,r1,r2⟩;clear f1)|(gi_at_call 59;refine(f2 _ _ C).mono ?_;rintro e p ⟨G,v3,v4,rfl,r3,r4⟩;clear f2;have sr:=λm=>uJ m p v2 v4 K.swap (yE (Xj r2 G)) (yE r4) zD;clear r1 r2 r3 r4)|(gi_at_call 65;refine(sr _).mono ?_;rintro e w6 ⟨rfl,T⟩;clear sr;have KF:=(C.then G).then T)|(gi_at_call 63;refine(g1 _ _ KF).mono ?_;rintro e F ⟨U,u1,rfl,t1⟩;clear g1;obtain⟨s1,c1,hu1⟩:=Ws t1;subst hu1;have KG:=KF.then U)|(gi_at_call 63;refine(X _ _ KG).mono ?_;rintro e P ⟨H,u2,rfl,t2⟩;clear X;obtain⟨s2,c2,hu2⟩:=Ws t2;subst hu2));have KH:Ac No wr P:=KG.then H;gi_loopw [20,21] (λi _ wq=>∃j:Nat,j<=n.length/\i=b_ j/\Ac No P wq) (λi _ _=>n.length-(intOf i).toNat)
   case atStart=>exact⟨0,zD,rfl,Ac.refl _ _⟩
   case round=>
    obtain⟨j,hj,rfl,V⟩:=hrel
    by_cases O:j<n.length
    .have hq:n[j]?=some n[j]:=IG O;generalize n[j]=q at hq;have hb:=hws q (t_ hq);obtain⟨ga,a1,d1,rfl,x0,x1,x2,i1⟩:=bU t1 (H.then V) hq;obtain⟨gb,a2,d2,rfl,u,A,y2,i2⟩:=bU t2 V hq;have VN:(ints q.2.2).length<=1000:=(by simp only[ints,List.length_map];omega);have si:=λm l (d:Ac No _ l)=>PN m l _ _ _ _ ((i1.no d).sl VN) ((i2.no d).sl VN)
     clear hws t1 t2 i1 i2 VN;gi_wp2;refine BP 10 154 ?_;gi_wp2;refine Eb ?_ ?_
     .intro W d;have x2:=d.has (w:=wr.drew) x2;have y2:=d.has (w:=wr.drew) y2
      repeat' (refine Au ?_ ?_)
      all_goals first|exact eu|gi_wp2
     .intro W d;have KW:Ac No wr W:=(Ac.refl No wr).drew.then d;have x0:=KW.has x0;have x1:=KW.has x1;have u:=KW.has u;have A:=KW.has A;gi_wp2_with (gi_at_call 21;refine(si _ _ KW).mono ?_;rintro e l ⟨rfl,I⟩;have x0:=I.has x0;have x1:=I.has x1;have u:=I.has u;have A:=I.has A);refine BP 26 154 ?_;gi_wp2;refine Eb ?_ ?_
      .intro W2 B;have x0:=B.has (w:=l.drew) x0;have x1:=B.has (w:=l.drew) x1;have u:=B.has (w:=l.drew) u;have A:=B.has (w:=l.drew) A
       repeat' (refine Au ?_ ?_)
       all_goals first|exact eu|gi_wp2
      .intro W2 B;gi_wp2;go_roundw
       case rel=>exact⟨j+1,zD,by go_num,V.then ((KW.then I).then ((Ac.refl No l).drew.then B))⟩
       case measure=>simp[intOf];omega
    .obtain rfl:j=n.length:=zD;gi_wp2;go_ret;exact⟨zF,(KK.then KH).then V⟩
theorem FTw {w:o_} (h:AV K w):∀q∈RH K 16++Zr K K.nl,q.2.2.length<=64:=by
 have b:∀f,K.T f=(10,0)->(K.ct f).ws.length<=64:=λf m=>by
  obtain⟨v,_,j⟩:=h.fl.file f m
  obtain⟨_,e⟩|⟨_,_,_,_,c,_⟩:=j
  .rw[e];simp
  .exact c
 have key:∀k,k<=16->∀q∈RH K k,q.2.2.length<=64:=λk=>by
  induction k with
  |zero=>intro _ q a;simp[RH]at a
  |succ k l=>
   intro n q a
   simp only[RH]at a
   obtain a|a:=gJ.1 a
   .exact l zD q a
   .cases e:K.nm k with
    |none=>rw[e]at a;simp at a
    |some f=>rw[e]at a;simp at a;rw[a];exact b f ((h.ϲ zD).2 f e)
 intro q a;obtain a|a:=gJ.1 a
 .exact key 16 (w_ _) q a
 .obtain⟨f,i,rfl⟩:=List.mem_map.1 a;obtain⟨o,_,g⟩:=h.k;obtain⟨_,_,_,d⟩:=g.nl;exact b f (d f i)
theorem FTn (ok:Eo NC NS K):(RH K 16++Zr K K.nl).length<=2000:=by
 have key:∀k,(RH K k).length<=k:=λk=>by
  induction k with
  |zero=>exact w_ _
  |succ k a=>simp only[RH,jR];cases K.nm k<;>simp<;>omega
 have:=key 16;have:=ok.Ef.nl;simp[Zr];omega
theorem Two.world (h:Two c NC NS jw jD K L w):O_ m 24 #[Q_ K.kb,Q_ L.kb] w λe w'=>e=.returned (.bool true)/\Ac No w w':=by
 obtain⟨t,j,R,S,a,_⟩:=h.al;have a1:=h.ok.co.fit.1;have a2:=h.ok.co.le;have b:=h.ol.co.fit.1;have d:=h.ol.co.le;have f:=h.ok.sw.fit.1;have g:=h.ok.sw.le;have i:=h.ok.Ef.nl;exact nH m w K L h.ka h.kb h.ok h.ol a zD zD zD zD (FTw h.ka) (FTn h.ok)
end
def Lp (w:o_) (b o i:Nat) (kd pid nn:Int):Prop:=((-9223372036854775808<=kd/\kd<=9223372036854775807)/\(-9223372036854775808<=nn/\nn<=9223372036854775807))/\w.cell? (S_ b (o+i*3))=some (b_ kd)/\w.cell? (S_ b (o+i*3+1))=some (b_ pid)/\w.cell? (S_ b (o+i*3+2))=some (b_ nn)
theorem Lp.no {i:Nat} {kd d:Int} (h:Lp w b o i kd pid d) (a:Ac No w w'):Lp w' b o i kd pid d:=⟨h.1,a.has h.2.1,a.has h.2.2.1,a.has h.2.2.2⟩
def xZ (X:Nat) (core swap:Int) (s fa:d_ f_) (n c nf fc:Nat) (w:o_):Prop:=w.heap[X]?=some (N_ #[b_ core,b_ swap,.slice s n c,.slice fa nf fc] 25)
section
variable {core GZ swap:Int} {n nf:Nat} {f:Nat->Int} {ff:Nat->n_×Nat×(Nat->Int)} {w w1 w2 w3 w':o_} {e:Ending} {K L:KS} {c:Bool}
def eH (core swap:Int) (n nf:Nat) (f:Nat->Int) (ff:Nat->n_×Nat×(Nat->Int)) (w:o_) (K:KS) (w':o_):Prop:=∃b ib fb C M,AV K w'/\Eo C M K/\K.Aw=[b]/\K.ps b=some (EE ib fb (dN n (8*Ai n) λi=>(f i).toNat))/\(∀k,K.T k≠(0,0)->w.heap.size<=k)/\core=(C:Nat)/\swap=(M:Nat)/\16<=C/\au7 K b M (8*Ai n)/\Ud core swap n f/\au8 K C nf ff
def bk4 (core swap:Int) (n nf:Nat) (f:Nat->Int) (ff:Nat->n_×Nat×(Nat->Int)):Prop:=Js nf ff->¬Ud core swap n f
def eG (core swap:Int) (n nf:Nat) (f:Nat->Int) (ff:Nat->n_×Nat×(Nat->Int)) (w:o_) (kv ev:n_) (w':o_):Prop:=(kv=.pointer none/\ev=b_ 1/\bk4 core swap n nf f ff)\/∃K,kv=ptr K.kb/\ev=b_ 0/\eH core swap n nf f ff w K w'
theorem iy.cut (h:iy core swap n nf f ff w e w'):Ac No w w'/\∃kv ev,e=.returned (.tuple #[kv,ev])/\eG core swap n nf f ff w kv ev w':=by
 obtain⟨c,⟨e,a⟩|⟨K,b,g,d,C,M,e,a⟩⟩:=h
 .exact⟨c,_,_,e,.inl ⟨rfl,rfl,a⟩⟩
 .exact⟨c,_,_,e,.inr ⟨K,rfl,rfl,b,g,d,C,M,a⟩⟩
theorem eH.no (h:eH core swap n nf f ff w K w') (i:bk4 GZ swap n nf f ff) (d:16<=GZ) (g:GZ<=64):False:=by
 obtain⟨_,_,_,_,_,_,_,_,_,_,_,_,_,_,a,b⟩:=h;exact i b.2.2.1 ⟨⟨d,g,a.1.2.2.1,a.1.2.2.2⟩,a.2⟩
theorem eH.keep {S:Nat->Prop} (h:eH core swap n nf f ff w K w1) (p:Ac S w1 w2) (q:∀k,S k->k<w.heap.size):eH core swap n nf f ff w K w2:=by
 obtain⟨b,o,g,C,M,d,ok,i,j,c,l⟩:=h;refine⟨b,o,g,C,M,d.keep (p.on λk _ e=>?_) λb m=>d.lt b (pV p.size m),ok,i,j,c,l⟩;cases Decidable.em (K.T k=(0,0))with
 |inl a=>exact a
 |inr a=>exact ql (c k a) (by have:=q k e;omega)
theorem eG.keep {S:Nat->Prop} (h:eG core swap n nf f ff w kv ev w1) (d:Ac S w1 w2) (g:∀k,S k->k<w.heap.size):eG core swap n nf f ff w kv ev w2:=h.imp id λ⟨K,a,b,c⟩=>⟨K,a,b,c.keep d g⟩
theorem eG.no (h:eG core swap n nf f ff w kv ev w1) (a:Ac No w1 w2):eG core swap n nf f ff w kv ev w2:=h.keep a λ_ e=>e.elim
end
structure dL (c:Bool) (C M C' M':Nat) (v0:o_) (K L:KS) (v:o_):Prop where
 two:Two c C M C' M' K L v
 k0:Ac No v0 v
 tk:∀k,K.T k≠(0,0)->v0.heap.size<=k
 tl:∀k,L.T k≠(0,0)->v0.heap.size<=k
section
variable {c:Bool} {C M C' M':Nat} {v0 v v' v1 v2 w w':o_} {K L K' L' K1 L1:KS}
theorem dL.no (h:dL c C M C' M' v0 K L v) (a:Ac No v v'):dL c C M C' M' v0 K L v':=⟨h.two.no a,h.k0.then a,h.tk,h.tl⟩
theorem dL.to (h:dL c C M C' M' v0 K L v) (g:Two c C M C' M' K' L' v') (i:Ac (λk=>K.T k≠(0,0)\/L.T k≠(0,0)) v v') (d:∀k,k<v.heap.size->K'.T k=K.T k/\L'.T k=L.T k):dL c C M C' M' v0 K' L' v':=by
 refine⟨g,h.k0.trans i (λk a e=>?_),λk e=>?_,λk e=>?_⟩
 .obtain e|e:=e
  .exact ql (h.tk k e) zD
  .exact ql (h.tl k e) zD
 .by_cases a:k<v.heap.size
  .rw[(d k a).1]at e;exact h.tk k e
  .have:=h.k0.size;omega
 .by_cases a:k<v.heap.size
  .rw[(d k a).2]at e;exact h.tl k e
  .have:=h.k0.size;omega
theorem dL.aa6 (h:dL false C M C' M' v0 K L v) (k2:AV L' v') (m2:BR L L') (c2:BU C' (0,0) L') (d:BN L.T L'.T v v'):dL false C M C' M' v0 K L' v':=by
 obtain⟨t,c,R,S,a,g⟩:=h.two.al;refine h.to ⟨h.two.ka.other d h.two.dj.symm,k2,h.two.ok,h.two.ol.Ku m2 c2,(h.two.dj.symm.Ku h.two.ka d).symm,t,c,R,S,a.aa6 m2,g.ext (λ_ _=>rfl) d.ext⟩ ?_ λk b=>⟨rfl,Dh.fresh d k b⟩
 exact(Ac.refl (λk=>K.T k≠(0,0)\/L.T k≠(0,0)) v).trans (Dh.keep d) (λk _ e=>Or.inr e)
theorem eH.two {core z swap:Int} {E:Nat} {A:Nat->n_×Nat×(Nat->Int)} (F:eH core swap n E f A w K v1) (I:v0.heap.size<=w.heap.size) (D:Ac No v0 v1) (B:Ac No v1 v2) (G:eH z swap n E f A v1 L v2) (H:c=true->core=z):∃C M C' M',dL c C M C' M' v0 K L v2:=by
 obtain⟨b,y,x,C,M,a,ok,r,s,u,rfl,rfl,_,p,_,i⟩:=id F;obtain⟨v,o,l,C',M',d,ol,p2,t,h,rfl,e2,_,q,_,j⟩:=G;obtain rfl:M=M':=zD
 obtain⟨m,g⟩:=bc6 (c:=c) (λe=>by have:=H e;omega) a d ok ol r p2 s t p q i j;exact⟨C,M,C',M,⟨a.no B,d,ok,ol,Dj.new a h,_,_,_,_,m,g⟩,D.then B,λk e=>pV I (u k e),λk e=>pV D.size (h k e)⟩
theorem ve {w w':o_} {e:j_} {size:Nat} {v:n_} {xs:U_} {S:Nat->Prop} (h:w.ownsRow base e size v n xs) (j:Ac S w w') (l:∀g,v.ownBlock=some g->¬S g):w'.ownsRow base e size v n xs:=by
 obtain⟨i,f⟩:=h;refine⟨i,?_⟩;obtain f|⟨g,cap,a,rfl,b,c,d⟩:=f
 .exact .inl f
 .exact .inr ⟨g,cap,a,rfl,b,j.old c (l g rfl),d⟩
theorem ah3:∀{l:List Ev} {i q:Nat} {x:Ev},l[i]?=some x->q<4->(SQ l)[i*4+q]?=(dJ x)[q]?
 |[],i,q,x,h,_=>by simp at h
 |y::l,0,q,x,h,a=>by
  obtain rfl:y=x:=by simpa using h
  show(dJ y++SQ l)[0*4+q]?=_
  rw[Nat.zero_mul,Nat.zero_add,List.getElem?_append_left (by simp[dJ];omega)]
 |y::l,i+1,q,x,h,a=>by
  show(dJ y++SQ l)[(i+1)*4+q]?=_
  rw[List.getElem?_append_right (by simp[dJ];omega),show(i+1)*4+q-(dJ y).length=i*4+q by simp[dJ];omega,ah3 (by simpa using h) a]
theorem ah4 {w:o_} (h:w.ownsRow base 59 4 told CQ.length (SQ CQ)):EvI w told CQ:=by
 obtain⟨e,e2⟩|⟨g,cap,b,e,_⟩:=id h.2
 .exact⟨none,0,by rw[e,e2],λd=>ql d zD⟩
 .subst e;refine⟨_,_,rfl,λ_=>⟨g,rfl,λi x a=>?_⟩⟩;have k:=(KT.1 a).1;have key:∀j u,j<4->(dJ x)[j]?=some u->w.cell? (S_ g (i*4+j))=some u:=λj u c f=>(h.cellAt (i*4+j) zD).trans ((ah3 a c).trans f)
  exact⟨key 0 _ zD rfl,key 1 _ zD rfl,key 2 _ zD rfl,key 3 _ zD rfl⟩
theorem ND.len {n:Int} (h:ND NC NS K pid n v told e v' K' CQ):CQ.length<=2000:=by
 obtain⟨_,_,rfl,_⟩|⟨b,r,_,_,_,⟨_,_,rfl,_⟩|⟨_,_,_,rfl,_⟩|⟨i,_,_,⟨d,_,a|⟨j,e1,e2,f,g,a,c,rfl⟩⟩,_⟩⟩:=h.x
 .simp
 .simp
 .simp
 .have:=a.len;omega
 .have:=a.len;have:e2.length<=1:=by
   obtain⟨_,_,_,_,_,_,⟨_,_,_,_,rfl⟩|⟨_,_,_,_,_,_,_,_,⟨_,_,rfl,_⟩|⟨_,rfl,_⟩⟩⟩:=c<;>simp
  simp;omega
theorem dL.pick {n e1 e2:Int} {q s:n_} {j l:List Ev} (h:dL c C M C' M' v0 K L v) (m:ND C M K pid n v q e1 v1 K1 j) (p:ND C' M' L pid n v1 s e2 v2 L1 l):dL c C M C' M' v0 K1 L1 v2/\j=l/\e1=e2/\EvI v2 q j/\EvI v2 s l:=by
 obtain⟨b,d,i⟩:=h.two.pick m p;refine⟨h.to b (((Ac.refl _ v).trans (Dh.keep m.mv) (λk _ e=>Or.inl e)).trans (Dh.keep p.mv) (λk _ e=>Or.inr e)) λk a=>⟨Dh.fresh m.mv k a,Dh.fresh p.mv k (Nat.lt_of_lt_of_le a (Dh.keep m.mv).size)⟩,d,i,ah4 (base:=v.heap.size) ?_,ah4 p.told.row⟩;exact ve m.told.row (Dh.keep p.mv) λg f e=>e (h.two.kb.lt g (m.told.row.lt g f).1)
end
end Go.Fxa
