/- A kernel of many processes: en -/
import Derived.Test.YtmhplpfpcnjekaaGreatA21
namespace Go.Fxa
open Conc Proofs RowKit Proofs.Tryz
set_option maxRecDepth 1000000
set_option maxHeartbeats 0
variable {b g i a n N j:Nat} {p:Nat->Bool} {l:List (W_)} {x:Nat×Nat} {v:n_}
def isZ (ps:Nat->d_ PR) (pid b:Nat):Bool:=match ps b with|some r=>r.en && (r.par==pid)|none=>false
theorem Yq {ps:Nat->d_ PR} {pid:Nat} {r:PR} (h:ps b=some r):isZ ps pid b=(r.en && (r.par==pid)):=by unfold isZ;rw[h]
def KS.RI (K:KS) (pid:Nat):d_ Nat:=K.Aw.find? (isZ K.ps pid)
theorem bd9 {l:List Nat} {k:Nat} (h:l[k]?=some b) (m:p b=true) (f:∀(j c:Nat),j<k->l[j]?=some c->p c=false):l.find? p=some b:=by
 obtain⟨d,e⟩:=KT.1 h;refine List.find?_eq_some_iff_getElem.2 ⟨m,k,d,e,λj a=>?_⟩;rw[f j _ a (IG zD)];rfl
theorem bd7 {l:List Nat} (d:∀(j c:Nat),j<l.length->l[j]?=some c->p c=false):l.find? p=none:=by
 refine List.find?_eq_none.2 λx b=>?_
 obtain⟨i,a⟩:=List.getElem?_of_mem b;rw[d i x (KT.1 a).1 a];simp
section
variable (m:Nat) (w:o_)
theorem lW (K:KS) (pb:Nat) (p:PR) (h:AV K w) (E:K.EJ) (F:K.ps pb=some p) (G:K.Aw.length<=100):
  O_ m 195 #[Q_ K.kb,Q_ pb] w λe w'=>Ac No w w'/\∃v,e=.returned v/\(v=.pointer none\/∃b r,v=ptr b/\b∈K.Aw/\K.ps b=some r/\r.en=true)/\v=U8 (K.RI p.pid):=by
 have D:=h.kc2;gi_enter func195,ntmps195;gi_wp2;gi_loopw [12] (λi wr=>∃k:Nat,k<=K.Aw.length/\i=b_ k/\Ac No w wr/\∀(j c:Nat),j<k->K.Aw[j]?=some c->isZ K.ps p.pid c=false) (λi _=>K.Aw.length-(intOf i).toNat)
 case atStart=>exact⟨0,zD,rfl,Ac.refl _ _,λj c h=>ql h zD⟩
 case round=>
  obtain⟨k,C,rfl,KK,u⟩:=hrel
  by_cases y:k<K.Aw.length
  .have l:K.Aw[k]?=some K.Aw[k]:=IG y;generalize K.Aw[k]=b at l;obtain⟨r,o⟩:=AV.mem E l;have d:=Yq (pid:=p.pid) o;have g:isZ K.ps p.pid b=false->∀(j c:Nat),j<k+1->K.Aw[j]?=some c->isZ K.ps p.pid c=false:=λA j c B s=>by
    by_cases e:j=k
    .subst e;rw[l]at s;cases s;exact A
    .exact u j c zD s
   have n:=h.no KK;have z:=n.jS l;have d1:=n.Il o 1;have d2:=n.Il o 2;have d3:=n.Il F 0;simp only[ptr]at z;simp[PR.arr]at d1 d2 d3;gi_wp2;refine BP 8 33 ?_;gi_wp2;refine Eb ?_ ?_
   .intro W f;have e1:=f.has (w:=wr.drew) d1;have e3:=f.has (w:=wr.drew) d3
    repeat' (refine Au ?_ ?_)
    all_goals first|exact eu|gi_wp2
   .intro W f;have e1:=f.has (w:=wr.drew) d1;have e2:=f.has (w:=wr.drew) d2;have e3:=f.has (w:=wr.drew) d3;have KW:Ac No w W:=KK.drew.then f;by_cases x:(r.par:Int)=p.pid
    .have a:(r.par==p.pid)=true:=(by simp;omega);rw[a]at d;have t:((r.par:Int)==(p.pid:Int))=true:=(by simpa using x);cases hn:r.en
     .rw[hn]at e2 d;have g:=g d;clear d a;gi_wp2;go_roundw
      case rel=>exact⟨k+1,zD,by go_num,KW,g⟩
      case measure=>simp[intOf];omega
     .rw[hn]at e2 d;have q:K.RI p.pid=some b:=bd9 l d u;clear d a g;gi_wp2;go_ret;exact⟨KW,ptr b,by simp[ptr],.inr ⟨b,r,rfl,t_ l,o,hn⟩,by rw[q];rfl⟩
    .have a:(r.par==p.pid)=false:=(by simp;omega);rw[a]at d;have g:=g (by rw[d];simp);clear d a;have t:((r.par:Int)==(p.pid:Int))=false:=(by simpa using x);gi_wp2;go_roundw
     case rel=>exact⟨k+1,zD,by go_num,KW,g⟩
     case measure=>simp[intOf];omega
  .obtain rfl:k=K.Aw.length:=zD;have q:K.RI p.pid=none:=bd7 u;gi_wp2;go_ret;exact⟨KK,.pointer none,zF,.inl rfl,by rw[q];rfl⟩
theorem YT {T:Tag} {op:Nat->Nat} {ct:Nat->Ct} {kb:Nat} {w:o_} (h:ae T op ct w kb) (k:T b=(11,0)):∃a n c x y,w.cell? (R_ b)=some (.slice a n c)/\w.cell? (S_ b 1)=some (.bool x)/\w.cell? (S_ b 2)=some (.bool y)/\n<=16/\n=(ct b).ws.length/\x=(ct b).x/\y=(ct b).y:=by
 obtain⟨v,d,e⟩:=h.pipe b k;obtain⟨rfl,e⟩|⟨g,c,rfl,_,f,_⟩:=e
 .exact⟨_,_,_,_,_,(Ah d 0).trans rfl,(Ah d 1).trans rfl,(Ah d 2).trans rfl,zD,by rw[e];rfl,rfl,rfl⟩
 .exact⟨_,_,_,_,_,(Ah d 0).trans rfl,(Ah d 1).trans rfl,(Ah d 2).trans rfl,f,rfl,rfl,rfl⟩
def Ct.starved (c:Ct):Bool:=c.ws.length==0 && c.y
def Ct.Jr (c:Ct):Bool:=c.ws.length==16 && c.x
theorem YO (K:KS) (b:Nat) (h:AV K w) (k:K.T b=(11,0)):
  O_ m 270 #[Q_ b] w λe w'=>Ac No w w'/\∃x,e=.returned (.bool x)/\ag (x=(K.ct b).starved):=by
 obtain⟨a,n,c,x,y,i,d1,d2,j,e1,e2,e3⟩:=YT h.fl k;have g:(K.ct b).starved=(n==0 && y):=by rw[e1,e3];rfl
 clear e1 e2 e3;gi_enter func270,ntmps270;by_cases d:n=0
 .have f:((n:Int)==0)=true:=by simpa using d
  gi_wp2;go_ret;exact⟨Ac.refl _ _,y,zF,by unfold ag;rw[g,d];simp⟩
 .have f:((n:Int)==0)=false:=by simpa using d
  gi_wp2;go_ret;exact⟨Ac.refl _ _,false,zF,by unfold ag;rw[g];simp[d]⟩
theorem Zb (K:KS) (b:Nat) (h:AV K w) (k:K.T b=(11,0)):
  O_ m 265 #[Q_ b] w λe w'=>Ac No w w'/\∃x,e=.returned (.bool x)/\ag (x=(K.ct b).Jr):=by
 obtain⟨a,n,c,x,y,i,d1,d2,j,e1,e2,e3⟩:=YT h.fl k;have f:(K.ct b).Jr=(n==16 && x):=by rw[e1,e2];rfl
 clear e1 e2 e3;gi_enter func265,ntmps265;by_cases g:n=16
 .have d:((n:Int)==16)=true:=by simpa using(by omega:(n:Int)=16)
  gi_wp2;go_ret;exact⟨Ac.refl _ _,x,zF,by unfold ag;rw[f,g];simp⟩
 .have d:((n:Int)==16)=false:=by simpa using(by omega:¬(n:Int)=16)
  gi_wp2;go_ret;exact⟨Ac.refl _ _,false,zF,by unfold ag;rw[f];simp[g]⟩
theorem VD:(binOp .neq 32 .nilFunc .nilFunc).run prog w=.ok (.bool false) w:=sJ
theorem ba7 {x y:Nat}:(binOp .neq 32 (.func (.func 196) #[] #[Q_ x,Q_ y]) .nilFunc).run prog w=.ok (.bool true) w:=sJ
theorem ba5 {x:Nat}:(binOp .neq 32 (.func (.func 270) #[Q_ x] #[]) .nilFunc).run prog w=.ok (.bool true) w:=sJ
theorem ba6 {x:Nat}:(binOp .neq 32 (.func (.func 265) #[Q_ x] #[]) .nilFunc).run prog w=.ok (.bool true) w:=sJ
theorem ai8 (K:KS) (pb x y:Nat) (p:PR) (h:AV K w) (d:K.EJ) (k:K.ps pb=some p) (f:K.Aw.length<=100) (o:w.cell? (R_ x)=some (Q_ K.kb)) (q:w.cell? (R_ y)=some (Q_ pb)):
  O_ m 196 #[Q_ x,Q_ y] w λe w'=>Ac No w w'/\∃x,e=.returned (.bool x)/\x=(K.RI p.pid).isNone:=by
 have c:=λm=>lW m w K pb p h d k f
 gi_enter func196,ntmps196;gi_wp2_with (gi_at_call 195;refine(c _).mono ?_;rintro e w1 ⟨a,v,rfl,b⟩;obtain⟨_,rfl⟩:=b;cases hz:K.RI p.pid<;>simp only[U8,ptr])
 .go_ret;exact⟨a,true,zF,by rw[hz];rfl⟩
 .go_ret;exact⟨a,false,zF,by rw[hz];rfl⟩
def dK:n_->Nat×Nat
 |.func (.func n) ar _=>(n,match (ar[0]?:d_ n_)with|some (Value.pointer (some a))=>a.block|_=>0)
 |_=>(0,0)
def KS.blk (K:KS) (r:PR):Bool:=if(dK r.bl).1=196 then(K.RI r.pid).isNone else if(dK r.bl).1=270 then(K.ct (dK r.bl).2).starved else if(dK r.bl).1=265 then(K.ct (dK r.bl).2).Jr else false
def KS.Ec (K:KS) (r:PR):Int:=if r.en then 2 else if K.blk r then 1 else 0
theorem bf8 {K:KS} {r:PR} {a b:X_} (h:r.bl=.func (.func 196) a b):K.blk r=(K.RI r.pid).isNone:=by unfold KS.blk;rw[h];rfl
theorem bf6 {K:KS} {r:PR} {p:Nat} (h:r.bl=.func (.func 270) #[Q_ p] #[]):K.blk r=(K.ct p).starved:=by unfold KS.blk;rw[h];rfl
theorem bf7 {K:KS} {r:PR} {p:Nat} (h:r.bl=.func (.func 265) #[Q_ p] #[]):K.blk r=(K.ct p).Jr:=by unfold KS.blk;rw[h];rfl
theorem bf5 {K:KS} {r:PR} (h:r.bl=.nilFunc):K.blk r=false:=by unfold KS.blk;rw[h];rfl
theorem Uz {K:KS} {r:PR} {x:Bool} (c:r.en=false) (h:x=K.blk r):(if x then(1:Int)else 0)=K.Ec r:=by unfold KS.Ec;rw[c,h];rfl
def JZ (en:Bool) (s:Int):Prop:=(en=true->s=2)/\(en=false->s=0\/s=1)
theorem yt (K:KS) (pb:Nat) (p:PR) (h:AV K w) (A:K.EJ) (z:K.ps pb=some p) (B:K.Aw.length<=100):
  O_ m 55 #[Q_ pb] w λe w'=>Ac No w w'/\∃s,e=.returned (b_ s)/\JZ p.en s/\ag (s=K.Ec p):=by
 have l:=h.Il z 2;have j:=h.Il z 4;simp[PR.arr]at l j;cases hn:p.en with
 |true=>
  rw[hn]at l
  gi_enter func55,ntmps55
  gi_wp2
  go_ret
  exact⟨Ac.refl _ _,2,zF,by simp[JZ],by unfold ag KS.Ec;rw[hn];rfl⟩
 |false=>
  rw[hn]at l
  obtain b|⟨x,y,b,d,r,t,u⟩|⟨g,b,n⟩:=(h.ps pb p z).bl
  .have a:=Uz hn (bf5 (K:=K) b).symm;rw[b]at j;have k:=VD w;gi_enter func55,ntmps55;gi_wp2;refine⟨(λf h=>by cases h),?_⟩;gi_wp2;go_ret;exact⟨Ac.refl _ _,0,zF,by simp[JZ],a⟩
  .have a:=λx (e:x=_)=>Uz hn (Eq.trans e (bf8 (K:=K) b).symm)
   rw[b]at j;simp only[ptr]at j;have k:=ba7 w (x:=x) (y:=y);have o:w.cell? (R_ x)=some (Q_ K.kb):=bce d rfl;have q:w.cell? (R_ y)=some (Q_ pb):=bce r rfl;have c:=λm=>ai8 m w K pb x y p h A z B o q
   gi_enter func55,ntmps55;gi_wp2_with (gi_at_call 196;refine(c _).mono ?_;rintro e w1 ⟨i,x,rfl,d⟩;have a:=a _ d;clear d;cases x)
   all_goals go_ret
   .exact⟨i,0,zF,by simp[JZ],a⟩
   .exact⟨i,1,zF,by simp[JZ],a⟩
  .simp only[ptr]at b;obtain b|b:=b
   .have a:=λx (e:x=_)=>Uz hn (Eq.trans e (bf6 (K:=K) b).symm)
    rw[b]at j;have k:=ba5 w (x:=g);have c:=λm=>YO m w K g h n
    gi_enter func55,ntmps55;gi_wp2_with (gi_at_call 270;refine(c _).mono ?_;rintro e w1 ⟨i,x,rfl,d⟩;have a:=a _ d.out;clear d;cases x)
    all_goals go_ret
    .exact⟨i,0,zF,by simp[JZ],a⟩
    .exact⟨i,1,zF,by simp[JZ],a⟩
   .have a:=λx (e:x=_)=>Uz hn (Eq.trans e (bf7 (K:=K) b).symm)
    rw[b]at j;have k:=ba6 w (x:=g);have c:=λm=>Zb m w K g h n
    gi_enter func55,ntmps55;gi_wp2_with (gi_at_call 265;refine(c _).mono ?_;rintro e w1 ⟨i,x,rfl,d⟩;have a:=a _ d.out;clear d;cases x)
    all_goals go_ret
    .exact⟨i,0,zF,by simp[JZ],a⟩
    .exact⟨i,1,zF,by simp[JZ],a⟩
end
def BN (T T':Tag) (w w':o_):Prop:=Dh T T' (λt=>t≠(0,0)) (λ_=>True) w w'
section
variable {T T' T'':Tag} {Q N:Nat×Nat->Prop} {w w' Po:o_} {K:KS} {b:Nat} {r r':PR}
theorem Dh.WB (h:Dh T T' Q N w w') (c:∀t,Q t->t≠(0,0)):BN T T' w w':=h.Px c λ_ _=>trivial
theorem BN.trans (h:BN T T' w w') (c:BN T' T'' w' Po):BN T T'' w Po:=Dh.trans h c
theorem BN.no (h:Ac No w w') (c:∀b,w.heap.size<=b->T b=(0,0)):BN T T w w':=Dh.no h c
theorem BN.then (h:BN T T' w w') (c:Ac No w' Po):BN T T' w Po:=h.trans (BN.no c h.lt)
theorem BN.old (h:BN T T' w w') {o:Obj} (d:w.heap[g]?=some o) (c:T g=(0,0)):w'.heap[g]?=some o:=h.keep.old d (by unfold On;rw[c];simp)
structure PR.Like (r r':PR):Prop where
 en:r'.en=r.en
 im:r'.im=r.im
 fd:r'.fd=r.fd
 Af:r'.Af=r.Af
 fds:r'.fds=r.fds
theorem PAt.GH {T:Tag} {kb:Nat} (h:PAt T w kb b r) (f:r.Like r') (m:r.arr.setIfInBounds i v=r'.arr) (k:LW T w kb b r'.bl):PAt T (w.setCell (S_ b i) v) kb b r':=by
 have d:Ac (On T λt=>t=(6,b)) w (w.setCell (S_ b i) v):=(Ac.refl _ _).setCell _ λ_=>h.t
 refine⟨h.t,?_,λe=>?_,λe=>?_,k.keep d zF,λe=>?_⟩
 .rw[Ap h.o v];unfold PR.obj;rw[m]
 .obtain⟨g,c,a1,a2,a⟩:=h.im (f.en ▸ e);rw[f.im,f.Af];exact⟨g,c,a1,a2.keep d (by unfold On;rw[a];simp),a⟩
 .obtain⟨g,c,a1,a2,a⟩:=h.fd (f.en ▸ e);rw[f.fd,f.fds];exact⟨g,c,a1,a2.keep d (by unfold On;rw[a];simp),a⟩
 .rw[f.im,f.fd,f.Af,f.fds];exact h.no (f.en ▸ e)
theorem AV.GH (h:AV K w) (f:K.ps b=some r) (d:r.Like r') (e:r.arr.setIfInBounds i v=r'.arr) (c:LW K.T w K.kb b r'.bl):AV { K with ps:=C9 K.ps b r' } (w.setCell (S_ b i) v):=by
 have a:=h.ps b r f;exact h.jF (Dh.of ((Ac.refl _ _).setCell _ λ_=>.inl a.t) h.lt) (a.GH d e c)
theorem AV.Ez (h:AV K w) (c:K.ps b=some r):BN K.T K.T w (w.setCell (S_ b i) v):=Dh.of ((Ac.refl _ _).setCell _ λ_=>by unfold On;rw[(h.ps b r c).t];simp) h.lt
theorem AV.hd (h:AV K w):∃d,KC K w d/\Hd 186 w K.kb 0 114 d K.cg K.cc K.core:=let ⟨d,a,c⟩:=h.k;⟨d,c,a,c.c0,h.mc,wB⟩
theorem AV.hds (h:AV K w):∃d,KC K w d/\Hd 188 w K.kb 1 114 d K.sg K.sc K.swap:=let ⟨d,a,c⟩:=h.k;⟨d,c,a,c.c1,h.ms,wB⟩
end
def KS.GZ (K:KS) (l:List (W_)) (g c:Nat):KS:={ K with core:=l,cg:=g,cc:=c,T:=Bg K.T g (2,0) }
def KS.swap' (K:KS) (l:List (W_)) (g c:Nat):KS:={ K with swap:=l,sg:=g,sc:=c,T:=Bg K.T g (3,0) }
def KS.Bi (K:KS) (b:Nat) (r:PR):KS:={ K with ps:=C9 K.ps b r }
section
variable (m:Nat) (w:o_)
theorem cc0 (K:KS) (a n N:Nat) (h:AV K w) (o:Fit N K.core) (q:N<=10000) (s:a+n<=N) (r:K.core.length+1<=N):
  O_ m 91 #[Q_ K.kb,b_ (a:Nat),b_ (n:Nat)] w λe w'=>e=.returned (.tuple #[])/\∃g c,AV (K.GZ (BX K.core a n) g c) w'/\BN K.T (Bg K.T g (2,0)) w w':=by
 obtain⟨l,f,i⟩:=h.hd;refine(cc1 m w K.kb K.cg K.cc a n N 114 l K.core i o q s r).mono ?_;rintro e w' ⟨rfl,d,g,c,b,j⟩;have M:Dh K.T (Bg K.T g (2,0)) (λt=>t=(1,0)\/t=(2,0)) (λt=>t=(2,0)) w w':=Dh.row (d.on (by rintro k _ (rfl|rfl);exact .inl h.tk;exact .inr h.tc)) h.lt (j.imp (λe=>by rw[e];exact h.tc) id) (Rw.lt b.mp) rfl;exact⟨rfl,g,c,h.yx M f b.k b.mp AY,M.WB (by rintro t (rfl|rfl)<;>simp)⟩
theorem bh6 (K:KS) (n N:Nat) (h:AV K w) (o:Fit N K.core) (q:N<=10000) (r:n<=10000):
  O_ m 92 #[Q_ K.kb,b_ (n:Nat)] w λe w'=>e=.returned (Oc (Aq K.core n).1)/\AV { K with core:=(Aq K.core n).2 } w'/\BN K.T K.T w w'/\Ac (ZA K.kb K.cg) w w':=by
 obtain⟨g,b,c⟩:=h.hd;refine(takeC m w K.kb K.cg K.cc n N 114 g K.core c o q r).mono ?_;rintro e w' ⟨rfl,a,d,f⟩;have M:Dh K.T K.T (λt=>t=(1,0)\/t=(2,0)) (λt=>t=(2,0)) w w':=Dh.of (a.on (by rintro k _ (rfl|rfl);exact .inl h.tk;exact .inr h.tc)) h.lt;exact⟨rfl,h.yx M b d f h.tc,M.WB (by rintro t (rfl|rfl)<;>simp),a⟩
theorem ah0 (K:KS) (a n N:Nat) (h:AV K w) (o:Fit N K.swap) (q:N<=10000) (s:a+n<=N) (r:K.swap.length+1<=N):
  O_ m 156 #[.pointer (some (S_ K.kb 1)),b_ (a:Nat),b_ (n:Nat)] w λe w'=>e=.returned (.tuple #[])/\∃g c,AV (K.swap' (BX K.swap a n) g c) w'/\BN K.T (Bg K.T g (3,0)) w w':=by
 obtain⟨l,f,i⟩:=h.hds;refine(cb9 m w K.kb K.sg K.sc a n N 114 l K.swap i o q s r).mono ?_;rintro e w' ⟨rfl,d,g,c,b,j⟩;have M:Dh K.T (Bg K.T g (3,0)) (λt=>t=(1,0)\/t=(3,0)) (λt=>t=(3,0)) w w':=Dh.row (d.on (by rintro k _ (rfl|rfl);exact .inl h.tk;exact .inr h.ts)) h.lt (j.imp (λe=>by rw[e];exact h.ts) id) (Rw.lt b.mp) rfl;exact⟨rfl,g,c,h.yw M f b.k b.mp AY,M.WB (by rintro t (rfl|rfl)<;>simp)⟩
theorem af8 (K:KS) (n N:Nat) (h:AV K w) (o:Fit N K.swap) (q:N<=10000) (r:n<=10000):
  O_ m 89 #[.pointer (some (S_ K.kb 1)),b_ (n:Nat)] w λe w'=>e=.returned (Oc (Aq K.swap n).1)/\AV { K with swap:=(Aq K.swap n).2 } w'/\BN K.T K.T w w'/\Ac (ZA K.kb K.sg) w w':=by
 obtain⟨g,b,c⟩:=h.hds;refine(bh5 m w K.kb K.sg K.sc n N 114 g K.swap c o q r).mono ?_;rintro e w' ⟨rfl,a,d,f⟩;have M:Dh K.T K.T (λt=>t=(1,0)\/t=(3,0)) (λt=>t=(3,0)) w w':=Dh.of (a.on (by rintro k _ (rfl|rfl);exact .inl h.tk;exact .inr h.ts)) h.lt;exact⟨rfl,h.yw M b d f h.ts,M.WB (by rintro t (rfl|rfl)<;>simp),a⟩
theorem AV.im8 {K:KS} {w:o_} {r:PR} (h:AV K w) (f:K.ps b=some r):∃a c,w.cell? (S_ b 8)=some (.slice a r.Af.length c):=by
 have q:=h.Il f 8;cases hn:r.en with
 |true=>
  obtain⟨d,_,e,_⟩:=(h.ps b r f).no hn
  exact⟨none,0,by rw[q,e];simp[PR.arr,d]⟩
 |false=>
  obtain⟨g,c,d,_⟩:=(h.ps b r f).im hn
  exact⟨some (R_ g),c,by rw[q];simp[PR.arr,d]⟩
theorem uo (K:KS) (b:Nat) (r:PR) (h:AV K w) (d:K.ps b=some r) (c:r.co=-1):
  O_ m 52 #[Q_ K.kb,Q_ b] w λe w'=>e=.returned (.tuple #[])/\Ac No w w':=by
 have q:=h.Il d 11;simp[PR.arr,c]at q;gi_enter func52,ntmps52;gi_wp2;refine bodyPost_ret (results_none rfl _ _ _) rfl ?_;exact⟨zF,Ac.refl _ _⟩
theorem mY (K:KS) (b a N:Nat) (r:PR) (h:AV K w) (y:K.ps b=some r) (z:r.co=a) (A:Fit N K.core) (B:N<=10000) (D:a+Ai r.Af.length<=N) (C:K.core.length+1<=N) (E:r.Af.length<1000):
  O_ m 52 #[Q_ K.kb,Q_ b] w λe w'=>e=.returned (.tuple #[])/\∃g c,AV ((K.GZ (BX K.core a (Ai r.Af.length)) g c).Bi b { r with co:=-1 }) w'/\BN K.T (Bg K.T g (2,0)) w w':=by
 have q:=h.Il y 11;simp[PR.arr,z]at q;obtain⟨t,u,j⟩:=h.im8 y;have s:((a:Int)==-1)=false:=zF
 gi_enter func52,ntmps52;gi_wp2;refine BP 9 22 ?_;gi_wp2_with (gi_at_call 58;refine(EZ _ w.drew b _ _ _ j zD).mono ?_;rintro e w1 ⟨rfl,rfl⟩);refine Eb ?_ ?_
 .intro W f;have l:=f.has (w:=w.drew) q;have n:=f.has (w:=w.drew) j
  repeat' (refine Au ?_ ?_)
  all_goals first|exact eu|gi_wp2_with (gi_at_call 58;refine(EZ _ W b _ _ _ n zD).mono ?_;rintro e w1 ⟨rfl,rfl⟩)
 .intro W f;have KW:Ac No w W:=(Ac.refl No w).drew.then f;have p:=h.no KW;gi_wp2_with fail;refine(cc0 _ W K a (Ai r.Af.length) N p A B D C).mono ?_;rintro e w2 ⟨rfl,g,c,d,k⟩;have i:=d.Il y 11;simp[PR.arr,z]at i;have o:=d.jy y 11;gi_wp2;go_end0;exact⟨zF,g,c,d.GH (r':={ r with co:=-1 }) y ⟨rfl,rfl,rfl,rfl,rfl⟩ rfl (d.ps b r y).bl,((BN.no KW h.lt).trans k).trans (d.Ez y)⟩
end
def IP (f:Nat->Nat):Nat->Nat
 |0=>0
 |n+1=>f n+IP f n
theorem Tu {f g:Nat->Nat}:∀{n:Nat},(∀i,i<n->f i=g i)->IP f n=IP g n
 |0,_=>rfl
 |n+1,h=>by simp only[IP];rw[h n zD,Tu λi a=>h i zD]
theorem NI (f g:Nat->Nat):∀n:Nat,IP (λi=>f i+g i) n=IP f n+IP g n
 |0=>rfl
 |n+1=>by simp only[IP];rw[NI f g n];omega
theorem MR:∀n:Nat,IP (λ_=>0) n=0
 |0=>rfl
 |n+1=>by simp only[IP];rw[MR n]
theorem Yf:∀n:Nat,IP (λ_=>1) n=n
 |0=>rfl
 |n+1=>by simp only[IP];rw[Yf n];omega
theorem bf (a n:Nat):∀N:Nat,IP (λi=>OU i a n) N=min N (a+n)-min N a
 |0=>by simp[IP]
 |N+1=>by
  simp only[IP]
  rw[bf a n N]
  unfold OU
  split<;>omega
theorem Qy (h:a+n<=N):IP (λi=>OU i a n) N=n:=by rw[bf];omega
theorem Yg {N:Nat}:∀{l:List (W_)},Sound N l->IP (λi=>D5 i l) N=Ht l
 |[],_=>by simp only[D5,Ht];exact MR N
 |r::l,h=>by
  simp only[D5,Ht]
  rw[NI (λi=>OU i r.1 r.2) (λi=>D5 i l),Qy (h r zF).2,Yg λx a=>h x (by simp[a])]
theorem Vs (f:Nat->Nat->Nat) (N:Nat):∀L:List Nat,IP (λi=>BK (f i) L) N=BK (λb=>IP (λi=>f i b) N) L
 |[]=>by simp only[BK];exact MR N
 |b::L=>by
  simp only[BK]
  rw[NI (λi=>f i b) (λi=>BK (f i) L),Vs f N L]
def inC (ps:Nat->d_ PR) (b:Nat):Nat:=match ps b with|some r=>if r.co=-1 then 0 else Ai r.Af.length|none=>0
def onS (ps:Nat->d_ PR) (b:Nat):Nat:=match ps b with|some r=>Ai r.Af.length|none=>0
theorem ap5 {ps:Nat->d_ PR} {r:PR} (h:ps b=some r):inC ps b=if r.co=-1 then 0 else Ai r.Af.length:=by unfold inC;rw[h]
def FX (i:Nat) (ps:Nat->d_ PR) (b:Nat):Nat:=match ps b with|some r=>if r.co=-1 then 0 else OU i r.co.toNat (Ai r.Af.length)|none=>0
def Nr (i:Nat) (ps:Nat->d_ PR) (b:Nat):Nat:=match ps b with|some r=>OU i r.sw (Ai r.Af.length)|none=>0
theorem aj9 {ps:Nat->d_ PR} (h:∀r,ps b=some r->r.co=-1\/∃a:Nat,r.co=a/\a+Ai r.Af.length<=N):IP (λi=>FX i ps b) N=inC ps b:=by
 unfold FX inC;cases hb:ps b with
 |none=>simp only;exact MR N
 |some r=>
  simp only
  obtain e|⟨a,e,c⟩:=h r hb
  .simp only[e,if_true];exact MR N
  .simp only[e,Int.toNat_natCast];rw[ru zD];have:∀i:Nat,(if(a:Int)=-1 then 0 else OU i a (Ai r.Af.length))=OU i a (Ai r.Af.length):=λi=>ru zD
   simp only[this];exact Qy c
theorem aj8 {ps:Nat->d_ PR} (h:∀r,ps b=some r->r.sw+Ai r.Af.length<=N):IP (λi=>Nr i ps b) N=onS ps b:=by
 unfold Nr onS;cases hb:ps b with
 |none=>simp only;exact MR N
 |some r=>simp only;exact Qy (h r hb)
theorem ng {K:KS} (f:Sound N K.core) (d:∀b r,K.ps b=some r->r.co=-1\/∃a:Nat,r.co=a/\a+Ai r.Af.length<=N) (c:a+n<=N)
  (h:∀i,i<N->D5 i K.core+BK (FX i K.ps) K.Aw+OU i a n=1):Ht K.core+BK (inC K.ps) K.Aw+n=N:=by
 have e:=Tu (n:=N) h;rw[Yf,NI (λi=>D5 i K.core+BK (FX i K.ps) K.Aw) (λi=>OU i a n),NI (λi=>D5 i K.core) (λi=>BK (FX i K.ps) K.Aw),Yg f,Qy c,Vs (λi b=>FX i K.ps b)]at e;rw[BO (g:=inC K.ps) λb _=>aj9 (d b)]at e;exact e
theorem mZ {K:KS} (f:Sound N K.swap) (d:∀b r,K.ps b=some r->r.sw+Ai r.Af.length<=N) (c:a+n<=N)
  (h:∀i,i<N->D5 i K.swap+BK (Nr i K.ps) K.Aw+OU i a n=1):Ht K.swap+BK (onS K.ps) K.Aw+n=N:=by
 have e:=Tu (n:=N) h;rw[Yf,NI (λi=>D5 i K.swap+BK (Nr i K.ps) K.Aw) (λi=>OU i a n),NI (λi=>D5 i K.swap) (λi=>BK (Nr i K.ps) K.Aw),Yg f,Qy c,Vs (λi b=>Nr i K.ps b)]at e;rw[BO (g:=onS K.ps) λb _=>aj8 (d b)]at e;exact e
theorem lD {ps:Nat->d_ PR} {r:PR} (h:ps b=some r):onS ps b=Ai r.Af.length:=by unfold onS;rw[h]
theorem Ej {ps:Nat->d_ PR} {r:PR} (h:ps b=some r):FX i ps b=if r.co=-1 then 0 else OU i r.co.toNat (Ai r.Af.length):=by unfold FX;rw[h]
theorem Jc {ps:Nat->d_ PR} {r:PR} (h:ps b=some r):Nr i ps b=OU i r.sw (Ai r.Af.length):=by unfold Nr;rw[h]
theorem SY (i a:Nat):OU i a 0=0:=ru zD
theorem rW (c:a<=i) (d:i<a+n):OU i a n=1:=rC ⟨c,d⟩
structure BU (N:Nat) (x:W_) (K:KS):Prop where
 le:16<=N/\N<=1000
 so:Sound N K.core
 ϱ:Zu K.core
 xl:x.1+x.2<=N
 cnt:∀i,i<N->D5 i K.core+BK (FX i K.ps) K.Aw+OU i x.1 x.2=1
 pl:∀b r,K.ps b=some r->r.Af.length<=128/\(r.co=-1\/∃a:Nat,r.co=a/\a+Ai r.Af.length<=N/\1<=Ai r.Af.length)
theorem BU.sum {K:KS} (h:BU N x K):Ht K.core+BK (inC K.ps) K.Aw+x.2=N:=ng h.so (λb r e=>(h.pl b r e).2.imp id λ⟨a,c,d,_⟩=>⟨a,c,d⟩) h.xl h.cnt
theorem BU.fit {K:KS} (h:BU N x K):Fit N K.core:=h.so.fit (by have:=h.sum;omega)
theorem BU.same {K K':KS} (h:BU N x K) (d:K'.core=K.core) (f:∀i,BK (FX i K'.ps) K'.Aw=BK (FX i K.ps) K.Aw) (e:∀b r,K'.ps b=some r->r.Af.length<=128/\(r.co=-1\/∃a:Nat,r.co=a/\a+Ai r.Af.length<=N/\1<=Ai r.Af.length)):BU N x K':=
 ⟨h.le,by rw[d];exact h.so,by rw[d];exact h.ϱ,h.xl,λi c=>by rw[d,f];exact h.cnt i c,e⟩
structure BR (K K':KS):Prop where
 eq:K'={ K with core:=K'.core,cg:=K'.cg,cc:=K'.cc,T:=K'.T,ps:=K'.ps }
 ps:∃f:Nat->Int,∀b,K'.ps b=(K.ps b).map λr=>{ r with co:=f b }
theorem BR.refl (K:KS):BR K K:=⟨rfl,λb=>match K.ps b with|some r=>r.co|none=>0,λb=>by cases h:K.ps b<;>simp[h]⟩
theorem BR.trans {K K' K'':KS} (h:BR K K') (c:BR K' K''):BR K K'':=by
 obtain⟨e1,f,a⟩:=h;obtain⟨e2,g,p2⟩:=c;refine⟨?_,g,λb=>?_⟩
 .rw[e2,e1]
 .rw[p2,a];cases K.ps b<;>rfl
theorem BR.take {K:KS}:BR K { K with core:=l }:=⟨rfl,(BR.refl K).ps⟩
theorem BR.Aw {K K':KS} (h:BR K K'):K'.Aw=K.Aw:=by rw[h.eq]
theorem BR.kb {K K':KS} (h:BR K K'):K'.kb=K.kb:=by rw[h.eq]
theorem BR.there {K K':KS} (h:BR K K') (e:K.EJ):K'.EJ:=by
 intro b a;rw[h.Aw]at a;obtain⟨r,d⟩:=e b a;obtain⟨f,c⟩:=h.ps;exact⟨_,by rw[c,d];rfl⟩
theorem BR.set {K:KS} {r:PR} (d:K.ps b=some r) (c:Int):BR K (K.Bi b { r with co:=c }):=by
 refine⟨rfl,λk=>if k=b then c else match K.ps k with|some r=>r.co|none=>0,λk=>?_⟩;show C9 K.ps b _ k=_;by_cases e:k=b
 .subst e;rw[Aj,d];simp
 .rw[BH e];cases h:K.ps k<;>simp[e,h]
theorem BU.out {c:Nat} {K:KS} {r:PR} (h:BU N x K) (C:K.ps b=some r) (D:b∈K.Aw) (E:K.Aw.Nodup) (B:r.co=a):a+Ai r.Af.length<=N/\K.core.length+1<=N/\BU N x ((K.GZ (BX K.core a (Ai r.Af.length)) g c).Bi b { r with co:=-1 }):=by
 obtain⟨w,p2⟩:=h.pl b r C;obtain⟨m,e1,e2,e3⟩:=p2.resolve_left (by rw[B];omega);obtain rfl:a=m:=zD
 have l:inC K.ps b=Ai r.Af.length:=by rw[ap5 C,ru (by rw[B];omega)]
 have v:=Oe (f:=inC K.ps) D;have A:=h.sum;have z:=h.so.len;have n:=QO h.so e3 e2;have j:∀i,FX i K.ps b=OU i a (Ai r.Af.length):=λi=>by rw[Ej C,ru (by rw[B];omega),B];rfl
 refine⟨e2,zD,h.le,n.1,Yi e3 h.so h.ϱ λy p s=>?_,h.xl,λi l=>?_,λk q d=>?_⟩
 .have t:=h.cnt y zD;have u:=Oe (f:=FX y K.ps) D;rw[j,rW p s]at u;omega
 .show D5 i (BX K.core a (Ai r.Af.length))+BK (FX i (C9 K.ps b _)) K.Aw+_=1;have:=Jt (f:=FX i (C9 K.ps b { r with co:=-1 })) (g:=FX i K.ps) E D λk d=>by unfold FX;rw[BH d]
  have o:FX i (C9 K.ps b { r with co:=-1 }) b=0:=by rw[Ej Aj];simp
  have t:=h.cnt i l;rw[VI e3];rw[j,o]at this;omega
 .have d:C9 K.ps b _ k=some q:=d;by_cases e:k=b
  .subst e;rw[Aj]at d;cases d;exact⟨w,.inl rfl⟩
  .rw[BH e]at d;exact h.pl k q d
theorem BU.in {K:KS} {r:PR} (h:BU N (a,n) K) (o:K.ps b=some r) (u:b∈K.Aw) (t:K.Aw.Nodup) (s:r.co=-1) (w:n=Ai r.Af.length) (y:1<=n) (z:a+n<=N):BU N (0,0) (K.Bi b { r with co:=a }):=by
 refine⟨h.le,h.so,h.ϱ,Nat.zero_le _,λi j=>?_,λk q c=>?_⟩
 .show D5 i K.core+BK (FX i (C9 K.ps b _)) K.Aw+OU i 0 0=1;have:=Jt (f:=FX i (C9 K.ps b { r with co:=a })) (g:=FX i K.ps) t u λk c=>by unfold FX;rw[BH c]
  have m:FX i K.ps b=0:=by rw[Ej o,rC s]
  have l:FX i (C9 K.ps b { r with co:=a }) b=OU i a n:=by rw[Ej Aj,w];exact ru zF
  have d:=h.cnt i j;simp only at d;rw[SY];omega
 .have c:C9 K.ps b _ k=some q:=c;by_cases e:k=b
  .subst e;rw[Aj]at c;cases c;exact⟨(h.pl _ _ o).1,.inr ⟨a,rfl,by simp only;omega,by simp only;omega⟩⟩
  .rw[BH e]at c;exact h.pl k q c
theorem BU.take {K:KS} (h:BU N (0,0) K):((Aq K.core n).1=none->BU N (0,0) { K with core:=(Aq K.core n).2 })/\∀a,(Aq K.core n).1=some a->BU N (a,n) { K with core:=(Aq K.core n).2 }/\a+n<=N/\1<=n:=by
 obtain⟨g,j,k⟩:=Jf (n:=n) h.so;refine⟨λe=>?_,λa e=>?_⟩
 .rw[j e];exact h
 .obtain⟨m,b,f⟩:=k a e;refine⟨⟨h.le,g,Yh h.ϱ,b,λi d=>?_,h.pl⟩,b,f⟩;show D5 i (Aq K.core n).2+BK (FX i K.ps) K.Aw+OU i a n=1;have l:=Q9 e i;have c:=h.cnt i d;rw[SY]at c;omega
theorem BU.room {K:KS} (h:BU N (0,0) K) (m:∀b∈K.Aw,∀r,K.ps b=some r->r.co=-1) (o:1<=n) (k:n<=N):(Aq K.core n).1≠none:=by
 have e:=ax1 (N:=N) zD h.so h.ϱ λi d=>by
  have a:=h.cnt i d
  have j:BK (FX i K.ps) K.Aw=0:=by
   rw[BO (g:=λ_=>0) λb c=>?_]
   .generalize K.Aw=l
    induction l with
    |nil=>rfl
    |cons b l f=>simp only[BK,f]
   .unfold FX;cases hb':K.ps b with
    |none=>rfl
    |some r=>simp only;rw[rC (m b c r hb')]
  rw[SY]at a;omega
 rw[e];unfold Aq;rw[ru zD];simp[List.findIdx?_cons,k]
theorem uu (h:(Aq l n).1=none):(Aq l n).2=l:=by
 unfold Aq at h ⊢;split
 .rfl
 .rename_i b;rw[ru b]at h;split
  .rfl
  .rename_i i a;rw[a]at h;simp only at h;split
   .rfl
   .rename_i r c;rw[c]at h;cases h
def dW (b:Nat) (K K':KS):Prop:=∃r,K.ps b=some r/\((r.co=-1/\K'=K)\/∃a g c:Nat,r.co=a/\K'=(K.GZ (BX K.core a (Ai r.Af.length)) g c).Bi b { r with co:=-1 })
section
variable (m:Nat) (w:o_)
theorem Q8 (K:KS) (b N:Nat) (x:W_) (r:PR) (h:AV K w) (s:K.ps b=some r) (y:b∈K.Aw) (u:K.Aw.Nodup) (t:BU N x K):
  O_ m 52 #[Q_ K.kb,Q_ b] w λe w'=>e=.returned (.tuple #[])/\∃K',AV K' w'/\BR K K'/\BU N x K'/\BN K.T K'.T w w'/\K'.ps b=some { r with co:=-1 }/\(∀k q,K.ps k=some q->q.co=-1->K'.ps k=some q)/\dW b K K':=by
 obtain⟨p,p2⟩:=t.pl b r s;by_cases d:r.co=-1
 .refine(uo m w K b r h s d).mono ?_;rintro e w' ⟨rfl,j⟩;exact⟨rfl,K,h.no j,BR.refl K,t,BN.no j h.lt,by rw[s,<-d],λ_ _ h _=>h,r,s,.inl ⟨d,rfl⟩⟩
 .obtain⟨a,e1,e2,e3⟩:=p2.resolve_left d;have n:=t.le.2;have i:=λg c=>t.out (g:=g) (c:=c) s y u e1
  refine(mY m w K b a N r h s e1 t.fit zD (i 0 0).1 (i 0 0).2.1 zD).mono ?_;rintro e w' ⟨rfl,g,c,l,M⟩;refine⟨rfl,_,l,?_,(i g c).2.2,M,Aj,λk q f o=>?_,r,s,.inr ⟨a,g,c,e1,rfl⟩⟩
  .exact BR.trans (K':=K.GZ (BX K.core a (Ai r.Af.length)) g c) ⟨rfl,(BR.refl K).ps⟩ (BR.set (K:=K.GZ (BX K.core a (Ai r.Af.length)) g c) s (-1))
  .have:k≠b:=(by rintro rfl;rw[s]at f;cases f;exact d o);exact(BH this).trans f
end
def tA (o:d_ Nat):n_:=b_ (o.getD 0:Nat)
def tB (o:d_ Nat):n_:=.bool o.isSome
theorem Uw (o:d_ Nat):Oc o=.tuple #[tA o,tB o]:=by cases o<;>rfl
def bk3 (K:KS) (n:Nat) (w1:o_) (v:n_) (W:o_):Prop:=v=.tuple #[tA (Aq K.core n).1,tB (Aq K.core n).1]/\AV { K with core:=(Aq K.core n).2 } W/\BN K.T K.T w1 W
section
variable (m:Nat) (w:o_)
def xU (K:KS) (j:Nat):Prop:=∀i b q,i<j->K.Aw[i]?=some b->K.ps b=some q->q.co=-1
def TQ (K:KS) (n:Nat):Nat->KS->Prop
 |0,K'=>K'=K
 |j+1,K'=>∃K1 b,TQ K n j K1/\(Aq K1.core n).1=none/\K.Aw[j]?=some b/\dW b K1 K'
def Ϭ (b:Nat) (K K':KS):Prop:=∃r,K.ps b=some r/\((r.co≠-1/\K'=K)\/(r.co=-1/\∃j Kj,TQ K (Ai r.Af.length) j Kj/\(((Aq Kj.core (Ai r.Af.length)).1=none/\j=K.Aw.length/\K'={ Kj with core:=(Aq Kj.core (Ai r.Af.length)).2 })\/∃a:Nat,(Aq Kj.core (Ai r.Af.length)).1=some a/\K'=KS.Bi { Kj with core:=(Aq Kj.core (Ai r.Af.length)).2 } b { r with co:=a })))
def Ub (K:KS) (w:o_) (b N:Nat) (r:PR) (o:d_ Nat) (j:Nat) (wr:o_):Prop:=∃K1,AV K1 wr/\BR K K1/\BN K.T K1.T w wr/\K1.ps b=some r/\BU N (match o with|none=>(0,0)|some a=>(a,Ai r.Af.length)) K1/\(∀a,o=some a->a+Ai r.Af.length<=N/\1<=Ai r.Af.length)/\(o=none->(Aq K1.core (Ai r.Af.length)).1=none/\xU K1 j)/\ag (∃Kj,TQ K (Ai r.Af.length) j Kj/\o=(Aq Kj.core (Ai r.Af.length)).1/\K1={ Kj with core:=(Aq Kj.core (Ai r.Af.length)).2 })
theorem Ub.of {K K1:KS} {w wr W:o_} {r:PR} (h:BR K K1) (s:BN K.T K1.T w wr) (k:K1.ps b=some r) (d:BU N (0,0) K1) (f:AV { K1 with core:=(Aq K1.core (Ai r.Af.length)).2 } W) (c:BN K1.T K1.T wr W) (o:xU K1 j) (q:TQ K (Ai r.Af.length) j K1):Ub K w b N r (Aq K1.core (Ai r.Af.length)).1 j W:=by
 have t:=d.take (n:=Ai r.Af.length);refine⟨_,f,h.trans BR.take,s.trans c,k,?_,λa e=>(t.2 a e).2,λe=>⟨?_,o⟩,K1,q,rfl,rfl⟩
 .cases e:(Aq K1.core (Ai r.Af.length)).1 with
  |none=>exact t.1 e
  |some a=>exact(t.2 a e).1
 .show(Aq (Aq K1.core (Ai r.Af.length)).2 (Ai r.Af.length)).1=none;rw[(Jf d.so).2.1 e,e]
theorem Ub.never {K1:KS} (k:BU N (0,0) K1) (q:(Aq K1.core n).1=none) (o:xU K1 j) (t:K1.Aw.length<=j) (h:16<=N) (f:1<=n) (s:n<=16):False:=by
 refine k.room (λb a r d=>?_) f zD q;obtain⟨i,c,e⟩:=List.mem_iff_getElem.1 a;exact o i b r zD (by rw[List.getElem?_eq_getElem c,e]) d
def XZ (N b:Nat) (r:PR) (K:KS):Prop:=16<=N->1<=Ai r.Af.length->∃q,K.ps b=some q/\q.co≠-1
theorem Zc (K:KS) (b N:Nat) (r:PR) (h:AV K w) (hT:K.EJ) (hb:K.ps b=some r) (hm:b∈K.Aw) (hN:K.Aw.Nodup) (hC:BU N (0,0) K) (hl:K.Aw.length<=100):
  (O_ m 53 #[Q_ K.kb,Q_ b] w λe w'=>e=.returned (.tuple #[])/\∃K',AV K' w'/\BR K K'/\BU N (0,0) K'/\BN K.T K'.T w w'/\XZ N b r K'/\Ϭ b K K')/\∀u,CallsDIn NF m prog 53 #[Q_ K.kb,Q_ b] u w λe u' w'=>u'=u/\(e=.returned (.tuple #[])/\∃K',AV K' w'/\BR K K'/\BU N (0,0) K'/\BN K.T K'.T w w'/\XZ N b r K'/\Ϭ b K K'):=by
 refine⟨?_,λu=>?_⟩
 all_goals
  have q:=h.Il hb 11
  simp[PR.arr]at q
  have hP:=hC.pl b r hb
  have hle:=hC.le.2
  by_cases x:r.co=-1
  .rw[x]at q;obtain⟨a8,c8,q8⟩:=h.im8 hb
   first|gi_enter func53,ntmps53|gi_enter_d func53,ntmps53
   gi_wp2;have h0:AV K w.drew:=h.no (Ac.refl No w).drew;have bk:b≠K.kb:=λe=>by have:=(h.ps b r hb).t;rw[e,h.tk]at this;simp at this
   have bc:b≠K.cg:=λe=>by have:=(h.ps b r hb).t;rw[e,h.tc]at this;simp at this
   refine Dl (P:=prog) _ rfl rfl sJ 10 57 [0,1,2,3,4] [5,6,7,8,9] sJ (by rfl)
    (Oa (ZA K.kb K.cg) w.drew 5 (bk3 K (Ai r.Af.length) w.drew) [(6,.tuple #[tA (Aq K.core (Ai r.Af.length)).1,tB (Aq K.core (Ai r.Af.length)).1]),(7,tA (Aq K.core (Ai r.Af.length)).1),(8,tB (Aq K.core (Ai r.Af.length)).1),(9,tA (Aq K.core (Ai r.Af.length)).1)]) (F7 zF zF) _ _ rfl rfl ?_;gi_wp2_with (gi_at_call 58;refine(EZ _ w.drew b _ _ _ q8 zD).mono ?_;rintro e w1 ⟨rfl,rfl⟩);refine⟨rfl,sJ,Em,?_,?_,?_⟩
   .intro S u W d;have d8:=(d.1.cell (w:=w.drew) (p:=(S_ b 8)) (h.plt hb) (by rintro(h|h)<;>contradiction)).trans q8
    repeat' (refine Au ?_ ?_)
    all_goals first|exact eu|gi_wp2_with (gi_at_call 58;refine(EZ _ W b _ _ _ d8 zD).mono ?_;rintro e w1 ⟨rfl,rfl⟩)
   .intro i O S u W d H A;obtain rfl|rfl|rfl|rfl|rfl:=(by simpa using O:i=5\/i=6\/i=7\/i=8\/i=9)
    .obtain rfl:=d.2.1 H;refine BC rfl λKK Nc=>?_
     show wpListIn NF m prog _ _ _ (Act.put (Act.put (Act.put (Act.put (Act.put _ (some 18) (u 5)) (some 12) (u 6)) (some 19) (u 7)) (some 20) (u 8)) (some 4) (u 9)) _;gi_wp2_with fail;refine(bh6 _ w.drew K (Ai r.Af.length) N h0 hC.fit zD (by unfold Ai;omega)).mono ?_;rintro e w1 ⟨rfl,g,M,l⟩;rw[Uw];gi_wp2;exact⟨_,rfl,F8 d zF l ⟨rfl,g,M⟩⟩
    .have y:=(d.2.2.1 (A 5 zF wB)).1;exact jT rfl rfl rfl ⟨_,rfl,FP d wB y zF⟩
    .have j:=d.2.2.2 (6,.tuple #[tA (Aq K.core (Ai r.Af.length)).1,tB (Aq K.core (Ai r.Af.length)).1]) zF (A 6 zF wB);exact RX rfl rfl rfl j rfl ⟨_,rfl,Gi d wB zF⟩
    .have j:=d.2.2.2 (6,.tuple #[tA (Aq K.core (Ai r.Af.length)).1,tB (Aq K.core (Ai r.Af.length)).1]) zF (A 6 zF wB);exact RX rfl rfl rfl j rfl ⟨_,rfl,Gi d wB zF⟩
    .have v:=d.2.2.2 (7,tA (Aq K.core (Ai r.Af.length)).1) zF (A 7 zF wB);exact jU rfl rfl rfl ⟨_,rfl,FP d wB v zF⟩
   .intro S u W d s;obtain⟨y,g,M⟩:=d.2.2.1 (s 5 zF);have D:=d.2.2.2 (8,tB (Aq K.core (Ai r.Af.length)).1) zF (s 8 zF);have E:=d.2.2.2 (9,tA (Aq K.core (Ai r.Af.length)).1) zF (s 9 zF);have j:=d.2.2.2 (6,.tuple #[tA (Aq K.core (Ai r.Af.length)).1,tB (Aq K.core (Ai r.Af.length)).1]) zF (s 6 zF);have v:=d.2.2.2 (7,tA (Aq K.core (Ai r.Af.length)).1) zF (s 7 zF);simp only at j v D E;show wpListIn NF m prog _ _ _ (Act.put (Act.put (Act.put (Act.put (Act.put _ (some 18) (u 5)) (some 12) (u 6)) (some 19) (u 7)) (some 20) (u 8)) (some 4) (u 9)) _;rw[y,j,v,D,E];have s0:Ub K w b N r (Aq K.core (Ai r.Af.length)).1 0 W:=Ub.of (BR.refl K) (BN.no (Ac.refl No w).drew h.lt) hb hC g M (λi _ _ O=>ql O zD) rfl;clear d y j v D E g M s;generalize (Aq K.core (Ai r.Af.length)).1=o at s0;gi_wp2;gi_loopw [4,5,6] (λa5 a6 i wr=>∃(o:d_ Nat) (k:Nat),a5=tA o/\a6=tB o/\i=b_ k/\k<=K.Aw.length/\Ub K w b N r o k wr) (λ_ _ i _=>K.Aw.length-(intOf i).toNat)
    case atStart=>exact⟨o,0,rfl,rfl,rfl,zD,s0⟩
    case round=>
     obtain⟨o,k,rfl,rfl,rfl,hk,l,g,I,hv,B,n,ho,hz,hX⟩:=hrel
     have q2:=g.kc2
     have F:l.kb=K.kb:=I.kb
     have Q:l.Aw=K.Aw:=I.Aw
     rw[F,Q]at q2
     have c11:=g.Il B 11
     simp[PR.arr,x]at c11
     have f11:=g.jy B 11
     cases o with
     |some a=>
      obtain⟨ha,L⟩:=ho a rfl
      simp only[tA,tB,Option.getD_some,Option.isSome_some]
      gi_wp2
      go_end0
      refine⟨zF,l.Bi b { r with co:=a },g.GH (r':={ r with co:=a }) B ⟨rfl,rfl,rfl,rfl,rfl⟩ rfl (g.ps b r B).bl,I.trans (BR.set B a),?_,hv.trans (g.Ez B),λ_ _=>⟨_,Aj,by show((a:Nat):Int)≠-1;omega⟩,r,hb,.inr ⟨x,?_⟩⟩
      rotate_left
      .obtain⟨C,x1,x2,x3⟩:=hX.out;exact⟨k,C,x1,.inr ⟨a,x2.symm,by rw[x3]⟩⟩
      exact BU.in n B (by rw[Q];exact hm) (by rw[Q];exact hN) x rfl L ha
     |none=>
      have n:BU N (0,0) l:=n
      obtain⟨Z,hz2⟩:=hz rfl
      simp only[tA,tB,Option.getD_none,Option.isSome_none]
      by_cases BL:k<K.Aw.length
      .have hg:K.Aw[k]?=some K.Aw[k]:=IG BL;generalize K.Aw[k]=b' at hg;have z:l.Aw[k]?=some b':=(by rw[Q];exact hg);obtain⟨r',Hq⟩:=AV.mem (I.there hT) z;have d0:=g.jS z;simp only[ptr]at d0;have ct:=λm=>Q8 m wr l b' N (0,0) r' g Hq (t_ z) (by rw[Q];exact hN) n
       rw[F]at ct;gi_wp2_with (gi_at_call 52;refine(ct _).mono ?_;rintro e w2 ⟨rfl,f,G,J,U,hv2,hbk,Xv,V⟩);have hz3:xU f (k+1):=λi c q O X hq=>by
        rw[J.Aw]at X
        by_cases e:i=k
        .subst e;rw[z]at X;cases X;rw[hbk]at hq;cases hq;rfl
        .obtain⟨q1,Y⟩:=AV.mem (I.there hT) X;have:=hz2 i c q1 zD X Y;rw[Xv c q1 Y this]at hq;cases hq;exact this
       have R:=Xv b r B x;have hSk:TQ K (Ai r.Af.length) (k+1) f:=by
        obtain⟨C,x1,x2,x3⟩:=hX.out
        have e0:(Aq C.core (Ai r.Af.length)).2=C.core:=uu x2.symm
        have e1:l=C:=by rw[x3,e0]
        exact⟨l,b',by rw[e1];exact x1,Z,hg,V⟩
       clear hX V;have qA:f.kb=K.kb:=J.kb.trans F;obtain⟨b8,c8',p8⟩:=G.im8 R;have h20:AV f w2.drew:=G.no (Ac.refl No w2).drew;have bk2:b≠f.kb:=λe=>by have:=(G.ps b r R).t;rw[e,G.tk]at this;simp at this
       have bc2:b≠f.cg:=λe=>by have:=(G.ps b r R).t;rw[e,G.tc]at this;simp at this
       refine Dl (P:=prog) _ rfl rfl sJ 10 57 [0,1,2,3,4] [5,6,7,8,9] sJ (by rfl)
        (Oa (ZA f.kb f.cg) w2.drew 5 (bk3 f (Ai r.Af.length) w2.drew) [(6,.tuple #[tA (Aq f.core (Ai r.Af.length)).1,tB (Aq f.core (Ai r.Af.length)).1]),(7,tA (Aq f.core (Ai r.Af.length)).1),(8,tB (Aq f.core (Ai r.Af.length)).1),(9,tA (Aq f.core (Ai r.Af.length)).1)]) (F7 zF zF) _ _ rfl rfl ?_;gi_wp2_with (gi_at_call 58;refine(EZ _ w2.drew b _ _ _ p8 zD).mono ?_;rintro e w1 ⟨rfl,rfl⟩);refine⟨rfl,sJ,Em,?_,?_,?_⟩
       .intro S u W d;have d8:=(d.1.cell (w:=w2.drew) (p:=(S_ b 8)) (G.plt R) (by rintro(h|h)<;>contradiction)).trans p8
        repeat' (refine Au ?_ ?_)
        all_goals first|exact eu|gi_wp2_with (gi_at_call 58;refine(EZ _ W b _ _ _ d8 zD).mono ?_;rintro e w1 ⟨rfl,rfl⟩)
       .intro i O S u W d H A;obtain rfl|rfl|rfl|rfl|rfl:=(by simpa using O:i=5\/i=6\/i=7\/i=8\/i=9)
        .obtain rfl:=d.2.1 H;refine BC rfl λKK Nc=>?_
         show wpListIn NF m prog _ _ _ (Act.put (Act.put (Act.put (Act.put (Act.put _ (some 49) (u 5)) (some 43) (u 6)) (some 50) (u 7)) (some 51) (u 8)) (some 4) (u 9)) _;have tk:=λm=>bh6 m w2.drew f (Ai r.Af.length) N h20 U.fit zD (by unfold Ai;omega)
         rw[qA]at tk;gi_wp2_with fail;refine(tk _).mono ?_;rintro e w1 ⟨rfl,g,M,l⟩;rw[<-qA]at g l;rw[Uw];gi_wp2;exact⟨_,rfl,F8 d zF l ⟨rfl,g,M⟩⟩
        .have y:=(d.2.2.1 (A 5 zF wB)).1;exact jT rfl rfl rfl ⟨_,rfl,FP d wB y zF⟩
        .have j:=d.2.2.2 (6,.tuple #[tA (Aq f.core (Ai r.Af.length)).1,tB (Aq f.core (Ai r.Af.length)).1]) zF (A 6 zF wB);exact RX rfl rfl rfl j rfl ⟨_,rfl,Gi d wB zF⟩
        .have j:=d.2.2.2 (6,.tuple #[tA (Aq f.core (Ai r.Af.length)).1,tB (Aq f.core (Ai r.Af.length)).1]) zF (A 6 zF wB);exact RX rfl rfl rfl j rfl ⟨_,rfl,Gi d wB zF⟩
        .have v:=d.2.2.2 (7,tA (Aq f.core (Ai r.Af.length)).1) zF (A 7 zF wB);exact jU rfl rfl rfl ⟨_,rfl,FP d wB v zF⟩
       .intro S u W d s;obtain⟨y,h3,M3⟩:=d.2.2.1 (s 5 zF);have D:=d.2.2.2 (8,tB (Aq f.core (Ai r.Af.length)).1) zF (s 8 zF);have E:=d.2.2.2 (9,tA (Aq f.core (Ai r.Af.length)).1) zF (s 9 zF);have j:=d.2.2.2 (6,.tuple #[tA (Aq f.core (Ai r.Af.length)).1,tB (Aq f.core (Ai r.Af.length)).1]) zF (s 6 zF);have v:=d.2.2.2 (7,tA (Aq f.core (Ai r.Af.length)).1) zF (s 7 zF);simp only at j v D E;show wpListIn NF m prog _ _ _ (Act.put (Act.put (Act.put (Act.put (Act.put _ (some 49) (u 5)) (some 43) (u 6)) (some 50) (u 7)) (some 51) (u 8)) (some 4) (u 9)) _;rw[y,j,v,D,E];have s1:Ub K w b N r (Aq f.core (Ai r.Af.length)).1 (k+1) W:=Ub.of (I.trans J) ((hv.trans hv2).then (Ac.refl No w2).drew) R U h3 M3 hz3 hSk;clear d y j v D E h3 M3 s;generalize (Aq f.core (Ai r.Af.length)).1=o at s1;gi_wp2;go_roundw
        case rel=>exact⟨o,k+1,rfl,rfl,by go_num,zD,s1⟩
        case measure=>simp[intOf];omega
      .have hlt':¬(k:Int)<(K.Aw.length:Int):=zD;gi_wp2;go_end0;exact⟨zF,l,g,I,n,hv,λh16 L=>(Ub.never n Z hz2 (by rw[Q];omega) h16 L (by unfold Ai;omega)).elim,r,hb,.inr ⟨x,by
        obtain⟨C,x1,x2,x3⟩:=hX.out
        exact⟨k,C,x1,.inl ⟨x2.symm,zD,x3⟩⟩⟩⟩
  .have Cm:(r.co !=-1)=true:=by simpa using x
   first|gi_enter func53,ntmps53|gi_enter_d func53,ntmps53
   gi_wp2;refine bodyPost_ret (results_none rfl _ _ _) rfl ?_;exact⟨zF,K,h,BR.refl K,hC,BN.no (Ac.refl _ _) h.lt,λ_ _=>⟨r,hb,x⟩,r,hb,.inl ⟨x,rfl⟩⟩
theorem dm (K:KS) (b N:Nat) (r:PR) (h:AV K w) (f:K.EJ) (k:K.ps b=some r) (q:b∈K.Aw) (d:K.Aw.Nodup) (c:BU N (0,0) K) (o:K.Aw.length<=100):
  O_ m 53 #[Q_ K.kb,Q_ b] w λe w'=>e=.returned (.tuple #[])/\∃K',AV K' w'/\BR K K'/\BU N (0,0) K'/\BN K.T K'.T w w'/\XZ N b r K'/\Ϭ b K K':=(Zc m w K b N r h f k q d c o).1
end
def LyS (K:KS) (pid s:Int):Prop:=(s=2/\∀b∈K.Aw,∀r,K.ps b=some r->(r.pid:Int)≠pid)\/∃b r,b∈K.Aw/\K.ps b=some r/\(r.pid:Int)=pid/\r.en=true/\s=3
def LyB (K:KS) (pid:Int) (b:Nat) (r:PR):Prop:=b∈K.Aw/\K.ps b=some r/\(r.pid:Int)=pid/\r.en=false
section
variable (m:Nat) (w:o_)
theorem bd8 (K:KS) (pid:Int) (h:AV K w) (k:K.EJ) (o:K.Aw.length<=100):O_ m 54 #[Q_ K.kb,b_ pid] w λe w'=>((∃b r,e=.returned (Q_ b)/\b∈K.Aw/\K.ps b=some r/\(r.pid:Int)=pid/\w'.cell? (S_ b 2)=some (.bool r.en))\/(e=.returned (.pointer none)/\∀b∈K.Aw,∀r,K.ps b=some r->(r.pid:Int)≠pid))/\Ac No w w':=by
 refine(fD m w K pid h k o).mono ?_;rintro e w' ⟨a,v,rfl,⟨b,r,rfl,d,c,f⟩|⟨rfl,g⟩⟩
 .have q:=(h.no a).Il c 2;simp[PR.arr]at q;exact⟨.inl ⟨b,r,rfl,d,c,f,q⟩,a⟩
 .exact⟨.inr ⟨rfl,g⟩,a⟩
theorem gz (K:KS) (pid:Int) (h:AV K w) (k:K.EJ) (o:K.Aw.length<=100):
  O_ m 51 #[Q_ K.kb,b_ pid] w λe w'=>Ac No w w'/\((∃s:Int,e=.returned (.tuple #[.pointer none,b_ s])/\(s !=0)=true/\LyS K pid s)\/∃b r,e=.returned (.tuple #[Q_ b,b_ 0])/\LyB K pid b r):=by
 have c:=λm=>bd8 m w K pid h k o
 gi_enter func51,ntmps51;gi_wp2_with (gi_at_call 54;refine(c _).mono ?_;rintro e w1 ⟨⟨b,r,rfl,g,f,a,d2⟩|⟨rfl,a⟩,d⟩<;>have a:=Nonempty.intro (PLift.up a)<;>try (cases hn:r.en<;>rw[hn]at d2))
 .go_ret2;obtain⟨⟨a⟩⟩:=a;exact⟨d,.inr ⟨b,r,zF,g,f,a,hn⟩⟩
 .go_ret2;obtain⟨⟨a⟩⟩:=a;exact⟨d,.inl ⟨3,zF,wB,.inr ⟨b,r,g,f,a,hn,rfl⟩⟩⟩
 .go_ret2;obtain⟨⟨a⟩⟩:=a;exact⟨d,.inl ⟨2,zF,wB,.inl ⟨rfl,a⟩⟩⟩
theorem bz5 (K:KS) (N:Nat) (pid:Int) (h:AV K w) (y:K.EJ) (u:K.Aw.Nodup) (t:BU N (0,0) K) (z:K.Aw.length<=100):
  O_ m 17 #[Q_ K.kb,b_ pid] w λe w'=>∃s:Int,e=.returned (b_ s)/\∃K',AV K' w'/\BR K K'/\BU N (0,0) K'/\BN K.T K'.T w w'/\((LyS K pid s/\K'=K)\/(s=0/\∃b r,LyB K pid b r/\(∃q,K'.ps b=some q/\q.co=-1)/\dW b K K')):=by
 have c:=λm=>gz m w K pid h y z
 gi_enter func17,ntmps17;gi_wp2_with (gi_at_call 51;refine(c _).mono ?_;rintro e w1 ⟨d,⟨s,rfl,o,a⟩|⟨b,r,rfl,a⟩⟩<;>try have g:=λm=>Q8 m w1 K b N (0,0) r (h.no d) a.2.1 a.1 u t)
 .go_ret;exact⟨s,zF,K,h.no d,BR.refl K,t,BN.no d h.lt,.inl ⟨a,rfl⟩⟩
 .gi_wp2_with (gi_at_call 52;refine(g _).mono ?_;rintro e w2 ⟨rfl,K',i,j,f,n,l,_,k⟩);go_ret;exact⟨0,zF,K',i,j,f,(BN.no d h.lt).trans n,.inr ⟨rfl,b,r,a,⟨_,l,rfl⟩,k⟩⟩
theorem ck0 (K:KS) (N:Nat) (pid:Int) (h:AV K w) (q:K.EJ) (u:K.Aw.Nodup) (o:BU N (0,0) K) (t:K.Aw.length<=100):
  O_ m 18 #[Q_ K.kb,b_ pid] w λe w'=>∃s:Int,e=.returned (b_ s)/\∃K',AV K' w'/\BR K K'/\BU N (0,0) K'/\BN K.T K'.T w w'/\((LyS K pid s/\K'=K)\/(s=0/\∃b r,LyB K pid b r/\XZ N b r K'/\Ϭ b K K')):=by
 have c:=λm=>gz m w K pid h q t
 gi_enter func18,ntmps18;gi_wp2_with (gi_at_call 51;refine(c _).mono ?_;rintro e w1 ⟨d,⟨s,rfl,n,a⟩|⟨b,r,rfl,a⟩⟩<;>try have g:=λm=>dm m w1 K b N r (h.no d) q a.2.1 a.1 u o t)
 .go_ret;exact⟨s,zF,K,h.no d,BR.refl K,o,BN.no d h.lt,.inl ⟨a,rfl⟩⟩
 .gi_wp2_with (gi_at_call 53;refine(g _).mono ?_;rintro e w2 ⟨rfl,K',i,j,f,l,k⟩);go_ret;exact⟨0,zF,K',i,j,f,(BN.no d h.lt).trans l,.inr ⟨rfl,b,r,a,k⟩⟩
end
end Go.Fxa
