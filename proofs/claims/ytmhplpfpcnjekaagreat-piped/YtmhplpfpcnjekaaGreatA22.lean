/- A kernel of many processes: en -/
import Derived.Test.YtmhplpfpcnjekaaGreatA21
namespace Go.Fxa
open Conc Proofs RowKit Proofs.Tryz
set_option maxRecDepth 1000000
set_option maxHeartbeats 0
def isZ (ps:Nat->d_ PR) (pid b:Nat):Bool:=match ps b with|some r=>r.en && (r.par==pid)|none=>false
theorem σ {ps:Nat->d_ PR} {pid b:Nat} {r:PR} (h:ps b=some r):isZ ps pid b=(r.en && (r.par==pid)):=by unfold isZ;rw[h]
def KS.jF (K:KS) (pid:Nat):d_ Nat:=K.AV.find? (isZ K.ps pid)
theorem ai7 {p:Nat->Bool} {l:List Nat} {k b:Nat} (h:l[k]?=some b) (hp:p b=true) (hn:∀(j c:Nat),j<k->l[j]?=some c->p c=false):l.find? p=some b:=by
 obtain⟨d,e⟩:=O5.1 h;refine List.find?_eq_some_iff_getElem.2 ⟨hp,k,d,e,λj a=>?_⟩;rw[hn j _ a (Lh (by omega))];rfl
theorem ai5 {p:Nat->Bool} {l:List Nat} (hn:∀(j c:Nat),j<l.length->l[j]?=some c->p c=false):l.find? p=none:=by
 refine List.find?_eq_none.2 λx b=>?_
 obtain⟨i,a⟩:=List.getElem?_of_mem b;rw[hn i x (O5.1 a).1 a];simp
section
variable (m:Nat) (w:o_)
theorem Ϙ (K:KS) (pb:Nat) (p:PR) (h:A8 K w) (hT:K.EZ) (hp:K.ps pb=some p) (hl:K.AV.length<=100):
  P_ m 195 #[R_ K.kb,R_ pb] w λe w'=>Keep No w w'/\∃v,e=.returned v/\(v=.pointer none\/∃b r,v=ptr b/\b∈K.AV/\K.ps b=some r/\r.en=true)/\v=ϯ (K.jF p.pid):=by
 have D:=h.kc2;gi_enter func195,ntmps195;gi_wp2;gi_loopw [12] (λi wr=>∃k:Nat,k<=K.AV.length/\i=b_ k/\Keep No w wr/\∀(j c:Nat),j<k->K.AV[j]?=some c->isZ K.ps p.pid c=false) (λi _=>K.AV.length-(intOf i).toNat)
 case atStart=>exact⟨0,by omega,rfl,p_ _ _,λj c h=>absurd h (by omega)⟩
 case round=>
  obtain⟨k,C,rfl,KK,u⟩:=hrel
  by_cases y:k<K.AV.length
  .have l:K.AV[k]?=some K.AV[k]:=Lh y;generalize K.AV[k]=b at l;obtain⟨r,o⟩:=A8.mem hT l;have d:=σ (pid:=p.pid) o;have g:isZ K.ps p.pid b=false->∀(j c:Nat),j<k+1->K.AV[j]?=some c->isZ K.ps p.pid c=false:=λA j c B s=>by
    by_cases e:j=k
    .subst e;rw[l]at s;cases s;exact A
    .exact u j c (by omega) s
   have n:=h.no KK;have z:=n.qJ l;have d1:=n.JK o 1;have d2:=n.JK o 2;have d3:=n.JK hp 0;simp only[ptr]at z;simp[PR.arr]at d1 d2 d3;gi_wp2;refine CV 8 33 ?_;gi_wp2;refine Fg ?_ ?_
   .intro W f;have e1:=f.has (w:=wr.drew) d1;have e3:=f.has (w:=wr.drew) d3
    repeat' (refine Az ?_ ?_)
    all_goals first|exact trivial|gi_wp2
   .intro W f;have e1:=f.has (w:=wr.drew) d1;have e2:=f.has (w:=wr.drew) d2;have e3:=f.has (w:=wr.drew) d3;have KW:Keep No w W:=KK.drew.then f;by_cases x:(r.par:Int)=p.pid
    .have a:(r.par==p.pid)=true:=(by simp;omega);rw[a]at d;have t:((r.par:Int)==(p.pid:Int))=true:=(by simpa using x);cases hn:r.en
     .rw[hn]at e2 d;have g:=g d;clear d a;gi_wp2;go_roundw
      case rel=>exact⟨k+1,by omega,by go_num,KW,g⟩
      case measure=>simp[intOf];omega
     .rw[hn]at e2 d;have q:K.jF p.pid=some b:=ai7 l d u;clear d a g;gi_wp2;go_ret;exact⟨KW,ptr b,by simp[ptr],.inr ⟨b,r,rfl,t_ l,o,hn⟩,by rw[q];rfl⟩
    .have a:(r.par==p.pid)=false:=(by simp;omega);rw[a]at d;have g:=g (by rw[d];simp);clear d a;have t:((r.par:Int)==(p.pid:Int))=false:=(by simpa using x);gi_wp2;go_roundw
     case rel=>exact⟨k+1,by omega,by go_num,KW,g⟩
     case measure=>simp[intOf];omega
  .obtain rfl:k=K.AV.length:=(by omega);have q:K.jF p.pid=none:=ai5 u;gi_wp2;go_ret;exact⟨KK,.pointer none,by simp,.inl rfl,by rw[q];rfl⟩
theorem Xd {T:Tag} {op:Nat->Nat} {ct:Nat->Ct} {kb b:Nat} {w:o_} (h:Yq T op ct w kb) (hb:T b=(11,0)):∃a n c x y,w.cell? (S_ b)=some (.slice a n c)/\w.cell? (T_ b 1)=some (.bool x)/\w.cell? (T_ b 2)=some (.bool y)/\n<=16/\n=(ct b).ws.length/\x=(ct b).x/\y=(ct b).y:=by
 obtain⟨v,d,e⟩:=h.pipe b hb;obtain⟨rfl,e⟩|⟨g,c,rfl,_,f,_⟩:=e
 .exact⟨_,_,_,_,_,(Af d 0).trans rfl,(Af d 1).trans rfl,(Af d 2).trans rfl,by omega,by rw[e];rfl,rfl,rfl⟩
 .exact⟨_,_,_,_,_,(Af d 0).trans rfl,(Af d 1).trans rfl,(Af d 2).trans rfl,f,rfl,rfl,rfl⟩
def Ct.starved (c:Ct):Bool:=c.ws.length==0 && c.y
def Ct.FZ (c:Ct):Bool:=c.ws.length==16 && c.x
theorem WV (K:KS) (b:Nat) (h:A8 K w) (hb:K.T b=(11,0)):
  P_ m 270 #[R_ b] w λe w'=>Keep No w w'/\∃x,e=.returned (.bool x)/\Hid (x=(K.ct b).starved):=by
 obtain⟨a,n,c,x,y,i,d1,d2,j,e1,e2,e3⟩:=Xd h.fl hb;have g:(K.ct b).starved=(n==0 && y):=by rw[e1,e3];rfl
 clear e1 e2 e3;gi_enter func270,ntmps270;by_cases d:n=0
 .have f:((n:Int)==0)=true:=by simpa using d
  gi_wp2;go_ret;exact⟨p_ _ _,y,by simp,by unfold Hid;rw[g,d];simp⟩
 .have f:((n:Int)==0)=false:=by simpa using d
  gi_wp2;go_ret;exact⟨p_ _ _,false,by simp,by unfold Hid;rw[g];simp[d]⟩
theorem Xq (K:KS) (b:Nat) (h:A8 K w) (hb:K.T b=(11,0)):
  P_ m 265 #[R_ b] w λe w'=>Keep No w w'/\∃x,e=.returned (.bool x)/\Hid (x=(K.ct b).FZ):=by
 obtain⟨a,n,c,x,y,i,d1,d2,j,e1,e2,e3⟩:=Xd h.fl hb;have f:(K.ct b).FZ=(n==16 && x):=by rw[e1,e2];rfl
 clear e1 e2 e3;gi_enter func265,ntmps265;by_cases g:n=16
 .have d:((n:Int)==16)=true:=by simpa using(by omega:(n:Int)=16)
  gi_wp2;go_ret;exact⟨p_ _ _,x,by simp,by unfold Hid;rw[f,g];simp⟩
 .have d:((n:Int)==16)=false:=by simpa using(by omega:¬(n:Int)=16)
  gi_wp2;go_ret;exact⟨p_ _ _,false,by simp,by unfold Hid;rw[f];simp[g]⟩
theorem Uw:(binOp .neq 32 .nilFunc .nilFunc).run prog w=.ok (.bool false) w:=by kernel_rfl
theorem ag0 {x y:Nat}:(binOp .neq 32 (.func (.func 196) #[] #[R_ x,R_ y]) .nilFunc).run prog w=.ok (.bool true) w:=by kernel_rfl
theorem af8 {x:Nat}:(binOp .neq 32 (.func (.func 270) #[R_ x] #[]) .nilFunc).run prog w=.ok (.bool true) w:=by kernel_rfl
theorem af9 {x:Nat}:(binOp .neq 32 (.func (.func 265) #[R_ x] #[]) .nilFunc).run prog w=.ok (.bool true) w:=by kernel_rfl
theorem zW (K:KS) (pb x y:Nat) (p:PR) (h:A8 K w) (hT:K.EZ) (hp:K.ps pb=some p) (hl:K.AV.length<=100) (dx:w.cell? (S_ x)=some (R_ K.kb)) (dy:w.cell? (S_ y)=some (R_ pb)):
  P_ m 196 #[R_ x,R_ y] w λe w'=>Keep No w w'/\∃x,e=.returned (.bool x)/\x=(K.jF p.pid).isNone:=by
 have c:=λm=>Ϙ m w K pb p h hT hp hl
 gi_enter func196,ntmps196;gi_wp2_with (gi_at_call 195;refine(c _).mono ?_;rintro e w1 ⟨a,v,rfl,b⟩;obtain⟨_,rfl⟩:=b;cases hz:K.jF p.pid<;>simp only[ϯ,ptr])
 .go_ret;exact⟨a,true,by simp,by rw[hz];rfl⟩
 .go_ret;exact⟨a,false,by simp,by rw[hz];rfl⟩
def blF:n_->Nat×Nat
 |.func (.func n) ar _=>(n,match (ar[0]?:d_ n_)with|some (Value.pointer (some a))=>a.block|_=>0)
 |_=>(0,0)
def KS.blk (K:KS) (r:PR):Bool:=if(blF r.bl).1=196 then(K.jF r.pid).isNone else if(blF r.bl).1=270 then(K.ct (blF r.bl).2).starved else if(blF r.bl).1=265 then(K.ct (blF r.bl).2).FZ else false
def KS.Eg (K:KS) (r:PR):Int:=if r.en then 2 else if K.blk r then 1 else 0
theorem ak5 {K:KS} {r:PR} {a b:X_} (h:r.bl=.func (.func 196) a b):K.blk r=(K.jF r.pid).isNone:=by unfold KS.blk;rw[h];rfl
theorem ak3 {K:KS} {r:PR} {p:Nat} (h:r.bl=.func (.func 270) #[R_ p] #[]):K.blk r=(K.ct p).starved:=by unfold KS.blk;rw[h];rfl
theorem ak4 {K:KS} {r:PR} {p:Nat} (h:r.bl=.func (.func 265) #[R_ p] #[]):K.blk r=(K.ct p).FZ:=by unfold KS.blk;rw[h];rfl
theorem ak2 {K:KS} {r:PR} (h:r.bl=.nilFunc):K.blk r=false:=by unfold KS.blk;rw[h];rfl
theorem SL {K:KS} {r:PR} {x:Bool} (hn:r.en=false) (h:x=K.blk r):(if x then(1:Int)else 0)=K.Eg r:=by unfold KS.Eg;rw[hn,h];rfl
def GN (en:Bool) (s:Int):Prop:=(en=true->s=2)/\(en=false->s=0\/s=1)
theorem ry (K:KS) (pb:Nat) (p:PR) (h:A8 K w) (hT:K.EZ) (hp:K.ps pb=some p) (hl:K.AV.length<=100):
  P_ m 55 #[R_ pb] w λe w'=>Keep No w w'/\∃s,e=.returned (b_ s)/\GN p.en s/\Hid (s=K.Eg p):=by
 have l:=h.JK hp 2;have j:=h.JK hp 4;simp[PR.arr]at l j;cases hn:p.en with
 |true=>
  rw[hn]at l
  gi_enter func55,ntmps55
  gi_wp2
  go_ret
  exact⟨p_ _ _,2,by simp,by simp[GN],by unfold Hid KS.Eg;rw[hn];rfl⟩
 |false=>
  rw[hn]at l
  obtain b|⟨x,y,b,d,r,t,u⟩|⟨g,b,n⟩:=(h.ps pb p hp).bl
  .have a:=SL hn (ak2 (K:=K) b).symm;rw[b]at j;have k:=Uw w;gi_enter func55,ntmps55;gi_wp2;refine⟨(λf h=>by cases h),?_⟩;gi_wp2;go_ret;exact⟨p_ _ _,0,by simp,by simp[GN],a⟩
  .have a:=λx (e:x=_)=>SL hn (Eq.trans e (ak5 (K:=K) b).symm)
   rw[b]at j;simp only[ptr]at j;have k:=ag0 w (x:=x) (y:=y);have o:w.cell? (S_ x)=some (R_ K.kb):=bce d rfl;have q:w.cell? (S_ y)=some (R_ pb):=bce r rfl;have c:=λm=>zW m w K pb x y p h hT hp hl o q
   gi_enter func55,ntmps55;gi_wp2_with (gi_at_call 196;refine(c _).mono ?_;rintro e w1 ⟨i,x,rfl,d⟩;have a:=a _ d;clear d;cases x)
   all_goals go_ret
   .exact⟨i,0,by simp,by simp[GN],a⟩
   .exact⟨i,1,by simp,by simp[GN],a⟩
  .simp only[ptr]at b;obtain b|b:=b
   .have a:=λx (e:x=_)=>SL hn (Eq.trans e (ak3 (K:=K) b).symm)
    rw[b]at j;have k:=af8 w (x:=g);have c:=λm=>WV m w K g h n
    gi_enter func55,ntmps55;gi_wp2_with (gi_at_call 270;refine(c _).mono ?_;rintro e w1 ⟨i,x,rfl,d⟩;have a:=a _ d.out;clear d;cases x)
    all_goals go_ret
    .exact⟨i,0,by simp,by simp[GN],a⟩
    .exact⟨i,1,by simp,by simp[GN],a⟩
   .have a:=λx (e:x=_)=>SL hn (Eq.trans e (ak4 (K:=K) b).symm)
    rw[b]at j;have k:=af9 w (x:=g);have c:=λm=>Xq m w K g h n
    gi_enter func55,ntmps55;gi_wp2_with (gi_at_call 265;refine(c _).mono ?_;rintro e w1 ⟨i,x,rfl,d⟩;have a:=a _ d.out;clear d;cases x)
    all_goals go_ret
    .exact⟨i,0,by simp,by simp[GN],a⟩
    .exact⟨i,1,by simp,by simp[GN],a⟩
end
def BV (T T':Tag) (w w':o_):Prop:=DY T T' (λt=>t≠(0,0)) (λ_=>True) w w'
section
variable {T T' T'':Tag} {Q N:Nat×Nat->Prop} {w w' KY:o_} {K:KS} {b:Nat} {r r':PR}
theorem DY.TL (h:DY T T' Q N w w') (hq:∀t,Q t->t≠(0,0)):BV T T' w w':=h.weak hq λ_ _=>trivial
theorem BV.trans (h:BV T T' w w') (h':BV T' T'' w' KY):BV T T'' w KY:=DY.trans h h'
theorem BV.no (h:Keep No w w') (hl:∀b,w.heap.size<=b->T b=(0,0)):BV T T w w':=DY.no h hl
theorem BV.then (h:BV T T' w w') (h':Keep No w' KY):BV T T' w KY:=h.trans (BV.no h' h.lt)
theorem BV.old (h:BV T T' w w') {o:Obj} {g:Nat} (hg:w.heap[g]?=some o) (hb:T g=(0,0)):w'.heap[g]?=some o:=h.keep.old hg (by unfold On;rw[hb];simp)
structure PR.Like (r r':PR):Prop where
 en:r'.en=r.en
 im:r'.im=r.im
 fd:r'.fd=r.fd
 Ae:r'.Ae=r.Ae
 fds:r'.fds=r.fds
theorem xI.like {T:Tag} {kb:Nat} (h:xI T w kb b r) (hL:r.Like r') {i:Nat} {v:n_} (ha:r.arr.setIfInBounds i v=r'.arr) (IV:Nj T w kb b r'.bl):xI T (w.setCell (T_ b i) v) kb b r':=by
 have d:Keep (On T λt=>t=(6,b)) w (w.setCell (T_ b i) v):=(p_ _ _).setCell _ λ_=>h.t
 refine⟨h.t,?_,λe=>?_,λe=>?_,IV.keep d (by simp),λe=>?_⟩
 .rw[Ak h.o v];unfold PR.obj;rw[ha]
 .obtain⟨g,c,a1,a2,a⟩:=h.im (hL.en ▸ e);rw[hL.im,hL.Ae];exact⟨g,c,a1,a2.keep d (by unfold On;rw[a];simp),a⟩
 .obtain⟨g,c,a1,a2,a⟩:=h.fd (hL.en ▸ e);rw[hL.fd,hL.fds];exact⟨g,c,a1,a2.keep d (by unfold On;rw[a];simp),a⟩
 .rw[hL.im,hL.fd,hL.Ae,hL.fds];exact h.no (hL.en ▸ e)
theorem A8.like (h:A8 K w) (hb:K.ps b=some r) (hL:r.Like r') {i:Nat} {v:n_} (ha:r.arr.setIfInBounds i v=r'.arr) (IV:Nj K.T w K.kb b r'.bl):A8 { K with ps:=BX K.ps b r' } (w.setCell (T_ b i) v):=by
 have a:=h.ps b r hb;exact h.um (DY.of ((p_ _ _).setCell _ λ_=>.inl a.t) h.lt) (a.like hL ha IV)
theorem A8.FI (h:A8 K w) (hb:K.ps b=some r) {i:Nat} {v:n_}:BV K.T K.T w (w.setCell (T_ b i) v):=DY.of ((p_ _ _).setCell _ λ_=>by unfold On;rw[(h.ps b r hb).t];simp) h.lt
theorem A8.hd (h:A8 K w):∃ks,KC K w ks/\Hd 186 w K.kb 0 114 ks K.cg K.cc K.core:=let ⟨ks,a,c⟩:=h.k;⟨ks,c,a,c.c0,h.mc,by decide⟩
theorem A8.hds (h:A8 K w):∃ks,KC K w ks/\Hd 188 w K.kb 1 114 ks K.sg K.sc K.swap:=let ⟨ks,a,c⟩:=h.k;⟨ks,c,a,c.c1,h.ms,by decide⟩
end
def KS.bK (K:KS) (l:List (W_)) (g c:Nat):KS:={ K with core:=l,cg:=g,cc:=c,T:=DZ K.T g (2,0) }
def KS.swap' (K:KS) (l:List (W_)) (g c:Nat):KS:={ K with swap:=l,sg:=g,sc:=c,T:=DZ K.T g (3,0) }
def KS.AP (K:KS) (b:Nat) (r:PR):KS:={ K with ps:=BX K.ps b r }
section
variable (m:Nat) (w:o_)
theorem bk8 (K:KS) (a n N:Nat) (h:A8 K w) (hF:Fit N K.core) (hN:N<=10000) (hn:a+n<=N) (hl:K.core.length+1<=N):
  P_ m 91 #[R_ K.kb,b_ (a:Nat),b_ (n:Nat)] w λe w'=>e=.returned (.tuple #[])/\∃g c,A8 (K.bK (DF K.core a n) g c) w'/\BV K.T (DZ K.T g (2,0)) w w':=by
 obtain⟨l,f,i⟩:=h.hd;refine(bk9 m w K.kb K.cg K.cc a n N 114 l K.core i hF hN hn hl).mono ?_;rintro e w' ⟨rfl,d,g,c,b,j⟩;have M:DY K.T (DZ K.T g (2,0)) (λt=>t=(1,0)\/t=(2,0)) (λt=>t=(2,0)) w w':=DY.row (d.on (by rintro k _ (rfl|rfl);exact .inl h.tk;exact .inr h.tc)) h.lt (j.imp (λe=>by rw[e];exact h.tc) id) (Rw.lt b.mp) rfl;exact⟨rfl,g,c,h.rE M f b.k b.mp CX,M.TL (by rintro t (rfl|rfl)<;>simp)⟩
theorem am4 (K:KS) (n N:Nat) (h:A8 K w) (hF:Fit N K.core) (hN:N<=10000) (hn:n<=10000):
  P_ m 92 #[R_ K.kb,b_ (n:Nat)] w λe w'=>e=.returned (Nk (Aw K.core n).1)/\A8 { K with core:=(Aw K.core n).2 } w'/\BV K.T K.T w w'/\Keep (At2 K.kb K.cg) w w':=by
 obtain⟨g,b,c⟩:=h.hd;refine(takeC m w K.kb K.cg K.cc n N 114 g K.core c hF hN hn).mono ?_;rintro e w' ⟨rfl,a,d,f⟩;have M:DY K.T K.T (λt=>t=(1,0)\/t=(2,0)) (λt=>t=(2,0)) w w':=DY.of (a.on (by rintro k _ (rfl|rfl);exact .inl h.tk;exact .inr h.tc)) h.lt;exact⟨rfl,h.rE M b d f h.tc,M.TL (by rintro t (rfl|rfl)<;>simp),a⟩
theorem aw2 (K:KS) (a n N:Nat) (h:A8 K w) (hF:Fit N K.swap) (hN:N<=10000) (hn:a+n<=N) (hl:K.swap.length+1<=N):
  P_ m 156 #[.pointer (some (T_ K.kb 1)),b_ (a:Nat),b_ (n:Nat)] w λe w'=>e=.returned (.tuple #[])/\∃g c,A8 (K.swap' (DF K.swap a n) g c) w'/\BV K.T (DZ K.T g (3,0)) w w':=by
 obtain⟨l,f,i⟩:=h.hds;refine(bk7 m w K.kb K.sg K.sc a n N 114 l K.swap i hF hN hn hl).mono ?_;rintro e w' ⟨rfl,d,g,c,b,j⟩;have M:DY K.T (DZ K.T g (3,0)) (λt=>t=(1,0)\/t=(3,0)) (λt=>t=(3,0)) w w':=DY.row (d.on (by rintro k _ (rfl|rfl);exact .inl h.tk;exact .inr h.ts)) h.lt (j.imp (λe=>by rw[e];exact h.ts) id) (Rw.lt b.mp) rfl;exact⟨rfl,g,c,h.rD M f b.k b.mp CX,M.TL (by rintro t (rfl|rfl)<;>simp)⟩
theorem as7 (K:KS) (n N:Nat) (h:A8 K w) (hF:Fit N K.swap) (hN:N<=10000) (hn:n<=10000):
  P_ m 89 #[.pointer (some (T_ K.kb 1)),b_ (n:Nat)] w λe w'=>e=.returned (Nk (Aw K.swap n).1)/\A8 { K with swap:=(Aw K.swap n).2 } w'/\BV K.T K.T w w'/\Keep (At2 K.kb K.sg) w w':=by
 obtain⟨g,b,c⟩:=h.hds;refine(am3 m w K.kb K.sg K.sc n N 114 g K.swap c hF hN hn).mono ?_;rintro e w' ⟨rfl,a,d,f⟩;have M:DY K.T K.T (λt=>t=(1,0)\/t=(3,0)) (λt=>t=(3,0)) w w':=DY.of (a.on (by rintro k _ (rfl|rfl);exact .inl h.tk;exact .inr h.ts)) h.lt;exact⟨rfl,h.rD M b d f h.ts,M.TL (by rintro t (rfl|rfl)<;>simp),a⟩
theorem A8.im8 {K:KS} {w:o_} {b:Nat} {r:PR} (h:A8 K w) (hb:K.ps b=some r):∃a c,w.cell? (T_ b 8)=some (.slice a r.Ae.length c):=by
 have q:=h.JK hb 8;cases hn:r.en with
 |true=>
  obtain⟨d,_,e,_⟩:=(h.ps b r hb).no hn
  exact⟨none,0,by rw[q,e];simp[PR.arr,d]⟩
 |false=>
  obtain⟨g,c,d,_⟩:=(h.ps b r hb).im hn
  exact⟨some (S_ g),c,by rw[q];simp[PR.arr,d]⟩
theorem mQ (K:KS) (b:Nat) (r:PR) (h:A8 K w) (hb:K.ps b=some r) (Ip:r.co=-1):
  P_ m 52 #[R_ K.kb,R_ b] w λe w'=>e=.returned (.tuple #[])/\Keep No w w':=by
 have q:=h.JK hb 11;simp[PR.arr,Ip]at q;gi_enter func52,ntmps52;gi_wp2;refine bodyPost_ret (results_none rfl _ _ _) rfl ?_;exact⟨by simp,p_ _ _⟩
theorem gp (K:KS) (b a N:Nat) (r:PR) (h:A8 K w) (hb:K.ps b=some r) (Ip:r.co=a) (hF:Fit N K.core) (hN:N<=10000) (hn:a+Am r.Ae.length<=N) (hl:K.core.length+1<=N) (hL:r.Ae.length<1000):
  P_ m 52 #[R_ K.kb,R_ b] w λe w'=>e=.returned (.tuple #[])/\∃g c,A8 ((K.bK (DF K.core a (Am r.Ae.length)) g c).AP b { r with co:=-1 }) w'/\BV K.T (DZ K.T g (2,0)) w w':=by
 have q:=h.JK hb 11;simp[PR.arr,Ip]at q;obtain⟨t,u,j⟩:=h.im8 hb;have s:((a:Int)==-1)=false:=by simp
 gi_enter func52,ntmps52;gi_wp2;refine CV 9 22 ?_;gi_wp2_with (gi_at_call 58;refine(Gg _ w.drew b _ _ _ j (by omega)).mono ?_;rintro e w1 ⟨rfl,rfl⟩);refine Fg ?_ ?_
 .intro W f;have l:=f.has (w:=w.drew) q;have n:=f.has (w:=w.drew) j
  repeat' (refine Az ?_ ?_)
  all_goals first|exact trivial|gi_wp2_with (gi_at_call 58;refine(Gg _ W b _ _ _ n (by omega)).mono ?_;rintro e w1 ⟨rfl,rfl⟩)
 .intro W f;have KW:Keep No w W:=(p_ No w).drew.then f;have p:=h.no KW;gi_wp2_with fail;refine(bk8 _ W K a (Am r.Ae.length) N p hF hN hn hl).mono ?_;rintro e w2 ⟨rfl,g,c,d,k⟩;have i:=d.JK hb 11;simp[PR.arr,Ip]at i;have o:=d.tZ hb 11;gi_wp2;go_end0;exact⟨by simp,g,c,d.like (r':={ r with co:=-1 }) hb ⟨rfl,rfl,rfl,rfl,rfl⟩ rfl (d.ps b r hb).bl,((BV.no KW h.lt).trans k).trans (d.FI hb)⟩
end
def Iq (f:Nat->Nat):Nat->Nat
 |0=>0
 |n+1=>f n+Iq f n
theorem Rl {f g:Nat->Nat}:∀{n:Nat},(∀i,i<n->f i=g i)->Iq f n=Iq g n
 |0,_=>rfl
 |n+1,h=>by simp only[Iq];rw[h n (by omega),Rl λi a=>h i (by omega)]
theorem MG (f g:Nat->Nat):∀n:Nat,Iq (λi=>f i+g i) n=Iq f n+Iq g n
 |0=>rfl
 |n+1=>by simp only[Iq];rw[MG f g n];omega
theorem Lp:∀n:Nat,Iq (λ_=>0) n=0
 |0=>rfl
 |n+1=>by simp only[Iq];rw[Lp n]
theorem Wp:∀n:Nat,Iq (λ_=>1) n=n
 |0=>rfl
 |n+1=>by simp only[Iq];rw[Wp n];omega
theorem YM (a n:Nat):∀N:Nat,Iq (λi=>NY i a n) N=min N (a+n)-min N a
 |0=>by simp[Iq]
 |N+1=>by
  simp only[Iq]
  rw[YM a n N]
  unfold NY
  split<;>omega
theorem PO {a n N:Nat} (h:a+n<=N):Iq (λi=>NY i a n) N=n:=by rw[YM];omega
theorem Wq {N:Nat}:∀{l:List (W_)},Sound N l->Iq (λi=>D5 i l) N=GL l
 |[],_=>by simp only[D5,GL];exact Lp N
 |r::l,h=>by
  simp only[D5,GL]
  rw[MG (λi=>NY i r.1 r.2) (λi=>D5 i l),PO (h r (by simp)).2,Wq λx a=>h x (by simp[a])]
theorem Un (f:Nat->Nat->Nat) (N:Nat):∀L:List Nat,Iq (λi=>BF (f i) L) N=BF (λb=>Iq (λi=>f i b) N) L
 |[]=>by simp only[BF];exact Lp N
 |b::L=>by
  simp only[BF]
  rw[MG (λi=>f i b) (λi=>BF (f i) L),Un f N L]
def ϱ (ps:Nat->d_ PR) (b:Nat):Nat:=match ps b with|some r=>if r.co=-1 then 0 else Am r.Ae.length|none=>0
def onS (ps:Nat->d_ PR) (b:Nat):Nat:=match ps b with|some r=>Am r.Ae.length|none=>0
theorem ώ {ps:Nat->d_ PR} {b:Nat} {r:PR} (h:ps b=some r):ϱ ps b=if r.co=-1 then 0 else Am r.Ae.length:=by unfold ϱ;rw[h]
def FX (i:Nat) (ps:Nat->d_ PR) (b:Nat):Nat:=match ps b with|some r=>if r.co=-1 then 0 else NY i r.co.toNat (Am r.Ae.length)|none=>0
def LP (i:Nat) (ps:Nat->d_ PR) (b:Nat):Nat:=match ps b with|some r=>NY i r.sw (Am r.Ae.length)|none=>0
theorem Ζ {ps:Nat->d_ PR} {b N:Nat} (h:∀r,ps b=some r->r.co=-1\/∃a:Nat,r.co=a/\a+Am r.Ae.length<=N):Iq (λi=>FX i ps b) N=ϱ ps b:=by
 unfold FX ϱ;cases hb:ps b with
 |none=>simp only;exact Lp N
 |some r=>
  simp only
  obtain e|⟨a,e,c⟩:=h r hb
  .simp only[e,if_true];exact Lp N
  .simp only[e,Int.toNat_natCast];rw[if_neg (by omega)];have:∀i:Nat,(if(a:Int)=-1 then 0 else NY i a (Am r.Ae.length))=NY i a (Am r.Ae.length):=λi=>if_neg (by omega)
   simp only[this];exact PO c
theorem Ε {ps:Nat->d_ PR} {b N:Nat} (h:∀r,ps b=some r->r.sw+Am r.Ae.length<=N):Iq (λi=>LP i ps b) N=onS ps b:=by
 unfold LP onS;cases hb:ps b with
 |none=>simp only;exact Lp N
 |some r=>simp only;exact PO (h r hb)
theorem gy {N a n:Nat} {K:KS} (hs:Sound N K.core) (hp:∀b r,K.ps b=some r->r.co=-1\/∃a:Nat,r.co=a/\a+Am r.Ae.length<=N) (ha:a+n<=N)
  (h:∀i,i<N->D5 i K.core+BF (FX i K.ps) K.AV+NY i a n=1):GL K.core+BF (ϱ K.ps) K.AV+n=N:=by
 have e:=Rl (n:=N) h;rw[Wp,MG (λi=>D5 i K.core+BF (FX i K.ps) K.AV) (λi=>NY i a n),MG (λi=>D5 i K.core) (λi=>BF (FX i K.ps) K.AV),Wq hs,PO ha,Un (λi b=>FX i K.ps b)]at e;rw[BQ (g:=ϱ K.ps) λb _=>Ζ (hp b)]at e;exact e
theorem gu {N a n:Nat} {K:KS} (hs:Sound N K.swap) (hp:∀b r,K.ps b=some r->r.sw+Am r.Ae.length<=N) (ha:a+n<=N)
  (h:∀i,i<N->D5 i K.swap+BF (LP i K.ps) K.AV+NY i a n=1):GL K.swap+BF (onS K.ps) K.AV+n=N:=by
 have e:=Rl (n:=N) h;rw[Wp,MG (λi=>D5 i K.swap+BF (LP i K.ps) K.AV) (λi=>NY i a n),MG (λi=>D5 i K.swap) (λi=>BF (LP i K.ps) K.AV),Wq hs,PO ha,Un (λi b=>LP i K.ps b)]at e;rw[BQ (g:=onS K.ps) λb _=>Ε (hp b)]at e;exact e
theorem ν {ps:Nat->d_ PR} {b:Nat} {r:PR} (h:ps b=some r):onS ps b=Am r.Ae.length:=by unfold onS;rw[h]
theorem EF {i:Nat} {ps:Nat->d_ PR} {b:Nat} {r:PR} (h:ps b=some r):FX i ps b=if r.co=-1 then 0 else NY i r.co.toNat (Am r.Ae.length):=by unfold FX;rw[h]
theorem IM {i:Nat} {ps:Nat->d_ PR} {b:Nat} {r:PR} (h:ps b=some r):LP i ps b=NY i r.sw (Am r.Ae.length):=by unfold LP;rw[h]
theorem Q8 (i a:Nat):NY i a 0=0:=if_neg (by omega)
theorem kX {i a n:Nat} (h1:a<=i) (h2:i<a+n):NY i a n=1:=if_pos ⟨h1,h2⟩
structure BU (N:Nat) (x:W_) (K:KS):Prop where
 le:N<=1000
 so:Sound N K.core
 Ϣ:XM K.core
 xl:x.1+x.2<=N
 cnt:∀i,i<N->D5 i K.core+BF (FX i K.ps) K.AV+NY i x.1 x.2=1
 pl:∀b r,K.ps b=some r->r.Ae.length<=128/\(r.co=-1\/∃a:Nat,r.co=a/\a+Am r.Ae.length<=N/\1<=Am r.Ae.length)
theorem BU.sum {N:Nat} {x:Nat×Nat} {K:KS} (h:BU N x K):GL K.core+BF (ϱ K.ps) K.AV+x.2=N:=gy h.so (λb r e=>(h.pl b r e).2.imp id λ⟨a,c,d,_⟩=>⟨a,c,d⟩) h.xl h.cnt
theorem BU.fit {N:Nat} {x:Nat×Nat} {K:KS} (h:BU N x K):Fit N K.core:=h.so.fit (by have:=h.sum;omega)
theorem BU.same {N:Nat} {x:Nat×Nat} {K K':KS} (h:BU N x K) (hc:K'.core=K.core) (hs:∀i,BF (FX i K'.ps) K'.AV=BF (FX i K.ps) K.AV) (hp:∀b r,K'.ps b=some r->r.Ae.length<=128/\(r.co=-1\/∃a:Nat,r.co=a/\a+Am r.Ae.length<=N/\1<=Am r.Ae.length)):BU N x K':=
 ⟨h.le,by rw[hc];exact h.so,by rw[hc];exact h.Ϣ,h.xl,λi c=>by rw[hc,hs];exact h.cnt i c,hp⟩
structure CG (K K':KS):Prop where
 eq:K'={ K with core:=K'.core,cg:=K'.cg,cc:=K'.cc,T:=K'.T,ps:=K'.ps }
 ps:∃f:Nat->Int,∀b,K'.ps b=(K.ps b).map λr=>{ r with co:=f b }
theorem CG.refl (K:KS):CG K K:=⟨rfl,λb=>match K.ps b with|some r=>r.co|none=>0,λb=>by cases h:K.ps b<;>simp[h]⟩
theorem CG.trans {K K' K'':KS} (h:CG K K') (h':CG K' K''):CG K K'':=by
 obtain⟨e1,f,a⟩:=h;obtain⟨e2,g,p2⟩:=h';refine⟨?_,g,λb=>?_⟩
 .rw[e2,e1]
 .rw[p2,a];cases K.ps b<;>rfl
theorem CG.take {K:KS} {l:List (W_)}:CG K { K with core:=l }:=⟨rfl,(CG.refl K).ps⟩
theorem CG.AV {K K':KS} (h:CG K K'):K'.AV=K.AV:=by rw[h.eq]
theorem CG.kb {K K':KS} (h:CG K K'):K'.kb=K.kb:=by rw[h.eq]
theorem CG.there {K K':KS} (h:CG K K') (hT:K.EZ):K'.EZ:=by
 intro b a;rw[h.AV]at a;obtain⟨r,d⟩:=hT b a;obtain⟨f,c⟩:=h.ps;exact⟨_,by rw[c,d];rfl⟩
theorem CG.set {K:KS} {b:Nat} {r:PR} (hb:K.ps b=some r) (c:Int):CG K (K.AP b { r with co:=c }):=by
 refine⟨rfl,λk=>if k=b then c else match K.ps k with|some r=>r.co|none=>0,λk=>?_⟩;show BX K.ps b _ k=_;by_cases e:k=b
 .subst e;rw[Ah,hb];simp
 .rw[Bg e];cases h:K.ps k<;>simp[e,h]
theorem BU.out {N a b g c:Nat} {x:Nat×Nat} {K:KS} {r:PR} (h:BU N x K) (hb:K.ps b=some r) (hm:b∈K.AV) (hN:K.AV.Nodup) (Ip:r.co=a):a+Am r.Ae.length<=N/\K.core.length+1<=N/\BU N x ((K.bK (DF K.core a (Am r.Ae.length)) g c).AP b { r with co:=-1 }):=by
 obtain⟨w,p2⟩:=h.pl b r hb;obtain⟨m,e1,e2,e3⟩:=p2.resolve_left (by rw[Ip];omega);obtain rfl:a=m:=by omega
 have l:ϱ K.ps b=Am r.Ae.length:=by rw[ώ hb,if_neg (by rw[Ip];omega)]
 have v:=Ox (f:=ϱ K.ps) hm;have A:=h.sum;have z:=h.so.len;have n:=Vd h.so e3 e2;have j:∀i,FX i K.ps b=NY i a (Am r.Ae.length):=λi=>by rw[EF hb,if_neg (by rw[Ip];omega),Ip];rfl
 refine⟨e2,by omega,h.le,n.1,cO e3 h.so h.Ϣ λy p s=>?_,h.xl,λi l=>?_,λk q d=>?_⟩
 .have t:=h.cnt y (by omega);have u:=Ox (f:=FX y K.ps) hm;rw[j,kX p s]at u;omega
 .show D5 i (DF K.core a (Am r.Ae.length))+BF (FX i (BX K.ps b _)) K.AV+_=1;have:=Jb (f:=FX i (BX K.ps b { r with co:=-1 })) (g:=FX i K.ps) hN hm λk d=>by unfold FX;rw[Bg d]
  have o:FX i (BX K.ps b { r with co:=-1 }) b=0:=by rw[EF Ah];simp
  have t:=h.cnt i l;rw[Y0 e3];rw[j,o]at this;omega
 .have d:BX K.ps b _ k=some q:=d;by_cases e:k=b
  .subst e;rw[Ah]at d;cases d;exact⟨w,.inl rfl⟩
  .rw[Bg e]at d;exact h.pl k q d
theorem BU.in {N n a b:Nat} {K:KS} {r:PR} (h:BU N (a,n) K) (hb:K.ps b=some r) (hm:b∈K.AV) (hN:K.AV.Nodup) (Ip:r.co=-1) (hn:n=Am r.Ae.length) (hn1:1<=n) (ha:a+n<=N):BU N (0,0) (K.AP b { r with co:=a }):=by
 refine⟨h.le,h.so,h.Ϣ,Nat.zero_le _,λi j=>?_,λk q c=>?_⟩
 .show D5 i K.core+BF (FX i (BX K.ps b _)) K.AV+NY i 0 0=1;have:=Jb (f:=FX i (BX K.ps b { r with co:=a })) (g:=FX i K.ps) hN hm λk c=>by unfold FX;rw[Bg c]
  have m:FX i K.ps b=0:=by rw[EF hb,if_pos Ip]
  have l:FX i (BX K.ps b { r with co:=a }) b=NY i a n:=by rw[EF Ah,hn];exact if_neg (by simp)
  have d:=h.cnt i j;simp only at d;rw[Q8];omega
 .have c:BX K.ps b _ k=some q:=c;by_cases e:k=b
  .subst e;rw[Ah]at c;cases c;exact⟨(h.pl _ _ hb).1,.inr ⟨a,rfl,by simp only;omega,by simp only;omega⟩⟩
  .rw[Bg e]at c;exact h.pl k q c
theorem BU.take {N n:Nat} {K:KS} (h:BU N (0,0) K):((Aw K.core n).1=none->BU N (0,0) { K with core:=(Aw K.core n).2 })/\∀a,(Aw K.core n).1=some a->BU N (a,n) { K with core:=(Aw K.core n).2 }/\a+n<=N/\1<=n:=by
 obtain⟨g,j,k⟩:=P9 (n:=n) h.so;refine⟨λe=>?_,λa e=>?_⟩
 .rw[j e];exact h
 .obtain⟨m,b,f⟩:=k a e;refine⟨⟨h.le,g,cu h.Ϣ,b,λi d=>?_,h.pl⟩,b,f⟩;show D5 i (Aw K.core n).2+BF (FX i K.ps) K.AV+NY i a n=1;have l:=YL e i;have c:=h.cnt i d;rw[Q8]at c;omega
theorem BU.room {N n:Nat} {K:KS} (h:BU N (0,0) K) (ho:∀b∈K.AV,∀r,K.ps b=some r->r.co=-1) (h1:1<=n) (h2:n<=N):(Aw K.core n).1≠none:=by
 have e:=ac1 (N:=N) (by omega) h.so h.Ϣ λi d=>by
  have a:=h.cnt i d
  have j:BF (FX i K.ps) K.AV=0:=by
   rw[BQ (g:=λ_=>0) λb c=>?_]
   .generalize K.AV=l
    induction l with
    |nil=>rfl
    |cons b l f=>simp only[BF,f]
   .unfold FX;cases hb':K.ps b with
    |none=>rfl
    |some r=>simp only;rw[if_pos (ho b c r hb')]
  rw[Q8]at a;omega
 rw[e];unfold Aw;rw[if_neg (by omega)];simp[List.findIdx?_cons,h2]
section
variable (m:Nat) (w:o_)
theorem Um (K:KS) (b N:Nat) (x:W_) (r:PR) (h:A8 K w) (hb:K.ps b=some r) (hm:b∈K.AV) (hN:K.AV.Nodup) (hC:BU N x K):
  P_ m 52 #[R_ K.kb,R_ b] w λe w'=>e=.returned (.tuple #[])/\∃K',A8 K' w'/\CG K K'/\BU N x K'/\BV K.T K'.T w w'/\K'.ps b=some { r with co:=-1 }/\∀k q,K.ps k=some q->q.co=-1->K'.ps k=some q:=by
 obtain⟨p,p2⟩:=hC.pl b r hb;by_cases d:r.co=-1
 .refine(mQ m w K b r h hb d).mono ?_;rintro e w' ⟨rfl,j⟩;exact⟨rfl,K,h.no j,CG.refl K,hC,BV.no j h.lt,by rw[hb,<-d],λ_ _ h _=>h⟩
 .obtain⟨a,e1,e2,e3⟩:=p2.resolve_left d;have n:=hC.le;have i:=λg c=>hC.out (g:=g) (c:=c) hb hm hN e1
  refine(gp m w K b a N r h hb e1 hC.fit (by omega) (i 0 0).1 (i 0 0).2.1 (by omega)).mono ?_;rintro e w' ⟨rfl,g,c,l,M⟩;refine⟨rfl,_,l,?_,(i g c).2.2,M,Ah,λk q f o=>?_⟩
  .exact CG.trans (K':=K.bK (DF K.core a (Am r.Ae.length)) g c) ⟨rfl,(CG.refl K).ps⟩ (CG.set (K:=K.bK (DF K.core a (Am r.Ae.length)) g c) hb (-1))
  .have:k≠b:=(by rintro rfl;rw[hb]at f;cases f;exact d o);exact(Bg this).trans f
end
def tA (o:d_ Nat):n_:=b_ (o.getD 0:Nat)
def tB (o:d_ Nat):n_:=.bool o.isSome
theorem Wn (o:d_ Nat):Nk o=.tuple #[tA o,tB o]:=by cases o<;>rfl
def ao8 (K:KS) (n:Nat) (w1:o_) (v:n_) (W:o_):Prop:=v=.tuple #[tA (Aw K.core n).1,tB (Aw K.core n).1]/\A8 { K with core:=(Aw K.core n).2 } W/\BV K.T K.T w1 W
section
variable (m:Nat) (w:o_)
def qX (K:KS) (j:Nat):Prop:=∀i b q,i<j->K.AV[i]?=some b->K.ps b=some q->q.co=-1
def RU (K:KS) (w:o_) (b N:Nat) (r:PR) (o:d_ Nat) (j:Nat) (wr:o_):Prop:=∃K1,A8 K1 wr/\CG K K1/\BV K.T K1.T w wr/\K1.ps b=some r/\BU N (match o with|none=>(0,0)|some a=>(a,Am r.Ae.length)) K1/\(∀a,o=some a->a+Am r.Ae.length<=N/\1<=Am r.Ae.length)/\(o=none->(Aw K1.core (Am r.Ae.length)).1=none/\qX K1 j)
theorem RU.of {K K1:KS} {w wr W:o_} {b N j:Nat} {r:PR} (hM:CG K K1) (hv:BV K.T K1.T w wr) (hb:K1.ps b=some r) (hC:BU N (0,0) K1) (h1:A8 { K1 with core:=(Aw K1.core (Am r.Ae.length)).2 } W) (hv1:BV K1.T K1.T wr W) (hj:qX K1 j):RU K w b N r (Aw K1.core (Am r.Ae.length)).1 j W:=by
 have t:=hC.take (n:=Am r.Ae.length);refine⟨_,h1,hM.trans CG.take,hv.trans hv1,hb,?_,λa e=>(t.2 a e).2,λe=>⟨?_,hj⟩⟩
 .cases e:(Aw K1.core (Am r.Ae.length)).1 with
  |none=>exact t.1 e
  |some a=>exact(t.2 a e).1
 .show(Aw (Aw K1.core (Am r.Ae.length)).2 (Am r.Ae.length)).1=none;rw[(P9 hC.so).2.1 e,e]
theorem RU.never {K1:KS} {N j n:Nat} (hC:BU N (0,0) K1) (ht:(Aw K1.core n).1=none) (hj:qX K1 j) (hl:K1.AV.length<=j) (h16:16<=N) (h1:1<=n) (h2:n<=16):False:=by
 refine hC.room (λb a r d=>?_) h1 (by omega) ht;obtain⟨i,c,e⟩:=List.mem_iff_getElem.1 a;exact hj i b r (by omega) (by rw[List.getElem?_eq_getElem c,e]) d
def Zx (N b:Nat) (r:PR) (K:KS):Prop:=16<=N->1<=Am r.Ae.length->∃q,K.ps b=some q/\q.co≠-1
theorem pX (K:KS) (b N:Nat) (r:PR) (h:A8 K w) (hT:K.EZ) (hb:K.ps b=some r) (hm:b∈K.AV) (hN:K.AV.Nodup) (hC:BU N (0,0) K) (hl:K.AV.length<=100):
  (P_ m 53 #[R_ K.kb,R_ b] w λe w'=>e=.returned (.tuple #[])/\∃K',A8 K' w'/\CG K K'/\BU N (0,0) K'/\BV K.T K'.T w w'/\Zx N b r K')/\∀u,CallsDIn NF m prog 53 #[R_ K.kb,R_ b] u w λe u' w'=>u'=u/\(e=.returned (.tuple #[])/\∃K',A8 K' w'/\CG K K'/\BU N (0,0) K'/\BV K.T K'.T w w'/\Zx N b r K'):=by
 refine⟨?_,λu=>?_⟩
 all_goals
  have q:=h.JK hb 11
  simp[PR.arr]at q
  have hP:=hC.pl b r hb
  have hle:=hC.le
  by_cases H:r.co=-1
  .rw[H]at q;obtain⟨a8,c8,q8⟩:=h.im8 hb
   first|gi_enter func53,ntmps53|gi_enter_d func53,ntmps53
   gi_wp2;have h0:A8 K w.drew:=h.no (p_ No w).drew;have bk:b≠K.kb:=λe=>by have:=(h.ps b r hb).t;rw[e,h.tk]at this;simp at this
   have bc:b≠K.cg:=λe=>by have:=(h.ps b r hb).t;rw[e,h.tc]at this;simp at this
   refine DT (P:=prog) _ rfl rfl (by kernel_rfl) 10 57 [0,1,2,3,4] [5,6,7,8,9] (by kernel_rfl) (by rfl)
    (NJ (At2 K.kb K.cg) w.drew 5 (ao8 K (Am r.Ae.length) w.drew) [(6,.tuple #[tA (Aw K.core (Am r.Ae.length)).1,tB (Aw K.core (Am r.Ae.length)).1]),(7,tA (Aw K.core (Am r.Ae.length)).1),(8,tB (Aw K.core (Am r.Ae.length)).1),(9,tA (Aw K.core (Am r.Ae.length)).1)]) (F8 (by simp) (by simp)) _ _ rfl rfl ?_;gi_wp2_with (gi_at_call 58;refine(Gg _ w.drew b _ _ _ q8 (by omega)).mono ?_;rintro e w1 ⟨rfl,rfl⟩);refine⟨rfl,by kernel_rfl,En,?_,?_,?_⟩
   .intro M u W d;have Z:=(d.1.cell (w:=w.drew) (p:=(T_ b 8)) (h.plt hb) (by rintro(h|h)<;>contradiction)).trans q8
    repeat' (refine Az ?_ ?_)
    all_goals first|exact trivial|gi_wp2_with (gi_at_call 58;refine(Gg _ W b _ _ _ Z (by omega)).mono ?_;rintro e w1 ⟨rfl,rfl⟩)
   .intro i L M u W d D y;obtain rfl|rfl|rfl|rfl|rfl:=(by simpa using L:i=5\/i=6\/i=7\/i=8\/i=9)
    .obtain rfl:=d.2.1 D;refine BJ rfl λKK Qj=>?_
     show wpListIn NF m prog _ _ _ (Act.put (Act.put (Act.put (Act.put (Act.put _ (some 18) (u 5)) (some 12) (u 6)) (some 19) (u 7)) (some 20) (u 8)) (some 4) (u 9)) _;gi_wp2_with fail;refine(am4 _ w.drew K (Am r.Ae.length) N h0 hC.fit (by omega) (by unfold Am;omega)).mono ?_;rintro e w1 ⟨rfl,g,I,n⟩;rw[Wn];gi_wp2;exact⟨_,rfl,F9 d (by simp) n ⟨rfl,g,I⟩⟩
    .have v:=(d.2.2.1 (y 5 (by simp) (by decide))).1;exact qK rfl rfl rfl ⟨_,rfl,Gu d (by decide) v (by simp)⟩
    .have j:=d.2.2.2 (6,.tuple #[tA (Aw K.core (Am r.Ae.length)).1,tB (Aw K.core (Am r.Ae.length)).1]) (by simp) (y 6 (by simp) (by decide));exact UL rfl rfl rfl j rfl ⟨_,rfl,GZ d (by decide) (by simp)⟩
    .have j:=d.2.2.2 (6,.tuple #[tA (Aw K.core (Am r.Ae.length)).1,tB (Aw K.core (Am r.Ae.length)).1]) (by simp) (y 6 (by simp) (by decide));exact UL rfl rfl rfl j rfl ⟨_,rfl,GZ d (by decide) (by simp)⟩
    .have s:=d.2.2.2 (7,tA (Aw K.core (Am r.Ae.length)).1) (by simp) (y 7 (by simp) (by decide));exact qL rfl rfl rfl ⟨_,rfl,Gu d (by decide) s (by simp)⟩
   .intro M u W d l;obtain⟨v,g,I⟩:=d.2.2.1 (l 5 (by simp));have A:=d.2.2.2 (8,tB (Aw K.core (Am r.Ae.length)).1) (by simp) (l 8 (by simp));have B:=d.2.2.2 (9,tA (Aw K.core (Am r.Ae.length)).1) (by simp) (l 9 (by simp));have j:=d.2.2.2 (6,.tuple #[tA (Aw K.core (Am r.Ae.length)).1,tB (Aw K.core (Am r.Ae.length)).1]) (by simp) (l 6 (by simp));have s:=d.2.2.2 (7,tA (Aw K.core (Am r.Ae.length)).1) (by simp) (l 7 (by simp));simp only at j s A B;show wpListIn NF m prog _ _ _ (Act.put (Act.put (Act.put (Act.put (Act.put _ (some 18) (u 5)) (some 12) (u 6)) (some 19) (u 7)) (some 20) (u 8)) (some 4) (u 9)) _;rw[v,j,s,A,B];have s0:RU K w b N r (Aw K.core (Am r.Ae.length)).1 0 W:=RU.of (CG.refl K) (BV.no (p_ No w).drew h.lt) hb hC g I (λi _ _ L=>absurd L (by omega));clear d v j s A B g I l;generalize (Aw K.core (Am r.Ae.length)).1=o at s0;gi_wp2;gi_loopw [4,5,6] (λa5 a6 i wr=>∃(o:d_ Nat) (k:Nat),a5=tA o/\a6=tB o/\i=b_ k/\k<=K.AV.length/\RU K w b N r o k wr) (λ_ _ i _=>K.AV.length-(intOf i).toNat)
    case atStart=>exact⟨o,0,rfl,rfl,rfl,by omega,s0⟩
    case round=>
     obtain⟨o,k,rfl,rfl,rfl,hk,n,g,E,hv,z,ϧ,ho,hz⟩:=hrel
     have q2:=g.kc2
     have xA:n.kb=K.kb:=E.kb
     have J:n.AV=K.AV:=E.AV
     rw[xA,J]at q2
     have Y:=g.JK z 11
     simp[PR.arr,H]at Y
     have f11:=g.tZ z 11
     cases o with
     |some a=>
      obtain⟨ha,G⟩:=ho a rfl
      simp only[tA,tB,Option.getD_some,Option.isSome_some]
      gi_wp2
      go_end0
      refine⟨by simp,n.AP b { r with co:=a },g.like (r':={ r with co:=a }) z ⟨rfl,rfl,rfl,rfl,rfl⟩ rfl (g.ps b r z).bl,E.trans (CG.set z a),?_,hv.trans (g.FI z),λ_ _=>⟨_,Ah,by show((a:Nat):Int)≠-1;omega⟩⟩
      exact BU.in ϧ z (by rw[J];exact hm) (by rw[J];exact hN) H rfl G ha
     |none=>
      have ϧ:BU N (0,0) n:=ϧ
      obtain⟨hz1,V⟩:=hz rfl
      simp only[tA,tB,Option.getD_none,Option.isSome_none]
      by_cases Bv:k<K.AV.length
      .have hg:K.AV[k]?=some K.AV[k]:=Lh Bv;generalize K.AV[k]=b' at hg;have x:n.AV[k]?=some b':=(by rw[J];exact hg);obtain⟨r',Gq⟩:=A8.mem (E.there hT) x;have d0:=g.qJ x;simp only[ptr]at d0;have ct:=λm=>Um m wr n b' N (0,0) r' g Gq (t_ x) (by rw[J];exact hN) ϧ
       rw[xA]at ct;gi_wp2_with (gi_at_call 52;refine(ct _).mono ?_;rintro e w2 ⟨rfl,f,C,F,R,hv2,hbk,Pm⟩);have hz3:qX f (k+1):=λi c q L S X=>by
        rw[F.AV]at S
        by_cases e:i=k
        .subst e;rw[x]at S;cases S;rw[hbk]at X;cases X;rfl
        .obtain⟨q1,U⟩:=A8.mem (E.there hT) S;have:=V i c q1 (by omega) S U;rw[Pm c q1 U this]at X;cases X;exact this
       have O:=Pm b r z H;have Q:f.kb=K.kb:=F.kb.trans xA;obtain⟨b8,c8',p8⟩:=C.im8 O;have h20:A8 f w2.drew:=C.no (p_ No w2).drew;have bk2:b≠f.kb:=λe=>by have:=(C.ps b r O).t;rw[e,C.tk]at this;simp at this
       have bc2:b≠f.cg:=λe=>by have:=(C.ps b r O).t;rw[e,C.tc]at this;simp at this
       refine DT (P:=prog) _ rfl rfl (by kernel_rfl) 10 57 [0,1,2,3,4] [5,6,7,8,9] (by kernel_rfl) (by rfl)
        (NJ (At2 f.kb f.cg) w2.drew 5 (ao8 f (Am r.Ae.length) w2.drew) [(6,.tuple #[tA (Aw f.core (Am r.Ae.length)).1,tB (Aw f.core (Am r.Ae.length)).1]),(7,tA (Aw f.core (Am r.Ae.length)).1),(8,tB (Aw f.core (Am r.Ae.length)).1),(9,tA (Aw f.core (Am r.Ae.length)).1)]) (F8 (by simp) (by simp)) _ _ rfl rfl ?_;gi_wp2_with (gi_at_call 58;refine(Gg _ w2.drew b _ _ _ p8 (by omega)).mono ?_;rintro e w1 ⟨rfl,rfl⟩);refine⟨rfl,by kernel_rfl,En,?_,?_,?_⟩
       .intro M u W d;have Z:=(d.1.cell (w:=w2.drew) (p:=(T_ b 8)) (C.plt O) (by rintro(h|h)<;>contradiction)).trans p8
        repeat' (refine Az ?_ ?_)
        all_goals first|exact trivial|gi_wp2_with (gi_at_call 58;refine(Gg _ W b _ _ _ Z (by omega)).mono ?_;rintro e w1 ⟨rfl,rfl⟩)
       .intro i L M u W d D y;obtain rfl|rfl|rfl|rfl|rfl:=(by simpa using L:i=5\/i=6\/i=7\/i=8\/i=9)
        .obtain rfl:=d.2.1 D;refine BJ rfl λKK Qj=>?_
         show wpListIn NF m prog _ _ _ (Act.put (Act.put (Act.put (Act.put (Act.put _ (some 49) (u 5)) (some 43) (u 6)) (some 50) (u 7)) (some 51) (u 8)) (some 4) (u 9)) _;have tk:=λm=>am4 m w2.drew f (Am r.Ae.length) N h20 R.fit (by omega) (by unfold Am;omega)
         rw[Q]at tk;gi_wp2_with fail;refine(tk _).mono ?_;rintro e w1 ⟨rfl,g,I,n⟩;rw[<-Q]at g n;rw[Wn];gi_wp2;exact⟨_,rfl,F9 d (by simp) n ⟨rfl,g,I⟩⟩
        .have v:=(d.2.2.1 (y 5 (by simp) (by decide))).1;exact qK rfl rfl rfl ⟨_,rfl,Gu d (by decide) v (by simp)⟩
        .have j:=d.2.2.2 (6,.tuple #[tA (Aw f.core (Am r.Ae.length)).1,tB (Aw f.core (Am r.Ae.length)).1]) (by simp) (y 6 (by simp) (by decide));exact UL rfl rfl rfl j rfl ⟨_,rfl,GZ d (by decide) (by simp)⟩
        .have j:=d.2.2.2 (6,.tuple #[tA (Aw f.core (Am r.Ae.length)).1,tB (Aw f.core (Am r.Ae.length)).1]) (by simp) (y 6 (by simp) (by decide));exact UL rfl rfl rfl j rfl ⟨_,rfl,GZ d (by decide) (by simp)⟩
        .have s:=d.2.2.2 (7,tA (Aw f.core (Am r.Ae.length)).1) (by simp) (y 7 (by simp) (by decide));exact qL rfl rfl rfl ⟨_,rfl,Gu d (by decide) s (by simp)⟩
       .intro M u W d l;obtain⟨v,h3,M3⟩:=d.2.2.1 (l 5 (by simp));have A:=d.2.2.2 (8,tB (Aw f.core (Am r.Ae.length)).1) (by simp) (l 8 (by simp));have B:=d.2.2.2 (9,tA (Aw f.core (Am r.Ae.length)).1) (by simp) (l 9 (by simp));have j:=d.2.2.2 (6,.tuple #[tA (Aw f.core (Am r.Ae.length)).1,tB (Aw f.core (Am r.Ae.length)).1]) (by simp) (l 6 (by simp));have s:=d.2.2.2 (7,tA (Aw f.core (Am r.Ae.length)).1) (by simp) (l 7 (by simp));simp only at j s A B;show wpListIn NF m prog _ _ _ (Act.put (Act.put (Act.put (Act.put (Act.put _ (some 49) (u 5)) (some 43) (u 6)) (some 50) (u 7)) (some 51) (u 8)) (some 4) (u 9)) _;rw[v,j,s,A,B];have s1:RU K w b N r (Aw f.core (Am r.Ae.length)).1 (k+1) W:=RU.of (E.trans F) ((hv.trans hv2).then (p_ No w2).drew) O R h3 M3 hz3;clear d v j s A B h3 M3 l;generalize (Aw f.core (Am r.Ae.length)).1=o at s1;gi_wp2;go_roundw
        case rel=>exact⟨o,k+1,rfl,rfl,by go_num,by omega,s1⟩
        case measure=>simp[intOf];omega
      .have hlt':¬(k:Int)<(K.AV.length:Int):=(by omega);gi_wp2;go_end0;exact⟨by simp,n,g,E,ϧ,hv,λh16 G=>(RU.never ϧ hz1 V (by rw[J];omega) h16 G (by unfold Am;omega)).elim⟩
  .have Cf:(r.co !=-1)=true:=by simpa using H
   first|gi_enter func53,ntmps53|gi_enter_d func53,ntmps53
   gi_wp2;refine bodyPost_ret (results_none rfl _ _ _) rfl ?_;exact⟨by simp,K,h,CG.refl K,hC,BV.no (p_ _ _) h.lt,λ_ _=>⟨r,hb,H⟩⟩
theorem Y9 (K:KS) (b N:Nat) (r:PR) (h:A8 K w) (hT:K.EZ) (hb:K.ps b=some r) (hm:b∈K.AV) (hN:K.AV.Nodup) (hC:BU N (0,0) K) (hl:K.AV.length<=100):
  P_ m 53 #[R_ K.kb,R_ b] w λe w'=>e=.returned (.tuple #[])/\∃K',A8 K' w'/\CG K K'/\BU N (0,0) K'/\BV K.T K'.T w w'/\Zx N b r K':=(pX m w K b N r h hT hb hm hN hC hl).1
end
def LyS (K:KS) (pid s:Int):Prop:=(s=2/\∀b∈K.AV,∀r,K.ps b=some r->(r.pid:Int)≠pid)\/∃b r,b∈K.AV/\K.ps b=some r/\(r.pid:Int)=pid/\r.en=true/\s=3
def LyB (K:KS) (pid:Int) (b:Nat) (r:PR):Prop:=b∈K.AV/\K.ps b=some r/\(r.pid:Int)=pid/\r.en=false
section
variable (m:Nat) (w:o_)
theorem ai6 (K:KS) (pid:Int) (h:A8 K w) (hT:K.EZ) (hl:K.AV.length<=100):P_ m 54 #[R_ K.kb,b_ pid] w λe w'=>((∃b r,e=.returned (R_ b)/\b∈K.AV/\K.ps b=some r/\(r.pid:Int)=pid/\w'.cell? (T_ b 2)=some (.bool r.en))\/(e=.returned (.pointer none)/\∀b∈K.AV,∀r,K.ps b=some r->(r.pid:Int)≠pid))/\Keep No w w':=by
 refine(Zr m w K pid h hT hl).mono ?_;rintro e w' ⟨a,v,rfl,⟨b,r,rfl,d,c,f⟩|⟨rfl,g⟩⟩
 .have q:=(h.no a).JK c 2;simp[PR.arr]at q;exact⟨.inl ⟨b,r,rfl,d,c,f,q⟩,a⟩
 .exact⟨.inr ⟨rfl,g⟩,a⟩
theorem su (K:KS) (pid:Int) (h:A8 K w) (hT:K.EZ) (hl:K.AV.length<=100):
  P_ m 51 #[R_ K.kb,b_ pid] w λe w'=>Keep No w w'/\((∃s:Int,e=.returned (.tuple #[.pointer none,b_ s])/\(s !=0)=true/\LyS K pid s)\/∃b r,e=.returned (.tuple #[R_ b,b_ 0])/\LyB K pid b r):=by
 have c:=λm=>ai6 m w K pid h hT hl
 gi_enter func51,ntmps51;gi_wp2_with (gi_at_call 54;refine(c _).mono ?_;rintro e w1 ⟨⟨b,r,rfl,g,f,a,d2⟩|⟨rfl,a⟩,d⟩<;>have a:=Nonempty.intro (PLift.up a)<;>try (cases hn:r.en<;>rw[hn]at d2))
 .go_ret2;obtain⟨⟨a⟩⟩:=a;exact⟨d,.inr ⟨b,r,by simp,g,f,a,hn⟩⟩
 .go_ret2;obtain⟨⟨a⟩⟩:=a;exact⟨d,.inl ⟨3,by simp,by decide,.inr ⟨b,r,g,f,a,hn,rfl⟩⟩⟩
 .go_ret2;obtain⟨⟨a⟩⟩:=a;exact⟨d,.inl ⟨2,by simp,by decide,.inl ⟨rfl,a⟩⟩⟩
theorem bd8 (K:KS) (N:Nat) (pid:Int) (h:A8 K w) (hT:K.EZ) (hN:K.AV.Nodup) (hC:BU N (0,0) K) (hl:K.AV.length<=100):
  P_ m 17 #[R_ K.kb,b_ pid] w λe w'=>∃s:Int,e=.returned (b_ s)/\∃K',A8 K' w'/\CG K K'/\BU N (0,0) K'/\BV K.T K'.T w w'/\(LyS K pid s\/(s=0/\∃b r,LyB K pid b r/\∃q,K'.ps b=some q/\q.co=-1)):=by
 have c:=λm=>su m w K pid h hT hl
 gi_enter func17,ntmps17;gi_wp2_with (gi_at_call 51;refine(c _).mono ?_;rintro e w1 ⟨d,⟨s,rfl,n,a⟩|⟨b,r,rfl,a⟩⟩<;>try have g:=λm=>Um m w1 K b N (0,0) r (h.no d) a.2.1 a.1 hN hC)
 .go_ret;exact⟨s,by simp,K,h.no d,CG.refl K,hC,BV.no d h.lt,.inl a⟩
 .gi_wp2_with (gi_at_call 52;refine(g _).mono ?_;rintro e w2 ⟨rfl,K',i,j,f,l,k,_⟩);go_ret;exact⟨0,by simp,K',i,j,f,(BV.no d h.lt).trans l,.inr ⟨rfl,b,r,a,_,k,rfl⟩⟩
theorem br8 (K:KS) (N:Nat) (pid:Int) (h:A8 K w) (hT:K.EZ) (hN:K.AV.Nodup) (hC:BU N (0,0) K) (hl:K.AV.length<=100):
  P_ m 18 #[R_ K.kb,b_ pid] w λe w'=>∃s:Int,e=.returned (b_ s)/\∃K',A8 K' w'/\CG K K'/\BU N (0,0) K'/\BV K.T K'.T w w'/\(LyS K pid s\/(s=0/\∃b r,LyB K pid b r/\Zx N b r K')):=by
 have c:=λm=>su m w K pid h hT hl
 gi_enter func18,ntmps18;gi_wp2_with (gi_at_call 51;refine(c _).mono ?_;rintro e w1 ⟨d,⟨s,rfl,n,a⟩|⟨b,r,rfl,a⟩⟩<;>try have g:=λm=>Y9 m w1 K b N r (h.no d) hT a.2.1 a.1 hN hC hl)
 .go_ret;exact⟨s,by simp,K,h.no d,CG.refl K,hC,BV.no d h.lt,.inl a⟩
 .gi_wp2_with (gi_at_call 53;refine(g _).mono ?_;rintro e w2 ⟨rfl,K',i,j,f,l,k⟩);go_ret;exact⟨0,by simp,K',i,j,f,(BV.no d h.lt).trans l,.inr ⟨rfl,b,r,a,k⟩⟩
end
end Go.Fxa
