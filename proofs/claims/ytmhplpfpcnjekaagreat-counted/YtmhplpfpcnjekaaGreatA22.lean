/- A kernel of many processes: en -/
import Derived.Test.YtmhplpfpcnjekaaGreatA21
namespace Go.Fxa
open Conc Proofs RowKit Proofs.Tryz
set_option maxRecDepth 1000000
set_option maxHeartbeats 0
section
variable (m:Nat) (w:o_)
theorem iL (K:KS) (pb:Nat) (p:PR) (h:AV K w) (hT:K.EC) (hp:K.ps pb=some p) (hl:K.AP.length<=100):
  P_ m 195 #[R_ K.kb,R_ pb] w λe w'=>Keep No w w'/\∃v,e=.returned v/\(v=.pointer none\/∃b r,v=ptr b/\b∈K.AP/\K.ps b=some r/\r.en=true):=by
 have q:=h.kc2;gi_enter func195,ntmps195;gi_wp2;gi_loopw [12] (λi wr=>∃k:Nat,k<=K.AP.length/\i=b_ k/\Keep No w wr) (λi _=>K.AP.length-(intOf i).toNat)
 case atStart=>exact⟨0,by omega,rfl,p_ _ _⟩
 case round=>
  obtain⟨k,o,rfl,KK⟩:=hrel
  by_cases l:k<K.AP.length
  .have d:K.AP[k]?=some K.AP[k]:=Ii l;generalize K.AP[k]=b at d;obtain⟨r,g⟩:=AV.mem hT d;have c:=h.no KK;have n:=c.dU d;have d1:=c.GG g 1;have d2:=c.GG g 2;have d3:=c.GG hp 0;simp only[ptr]at n;simp[PR.arr]at d1 d2 d3;gi_wp2;refine Bi 8 33 ?_;gi_wp2;refine CZ ?_ ?_
   .intro W a;have e1:=a.has (w:=wr.drew) d1;have e3:=a.has (w:=wr.drew) d3
    repeat' (refine Ae ?_ ?_)
    all_goals first|exact trivial|gi_wp2
   .intro W a;have e1:=a.has (w:=wr.drew) d1;have e2:=a.has (w:=wr.drew) d2;have e3:=a.has (w:=wr.drew) d3;have KW:Keep No w W:=KK.drew.then a;by_cases j:(r.par:Int)=p.pid
    .have f:((r.par:Int)==(p.pid:Int))=true:=(by simpa using j);cases hn:r.en
     .rw[hn]at e2;gi_wp2;go_roundw
      case rel=>exact⟨k+1,by omega,by go_num,KW⟩
      case measure=>simp[intOf];omega
     .rw[hn]at e2;gi_wp2;go_ret;exact⟨KW,ptr b,by simp[ptr],.inr ⟨b,r,rfl,t_ d,g,hn⟩⟩
    .have f:((r.par:Int)==(p.pid:Int))=false:=(by simpa using j);gi_wp2;go_roundw
     case rel=>exact⟨k+1,by omega,by go_num,KW⟩
     case measure=>simp[intOf];omega
  .obtain rfl:k=K.AP.length:=(by omega);gi_wp2;go_ret;exact⟨KK,.pointer none,by simp,.inl rfl⟩
theorem Xr {T:Tag} {op:Nat->Nat} {kb b:Nat} {w:o_} (h:YI T op w kb) (hb:T b=(11,0)):∃a n c x y,w.cell? (S_ b)=some (.slice a n c)/\w.cell? (T_ b 1)=some (.bool x)/\w.cell? (T_ b 2)=some (.bool y)/\n<=16:=by
 obtain⟨v,x,y,d,e⟩:=h.pipe b hb;obtain rfl|⟨g,c,i,rfl,_,f,_⟩:=e
 .exact⟨_,_,_,x,y,(Af d 0).trans rfl,(Af d 1).trans rfl,(Af d 2).trans rfl,by omega⟩
 .exact⟨_,_,_,x,y,(Af d 0).trans rfl,(Af d 1).trans rfl,(Af d 2).trans rfl,f⟩
theorem Xn (K:KS) (b:Nat) (h:AV K w) (hb:K.T b=(11,0)):
  P_ m 270 #[R_ b] w λe w'=>Keep No w w'/\∃x,e=.returned (.bool x):=by
 obtain⟨a,n,c,x,y,g,d1,d2,i⟩:=Xr h.fl hb;gi_enter func270,ntmps270;by_cases f:n=0
 .have d:((n:Int)==0)=true:=by simpa using f
  gi_wp2;go_ret;exact⟨p_ _ _,y,by simp⟩
 .have d:((n:Int)==0)=false:=by simpa using f
  gi_wp2;go_ret;exact⟨p_ _ _,false,by simp⟩
theorem XL (K:KS) (b:Nat) (h:AV K w) (hb:K.T b=(11,0)):
  P_ m 265 #[R_ b] w λe w'=>Keep No w w'/\∃x,e=.returned (.bool x):=by
 obtain⟨a,n,c,x,y,f,d1,d2,g⟩:=Xr h.fl hb;gi_enter func265,ntmps265;by_cases i:n=16
 .have d:((n:Int)==16)=true:=by simpa using(by omega:(n:Int)=16)
  gi_wp2;go_ret;exact⟨p_ _ _,x,by simp⟩
 .have d:((n:Int)==16)=false:=by simpa using(by omega:¬(n:Int)=16)
  gi_wp2;go_ret;exact⟨p_ _ _,false,by simp⟩
theorem QN:(binOp .neq 32 .nilFunc .nilFunc).run prog w=.ok (.bool false) w:=by kernel_rfl
theorem ah7 {x y:Nat}:(binOp .neq 32 (.func (.func 196) #[] #[R_ x,R_ y]) .nilFunc).run prog w=.ok (.bool true) w:=by kernel_rfl
theorem ah5 {x:Nat}:(binOp .neq 32 (.func (.func 270) #[R_ x] #[]) .nilFunc).run prog w=.ok (.bool true) w:=by kernel_rfl
theorem ah6 {x:Nat}:(binOp .neq 32 (.func (.func 265) #[R_ x] #[]) .nilFunc).run prog w=.ok (.bool true) w:=by kernel_rfl
theorem ύ (K:KS) (pb x y:Nat) (p:PR) (h:AV K w) (hT:K.EC) (hp:K.ps pb=some p) (hl:K.AP.length<=100) (dx:w.cell? (S_ x)=some (R_ K.kb)) (dy:w.cell? (S_ y)=some (R_ pb)):
  P_ m 196 #[R_ x,R_ y] w λe w'=>Keep No w w'/\∃x,e=.returned (.bool x):=by
 have c:=λm=>iL m w K pb p h hT hp hl
 gi_enter func196,ntmps196;gi_wp2_with (gi_at_call 195;refine(c _).mono ?_;rintro e w1 ⟨a,v,rfl,d⟩;obtain rfl|⟨b,r,rfl,_⟩:=d<;>try simp only[ptr])
 .go_ret;exact⟨a,true,by simp⟩
 .go_ret;exact⟨a,false,by simp⟩
def Hl (en:Bool) (s:Int):Prop:=(en=true->s=2)/\(en=false->s=0\/s=1)
theorem sK (K:KS) (pb:Nat) (p:PR) (h:AV K w) (hT:K.EC) (hp:K.ps pb=some p) (hl:K.AP.length<=100):
  P_ m 55 #[R_ pb] w λe w'=>Keep No w w'/\∃s,e=.returned (b_ s)/\Hl p.en s:=by
 have j:=h.GG hp 2;have d:=h.GG hp 4;simp[PR.arr]at j d;cases hn:p.en with
 |true=>
  rw[hn]at j
  gi_enter func55,ntmps55
  gi_wp2
  go_ret
  exact⟨p_ _ _,2,by simp,by simp[Hl]⟩
 |false=>
  rw[hn]at j
  obtain a|⟨x,y,a,o,q,r,t⟩|⟨g,a,k⟩:=(h.ps pb p hp).bl
  .rw[a]at d;have i:=QN w;gi_enter func55,ntmps55;gi_wp2;refine⟨(λf h=>by cases h),?_⟩;gi_wp2;go_ret;exact⟨p_ _ _,0,by simp,by simp[Hl]⟩
  .rw[a]at d;simp only[ptr]at d;have i:=ah7 w (x:=x) (y:=y);have l:w.cell? (S_ x)=some (R_ K.kb):=bce o rfl;have n:w.cell? (S_ y)=some (R_ pb):=bce q rfl;have c:=λm=>ύ m w K pb x y p h hT hp hl l n
   gi_enter func55,ntmps55;gi_wp2_with (gi_at_call 196;refine(c _).mono ?_;rintro e w1 ⟨b,x,rfl⟩)
   all_goals go_ret
   .exact⟨b,1,by simp,by simp[Hl]⟩
   .exact⟨b,0,by simp,by simp[Hl]⟩
  .simp only[ptr]at a;obtain a|a:=a
   .rw[a]at d;have i:=ah5 w (x:=g);have c:=λm=>Xn m w K g h k
    gi_enter func55,ntmps55;gi_wp2_with (gi_at_call 270;refine(c _).mono ?_;rintro e w1 ⟨b,x,rfl⟩)
    all_goals go_ret
    .exact⟨b,1,by simp,by simp[Hl]⟩
    .exact⟨b,0,by simp,by simp[Hl]⟩
   .rw[a]at d;have i:=ah6 w (x:=g);have c:=λm=>XL m w K g h k
    gi_enter func55,ntmps55;gi_wp2_with (gi_at_call 265;refine(c _).mono ?_;rintro e w1 ⟨b,x,rfl⟩)
    all_goals go_ret
    .exact⟨b,1,by simp,by simp[Hl]⟩
    .exact⟨b,0,by simp,by simp[Hl]⟩
end
def BM (T T':Tag) (w w':o_):Prop:=Dv T T' (λt=>t≠(0,0)) (λ_=>True) w w'
section
variable {T T' T'':Tag} {Q N:Nat×Nat->Prop} {w w' LP:o_} {K:KS} {b:Nat} {r r':PR}
theorem Dv.Vt (h:Dv T T' Q N w w') (hq:∀t,Q t->t≠(0,0)):BM T T' w w':=h.weak hq λ_ _=>trivial
theorem BM.trans (h:BM T T' w w') (h':BM T' T'' w' LP):BM T T'' w LP:=Dv.trans h h'
theorem BM.no (h:Keep No w w') (hl:∀b,w.heap.size<=b->T b=(0,0)):BM T T w w':=Dv.no h hl
theorem BM.then (h:BM T T' w w') (h':Keep No w' LP):BM T T' w LP:=h.trans (BM.no h' h.lt)
theorem BM.old (h:BM T T' w w') {o:Obj} {g:Nat} (hg:w.heap[g]?=some o) (hb:T g=(0,0)):w'.heap[g]?=some o:=h.keep.old hg (by unfold On;rw[hb];simp)
structure PR.Like (r r':PR):Prop where
 en:r'.en=r.en
 im:r'.im=r.im
 fd:r'.fd=r.fd
 Ag:r'.Ag=r.Ag
 fds:r'.fds=r.fds
theorem yK.like {T:Tag} {kb:Nat} (h:yK T w kb b r) (hL:r.Like r') {i:Nat} {v:n_} (ha:r.arr.setIfInBounds i v=r'.arr) (KN:KG T w kb b r'.bl):yK T (w.setCell (T_ b i) v) kb b r':=by
 have d:Keep (On T λt=>t=(6,b)) w (w.setCell (T_ b i) v):=(p_ _ _).setCell _ λ_=>h.t
 refine⟨h.t,?_,λe=>?_,λe=>?_,KN.keep d (by simp),λe=>?_⟩
 .rw[Ah h.o v];unfold PR.obj;rw[ha]
 .obtain⟨g,c,a1,a2,a⟩:=h.im (hL.en ▸ e);rw[hL.im,hL.Ag];exact⟨g,c,a1,a2.keep d (by unfold On;rw[a];simp),a⟩
 .obtain⟨g,c,a1,a2,a⟩:=h.fd (hL.en ▸ e);rw[hL.fd,hL.fds];exact⟨g,c,a1,a2.keep d (by unfold On;rw[a];simp),a⟩
 .rw[hL.im,hL.fd,hL.Ag,hL.fds];exact h.no (hL.en ▸ e)
theorem AV.like (h:AV K w) (hb:K.ps b=some r) (hL:r.Like r') {i:Nat} {v:n_} (ha:r.arr.setIfInBounds i v=r'.arr) (KN:KG K.T w K.kb b r'.bl):AV { K with ps:=Dz K.ps b r' } (w.setCell (T_ b i) v):=by
 have a:=h.ps b r hb;exact h.cO (Dv.of ((p_ _ _).setCell _ λ_=>.inl a.t) h.lt) (a.like hL ha KN)
theorem AV.Ee (h:AV K w) (hb:K.ps b=some r) {i:Nat} {v:n_}:BM K.T K.T w (w.setCell (T_ b i) v):=Dv.of ((p_ _ _).setCell _ λ_=>by unfold On;rw[(h.ps b r hb).t];simp) h.lt
theorem AV.hd (h:AV K w):∃ks,KC K w ks/\Hd 186 w K.kb 0 114 ks K.cg K.cc K.core:=let ⟨ks,a,c⟩:=h.k;⟨ks,c,a,c.c0,h.mc,by decide⟩
theorem AV.hds (h:AV K w):∃ks,KC K w ks/\Hd 188 w K.kb 1 114 ks K.sg K.sc K.swap:=let ⟨ks,a,c⟩:=h.k;⟨ks,c,a,c.c1,h.ms,by decide⟩
end
def KS.eG (K:KS) (l:List (W_)) (g c:Nat):KS:={ K with core:=l,cg:=g,cc:=c,T:=BA K.T g (2,0) }
def KS.swap' (K:KS) (l:List (W_)) (g c:Nat):KS:={ K with swap:=l,sg:=g,sc:=c,T:=BA K.T g (3,0) }
def KS.Di (K:KS) (b:Nat) (r:PR):KS:={ K with ps:=Dz K.ps b r }
section
variable (m:Nat) (w:o_)
theorem bn1 (K:KS) (a n N:Nat) (h:AV K w) (hF:Fit N K.core) (hN:N<=10000) (hn:a+n<=N) (hl:K.core.length+1<=N):
  P_ m 91 #[R_ K.kb,b_ (a:Nat),b_ (n:Nat)] w λe w'=>e=.returned (.tuple #[])/\∃g c,AV (K.eG (CW K.core a n) g c) w'/\BM K.T (BA K.T g (2,0)) w w':=by
 obtain⟨l,f,i⟩:=h.hd;refine(bn2 m w K.kb K.cg K.cc a n N 114 l K.core i hF hN hn hl).mono ?_;rintro e w' ⟨rfl,d,g,c,b,j⟩;have M:Dv K.T (BA K.T g (2,0)) (λt=>t=(1,0)\/t=(2,0)) (λt=>t=(2,0)) w w':=Dv.row (d.on (by rintro k _ (rfl|rfl);exact .inl h.tk;exact .inr h.tc)) h.lt (j.imp (λe=>by rw[e];exact h.tc) id) (Rw.lt b.mp) rfl;exact⟨rfl,g,c,h.sQ M f b.k b.mp BH,M.Vt (by rintro t (rfl|rfl)<;>simp)⟩
theorem an4 (K:KS) (n N:Nat) (h:AV K w) (hF:Fit N K.core) (hN:N<=10000) (hn:n<=10000):
  P_ m 92 #[R_ K.kb,b_ (n:Nat)] w λe w'=>e=.returned (NK (Aw K.core n).1)/\AV { K with core:=(Aw K.core n).2 } w'/\BM K.T K.T w w'/\Keep (At2 K.kb K.cg) w w':=by
 obtain⟨g,b,c⟩:=h.hd;refine(takeC m w K.kb K.cg K.cc n N 114 g K.core c hF hN hn).mono ?_;rintro e w' ⟨rfl,a,d,f⟩;have M:Dv K.T K.T (λt=>t=(1,0)\/t=(2,0)) (λt=>t=(2,0)) w w':=Dv.of (a.on (by rintro k _ (rfl|rfl);exact .inl h.tk;exact .inr h.tc)) h.lt;exact⟨rfl,h.sQ M b d f h.tc,M.Vt (by rintro t (rfl|rfl)<;>simp),a⟩
theorem η (K:KS) (a n N:Nat) (h:AV K w) (hF:Fit N K.swap) (hN:N<=10000) (hn:a+n<=N) (hl:K.swap.length+1<=N):
  P_ m 156 #[.pointer (some (T_ K.kb 1)),b_ (a:Nat),b_ (n:Nat)] w λe w'=>e=.returned (.tuple #[])/\∃g c,AV (K.swap' (CW K.swap a n) g c) w'/\BM K.T (BA K.T g (3,0)) w w':=by
 obtain⟨l,f,i⟩:=h.hds;refine(bn0 m w K.kb K.sg K.sc a n N 114 l K.swap i hF hN hn hl).mono ?_;rintro e w' ⟨rfl,d,g,c,b,j⟩;have M:Dv K.T (BA K.T g (3,0)) (λt=>t=(1,0)\/t=(3,0)) (λt=>t=(3,0)) w w':=Dv.row (d.on (by rintro k _ (rfl|rfl);exact .inl h.tk;exact .inr h.ts)) h.lt (j.imp (λe=>by rw[e];exact h.ts) id) (Rw.lt b.mp) rfl;exact⟨rfl,g,c,h.sO M f b.k b.mp BH,M.Vt (by rintro t (rfl|rfl)<;>simp)⟩
theorem Θ (K:KS) (n N:Nat) (h:AV K w) (hF:Fit N K.swap) (hN:N<=10000) (hn:n<=10000):
  P_ m 89 #[.pointer (some (T_ K.kb 1)),b_ (n:Nat)] w λe w'=>e=.returned (NK (Aw K.swap n).1)/\AV { K with swap:=(Aw K.swap n).2 } w'/\BM K.T K.T w w'/\Keep (At2 K.kb K.sg) w w':=by
 obtain⟨g,b,c⟩:=h.hds;refine(an2 m w K.kb K.sg K.sc n N 114 g K.swap c hF hN hn).mono ?_;rintro e w' ⟨rfl,a,d,f⟩;have M:Dv K.T K.T (λt=>t=(1,0)\/t=(3,0)) (λt=>t=(3,0)) w w':=Dv.of (a.on (by rintro k _ (rfl|rfl);exact .inl h.tk;exact .inr h.ts)) h.lt;exact⟨rfl,h.sO M b d f h.ts,M.Vt (by rintro t (rfl|rfl)<;>simp),a⟩
theorem AV.im8 {K:KS} {w:o_} {b:Nat} {r:PR} (h:AV K w) (hb:K.ps b=some r):∃a c,w.cell? (T_ b 8)=some (.slice a r.Ag.length c):=by
 have q:=h.GG hb 8;cases hn:r.en with
 |true=>
  obtain⟨d,_,e,_⟩:=(h.ps b r hb).no hn
  exact⟨none,0,by rw[q,e];simp[PR.arr,d]⟩
 |false=>
  obtain⟨g,c,d,_⟩:=(h.ps b r hb).im hn
  exact⟨some (S_ g),c,by rw[q];simp[PR.arr,d]⟩
theorem oL (K:KS) (b:Nat) (r:PR) (h:AV K w) (hb:K.ps b=some r) (Gz:r.co=-1):
  P_ m 52 #[R_ K.kb,R_ b] w λe w'=>e=.returned (.tuple #[])/\Keep No w w':=by
 have q:=h.GG hb 11;simp[PR.arr,Gz]at q;gi_enter func52,ntmps52;gi_wp2;refine bodyPost_ret (results_none rfl _ _ _) rfl ?_;exact⟨by simp,p_ _ _⟩
theorem jg (K:KS) (b a N:Nat) (r:PR) (h:AV K w) (hb:K.ps b=some r) (Gz:r.co=a) (hF:Fit N K.core) (hN:N<=10000) (hn:a+Aj r.Ag.length<=N) (hl:K.core.length+1<=N) (hL:r.Ag.length<1000):
  P_ m 52 #[R_ K.kb,R_ b] w λe w'=>e=.returned (.tuple #[])/\∃g c,AV ((K.eG (CW K.core a (Aj r.Ag.length)) g c).Di b { r with co:=-1 }) w'/\BM K.T (BA K.T g (2,0)) w w':=by
 have q:=h.GG hb 11;simp[PR.arr,Gz]at q;obtain⟨t,u,j⟩:=h.im8 hb;have s:((a:Int)==-1)=false:=by simp
 gi_enter func52,ntmps52;gi_wp2;refine Bi 9 22 ?_;gi_wp2_with (gi_at_call 58;refine(ER _ w.drew b _ _ _ j (by omega)).mono ?_;rintro e w1 ⟨rfl,rfl⟩);refine CZ ?_ ?_
 .intro W f;have l:=f.has (w:=w.drew) q;have n:=f.has (w:=w.drew) j
  repeat' (refine Ae ?_ ?_)
  all_goals first|exact trivial|gi_wp2_with (gi_at_call 58;refine(ER _ W b _ _ _ n (by omega)).mono ?_;rintro e w1 ⟨rfl,rfl⟩)
 .intro W f;have KW:Keep No w W:=(p_ No w).drew.then f;have p:=h.no KW;gi_wp2_with fail;refine(bn1 _ W K a (Aj r.Ag.length) N p hF hN hn hl).mono ?_;rintro e w2 ⟨rfl,g,c,d,k⟩;have i:=d.GG hb 11;simp[PR.arr,Gz]at i;have o:=d.bU hb 11;gi_wp2;go_end0;exact⟨by simp,g,c,d.like (r':={ r with co:=-1 }) hb ⟨rfl,rfl,rfl,rfl,rfl⟩ rfl (d.ps b r hb).bl,((BM.no KW h.lt).trans k).trans (d.Ee hb)⟩
end
def Ie (f:Nat->Nat):Nat->Nat
 |0=>0
 |n+1=>f n+Ie f n
theorem RP {f g:Nat->Nat}:∀{n:Nat},(∀i,i<n->f i=g i)->Ie f n=Ie g n
 |0,_=>rfl
 |n+1,h=>by simp only[Ie];rw[h n (by omega),RP λi a=>h i (by omega)]
theorem Nc (f g:Nat->Nat):∀n:Nat,Ie (λi=>f i+g i) n=Ie f n+Ie g n
 |0=>rfl
 |n+1=>by simp only[Ie];rw[Nc f g n];omega
theorem LY:∀n:Nat,Ie (λ_=>0) n=0
 |0=>rfl
 |n+1=>by simp only[Ie];rw[LY n]
theorem WC:∀n:Nat,Ie (λ_=>1) n=n
 |0=>rfl
 |n+1=>by simp only[Ie];rw[WC n];omega
theorem Y2 (a n:Nat):∀N:Nat,Ie (λi=>Ny i a n) N=min N (a+n)-min N a
 |0=>by simp[Ie]
 |N+1=>by
  simp only[Ie]
  rw[Y2 a n N]
  unfold Ny
  split<;>omega
theorem P7 {a n N:Nat} (h:a+n<=N):Ie (λi=>Ny i a n) N=n:=by rw[Y2];omega
theorem TB {N:Nat}:∀{l:List (W_)},Sound N l->Ie (λi=>Dq i l) N=GI l
 |[],_=>by simp only[Dq,GI];exact LY N
 |r::l,h=>by
  simp only[Dq,GI]
  rw[Nc (λi=>Ny i r.1 r.2) (λi=>Dq i l),P7 (h r (by simp)).2,TB λx a=>h x (by simp[a])]
theorem UD (f:Nat->Nat->Nat) (N:Nat):∀L:List Nat,Ie (λi=>BD (f i) L) N=BD (λb=>Ie (λi=>f i b) N) L
 |[]=>by simp only[BD];exact LY N
 |b::L=>by
  simp only[BD]
  rw[Nc (λi=>f i b) (λi=>BD (f i) L),UD f N L]
def inC (ps:Nat->d_ PR) (b:Nat):Nat:=match ps b with|some r=>if r.co=-1 then 0 else Aj r.Ag.length|none=>0
def onS (ps:Nat->d_ PR) (b:Nat):Nat:=match ps b with|some r=>Aj r.Ag.length|none=>0
theorem ϻ {ps:Nat->d_ PR} {b:Nat} {r:PR} (h:ps b=some r):inC ps b=if r.co=-1 then 0 else Aj r.Ag.length:=by unfold inC;rw[h]
def EX (i:Nat) (ps:Nat->d_ PR) (b:Nat):Nat:=match ps b with|some r=>if r.co=-1 then 0 else Ny i r.co.toNat (Aj r.Ag.length)|none=>0
def JR (i:Nat) (ps:Nat->d_ PR) (b:Nat):Nat:=match ps b with|some r=>Ny i r.sw (Aj r.Ag.length)|none=>0
theorem ϖ {ps:Nat->d_ PR} {b N:Nat} (h:∀r,ps b=some r->r.co=-1\/∃a:Nat,r.co=a/\a+Aj r.Ag.length<=N):Ie (λi=>EX i ps b) N=inC ps b:=by
 unfold EX inC;cases hb:ps b with
 |none=>simp only;exact LY N
 |some r=>
  simp only
  obtain e|⟨a,e,c⟩:=h r hb
  .simp only[e,if_true];exact LY N
  .simp only[e,Int.toNat_natCast];rw[if_neg (by omega)];have:∀i:Nat,(if(a:Int)=-1 then 0 else Ny i a (Aj r.Ag.length))=Ny i a (Aj r.Ag.length):=λi=>if_neg (by omega)
   simp only[this];exact P7 c
theorem ϕ {ps:Nat->d_ PR} {b N:Nat} (h:∀r,ps b=some r->r.sw+Aj r.Ag.length<=N):Ie (λi=>JR i ps b) N=onS ps b:=by
 unfold JR onS;cases hb:ps b with
 |none=>simp only;exact LY N
 |some r=>simp only;exact P7 (h r hb)
theorem ji {N a n:Nat} {K:KS} (hs:Sound N K.core) (hp:∀b r,K.ps b=some r->r.co=-1\/∃a:Nat,r.co=a/\a+Aj r.Ag.length<=N) (ha:a+n<=N)
  (h:∀i,i<N->Dq i K.core+BD (EX i K.ps) K.AP+Ny i a n=1):GI K.core+BD (inC K.ps) K.AP+n=N:=by
 have e:=RP (n:=N) h;rw[WC,Nc (λi=>Dq i K.core+BD (EX i K.ps) K.AP) (λi=>Ny i a n),Nc (λi=>Dq i K.core) (λi=>BD (EX i K.ps) K.AP),TB hs,P7 ha,UD (λi b=>EX i K.ps b)]at e;rw[BV (g:=inC K.ps) λb _=>ϖ (hp b)]at e;exact e
theorem jh {N a n:Nat} {K:KS} (hs:Sound N K.swap) (hp:∀b r,K.ps b=some r->r.sw+Aj r.Ag.length<=N) (ha:a+n<=N)
  (h:∀i,i<N->Dq i K.swap+BD (JR i K.ps) K.AP+Ny i a n=1):GI K.swap+BD (onS K.ps) K.AP+n=N:=by
 have e:=RP (n:=N) h;rw[WC,Nc (λi=>Dq i K.swap+BD (JR i K.ps) K.AP) (λi=>Ny i a n),Nc (λi=>Dq i K.swap) (λi=>BD (JR i K.ps) K.AP),TB hs,P7 ha,UD (λi b=>JR i K.ps b)]at e;rw[BV (g:=onS K.ps) λb _=>ϕ (hp b)]at e;exact e
theorem gI {ps:Nat->d_ PR} {b:Nat} {r:PR} (h:ps b=some r):onS ps b=Aj r.Ag.length:=by unfold onS;rw[h]
theorem DX {i:Nat} {ps:Nat->d_ PR} {b:Nat} {r:PR} (h:ps b=some r):EX i ps b=if r.co=-1 then 0 else Ny i r.co.toNat (Aj r.Ag.length):=by unfold EX;rw[h]
theorem F5 {i:Nat} {ps:Nat->d_ PR} {b:Nat} {r:PR} (h:ps b=some r):JR i ps b=Ny i r.sw (Aj r.Ag.length):=by unfold JR;rw[h]
theorem Oj (i a:Nat):Ny i a 0=0:=if_neg (by omega)
theorem Uu {i a n:Nat} (h1:a<=i) (h2:i<a+n):Ny i a n=1:=if_pos ⟨h1,h2⟩
structure BR (N:Nat) (x:W_) (K:KS):Prop where
 le:N<=1000
 so:Sound N K.core
 uM:VW K.core
 xl:x.1+x.2<=N
 cnt:∀i,i<N->Dq i K.core+BD (EX i K.ps) K.AP+Ny i x.1 x.2=1
 pl:∀b r,K.ps b=some r->r.Ag.length<=128/\(r.co=-1\/∃a:Nat,r.co=a/\a+Aj r.Ag.length<=N/\1<=Aj r.Ag.length)
theorem BR.sum {N:Nat} {x:Nat×Nat} {K:KS} (h:BR N x K):GI K.core+BD (inC K.ps) K.AP+x.2=N:=ji h.so (λb r e=>(h.pl b r e).2.imp id λ⟨a,c,d,_⟩=>⟨a,c,d⟩) h.xl h.cnt
theorem BR.fit {N:Nat} {x:Nat×Nat} {K:KS} (h:BR N x K):Fit N K.core:=h.so.fit (by have:=h.sum;omega)
theorem BR.same {N:Nat} {x:Nat×Nat} {K K':KS} (h:BR N x K) (hc:K'.core=K.core) (hs:∀i,BD (EX i K'.ps) K'.AP=BD (EX i K.ps) K.AP) (hp:∀b r,K'.ps b=some r->r.Ag.length<=128/\(r.co=-1\/∃a:Nat,r.co=a/\a+Aj r.Ag.length<=N/\1<=Aj r.Ag.length)):BR N x K':=
 ⟨h.le,by rw[hc];exact h.so,by rw[hc];exact h.uM,h.xl,λi c=>by rw[hc,hs];exact h.cnt i c,hp⟩
structure CJ (K K':KS):Prop where
 eq:K'={ K with core:=K'.core,cg:=K'.cg,cc:=K'.cc,T:=K'.T,ps:=K'.ps }
 ps:∃f:Nat->Int,∀b,K'.ps b=(K.ps b).map λr=>{ r with co:=f b }
theorem CJ.refl (K:KS):CJ K K:=⟨rfl,λb=>match K.ps b with|some r=>r.co|none=>0,λb=>by cases h:K.ps b<;>simp[h]⟩
theorem CJ.trans {K K' K'':KS} (h:CJ K K') (h':CJ K' K''):CJ K K'':=by
 obtain⟨e1,f,a⟩:=h;obtain⟨e2,g,p2⟩:=h';refine⟨?_,g,λb=>?_⟩
 .rw[e2,e1]
 .rw[p2,a];cases K.ps b<;>rfl
theorem CJ.take {K:KS} {l:List (W_)}:CJ K { K with core:=l }:=⟨rfl,(CJ.refl K).ps⟩
theorem CJ.AP {K K':KS} (h:CJ K K'):K'.AP=K.AP:=by rw[h.eq]
theorem CJ.kb {K K':KS} (h:CJ K K'):K'.kb=K.kb:=by rw[h.eq]
theorem CJ.there {K K':KS} (h:CJ K K') (hT:K.EC):K'.EC:=by
 intro b a;rw[h.AP]at a;obtain⟨r,d⟩:=hT b a;obtain⟨f,c⟩:=h.ps;exact⟨_,by rw[c,d];rfl⟩
theorem CJ.set {K:KS} {b:Nat} {r:PR} (hb:K.ps b=some r) (c:Int):CJ K (K.Di b { r with co:=c }):=by
 refine⟨rfl,λk=>if k=b then c else match K.ps k with|some r=>r.co|none=>0,λk=>?_⟩;show Dz K.ps b _ k=_;by_cases e:k=b
 .subst e;rw[Am,hb];simp
 .rw[BZ e];cases h:K.ps k<;>simp[e,h]
theorem BR.out {N a b g c:Nat} {x:Nat×Nat} {K:KS} {r:PR} (h:BR N x K) (hb:K.ps b=some r) (hm:b∈K.AP) (hN:K.AP.Nodup) (Gz:r.co=a):a+Aj r.Ag.length<=N/\K.core.length+1<=N/\BR N x ((K.eG (CW K.core a (Aj r.Ag.length)) g c).Di b { r with co:=-1 }):=by
 obtain⟨w,p2⟩:=h.pl b r hb;obtain⟨m,e1,e2,e3⟩:=p2.resolve_left (by rw[Gz];omega);obtain rfl:a=m:=by omega
 have l:inC K.ps b=Aj r.Ag.length:=by rw[ϻ hb,if_neg (by rw[Gz];omega)]
 have v:=NL (f:=inC K.ps) hm;have A:=h.sum;have z:=h.so.len;have n:=Qm h.so e3 e2;have j:∀i,EX i K.ps b=Ny i a (Aj r.Ag.length):=λi=>by rw[DX hb,if_neg (by rw[Gz];omega),Gz];rfl
 refine⟨e2,by omega,h.le,n.1,WG e3 h.so h.uM λy p s=>?_,h.xl,λi l=>?_,λk q d=>?_⟩
 .have t:=h.cnt y (by omega);have u:=NL (f:=EX y K.ps) hm;rw[j,Uu p s]at u;omega
 .show Dq i (CW K.core a (Aj r.Ag.length))+BD (EX i (Dz K.ps b _)) K.AP+_=1;have:=Jf (f:=EX i (Dz K.ps b { r with co:=-1 })) (g:=EX i K.ps) hN hm λk d=>by unfold EX;rw[BZ d]
  have o:EX i (Dz K.ps b { r with co:=-1 }) b=0:=by rw[DX Am];simp
  have t:=h.cnt i l;rw[UQ e3];rw[j,o]at this;omega
 .have d:Dz K.ps b _ k=some q:=d;by_cases e:k=b
  .subst e;rw[Am]at d;cases d;exact⟨w,.inl rfl⟩
  .rw[BZ e]at d;exact h.pl k q d
theorem BR.in {N n a b:Nat} {K:KS} {r:PR} (h:BR N (a,n) K) (hb:K.ps b=some r) (hm:b∈K.AP) (hN:K.AP.Nodup) (Gz:r.co=-1) (hn:n=Aj r.Ag.length) (hn1:1<=n) (ha:a+n<=N):BR N (0,0) (K.Di b { r with co:=a }):=by
 refine⟨h.le,h.so,h.uM,Nat.zero_le _,λi j=>?_,λk q c=>?_⟩
 .show Dq i K.core+BD (EX i (Dz K.ps b _)) K.AP+Ny i 0 0=1;have:=Jf (f:=EX i (Dz K.ps b { r with co:=a })) (g:=EX i K.ps) hN hm λk c=>by unfold EX;rw[BZ c]
  have m:EX i K.ps b=0:=by rw[DX hb,if_pos Gz]
  have l:EX i (Dz K.ps b { r with co:=a }) b=Ny i a n:=by rw[DX Am,hn];exact if_neg (by simp)
  have d:=h.cnt i j;simp only at d;rw[Oj];omega
 .have c:Dz K.ps b _ k=some q:=c;by_cases e:k=b
  .subst e;rw[Am]at c;cases c;exact⟨(h.pl _ _ hb).1,.inr ⟨a,rfl,by simp only;omega,by simp only;omega⟩⟩
  .rw[BZ e]at c;exact h.pl k q c
theorem BR.take {N n:Nat} {K:KS} (h:BR N (0,0) K):((Aw K.core n).1=none->BR N (0,0) { K with core:=(Aw K.core n).2 })/\∀a,(Aw K.core n).1=some a->BR N (a,n) { K with core:=(Aw K.core n).2 }/\a+n<=N/\1<=n:=by
 obtain⟨g,j,k⟩:=IV (n:=n) h.so;refine⟨λe=>?_,λa e=>?_⟩
 .rw[j e];exact h
 .obtain⟨m,b,f⟩:=k a e;refine⟨⟨h.le,g,WE h.uM,b,λi d=>?_,h.pl⟩,b,f⟩;show Dq i (Aw K.core n).2+BD (EX i K.ps) K.AP+Ny i a n=1;have l:=QE e i;have c:=h.cnt i d;rw[Oj]at c;omega
theorem BR.room {N n:Nat} {K:KS} (h:BR N (0,0) K) (ho:∀b∈K.AP,∀r,K.ps b=some r->r.co=-1) (h1:1<=n) (h2:n<=N):(Aw K.core n).1≠none:=by
 have e:=ae2 (N:=N) (by omega) h.so h.uM λi d=>by
  have a:=h.cnt i d
  have j:BD (EX i K.ps) K.AP=0:=by
   rw[BV (g:=λ_=>0) λb c=>?_]
   .generalize K.AP=l
    induction l with
    |nil=>rfl
    |cons b l f=>simp only[BD,f]
   .unfold EX;cases hb':K.ps b with
    |none=>rfl
    |some r=>simp only;rw[if_pos (ho b c r hb')]
  rw[Oj]at a;omega
 rw[e];unfold Aw;rw[if_neg (by omega)];simp[List.findIdx?_cons,h2]
section
variable (m:Nat) (w:o_)
theorem QD (K:KS) (b N:Nat) (x:W_) (r:PR) (h:AV K w) (hb:K.ps b=some r) (hm:b∈K.AP) (hN:K.AP.Nodup) (hC:BR N x K):
  P_ m 52 #[R_ K.kb,R_ b] w λe w'=>e=.returned (.tuple #[])/\∃K',AV K' w'/\CJ K K'/\BR N x K'/\BM K.T K'.T w w'/\K'.ps b=some { r with co:=-1 }/\∀k q,K.ps k=some q->q.co=-1->K'.ps k=some q:=by
 obtain⟨p,p2⟩:=hC.pl b r hb;by_cases d:r.co=-1
 .refine(oL m w K b r h hb d).mono ?_;rintro e w' ⟨rfl,j⟩;exact⟨rfl,K,h.no j,CJ.refl K,hC,BM.no j h.lt,by rw[hb,<-d],λ_ _ h _=>h⟩
 .obtain⟨a,e1,e2,e3⟩:=p2.resolve_left d;have n:=hC.le;have i:=λg c=>hC.out (g:=g) (c:=c) hb hm hN e1
  refine(jg m w K b a N r h hb e1 hC.fit (by omega) (i 0 0).1 (i 0 0).2.1 (by omega)).mono ?_;rintro e w' ⟨rfl,g,c,l,M⟩;refine⟨rfl,_,l,?_,(i g c).2.2,M,Am,λk q f o=>?_⟩
  .exact CJ.trans (K':=K.eG (CW K.core a (Aj r.Ag.length)) g c) ⟨rfl,(CJ.refl K).ps⟩ (CJ.set (K:=K.eG (CW K.core a (Aj r.Ag.length)) g c) hb (-1))
  .have:k≠b:=(by rintro rfl;rw[hb]at f;cases f;exact d o);exact(BZ this).trans f
end
def tA (o:d_ Nat):n_:=b_ (o.getD 0:Nat)
def tB (o:d_ Nat):n_:=.bool o.isSome
theorem Tz (o:d_ Nat):NK o=.tuple #[tA o,tB o]:=by cases o<;>rfl
def aq0 (K:KS) (n:Nat) (w1:o_) (v:n_) (W:o_):Prop:=v=.tuple #[tA (Aw K.core n).1,tB (Aw K.core n).1]/\AV { K with core:=(Aw K.core n).2 } W/\BM K.T K.T w1 W
section
variable (m:Nat) (w:o_)
def rX (K:KS) (j:Nat):Prop:=∀i b q,i<j->K.AP[i]?=some b->K.ps b=some q->q.co=-1
def SG (K:KS) (w:o_) (b N:Nat) (r:PR) (o:d_ Nat) (j:Nat) (wr:o_):Prop:=∃K1,AV K1 wr/\CJ K K1/\BM K.T K1.T w wr/\K1.ps b=some r/\BR N (match o with|none=>(0,0)|some a=>(a,Aj r.Ag.length)) K1/\(∀a,o=some a->a+Aj r.Ag.length<=N/\1<=Aj r.Ag.length)/\(o=none->(Aw K1.core (Aj r.Ag.length)).1=none/\rX K1 j)
theorem SG.of {K K1:KS} {w wr W:o_} {b N j:Nat} {r:PR} (hM:CJ K K1) (hv:BM K.T K1.T w wr) (hb:K1.ps b=some r) (hC:BR N (0,0) K1) (h1:AV { K1 with core:=(Aw K1.core (Aj r.Ag.length)).2 } W) (hv1:BM K1.T K1.T wr W) (hj:rX K1 j):SG K w b N r (Aw K1.core (Aj r.Ag.length)).1 j W:=by
 have t:=hC.take (n:=Aj r.Ag.length);refine⟨_,h1,hM.trans CJ.take,hv.trans hv1,hb,?_,λa e=>(t.2 a e).2,λe=>⟨?_,hj⟩⟩
 .cases e:(Aw K1.core (Aj r.Ag.length)).1 with
  |none=>exact t.1 e
  |some a=>exact(t.2 a e).1
 .show(Aw (Aw K1.core (Aj r.Ag.length)).2 (Aj r.Ag.length)).1=none;rw[(IV hC.so).2.1 e,e]
theorem SG.never {K1:KS} {N j n:Nat} (hC:BR N (0,0) K1) (ht:(Aw K1.core n).1=none) (hj:rX K1 j) (hl:K1.AP.length<=j) (h16:16<=N) (h1:1<=n) (h2:n<=16):False:=by
 refine hC.room (λb a r d=>?_) h1 (by omega) ht;obtain⟨i,c,e⟩:=List.mem_iff_getElem.1 a;exact hj i b r (by omega) (by rw[List.getElem?_eq_getElem c,e]) d
def UB (N b:Nat) (r:PR) (K:KS):Prop:=16<=N->1<=Aj r.Ag.length->∃q,K.ps b=some q/\q.co≠-1
theorem XM (K:KS) (b N:Nat) (r:PR) (h:AV K w) (hT:K.EC) (hb:K.ps b=some r) (hm:b∈K.AP) (hN:K.AP.Nodup) (hC:BR N (0,0) K) (hl:K.AP.length<=100):
  (P_ m 53 #[R_ K.kb,R_ b] w λe w'=>e=.returned (.tuple #[])/\∃K',AV K' w'/\CJ K K'/\BR N (0,0) K'/\BM K.T K'.T w w'/\UB N b r K')/\∀u,CallsDIn NF m prog 53 #[R_ K.kb,R_ b] u w λe u' w'=>u'=u/\(e=.returned (.tuple #[])/\∃K',AV K' w'/\CJ K K'/\BR N (0,0) K'/\BM K.T K'.T w w'/\UB N b r K'):=by
 refine⟨?_,λu=>?_⟩
 all_goals
  have q:=h.GG hb 11
  simp[PR.arr]at q
  have hP:=hC.pl b r hb
  have hle:=hC.le
  by_cases I:r.co=-1
  .rw[I]at q;obtain⟨a8,c8,q8⟩:=h.im8 hb
   first|gi_enter func53,ntmps53|gi_enter_d func53,ntmps53
   gi_wp2;have h0:AV K w.drew:=h.no (p_ No w).drew;have bk:b≠K.kb:=λe=>by have:=(h.ps b r hb).t;rw[e,h.tk]at this;simp at this
   have bc:b≠K.cg:=λe=>by have:=(h.ps b r hb).t;rw[e,h.tc]at this;simp at this
   refine CV (P:=prog) _ rfl rfl (by kernel_rfl) 10 57 [0,1,2,3,4] [5,6,7,8,9] (by kernel_rfl) (by rfl)
    (NG (At2 K.kb K.cg) w.drew 5 (aq0 K (Aj r.Ag.length) w.drew) [(6,.tuple #[tA (Aw K.core (Aj r.Ag.length)).1,tB (Aw K.core (Aj r.Ag.length)).1]),(7,tA (Aw K.core (Aj r.Ag.length)).1),(8,tB (Aw K.core (Aj r.Ag.length)).1),(9,tA (Aw K.core (Aj r.Ag.length)).1)]) (FU (by simp) (by simp)) _ _ rfl rfl ?_;gi_wp2_with (gi_at_call 58;refine(ER _ w.drew b _ _ _ q8 (by omega)).mono ?_;rintro e w1 ⟨rfl,rfl⟩);refine⟨rfl,by kernel_rfl,Ef,?_,?_,?_⟩
   .intro Q u W d;have Z:=(d.1.cell (w:=w.drew) (p:=(T_ b 8)) (h.plt hb) (by rintro(h|h)<;>contradiction)).trans q8
    repeat' (refine Ae ?_ ?_)
    all_goals first|exact trivial|gi_wp2_with (gi_at_call 58;refine(ER _ W b _ _ _ Z (by omega)).mono ?_;rintro e w1 ⟨rfl,rfl⟩)
   .intro i M Q u W d E z;obtain rfl|rfl|rfl|rfl|rfl:=(by simpa using M:i=5\/i=6\/i=7\/i=8\/i=9)
    .obtain rfl:=d.2.1 E;refine Bh rfl λKK Lh=>?_
     show wpListIn NF m prog _ _ _ (Act.put (Act.put (Act.put (Act.put (Act.put _ (some 18) (u 5)) (some 12) (u 6)) (some 19) (u 7)) (some 20) (u 8)) (some 4) (u 9)) _;gi_wp2_with fail;refine(an4 _ w.drew K (Aj r.Ag.length) N h0 hC.fit (by omega) (by unfold Aj;omega)).mono ?_;rintro e w1 ⟨rfl,g,J,s⟩;rw[Tz];gi_wp2;exact⟨_,rfl,FV d (by simp) s ⟨rfl,g,J⟩⟩
    .have x:=(d.2.2.1 (z 5 (by simp) (by decide))).1;exact dV rfl rfl rfl ⟨_,rfl,Fv d (by decide) x (by simp)⟩
    .have j:=d.2.2.2 (6,.tuple #[tA (Aw K.core (Aj r.Ag.length)).1,tB (Aw K.core (Aj r.Ag.length)).1]) (by simp) (z 6 (by simp) (by decide));exact Q3 rfl rfl rfl j rfl ⟨_,rfl,FZ d (by decide) (by simp)⟩
    .have j:=d.2.2.2 (6,.tuple #[tA (Aw K.core (Aj r.Ag.length)).1,tB (Aw K.core (Aj r.Ag.length)).1]) (by simp) (z 6 (by simp) (by decide));exact Q3 rfl rfl rfl j rfl ⟨_,rfl,FZ d (by decide) (by simp)⟩
    .have v:=d.2.2.2 (7,tA (Aw K.core (Aj r.Ag.length)).1) (by simp) (z 7 (by simp) (by decide));exact dW rfl rfl rfl ⟨_,rfl,Fv d (by decide) v (by simp)⟩
   .intro Q u W d n;obtain⟨x,g,J⟩:=d.2.2.1 (n 5 (by simp));have B:=d.2.2.2 (8,tB (Aw K.core (Aj r.Ag.length)).1) (by simp) (n 8 (by simp));have C:=d.2.2.2 (9,tA (Aw K.core (Aj r.Ag.length)).1) (by simp) (n 9 (by simp));have j:=d.2.2.2 (6,.tuple #[tA (Aw K.core (Aj r.Ag.length)).1,tB (Aw K.core (Aj r.Ag.length)).1]) (by simp) (n 6 (by simp));have v:=d.2.2.2 (7,tA (Aw K.core (Aj r.Ag.length)).1) (by simp) (n 7 (by simp));simp only at j v B C;show wpListIn NF m prog _ _ _ (Act.put (Act.put (Act.put (Act.put (Act.put _ (some 18) (u 5)) (some 12) (u 6)) (some 19) (u 7)) (some 20) (u 8)) (some 4) (u 9)) _;rw[x,j,v,B,C];have s0:SG K w b N r (Aw K.core (Aj r.Ag.length)).1 0 W:=SG.of (CJ.refl K) (BM.no (p_ No w).drew h.lt) hb hC g J (λi _ _ M=>absurd M (by omega));clear d x j v B C g J n;generalize (Aw K.core (Aj r.Ag.length)).1=o at s0;gi_wp2;gi_loopw [4,5,6] (λa5 a6 i wr=>∃(o:d_ Nat) (k:Nat),a5=tA o/\a6=tB o/\i=b_ k/\k<=K.AP.length/\SG K w b N r o k wr) (λ_ _ i _=>K.AP.length-(intOf i).toNat)
    case atStart=>exact⟨o,0,rfl,rfl,rfl,by omega,s0⟩
    case round=>
     obtain⟨o,k,rfl,rfl,rfl,hk,s,g,F,hv,A,l,ho,hz⟩:=hrel
     have q2:=g.kc2
     have yG:s.kb=K.kb:=F.kb
     have L:s.AP=K.AP:=F.AP
     rw[yG,L]at q2
     have Y:=g.GG A 11
     simp[PR.arr,I]at Y
     have f11:=g.bU A 11
     cases o with
     |some a=>
      obtain⟨ha,H⟩:=ho a rfl
      simp only[tA,tB,Option.getD_some,Option.isSome_some]
      gi_wp2
      go_end0
      refine⟨by simp,s.Di b { r with co:=a },g.like (r':={ r with co:=a }) A ⟨rfl,rfl,rfl,rfl,rfl⟩ rfl (g.ps b r A).bl,F.trans (CJ.set A a),?_,hv.trans (g.Ee A),λ_ _=>⟨_,Am,by show((a:Nat):Int)≠-1;omega⟩⟩
      exact BR.in l A (by rw[L];exact hm) (by rw[L];exact hN) I rfl H ha
     |none=>
      have l:BR N (0,0) s:=l
      obtain⟨hz1,V⟩:=hz rfl
      simp only[tA,tB,Option.getD_none,Option.isSome_none]
      by_cases BI:k<K.AP.length
      .have hg:K.AP[k]?=some K.AP[k]:=Ii BI;generalize K.AP[k]=b' at hg;have y:s.AP[k]?=some b':=(by rw[L];exact hg);obtain⟨r',G7⟩:=AV.mem (F.there hT) y;have d0:=g.dU y;simp only[ptr]at d0;have ct:=λm=>QD m wr s b' N (0,0) r' g G7 (t_ y) (by rw[L];exact hN) l
       rw[yG]at ct;gi_wp2_with (gi_at_call 52;refine(ct _).mono ?_;rintro e w2 ⟨rfl,f,D,G,R,hv2,hbk,OU⟩);have hz3:rX f (k+1):=λi c q M S X=>by
        rw[G.AP]at S
        by_cases e:i=k
        .subst e;rw[y]at S;cases S;rw[hbk]at X;cases X;rfl
        .obtain⟨q1,U⟩:=AV.mem (F.there hT) S;have:=V i c q1 (by omega) S U;rw[OU c q1 U this]at X;cases X;exact this
       have O:=OU b r A I;have lF:f.kb=K.kb:=G.kb.trans yG;obtain⟨b8,c8',p8⟩:=D.im8 O;have h20:AV f w2.drew:=D.no (p_ No w2).drew;have bk2:b≠f.kb:=λe=>by have:=(D.ps b r O).t;rw[e,D.tk]at this;simp at this
       have bc2:b≠f.cg:=λe=>by have:=(D.ps b r O).t;rw[e,D.tc]at this;simp at this
       refine CV (P:=prog) _ rfl rfl (by kernel_rfl) 10 57 [0,1,2,3,4] [5,6,7,8,9] (by kernel_rfl) (by rfl)
        (NG (At2 f.kb f.cg) w2.drew 5 (aq0 f (Aj r.Ag.length) w2.drew) [(6,.tuple #[tA (Aw f.core (Aj r.Ag.length)).1,tB (Aw f.core (Aj r.Ag.length)).1]),(7,tA (Aw f.core (Aj r.Ag.length)).1),(8,tB (Aw f.core (Aj r.Ag.length)).1),(9,tA (Aw f.core (Aj r.Ag.length)).1)]) (FU (by simp) (by simp)) _ _ rfl rfl ?_;gi_wp2_with (gi_at_call 58;refine(ER _ w2.drew b _ _ _ p8 (by omega)).mono ?_;rintro e w1 ⟨rfl,rfl⟩);refine⟨rfl,by kernel_rfl,Ef,?_,?_,?_⟩
       .intro Q u W d;have Z:=(d.1.cell (w:=w2.drew) (p:=(T_ b 8)) (D.plt O) (by rintro(h|h)<;>contradiction)).trans p8
        repeat' (refine Ae ?_ ?_)
        all_goals first|exact trivial|gi_wp2_with (gi_at_call 58;refine(ER _ W b _ _ _ Z (by omega)).mono ?_;rintro e w1 ⟨rfl,rfl⟩)
       .intro i M Q u W d E z;obtain rfl|rfl|rfl|rfl|rfl:=(by simpa using M:i=5\/i=6\/i=7\/i=8\/i=9)
        .obtain rfl:=d.2.1 E;refine Bh rfl λKK Lh=>?_
         show wpListIn NF m prog _ _ _ (Act.put (Act.put (Act.put (Act.put (Act.put _ (some 49) (u 5)) (some 43) (u 6)) (some 50) (u 7)) (some 51) (u 8)) (some 4) (u 9)) _;have tk:=λm=>an4 m w2.drew f (Aj r.Ag.length) N h20 R.fit (by omega) (by unfold Aj;omega)
         rw[lF]at tk;gi_wp2_with fail;refine(tk _).mono ?_;rintro e w1 ⟨rfl,g,J,s⟩;rw[<-lF]at g s;rw[Tz];gi_wp2;exact⟨_,rfl,FV d (by simp) s ⟨rfl,g,J⟩⟩
        .have x:=(d.2.2.1 (z 5 (by simp) (by decide))).1;exact dV rfl rfl rfl ⟨_,rfl,Fv d (by decide) x (by simp)⟩
        .have j:=d.2.2.2 (6,.tuple #[tA (Aw f.core (Aj r.Ag.length)).1,tB (Aw f.core (Aj r.Ag.length)).1]) (by simp) (z 6 (by simp) (by decide));exact Q3 rfl rfl rfl j rfl ⟨_,rfl,FZ d (by decide) (by simp)⟩
        .have j:=d.2.2.2 (6,.tuple #[tA (Aw f.core (Aj r.Ag.length)).1,tB (Aw f.core (Aj r.Ag.length)).1]) (by simp) (z 6 (by simp) (by decide));exact Q3 rfl rfl rfl j rfl ⟨_,rfl,FZ d (by decide) (by simp)⟩
        .have v:=d.2.2.2 (7,tA (Aw f.core (Aj r.Ag.length)).1) (by simp) (z 7 (by simp) (by decide));exact dW rfl rfl rfl ⟨_,rfl,Fv d (by decide) v (by simp)⟩
       .intro Q u W d n;obtain⟨x,h3,M3⟩:=d.2.2.1 (n 5 (by simp));have B:=d.2.2.2 (8,tB (Aw f.core (Aj r.Ag.length)).1) (by simp) (n 8 (by simp));have C:=d.2.2.2 (9,tA (Aw f.core (Aj r.Ag.length)).1) (by simp) (n 9 (by simp));have j:=d.2.2.2 (6,.tuple #[tA (Aw f.core (Aj r.Ag.length)).1,tB (Aw f.core (Aj r.Ag.length)).1]) (by simp) (n 6 (by simp));have v:=d.2.2.2 (7,tA (Aw f.core (Aj r.Ag.length)).1) (by simp) (n 7 (by simp));simp only at j v B C;show wpListIn NF m prog _ _ _ (Act.put (Act.put (Act.put (Act.put (Act.put _ (some 49) (u 5)) (some 43) (u 6)) (some 50) (u 7)) (some 51) (u 8)) (some 4) (u 9)) _;rw[x,j,v,B,C];have s1:SG K w b N r (Aw f.core (Aj r.Ag.length)).1 (k+1) W:=SG.of (F.trans G) ((hv.trans hv2).then (p_ No w2).drew) O R h3 M3 hz3;clear d x j v B C h3 M3 n;generalize (Aw f.core (Aj r.Ag.length)).1=o at s1;gi_wp2;go_roundw
        case rel=>exact⟨o,k+1,rfl,rfl,by go_num,by omega,s1⟩
        case measure=>simp[intOf];omega
      .have hlt':¬(k:Int)<(K.AP.length:Int):=(by omega);gi_wp2;go_end0;exact⟨by simp,s,g,F,l,hv,λh16 H=>(SG.never l hz1 V (by rw[L];omega) h16 H (by unfold Aj;omega)).elim⟩
  .have Cm:(r.co !=-1)=true:=by simpa using I
   first|gi_enter func53,ntmps53|gi_enter_d func53,ntmps53
   gi_wp2;refine bodyPost_ret (results_none rfl _ _ _) rfl ?_;exact⟨by simp,K,h,CJ.refl K,hC,BM.no (p_ _ _) h.lt,λ_ _=>⟨r,hb,I⟩⟩
theorem Zx (K:KS) (b N:Nat) (r:PR) (h:AV K w) (hT:K.EC) (hb:K.ps b=some r) (hm:b∈K.AP) (hN:K.AP.Nodup) (hC:BR N (0,0) K) (hl:K.AP.length<=100):
  P_ m 53 #[R_ K.kb,R_ b] w λe w'=>e=.returned (.tuple #[])/\∃K',AV K' w'/\CJ K K'/\BR N (0,0) K'/\BM K.T K'.T w w'/\UB N b r K':=(XM m w K b N r h hT hb hm hN hC hl).1
end
def vg (K:KS) (pid s:Int):Prop:=(s=2/\∀b∈K.AP,∀r,K.ps b=some r->(r.pid:Int)≠pid)\/∃b r,b∈K.AP/\K.ps b=some r/\(r.pid:Int)=pid/\r.en=true/\s=3
def yu (K:KS) (pid:Int) (b:Nat) (r:PR):Prop:=b∈K.AP/\K.ps b=some r/\(r.pid:Int)=pid/\r.en=false
section
variable (m:Nat) (w:o_)
theorem aj8 (K:KS) (pid:Int) (h:AV K w) (hT:K.EC) (hl:K.AP.length<=100):P_ m 54 #[R_ K.kb,b_ pid] w λe w'=>((∃b r,e=.returned (R_ b)/\b∈K.AP/\K.ps b=some r/\(r.pid:Int)=pid/\w'.cell? (T_ b 2)=some (.bool r.en))\/(e=.returned (.pointer none)/\∀b∈K.AP,∀r,K.ps b=some r->(r.pid:Int)≠pid))/\Keep No w w':=by
 refine(ZP m w K pid h hT hl).mono ?_;rintro e w' ⟨a,v,rfl,⟨b,r,rfl,d,c,f⟩|⟨rfl,g⟩⟩
 .have q:=(h.no a).GG c 2;simp[PR.arr]at q;exact⟨.inl ⟨b,r,rfl,d,c,f,q⟩,a⟩
 .exact⟨.inr ⟨rfl,g⟩,a⟩
theorem ah (K:KS) (pid:Int) (h:AV K w) (hT:K.EC) (hl:K.AP.length<=100):
  P_ m 51 #[R_ K.kb,b_ pid] w λe w'=>Keep No w w'/\((∃s:Int,e=.returned (.tuple #[.pointer none,b_ s])/\(s !=0)=true/\vg K pid s)\/∃b r,e=.returned (.tuple #[R_ b,b_ 0])/\yu K pid b r):=by
 have c:=λm=>aj8 m w K pid h hT hl
 gi_enter func51,ntmps51;gi_wp2_with (gi_at_call 54;refine(c _).mono ?_;rintro e w1 ⟨⟨b,r,rfl,g,f,a,d2⟩|⟨rfl,a⟩,d⟩<;>have a:=Nonempty.intro (PLift.up a)<;>try (cases hn:r.en<;>rw[hn]at d2))
 .go_ret2;obtain⟨⟨a⟩⟩:=a;exact⟨d,.inr ⟨b,r,by simp,g,f,a,hn⟩⟩
 .go_ret2;obtain⟨⟨a⟩⟩:=a;exact⟨d,.inl ⟨3,by simp,by decide,.inr ⟨b,r,g,f,a,hn,rfl⟩⟩⟩
 .go_ret2;obtain⟨⟨a⟩⟩:=a;exact⟨d,.inl ⟨2,by simp,by decide,.inl ⟨rfl,a⟩⟩⟩
theorem bi3 (K:KS) (N:Nat) (pid:Int) (h:AV K w) (hT:K.EC) (hN:K.AP.Nodup) (hC:BR N (0,0) K) (hl:K.AP.length<=100):
  P_ m 17 #[R_ K.kb,b_ pid] w λe w'=>∃s:Int,e=.returned (b_ s)/\∃K',AV K' w'/\CJ K K'/\BR N (0,0) K'/\BM K.T K'.T w w'/\(vg K pid s\/(s=0/\∃b r,yu K pid b r/\∃q,K'.ps b=some q/\q.co=-1)):=by
 have c:=λm=>ah m w K pid h hT hl
 gi_enter func17,ntmps17;gi_wp2_with (gi_at_call 51;refine(c _).mono ?_;rintro e w1 ⟨d,⟨s,rfl,n,a⟩|⟨b,r,rfl,a⟩⟩<;>try have g:=λm=>QD m w1 K b N (0,0) r (h.no d) a.2.1 a.1 hN hC)
 .go_ret;exact⟨s,by simp,K,h.no d,CJ.refl K,hC,BM.no d h.lt,.inl a⟩
 .gi_wp2_with (gi_at_call 52;refine(g _).mono ?_;rintro e w2 ⟨rfl,K',i,j,f,l,k,_⟩);go_ret;exact⟨0,by simp,K',i,j,f,(BM.no d h.lt).trans l,.inr ⟨rfl,b,r,a,_,k,rfl⟩⟩
theorem bt1 (K:KS) (N:Nat) (pid:Int) (h:AV K w) (hT:K.EC) (hN:K.AP.Nodup) (hC:BR N (0,0) K) (hl:K.AP.length<=100):
  P_ m 18 #[R_ K.kb,b_ pid] w λe w'=>∃s:Int,e=.returned (b_ s)/\∃K',AV K' w'/\CJ K K'/\BR N (0,0) K'/\BM K.T K'.T w w'/\(vg K pid s\/(s=0/\∃b r,yu K pid b r/\UB N b r K')):=by
 have c:=λm=>ah m w K pid h hT hl
 gi_enter func18,ntmps18;gi_wp2_with (gi_at_call 51;refine(c _).mono ?_;rintro e w1 ⟨d,⟨s,rfl,n,a⟩|⟨b,r,rfl,a⟩⟩<;>try have g:=λm=>Zx m w1 K b N r (h.no d) hT a.2.1 a.1 hN hC hl)
 .go_ret;exact⟨s,by simp,K,h.no d,CJ.refl K,hC,BM.no d h.lt,.inl a⟩
 .gi_wp2_with (gi_at_call 53;refine(g _).mono ?_;rintro e w2 ⟨rfl,K',i,j,f,l,k⟩);go_ret;exact⟨0,by simp,K',i,j,f,(BM.no d h.lt).trans l,.inr ⟨rfl,b,r,a,k⟩⟩
end
structure NH (K K':KS):Prop where
 eq:K'={ K with ps:=K'.ps }
 ps:∃f:Nat->Nat,∀b,K'.ps b=(K.ps b).map λr=>{ r with par:=f b }
theorem NH.refl (K:KS):NH K K:=⟨rfl,λb=>match K.ps b with|some r=>r.par|none=>0,λb=>by cases h:K.ps b<;>simp[h]⟩
theorem NH.trans {K K' K'':KS} (h:NH K K') (h':NH K' K''):NH K K'':=by
 obtain⟨e1,f,a⟩:=h;obtain⟨e2,g,p2⟩:=h';refine⟨?_,g,λb=>?_⟩
 .rw[e2,e1]
 .rw[p2,a];cases K.ps b<;>rfl
theorem NH.set {K:KS} {b:Nat} {r:PR} (hb:K.ps b=some r) (c:Nat):NH K (K.Di b { r with par:=c }):=by
 refine⟨rfl,λk=>if k=b then c else match K.ps k with|some r=>r.par|none=>0,λk=>?_⟩;show Dz K.ps b _ k=_;by_cases e:k=b
 .subst e;rw[Am,hb];simp
 .rw[BZ e];cases h:K.ps k<;>simp[e,h]
theorem NH.get {K K':KS} (h:NH K K') {b:Nat} {r:PR} (hb:K.ps b=some r):∃c,K'.ps b=some { r with par:=c }:=by
 obtain⟨f,a⟩:=h.ps;exact⟨f b,by rw[a,hb];rfl⟩
theorem NH.there {K K':KS} (h:NH K K') (hT:K.EC):K'.EC:=by
 intro b a;rw[h.eq]at a;obtain⟨r,e⟩:=hT b a;obtain⟨c,d⟩:=h.get e;exact⟨_,d⟩
section
variable (m:Nat) (w:o_)
def Ζ (K:KS) (w wr:o_):Prop:=∃K1,AV K1 wr/\NH K K1/\BM K.T K1.T w wr/\(∀b r,K1.ps b=some r->K.ps b=some r\/r.par<=1)
theorem Zn {K K1:KS} {w W:o_} {b:Nat} {r:PR} (hr k:Nat) (BI:k<K.AP.length) (hW:AV K1 W) (G7:K1.ps b=some r) (hF:NH K K1) (hv:BM K.T K1.T w W) (dC:∀b r,K1.ps b=some r->K.ps b=some r\/r.par<=1) (hhr:hr<=1):
  ∃j:Nat,Value.int .i64 ((k:Int)+1)=b_ j/\j<=K.AP.length/\Ζ K w (W.setCell (T_ b 1) (b_ hr)):=by
 refine⟨k+1,by simp,by omega,K1.Di b { r with par:=hr },hW.like (r':={ r with par:=hr }) G7 ⟨rfl,rfl,rfl,rfl,rfl⟩ rfl (hW.ps b r G7).bl,hF.trans (NH.set G7 hr),hv.trans (hW.Ee G7),λx q a=>?_⟩;have a:Dz K1.ps b { r with par:=hr } x=some q:=a;by_cases e:x=b
 .subst e;rw[Am]at a;cases a;exact .inr hhr
 .rw[BZ e]at a;exact dC x q a
theorem qx (K:KS) (h:AV K w) (hT:K.EC) (hl:K.AP.length<=100):P_ m 54 #[R_ K.kb,b_ 1] w λe w'=>((∃b r,e=.returned (R_ b)/\K.ps b=some r/\w'.cell? (T_ b 2)=some (.bool r.en))\/e=.returned (.pointer none))/\Keep No w w':=by
 refine(ZP m w K 1 h hT hl).mono ?_;rintro e w' ⟨a,v,rfl,⟨b,r,rfl,_,c,_⟩|⟨rfl,_⟩⟩
 .have q:=(h.no a).GG c 2;simp[PR.arr]at q;exact⟨.inl ⟨b,r,rfl,c,q⟩,a⟩
 .exact⟨.inr rfl,a⟩
theorem xg (K:KS) (pb:Nat) (p:PR) (h:AV K w) (hT:K.EC) (hp:K.ps pb=some p) (hl:K.AP.length<=100):
  P_ m 157 #[R_ K.kb,R_ pb] w λe w'=>e=.returned (.tuple #[])/\Ζ K w w':=by
 have c:=λm=>qx m w K h hT hl
 have A:=h.kc2;gi_enter func157,ntmps157;gi_wp2_with (gi_at_call 54;refine(c _).mono ?_;rintro e w1 ⟨⟨E,C,rfl,D,d1⟩|rfl,d⟩<;>have A:=d.has A<;>try (cases hn:C.en<;>rw[hn]at d1))
 all_goals
  gi_loopw [24] (λi wr=>∃(k:Nat),i=b_ k/\k<=K.AP.length/\Ζ K w wr) (λi _=>K.AP.length-(intOf i).toNat)
  case atStart=>exact⟨0,rfl,by omega,K,h.no d,NH.refl K,BM.no d h.lt,λ_ _ h=>.inl h⟩
  case round=>
   obtain⟨k,rfl,G,f,g,a,q,n⟩:=hrel
   have B:f.AP=K.AP:=by rw[a.eq]
   have t:f.pg=K.pg:=by rw[a.eq]
   by_cases s:k<K.AP.length
   .have y:K.AP[k]?=some K.AP[k]:=Ii s;generalize K.AP[k]=b at y;have j:f.AP[k]?=some b:=(by rw[B];exact y);obtain⟨r,l⟩:=AV.mem (a.there hT) j;obtain⟨H,u⟩:=a.get hp;have x:=g.dU j;rw[t]at x;have d1:=g.GG l 1;have d2:=g.GG u 0;simp only[ptr]at x;simp[PR.arr]at d1 d2;gi_wp2;refine Bi 8 42 ?_;gi_wp2;refine CZ ?_ ?_
    .intro W d;have e1:=d.has (w:=wr.drew) d1;have e2:=d.has (w:=wr.drew) d2
     repeat' (refine Ae ?_ ?_)
     all_goals first|exact trivial|gi_wp2
    .intro W d;have KW:Keep No wr W:=(p_ No wr).drew.then d;have e1:=KW.has d1;have o:=g.no KW;have F:=o.bU l 1;by_cases z:(r.par:Int)=p.pid
     .have v:((r.par:Int)==(p.pid:Int))=true:=(by simpa using z);gi_wp2;go_roundw
      case rel=>
       first|exact Zn 1 k s o l a (q.then KW) n (by omega)|exact Zn 0 k s o l a (q.then KW) n (by omega)
      case measure=>simp[intOf];omega
     .have v:((r.par:Int)==(p.pid:Int))=false:=(by simpa using z);gi_wp2;go_roundw
      case rel=>exact⟨k+1,by go_num,by omega,f,o,a,q.then KW,n⟩
      case measure=>simp[intOf];omega
   .obtain rfl:k=K.AP.length:=(by omega);gi_wp2;go_end0;exact⟨by simp,f,g,a,q,n⟩
end
end Go.Fxa
