/- A parent that writes into a pi -/
import Derived.Test.YtmhplpfpcnjekaaGreatA34
namespace Go.Fxa
open Go.Conc Go.Proofs Go.RowKit
set_option maxRecDepth 1000000
set_option maxHeartbeats 0
section
variable {t n m b1 b2 p e1 e2 u c:Nat} {d:Nat->Nat} {ws:List Nat} {K K':KS} {r r':PR} {BA:List Ev}
theorem step_plain {b call:Nat} (hr:K.ps b=some r) (hs:Dq r=(0,call,r')) (h:UR b K BA K'\/Last b K BA K'):BA=[]/\K'=K.AP b r':=by
 obtain⟨q,s,x,f,c,d,e⟩|⟨q,s,x,f,c,d,e⟩:=h
 all_goals
  rw[hr]at c
  cases c
  rw[hs]at d
  obtain⟨rfl,rfl,rfl⟩:0=s/\call=x/\r'=f:=by simpa using d
 .obtain⟨_,a,g⟩|⟨a,_⟩:=e
  .exact⟨a,g⟩
  .cases a
 .obtain⟨a,_⟩|⟨a,_⟩:=e<;>cases a
theorem Jr {b call:Nat} (hr:K.ps b=some r) (hs:Dq r=(1,call,r')) (h:UR b K BA K'\/Last b K BA K'):∃K2 x y f r2,LY (K.AP b r') b r' call K2 x y f/\K2.ps b=some r2/\
  ((f=.nilFunc/\r2.en=false/\BA=[(r2.pid,call,x,y)]/\K'=K2.AP b { r2 with A:=x,B:=y })\/(f=.nilFunc/\r2.en=true/\BA=[(r2.pid,call,x,y)]/\K'=K2)\/((∃fn ca cb,f=.func fn ca cb)/\BA=[]/\K'=K2.AP b { r2 with bl:=f,P:=(r2.P+65534) % 65536 })):=by
 obtain⟨q,s,x,j,c,d,e⟩|⟨q,s,x,j,c,d,e⟩:=h
 all_goals
  rw[hr]at c
  cases c
  rw[hs]at d
  obtain⟨rfl,rfl,rfl⟩:1=s/\call=x/\r'=j:=by simpa using d
 .obtain⟨a,_⟩|⟨_,K2,x,y,r2,a,g,i,k,l⟩:=e
  .cases a
  .exact⟨K2,x,y,_,r2,a,g,.inl ⟨rfl,i,k,l⟩⟩
 .obtain⟨a,_⟩|⟨_,K2,x,y,f,r2,a,g,i⟩:=e
  .cases a
  .exact⟨K2,x,y,f,r2,a,g,.inr i⟩
def bm6 (t n m:Nat) (d:Nat->Nat) (b1 b2 p e1 e2 u c:Nat) (ws:List Nat) (BA:List Ev) (K':KS):Prop:=
 (BA=[]/\u % 2=1/\3<=u/\u<=2*t+1/\ws.length=16/\PI t n m d b1 b2 p e1 e2 u c ws K')\/
 (BA=[]/\2<=u/\PI t n m d b1 b2 p e1 e2 (u-1) c ws K')\/
 (∃x,BA=[(1,7,x,0)]/\1<=x/\x<=n/\3<=u/\PI t n m d b1 b2 p e1 e2 (u-1) c (ws++(List.range x).map d) K')\/
 (u=1/\BA=[(1,1,0,0)]/\PI t n m d b1 b2 p e1 e2 0 c ws K')
theorem PI.writes {r1:PR} {K2:KS} {x y:Nat} {f:n_} (h:PI t n m d b1 b2 p e1 e2 u c ws K) (hu:0<u) (hf1:r1.fds[1]?=some 1) (Et:Q3 t n m d r1.Ae) (hA:r1.A=66) (hX:LY (K.AP b1 r1) b1 r1 7 K2 x y f):
  ∃T ct,K2={ K.AP b1 r1 with T:=T,ct:=ct }/\y=0/\
   ((f=.func (.func 265) #[ptr p] #[]/\ct=K.ct/\ws.length=16)\/(f=.nilFunc/\1<=x/\x<=n/\ws.length+x<=16/\ct=Aj K.ct p { K.ct p with ws:=ws++(List.range x).map d })):=by
 have b:=h.le;have C:4<=c:=by
  obtain z|z:=Nat.lt_or_ge c 4
  .have:=h.fin (by omega);omega
  .exact z
 have D:=Et.len;have o:=hX.get (by rw[hA,D];decide);have o:Zt (K.AP b1 r1) r1 (Gi r1 0) (Gi r1 1) (Gi r1 2) K2 x y f:=o;rw[Et.arg (j:=0) (v:=1) (by omega) (by rw[hA];exact(Hr b.2.2.2.1).2.1 2 (by omega)),Et.arg (j:=1) (v:=80) (by omega) (by rw[hA];exact(Hr b.2.2.2.1).2.1 3 (by omega)),Et.arg (j:=2) (v:=n) (by omega) (by rw[hA];exact(Hr b.2.2.2.1).2.1 4 (by omega))]at o;obtain⟨r,_⟩|⟨_,B⟩:=o
 .exact absurd (.inr (by omega)) r
 have l:=h.tv1 (.inl hu);obtain⟨e,g,a1,_⟩|⟨e,a1,_⟩|⟨e,a1,T,ct,w,rfl⟩:=B.get (i:=1) hf1
 .have:=(LC (l.symm.trans a1)).1;omega
 .have:=(LC (l.symm.trans a1)).1;omega
 .obtain rfl:e2=e:=(LC (l.symm.trans a1)).2;have q:((K.AP b1 r1).ct e2).n=p:=h.n1.2;rw[q]at w;have s:=h.x (by omega);have k:=h.wv;obtain⟨a,_⟩|⟨_,_,a,rfl,rfl,rfl,rfl⟩|⟨_,a,rfl,rfl,rfl,rfl⟩:=w
  .have a:(K.ct p).x=false:=a;rw[s]at a;cases a
  .refine⟨T,K.ct,rfl,rfl,.inl ⟨rfl,rfl,?_⟩⟩;have a:(K.ct p).FZ=true:=a;unfold Ct.FZ at a;rw[k,s]at a;simpa using a
  .have a:(K.ct p).FZ=false:=by
    obtain a|a:=a
    .omega
    .exact a
   unfold Ct.FZ at a;rw[k,s]at a;have a:ws.length≠16:=(by simpa using a);have F:=h.wl;have E:Nat.min n (16-((K.AP b1 r1).ct p).ws.length)=min n (16-ws.length):=(by show min n (16-(K.ct p).ws.length)=_;rw[k]);rw[E];refine⟨T,_,rfl,rfl,.inr ⟨rfl,by omega,by omega,by omega,?_⟩⟩;show Aj K.ct p { K.ct p with ws:=(K.ct p).ws++_ }=_;rw[k,Et.out b.2.2.2.1 (by omega)]
theorem aw9 (K:KS):K.drops [0,1,-1,-1,-1,-1]=(K.drop 0).drop 1:=rfl
theorem qA.cop {x:Int} {y:Nat} (h:qA t n m d p c r):qA t n m d p c { r with co:=x,par:=y }:=⟨h.pid,h.en,h.Yn,h.fds,h.at_,h.bl⟩
theorem PI.bl3 {r1:PR} (h:PI t n m d b1 b2 p e1 e2 u c ws K) (hu:0<u) (hf1:r1.fds=[0,1,-1,-1,-1,-1]) (hX:bn (K.AP b1 r1) b1 r1 0 K'):PI t n m d b1 b2 p e1 e2 0 c ws K':=by
 have R:=h.le;have Q:4<=c:=by
  obtain j|j:=Nat.lt_or_ge c 4
  .have:=h.fin (by omega);omega
  .exact j
 obtain⟨f,g,I,p2,p3,p4,J,⟨q,Y,Z,_⟩,L⟩:=hX.parts;rw[hf1,aw9]at I p2 p3 p4 J L;have N:(K.AP b1 r1).desc 0=2:=by show K.desc 0=2;rw[h.d0,if_pos hu,if_pos (by omega)]
 have l:=h.d1;rw[if_pos hu]at l;have key:∃tv ct v,((K.AP b1 r1).drop 0).drop 1={ K.AP b1 r1 with tv:=tv,ct:=ct,desc:=v,ef:=((K.AP b1 r1).drop 0 |>.drop 1).ef }/\tv 0=K.tv 0/\(6<=c/\c<=8->tv 1=K.tv 1)/\v 0=1/\v 1=(if 6<=c/\c<=8 then 1 else 0)/\(∀k,k≠p->ct k=K.ct k)/\(ct p).ws=(K.ct p).ws/\(ct p).x=(K.ct p).x/\((ct p).y=true ↔ 6<=c/\c<=8)/\((K.AP b1 r1).drop 0 |>.drop 1).ef 0=none/\((K.AP b1 r1).drop 0 |>.drop 1).ef 1=none:=by
  rw[drop_one N]
  by_cases j:6<=c/\c<=8
  .rw[if_pos j]at l;rw[drop_one (i:=1) (K:={ K.AP b1 r1 with desc:=Aj (K.AP b1 r1).desc 0 1 }) (by show Aj K.desc 0 1 1=2;rw[show Aj K.desc 0 1 1=K.desc 1 from rfl,l]),if_pos j];exact⟨K.tv,K.ct,_,rfl,rfl,λ_=>rfl,rfl,rfl,λ_ _=>rfl,rfl,rfl,⟨λ_=>j,λ_=>h.y.2 (.inl hu)⟩,h.ef.1,h.ef.2⟩
  .rw[if_neg j]at l;have M:({ K.AP b1 r1 with desc:=Aj (K.AP b1 r1).desc 0 1 }:KS).tv 1=.iface 334 (ptr e2):=h.tv1 (.inl hu);rw[Uz (i:=1) (K:={ K.AP b1 r1 with desc:=Aj (K.AP b1 r1).desc 0 1 }) (by show Aj K.desc 0 1 1=1;rw[show Aj K.desc 0 1 1=K.desc 1 from rfl,l]) h.ef.2,ZQ M,if_neg j];have z:(({ K.AP b1 r1 with desc:=Aj (K.AP b1 r1).desc 0 1 }:KS).ct e2).n=p:=h.n1.2;rw[z];exact⟨_,_,_,rfl,rfl,λe=>absurd e j,rfl,rfl,λk s=>if_neg s,by simp[Aj,KS.AP],by simp[Aj,KS.AP],by simp[Aj];omega,h.ef.1,rfl⟩
 obtain⟨tv,ct,v,s,k1,k2,k3,T,H,U,V,W,X,B⟩:=key;have C:K'.tv=tv:=by rw[I,s]
 have D:K'.desc=v:=by rw[p3,s]
 have A:K'.ct=ct:=by rw[p4,s]
 have E:∀k,k∈K'.AV ↔ k∈K.AV/\RQ K'.ps k=false:=λk=>by rw[J k,s];exact Iff.rfl
 have F:∀k,k≠b1->K'.ps k=(K.ps k).map λq=>{ q with co:=g k,par:=f k }:=λk w=>by
  rw[L k w,s]
  show(BX K.ps b1 r1 k).map _=_
  rw[Bg w]
 refine⟨h.ne,h.pe,λh=>absurd h (by omega),λj=>?_,λb r S o z=>?_,λj=>by rw[C,k1];exact h.tv0 j,λe=>by rw[C,k2 (by omega)];exact h.tv1 (.inl hu),by rw[p2];exact⟨X,B⟩,by rw[D,k3,if_neg (by omega),if_pos (by omega)],by rw[D,T];simp,by rw[A,H e1 h.pe.1.symm,H e2 h.pe.2.symm];exact h.n1,by rw[A,U];exact h.wv,λj=>by rw[A,V];exact h.x j,by rw[A,W];omega,h.wl,λj=>absurd j (by omega),by omega⟩
 .obtain⟨O,r,P,G⟩:=h.two j;have e:=F b2 h.ne.symm;rw[P]at e;refine⟨(E b2).2 ⟨O,?_⟩,_,e,G.cop⟩;unfold RQ;rw[e];simp[G.en]
 .by_cases e:b=b1
  .subst e;rw[Y]at o;cases o;rw[Z]at z;cases z
  .rw[F b e]at o;cases hq:K.ps b with
   |none=>rw[hq]at o;cases o
   |some q=>
    rw[hq]at o;cases o
    obtain⟨a,_⟩|a:=h.only b q ((E b).1 S).1 hq z
    .exact absurd a e
    .exact .inr a
theorem PI.parent (h:PI t n m d b1 b2 p e1 e2 u c ws K) (hu:0<u) (hW:VT b1 1 K BA K'):bm6 t n m d b1 b2 p e1 e2 u c ws BA K':=by
 obtain⟨B,L,E⟩:=hW.one;obtain⟨b,r,F,g,G⟩:=h.br1 hu L;clear h L hW;have w:=b.le;have s:=g.Yn;obtain⟨e,j,l⟩|⟨k,D,e,j⟩|⟨k,D,e,j,l⟩:=g.at_
 .have z:Dq r=(0,0,{ r with P:=8,A:=r.A }):=by
   rw[s.step (op:=7) (a:=32) (by omega) (by omega) (by rw[j];rfl) (by rw[j];rfl)]
   simp[MV,j,l]
  obtain⟨rfl,rfl⟩:=step_plain F z E;exact .inr (.inl ⟨rfl,by omega,b.Jo hu aV.of1 (by omega) (by omega) (g.p2 (.inr (.inl ⟨0,by omega,by omega,rfl⟩)) G) b.n1 b.wv rfl rfl b.wl⟩)
 .obtain⟨w1,w2,_,_⟩:=Yt (n:=n) (m:=m) (d:=d) D w.2.2.2.1;have z:Dq r=(0,0,{ r with P:=r.P+2,A:=if k<t then 66 else 69 }):=by
   rw[s.step (op:=1) (a:=if k<t then 66 else 69) (by omega) (by omega) (by rw[j];exact w1) (by rw[j];exact w2)]
   simp[MV]
  obtain⟨rfl,rfl⟩:=step_plain F z E;exact .inr (.inl ⟨rfl,by omega,b.Jo hu aV.of1 (by omega) (by omega) (g.p2 (.inr (.inr ⟨k,D,by omega,by omega,rfl⟩)) G) b.n1 b.wv rfl rfl b.wl⟩)
 .obtain⟨_,_,w1,w2⟩:=Yt (n:=n) (m:=m) (d:=d) D w.2.2.2.1;by_cases v:k<t
  .rw[if_pos v]at w2 l;have z:Dq r=(1,7,{ r with P:=r.P+2 }):=by
    rw[s.step (op:=11) (a:=7) (by omega) (by omega) (by rw[j];exact w1) (by rw[j];exact w2)]
    simp[MV]
   obtain⟨O,x,y,f,M,I,i,C⟩:=Jr F z E;obtain⟨T,W,rfl,rfl,S⟩:=b.writes (r1:={ r with P:=r.P+2 }) hu (by show r.fds[1]?=_;rw[g.fds];rfl) s l I;have i:BX B.ps b1 { r with P:=r.P+2 } b1=some M:=i;rw[Ah]at i;cases i;obtain⟨rfl,rfl,o⟩|⟨rfl,N,J,o,rfl⟩:=S
   .obtain⟨h,_⟩|⟨h,_⟩|⟨_,rfl,rfl⟩:=C
    .cases h
    .cases h
    .refine .inl ⟨rfl,by omega,by omega,by omega,o,b.Jo hu aV.of hu (w_ _) ⟨g.pid,g.en,g.Yn,g.fds,?_,.inr ⟨rfl,by omega,by omega,by omega⟩⟩ b.n1 b.wv rfl rfl b.wl⟩;exact .inr (.inr ⟨k,D,e,by show(r.P+2+65534) % 65536=_;omega,by rw[if_pos v];exact l⟩)
   .obtain⟨_,_,rfl,rfl⟩|⟨_,h,_⟩|⟨⟨_,_,_,h⟩,_⟩:=C
    .refine .inr (.inr (.inl ⟨x,by rw[show({ r with P:=r.P+2 }:PR).pid=1 from g.pid],N,J,by omega,b.Jo hu aV.of (by omega) (by omega) ⟨g.pid,g.en,g.Yn,g.fds,?_,.inl G⟩ ?_ ?_ ?_ ?_ (by simp;omega)⟩))
     .exact .inr (.inl ⟨k+1,by omega,by omega,by show r.P+2=_;omega⟩)
     .show(Aj B.ct p _ e1).n=p/\(Aj B.ct p _ e2).n=p;unfold Aj;rw[if_neg b.pe.1.symm,if_neg b.pe.2.symm];exact b.n1
     .show(Aj B.ct p _ p).ws=_;unfold Aj;rw[if_pos rfl]
     .show(Aj B.ct p _ p).x=_;unfold Aj;rw[if_pos rfl]
     .show(Aj B.ct p _ p).y=_;unfold Aj;rw[if_pos rfl]
    .have h:r.en=true:=h;rw[g.en]at h;cases h
    .cases h
  .rw[if_neg v]at w2 l;obtain rfl:k=t:=(by omega);have z:Dq r=(1,1,{ r with P:=r.P+2 }):=by
    rw[s.step (op:=11) (a:=1) (by omega) (by omega) (by rw[j];exact w1) (by rw[j];exact w2)]
    simp[MV]
   obtain⟨O,x,y,f,M,I,i,C⟩:=Jr F z E;have Q:=I.get (by show r.A+1<=r.Ae.length;rw[l,s.len];decide);obtain⟨rfl,rfl,rfl,H⟩:=Q;have R:Gi { r with P:=r.P+2 } 0=0:=Q3.arg (r:={ r with P:=r.P+2 }) s (by show r.A+0<77;omega) (by show pw k n m d (r.A+0)=0;rw[l];exact(Hr w.2.2.2.1).2.1 5 (by omega));rw[R]at H C;obtain⟨_,_,_,_,_,_,_,⟨q,q1,U,V⟩,_⟩:=H.parts;rw[i]at q1;cases q1;obtain⟨_,h,_⟩|⟨_,_,rfl,rfl⟩|⟨⟨_,_,_,h⟩,_⟩:=C
   .rw[U]at h;cases h
   .exact .inr (.inr (.inr ⟨by omega,by rw[V,show({ r with P:=r.P+2 }:PR).pid=1 from g.pid],b.bl3 (r1:={ r with P:=r.P+2 }) hu g.fds H⟩))
   .cases h
end
section
variable {t n m b1 b2 p e1 e2 u c:Nat} {d:Nat->Nat} {ws:List Nat} {K K':KS} {r r':PR} {BA:List Ev}
theorem aV.of3 {b:Nat} {K:KS} {r q r':PR} {ct:Nat->Ct}:aV b K (KS.AP (KS.AP { K.AP b r with ct:=ct } b q) b r') r':=⟨rfl,rfl,rfl,rfl,Ah,λk a=>by show BX (BX (BX K.ps b r) b q) b r' k=_;rw[Bg a,Bg a,Bg a]⟩
def ap1 (t n m:Nat) (d:Nat->Nat) (b1 b2 p e1 e2 u c:Nat) (ws:List Nat) (BA:List Ev) (K':KS):Prop:=
 (BA=[]/\c=4/\ws=[]/\0<u/\PI t n m d b1 b2 p e1 e2 u c ws K')\/
 (BA=[]/\∃c',c'<c/\0<c'/\PI t n m d b1 b2 p e1 e2 u c' ws K')\/
 (BA=[(2,8,0,0)]/\c=6/\PI t n m d b1 b2 p e1 e2 u 5 ws K')\/
 (∃x r,BA=[(2,6,x,0)]/\c=4/\x<=m/\x<=ws.length/\K'.ps b2=some r/\r.Ae.length=128/\(∀i,i<x->r.Ae[112+i]?=ws[i]?)/\((x=0/\PI t n m d b1 b2 p e1 e2 u 3 ws K')\/(1<=x/\PI t n m d b1 b2 p e1 e2 u 10 (ws.drop x) K')))\/
 (c=1/\BA=[(2,1,0,0)]/\PI t n m d b1 b2 p e1 e2 u 0 ws K')
theorem PI.reads {r1:PR} {K2:KS} {x y:Nat} {f:n_} (h:PI t n m d b1 b2 p e1 e2 u 4 ws K) (hf1:r1.fds[0]?=some 0) (Et:Q3 t n m d r1.Ae) (hA:r1.A=71) (hX:LY (K.AP b2 r1) b2 r1 6 K2 x y f):
  ∃Ae ct,K2=KS.AP { K.AP b2 r1 with ct:=ct } b2 { r1 with Ae:=Ae }/\y=0/\
   ((f=.func (.func 270) #[ptr p] #[]/\ct=K.ct/\Ae=r1.Ae/\ws=[]/\0<u)\/(f=.nilFunc/\x=min ws.length m/\(ws=[]->u=0)/\Ae=N7 r1.Ae 112 (ws.take x)/\ct=Aj K.ct p { K.ct p with ws:=ws.drop x })):=by
 have c:=h.le;have B:=Et.len;have l:=hX.get (by rw[hA,B];decide);have l:qV (K.AP b2 r1) b2 r1 (Gi r1 0) (Gi r1 1) (Gi r1 2) K2 x y f:=l;rw[Et.arg (j:=0) (v:=0) (by omega) (by rw[hA];exact(Hr c.2.2.2.1).2.1 7 (by omega)),Et.arg (j:=1) (v:=112) (by omega) (by rw[hA];exact(Hr c.2.2.2.1).2.1 8 (by omega)),Et.arg (j:=2) (v:=m) (by omega) (by rw[hA];exact(Hr c.2.2.2.1).2.1 9 (by omega))]at l;obtain⟨r,_⟩|⟨_,z⟩:=l
 .exact absurd (.inr (by omega)) r
 have k:=h.tv0 (by omega);obtain⟨e,g,a1,_⟩|⟨e,a1,Ae,ct,s,rfl⟩|⟨e,a1,_⟩:=z.get (i:=0) hf1
 .have:=(LC (k.symm.trans a1)).1;omega
 .obtain rfl:e1=e:=(LC (k.symm.trans a1)).2;have q:((K.AP b2 r1).ct e1).n=p:=h.n1.1;rw[q]at s;have b:=h.wv;have w:=h.y;obtain⟨_,a,rfl,rfl,rfl,rfl,rfl⟩|⟨a,rfl,rfl,rfl,rfl,rfl⟩:=s
  .refine⟨_,_,rfl,rfl,.inl ⟨rfl,rfl,rfl,?_⟩⟩;have a:(K.ct p).starved=true:=a;unfold Ct.starved at a;rw[b]at a;have a:ws=[]/\(K.ct p).y=true:=(by simpa using a);have:=w.1 a.2;exact⟨a.1,by omega⟩
  .have a:(K.ct p).starved=false:=by
    obtain a|a:=a
    .omega
    .exact a
   have C:Nat.min ((K.AP b2 r1).ct p).ws.length m=min ws.length m:=(by show min (K.ct p).ws.length m=_;rw[b]);rw[C];refine⟨_,_,rfl,rfl,.inr ⟨rfl,rfl,λe=>?_,?_,?_⟩⟩
   .unfold Ct.starved at a;rw[b,e]at a;cases hyy:(K.ct p).y with
    |true=>rw[hyy]at a;cases a
    |false=>
     obtain o|o:=Nat.eq_zero_or_pos u
     .exact o
     .rw[w.2 (.inl o)]at hyy;cases hyy
   .show N7 r1.Ae 112 ((K.ct p).ws.take _)=_;rw[b]
   .show Aj K.ct p { K.ct p with ws:=(K.ct p).ws.drop _ }=_;rw[b]
 .have:=(LC (k.symm.trans a1)).1;omega
theorem PI.closes {r1 r2:PR} (h:PI t n m d b1 b2 p e1 e2 u 6 ws K) (hr:qA t n m d p 5 r2) (hE:∃r3,K'=KS.AP (KS.AP ((K.AP b2 r1).drop 1) b2 r3) b2 r2):PI t n m d b1 b2 p e1 e2 u 5 ws K':=by
 have F:=h.le;obtain⟨r3,rfl⟩:=hE;have f:=h.d1;rw[if_pos (c:=6<=6/\6<=8) (by omega)]at f;have key:∃tv ct l ef,(K.AP b2 r1).drop 1={ K.AP b2 r1 with tv:=tv,ct:=ct,desc:=l,ef:=ef }/\tv 0=K.tv 0/\(0<u->tv 1=K.tv 1)/\l 0=K.desc 0/\l 1=(if 0<u then 1 else 0)/\(∀k,k≠p->ct k=K.ct k)/\(ct p).ws=(K.ct p).ws/\(ct p).x=(K.ct p).x/\((ct p).y=true ↔ 0<u)/\ef 0=none/\ef 1=none:=by
  by_cases g:0<u
  .rw[if_pos g]at f;rw[drop_one (i:=1) (K:=K.AP b2 r1) f,if_pos g];exact⟨K.tv,K.ct,_,K.ef,rfl,rfl,λ_=>rfl,rfl,rfl,λ_ _=>rfl,rfl,rfl,⟨λ_=>g,λ_=>h.y.2 (.inl g)⟩,h.ef.1,h.ef.2⟩
  .rw[if_neg g]at f;have A:(K.AP b2 r1).tv 1=.iface 334 (ptr e2):=h.tv1 (.inr (by omega));rw[Uz (i:=1) (K:=K.AP b2 r1) f h.ef.2,ZQ A,if_neg g];have q:((K.AP b2 r1).ct e2).n=p:=h.n1.2;rw[q];exact⟨_,_,_,_,rfl,rfl,λe=>absurd e g,rfl,rfl,λk o=>if_neg o,by simp[Aj,KS.AP],by simp[Aj,KS.AP],by simp[Aj];omega,h.ef.1,rfl⟩
 obtain⟨tv,ct,l,ef,o,k1,k2,k3,H,z,I,J,L,M,s⟩:=key;rw[o];have v:∀k,k≠b2->(KS.AP (KS.AP { K.AP b2 r1 with tv:=tv,ct:=ct,desc:=l,ef:=ef } b2 r3) b2 r2).ps k=K.ps k:=λk j=>by
  show BX (BX (BX K.ps b2 r1) b2 r3) b2 r2 k=_
  rw[Bg j,Bg j,Bg j]
 refine⟨h.ne,h.pe,λg=>?_,λ_=>⟨(h.two (by omega)).1,r2,Ah,hr⟩,λb r G w q=>?_,λ_=>k1.trans (h.tv0 (by omega)),λe=>(k2 (by omega)).trans (h.tv1 (.inr (by omega))),⟨M,s⟩,k3.trans (by rw[h.d0];simp),H.trans (by simp),?_,I.trans h.wv,λ_=>J.trans (h.x (by omega)),by show(ct p).y=true ↔ _;rw[L];omega,h.wl,λE=>absurd E (by omega),by omega⟩
 .obtain⟨B,r,C,D⟩:=h.one g;exact⟨B,r,(v b1 h.ne).trans C,D⟩
 .by_cases e:b=b2
  .exact .inr ⟨e,by omega⟩
  .rw[v b e]at w;obtain a|⟨a,_⟩:=h.only b r G w q
   .exact .inl a
   .exact absurd a e
 .show(ct e1).n=p/\(ct e2).n=p;rw[z e1 h.pe.1.symm,z e2 h.pe.2.symm];exact h.n1
theorem ax0 (K:KS):K.drops [0,-1,-1,-1,-1,-1]=K.drop 0:=rfl
theorem PI.bl2 {r1:PR} (h:PI t n m d b1 b2 p e1 e2 u 1 ws K) (hf1:r1.fds=[0,-1,-1,-1,-1,-1]) (hX:bn (K.AP b2 r1) b2 r1 0 K'):PI t n m d b1 b2 p e1 e2 u 0 ws K':=by
 have x:=h.le;obtain⟨rfl,rfl⟩:=h.fin (by omega);obtain⟨f,g,s,p2,p3,p4,l,⟨q,A,B,_⟩,o⟩:=hX.parts;rw[hf1,ax0]at s p2 p3 p4 l o;have w:(K.AP b2 r1).desc 0=1:=by show K.desc 0=1;rw[h.d0];rfl
 have v:(K.AP b2 r1).tv 0=.iface 330 (ptr e1):=h.tv0 (by omega);have c:((K.AP b2 r1).ct e1).n=p:=h.n1.1;rw[Uz w h.ef.1,tJ v,c]at s p2 p3 p4 l o;have k:=h.d1;refine⟨h.ne,h.pe,λh=>absurd h (by omega),λh=>absurd h (by omega),λb r z j c=>?_,λh=>absurd h (by omega),λh=>absurd h (by omega),by rw[p2];exact⟨rfl,h.ef.2⟩,by rw[p3];rfl,by rw[p3];exact k.trans (by simp),?_,?_,λh=>absurd h (by omega),?_,h.wl,λ_=>⟨rfl,rfl⟩,by omega⟩
 .by_cases e:b=b2
  .subst e;rw[A]at j;cases j;rw[B]at c;cases c
  .rw[o b e]at j;have i:((K.AP b2 r1).ps b).map (λq=>{ q with co:=g b,par:=f b })=some r:=j;have e3:(K.AP b2 r1).ps b=K.ps b:=Bg e;rw[e3]at i;cases hk:K.ps b with
   |none=>rw[hk]at i;cases i
   |some q=>
    rw[hk]at i;cases i
    obtain⟨_,a⟩|⟨a,_⟩:=h.only b q ((l b).1 z).1 hk c
    .omega
    .exact absurd a e
 .rw[p4];show(Aj K.ct p _ e1).n=p/\(Aj K.ct p _ e2).n=p;unfold Aj;rw[if_neg h.pe.1.symm,if_neg h.pe.2.symm];exact h.n1
 .rw[p4];show(Aj K.ct p _ p).ws=_;unfold Aj;rw[if_pos rfl];exact h.wv
 .rw[p4];show(Aj K.ct p _ p).y=true ↔ _;unfold Aj;rw[if_pos rfl];show(K.ct p).y=true ↔ _;rw[h.y];omega
theorem PI.child (h:PI t n m d b1 b2 p e1 e2 u c ws K) (hc:0<c) (hW:VT b2 1 K BA K'):ap1 t n m d b1 b2 p e1 e2 u c ws BA K':=by
 obtain⟨s,W,M⟩:=hW.one;obtain⟨k,r,N,g,L⟩:=h.br2 hc W;clear h W hW;have w:=k.le;have l:=g.Yn;have lit:=λi E=>(Hr (n:=n) (m:=m) (d:=d) w.2.2.2.1).1 i E
 have plain:∀{c' P A:Nat},0<c'->c'<c->Dq r=(0,0,{ r with P:=P,A:=A })->as5 c' P A->((6<=c/\c<=8) ↔ (6<=c'/\c'<=8))->(c'<=3->c<=3)->ap1 t n m d b1 b2 p e1 e2 u c ws BA K':=fun {c' P A} a1 a2 z IY G hf=>by
  obtain⟨rfl,rfl⟩:=step_plain N z M
  exact .inr (.inl ⟨rfl,c',a2,a1,k.set2 hc aV.of1 a1 (by omega) G (g.p2 IY L G) k.n1 k.wv rfl rfl k.wl λe=>k.fin (hf e)⟩)
 obtain⟨rfl,b,o⟩|⟨rfl,b⟩|⟨rfl,b,o⟩|⟨rfl,b⟩|⟨rfl,b,o⟩|⟨rfl,b,o⟩|⟨rfl,b⟩|⟨rfl,b,o⟩|⟨rfl,b,o⟩|⟨rfl,b⟩:=g.at_
 .refine plain (c':=7) (P:=32) (A:=r.A) (by omega) (by omega) ?_ (.inr (.inl ⟨rfl,rfl⟩)) (by omega) (by omega);rw[l.step (op:=7) (a:=32) (by omega) (by omega) (by rw[b];rfl) (by rw[b];rfl)];simp[MV,o]
 .refine plain (c':=6) (P:=34) (A:=70) (by omega) (by omega) ?_ (.inr (.inr (.inl ⟨rfl,rfl,rfl⟩))) (by omega) (by omega);rw[l.step (op:=1) (a:=70) (by omega) (by omega) (by rw[b];exact lit 0 (by omega)) (by rw[b];exact lit 1 (by omega))];simp[MV,b]
 .have z:Dq r=(1,8,{ r with P:=r.P+2 }):=by
   rw[l.step (op:=11) (a:=8) (by omega) (by omega) (by rw[b];exact lit 2 (by omega)) (by rw[b];exact lit 3 (by omega))]
   simp[MV]
  obtain⟨Q,x,y,f,r2,F,j,v⟩:=Jr N z M;have D:=F.get (by show r.A+1<=r.Ae.length;rw[o,l.len];decide);have S:Gi { r with P:=r.P+2 } 0=1:=Q3.arg (r:={ r with P:=r.P+2 }) l (by show r.A+0<77;omega) (by show pw t n m d (r.A+0)=1;rw[o];exact(Hr w.2.2.2.1).2.1 6 (by omega));have D:Zu (s.AP b2 { r with P:=r.P+2 }) b2 { r with P:=r.P+2 } (Gi { r with P:=r.P+2 } 0) Q x y f:=D;rw[S]at D;have H:({ r with P:=r.P+2 }:PR).fds[1]?=some 1:=by show r.fds[1]?=_;rw[g.fds];rfl
  obtain⟨T,_⟩|⟨i,E,_,rfl,rfl,rfl,rfl⟩:=D
  .unfold PR.has at T;rw[H]at T;cases T
  .rw[H]at E;obtain rfl:1=i:=(by have:=x_ E;omega);have j:BX _ b2 _ b2=some r2:=j;rw[Ah]at j;cases j;obtain⟨_,_,rfl,rfl⟩|⟨_,h,_⟩|⟨⟨_,_,_,h⟩,_⟩:=v
   .refine .inr (.inr (.inl ⟨by rw[show({ r with P:=r.P+2,fds:=r.fds.set 1 (-1) }:PR).pid=2 from g.pid],rfl,k.closes (r1:={ r with P:=r.P+2 }) (r2:={ r with P:=r.P+2,fds:=r.fds.set 1 (-1),A:=0,B:=0 }) ⟨g.pid,g.en,g.Yn,?_,?_,.inl L⟩ ⟨_,rfl⟩⟩))
    .show r.fds.set 1 (-1)=_;rw[g.fds];rfl
    .exact .inr (.inr (.inr (.inl ⟨rfl,by show r.P+2=36;omega⟩)))
   .have h:r.en=true:=h;rw[g.en]at h;cases h
   .cases h
 .refine plain (c':=4) (P:=38) (A:=71) (by omega) (by omega) ?_ (.inr (.inr (.inr (.inr (.inl ⟨rfl,rfl,rfl⟩))))) (by omega) (by omega);rw[l.step (op:=1) (a:=71) (by omega) (by omega) (by rw[b];exact lit 4 (by omega)) (by rw[b];exact lit 5 (by omega))];simp[MV,b]
 .have z:Dq r=(1,6,{ r with P:=r.P+2 }):=by
   rw[l.step (op:=11) (a:=6) (by omega) (by omega) (by rw[b];exact lit 6 (by omega)) (by rw[b];exact lit 7 (by omega))]
   simp[MV]
  obtain⟨Q,x,y,f,r2,F,j,v⟩:=Jr N z M;obtain⟨Ae,ct,rfl,rfl,hw⟩:=k.reads (r1:={ r with P:=r.P+2 }) (by show r.fds[0]?=_;rw[g.fds];rfl) l o F;have j:BX _ b2 _ b2=some r2:=j;rw[Ah]at j;cases j;obtain⟨rfl,rfl,rfl,C,hu⟩|⟨rfl,hx,C,rfl,rfl⟩:=hw
  .obtain⟨h,_⟩|⟨h,_⟩|⟨_,rfl,rfl⟩:=v
   .cases h
   .cases h
   .refine .inl ⟨rfl,rfl,C,hu,k.set2 hc aV.of3 hc (by omega) Iff.rfl ⟨g.pid,g.en,g.Yn,g.fds,?_,.inr ⟨rfl,rfl⟩⟩ k.n1 k.wv rfl rfl k.wl k.fin⟩;exact .inr (.inr (.inr (.inr (.inl ⟨rfl,by show(r.P+2+65534) % 65536=_;omega,o⟩))))
  .have V:=k.wl;have U:(ws.take x).length=x:=(by rw[List.length_take];omega);obtain⟨O,LJ⟩:=l.N7 (ws:=ws.take x) (by rw[U];omega);obtain⟨_,_,rfl,rfl⟩|⟨_,h,_⟩|⟨⟨_,_,_,h⟩,_⟩:=v
   .have X:((Aj s.ct p { s.ct p with ws:=ws.drop x }) e1).n=p/\((Aj s.ct p { s.ct p with ws:=ws.drop x }) e2).n=p:=by
     unfold Aj
     rw[if_neg k.pe.1.symm,if_neg k.pe.2.symm]
     exact k.n1
    have Y:((Aj s.ct p { s.ct p with ws:=ws.drop x }) p).ws=ws.drop x:=(by unfold Aj;rw[if_pos rfl]);have Z:((Aj s.ct p { s.ct p with ws:=ws.drop x }) p).x=(s.ct p).x:=(by unfold Aj;rw[if_pos rfl]);have ny:((Aj s.ct p { s.ct p with ws:=ws.drop x }) p).y=(s.ct p).y:=(by unfold Aj;rw[if_pos rfl]);refine .inr (.inr (.inr (.inl ⟨x,_,by rw[show({ r with P:=r.P+2,Ae:=N7 r.Ae 112 (ws.take x) }:PR).pid=2 from g.pid],rfl,by omega,by omega,Ah,O.len,λi E=>?_,?_⟩)))
    .rw[show(({ r with P:=r.P+2,Ae:=N7 r.Ae 112 (ws.take x),A:=x,B:=0 }:PR)).Ae=N7 r.Ae 112 (ws.take x)from rfl,LJ i (by omega),List.getElem?_take_of_lt E]
    .by_cases J:x=0
     .subst J;have I:ws=[]:=List.length_eq_zero_iff.1 (by omega);refine .inl ⟨rfl,k.set2 hc aV.of3 (c':=3) (by omega) (by omega) (by omega) ⟨g.pid,g.en,O,g.fds,?_,.inl L⟩ X (by rw[show(KS.ct _ p).ws=_ from Y];rfl) Z ny V λ_=>⟨C I,I⟩⟩;exact .inr (.inr (.inr (.inr (.inr (.inl ⟨rfl,by show r.P+2=40;omega,rfl⟩)))))
     .refine .inr ⟨by omega,k.set2 hc aV.of3 (c':=10) (by omega) (by omega) (by omega) ⟨g.pid,g.en,O,g.fds,?_,.inl L⟩ X Y Z ny (by rw[List.length_drop];omega) λh=>absurd h (by omega)⟩;exact .inr (.inr (.inr (.inr (.inr (.inr (.inr (.inr (.inl ⟨rfl,by show r.P+2=40;omega,J⟩))))))))
   .have h:r.en=true:=h;rw[g.en]at h;cases h
   .cases h
 .refine plain (c':=2) (P:=44) (A:=r.A) (by omega) (by omega) ?_ (.inr (.inr (.inr (.inr (.inr (.inr (.inl ⟨rfl,rfl⟩))))))) (by omega) (by omega);rw[l.step (op:=7) (a:=44) (by omega) (by omega) (by rw[b];exact lit 8 (by omega)) (by rw[b];exact lit 9 (by omega))];simp[MV,o]
 .refine plain (c':=1) (P:=46) (A:=69) (by omega) (by omega) ?_ (.inr (.inr (.inr (.inr (.inr (.inr (.inr (.inl ⟨rfl,rfl,rfl⟩)))))))) (by omega) (by omega);rw[l.step (op:=1) (a:=69) (by omega) (by omega) (by rw[b];exact lit 12 (by omega)) (by rw[b];exact lit 13 (by omega))];simp[MV,b]
 .have z:Dq r=(1,1,{ r with P:=r.P+2 }):=by
   rw[l.step (op:=11) (a:=1) (by omega) (by omega) (by rw[b];exact lit 14 (by omega)) (by rw[b];exact lit 15 (by omega))]
   simp[MV]
  obtain⟨Q,x,y,f,r2,F,j,v⟩:=Jr N z M;have D:=F.get (by show r.A+1<=r.Ae.length;rw[o,l.len];decide);obtain⟨rfl,rfl,rfl,R⟩:=D;have S:Gi { r with P:=r.P+2 } 0=0:=Q3.arg (r:={ r with P:=r.P+2 }) l (by show r.A+0<77;omega) (by show pw t n m d (r.A+0)=0;rw[o];exact(Hr w.2.2.2.1).2.1 5 (by omega));rw[S]at R v;obtain⟨_,_,_,_,_,_,_,⟨q,q1,q2,q3⟩,_⟩:=R.parts;rw[j]at q1;cases q1;obtain⟨_,h,_⟩|⟨_,_,rfl,rfl⟩|⟨⟨_,_,_,h⟩,_⟩:=v
  .rw[q2]at h;cases h
  .exact .inr (.inr (.inr (.inr ⟨rfl,by rw[q3,show({ r with P:=r.P+2 }:PR).pid=2 from g.pid],k.bl2 (r1:={ r with P:=r.P+2 }) g.fds R⟩)))
  .cases h
 .refine plain (c':=9) (P:=42) (A:=r.A) (by omega) (by omega) ?_ (.inr (.inr (.inr (.inr (.inr (.inr (.inr (.inr (.inr ⟨rfl,rfl⟩))))))))) (by omega) (by omega);rw[l.step (op:=7) (a:=44) (by omega) (by omega) (by rw[b];exact lit 8 (by omega)) (by rw[b];exact lit 9 (by omega))];simp[MV,o,b]
 .refine plain (c':=5) (P:=36) (A:=r.A) (by omega) (by omega) ?_ (.inr (.inr (.inr (.inl ⟨rfl,rfl⟩)))) (by omega) (by omega);rw[l.step (op:=6) (a:=36) (by omega) (by omega) (by rw[b];exact lit 10 (by omega)) (by rw[b];exact lit 11 (by omega))];simp[MV]
end
section
variable {t n m b1 b2 p e1 e2 u c:Nat} {d:Nat->Nat} {ws:List Nat} {K K':KS} {r r':PR} {BA:List Ev}
structure Mid (t n m:Nat) (d:Nat->Nat) (b1 p e1 e2:Nat) (K:KS):Prop where
 AV:K.AV=[b1]
 ps:∃r,K.ps b1=some r/\r.pid=1/\r.en=false/\Q3 t n m d r.Ae/\r.fds=[0,1,-1,-1,-1,-1]/\r.P=4/\r.bl=.nilFunc
 no:∀k,k≠b1->K.ps k=none
 BK:K.BK=1
 sw:K.swap=(Aw [(0,40)] 16).2
 pe:p≠e1/\p≠e2
 tv:K.tv 0=.iface 330 (ptr e1)/\K.tv 1=.iface 334 (ptr e2)
 ef:K.ef 0=none/\K.ef 1=none
 ds:K.desc 0=1/\K.desc 1=1
 n1:(K.ct e1).n=p/\(K.ct e2).n=p
 ct:(K.ct p).ws=[]/\(K.ct p).x=true/\(K.ct p).y=true
theorem oH {b call:Nat} (hr:K.ps b=some r) (hs:Dq r=(0,call,r')) (h:Last b K BA K'):False:=by
 obtain⟨q,s,x,f,a,c,e⟩:=h;rw[hr]at a;cases a;rw[hs]at c;obtain⟨rfl,rfl,rfl⟩:0=s/\call=x/\r'=f:=by simpa using c
 obtain⟨d,_⟩|⟨d,_⟩:=e<;>cases d
theorem VT.two {b:Nat} (h:VT b 2 K BA K'):∃K1,OI b K K1/\((∃ea eb Km,UR b K1 ea Km/\(UR b Km eb K'\/Last b Km eb K')/\BA=ea++eb)\/Last b K1 BA K'):=by
 obtain⟨K1,d,⟨e1,e2,a,⟨e3,e4,g,⟨rfl,rfl⟩,c,rfl⟩,i,rfl⟩|⟨j,e1,e2,a,k,f,e,rfl⟩⟩:=h
 .exact⟨_,d,.inl ⟨_,e2,a,c,.inl i,rfl⟩⟩
 .have:j=0\/j=1:=by omega
  obtain rfl|rfl:=this
  .obtain⟨rfl,rfl⟩:=f;exact⟨_,d,.inr e⟩
  .obtain⟨e3,e4,g,⟨rfl,rfl⟩,c,rfl⟩:=f;exact⟨_,d,.inl ⟨_,e2,a,c,.inr e,rfl⟩⟩
theorem rW {b:Nat} {e n1:Int} (hp:K.AV=[b]) (hr:K.ps b=some r) (HY:r.pid=1) (hen:r.en=false) (IV:r.bl=.nilFunc) (hn:1<=n1/\n1<=1000) (h:UU K 1 n1 BA e K'):e=0/\VT b n1.toNat K BA K':=by
 obtain⟨f,_⟩|⟨g,l,c,a,_,⟨d,_⟩|⟨_,k,_⟩|⟨_,_,i,j,_⟩⟩:=h
 .exact absurd (by rw[HY];rfl) (f b (by rw[hp];simp) r hr)
 .exact absurd hn d
 .obtain rfl:b=g:=by rw[hp]at c;exact(List.mem_singleton.1 c).symm
  rw[hr]at a;cases a;exact absurd (by unfold KS.Eg KS.blk;rw[hen,IV];rfl) k
 .obtain rfl:b=g:=by rw[hp]at c;exact(List.mem_singleton.1 c).symm
  exact⟨i,j⟩
theorem ak8 {b ib fb:Nat} {e:Int} {Ae:List Nat} (hp:K.AV=[b]) (hr:K.ps b=some (Ef ib fb Ae)) (hN:as4 K b 40 128) (hl:Ae.length=128) (hi:∀i,i<112->Ae[i]?=some (pw t n m d i)) (ht:t<=4) (h:UU K 1 2 BA e K'):e=0/\BA=[(1,5,0,0)]/\∃p e1 e2,Mid t n m d b p e1 e2 K':=by
 obtain⟨he,R⟩:=rW hp hr rfl rfl rfl (by omega) h;refine⟨he,?_⟩;obtain⟨o,⟨c,r0,u,B,rfl⟩,Y⟩:=R.two;obtain⟨r1,co,e1,e2⟩:=u.at B;rw[hr]at e1;cases e1;have H:Q3 t n m d Ae:=⟨hl,λi I _=>hi i I⟩;obtain⟨q,v⟩:∃q,q=({ r0 with bl:=.nilFunc }:PR):=⟨_,rfl⟩;have z:(c.AP b { r0 with bl:=.nilFunc }).ps b=some q:=by rw[v];exact Ah
 have q1:q.Ae=Ae:=by rw[v,e2];rfl
 have N:q.P=0:=by rw[v,e2];rfl
 have O:q.fds=[-1,-1,-1,-1,-1,-1]:=by rw[v,e2];rfl
 have D:q.pid=1/\q.en=false/\q.bl=.nilFunc:=by rw[v,e2];exact⟨rfl,rfl,rfl⟩
 have k1:(c.AP b { r0 with bl:=.nilFunc }).desc=K.desc:=by show c.desc=_;rw[u.eq]
 have k2:(c.AP b { r0 with bl:=.nilFunc }).AV=[b]:=by show c.AV=_;rw[u.AV,hp]
 have k3:(c.AP b { r0 with bl:=.nilFunc }).swap=K.swap:=by show c.swap=_;rw[u.eq]
 have k4:(c.AP b { r0 with bl:=.nilFunc }).BK=K.BK:=by show c.BK=_;rw[u.eq]
 have k5:∀k,k≠b->(c.AP b { r0 with bl:=.nilFunc }).ps k=none:=λk s=>by
  show BX c.ps b _ k=none
  rw[Bg s]
  obtain⟨f,hf⟩:=u.ps
  rw[hf,hN.2.2.2.2.2 k s];rfl
 generalize c.AP b { r0 with bl:=.nilFunc }=o at*;clear v e2 B u R h;have C:Dq q=(0,0,{ q with P:=2,A:=64 }):=by
  rw[Q3.step (t:=t) (n:=n) (m:=m) (d:=d) (op:=1) (a:=64) (by rw[q1];exact H) (by omega) (by omega) (by rw[N];rfl) (by rw[N];rfl)]
  simp[MV,N]
 obtain⟨ea,eb,Km,V,W,rfl⟩:=Y.resolve_right λX=>oH z C X
 obtain⟨rfl,rfl⟩:=step_plain z C (.inl V);have L:Dq { q with P:=2,A:=64 }=(1,5,{ q with P:=4,A:=64 }):=by
  rw[Q3.step (t:=t) (n:=n) (m:=m) (d:=d) (op:=11) (a:=5) (r:={ q with P:=2,A:=64 }) (by show Q3 t n m d q.Ae;rw[q1];exact H) (by show 2+1<112;omega) (by show 2+1<77;omega) rfl rfl]
  rfl
 obtain⟨T,x,y,f,r2,Z,l,hc⟩:=Jr (K:=o.AP b { q with P:=2,A:=64 }) Ah L W;have E:=Z.get (by show 64+1<=q.Ae.length;rw[q1,hl];decide);have ha:Gi { q with P:=4,A:=64 } 0=76:=Q3.arg (t:=t) (n:=n) (m:=m) (d:=d) (r:={ q with P:=4,A:=64 }) (by show Q3 t n m d q.Ae;rw[q1];exact H) (by show 64+0<77;omega) ((Hr ht).2.1 0 (by omega));have E:qW _ b { q with P:=4,A:=64 } (Gi { q with P:=4,A:=64 } 0) T x y f:=E;rw[ha]at E;have hsp:EI q.fds=6:=by rw[O];decide
 have hro:Ia ((o.AP b { q with P:=2,A:=64 }).AP b { q with P:=4,A:=64 }).desc 20=20:=by
  show Ia o.desc 20=20
  rw[k1]
  unfold Ia
  rw[List.filter_eq_self.2 λi _=>by rw[hN.2.2.2.1 i];rfl]
  simp
 obtain⟨h,_⟩|⟨_,h,_⟩|⟨_,_,h,_⟩|⟨_,p,e1,e2,T3,S,M,F,G,⟨_,_,_,he1,he2,_⟩,_,J,_,w,j,g,rfl,rfl,rfl,rfl⟩:=E
 .exact absurd (by show 76+2<=q.Ae.length;rw[q1,hl];decide) h
 .have h:EI q.fds<2:=h;omega
 .omega
 .have Q:∀i,o.desc i=0:=λi=>by rw[k1];exact hN.2.2.2.1 i
  obtain rfl:S=0:=by
   obtain h|h:=Nat.eq_zero_or_pos S
   .exact h
   .exact absurd (Q 0) (J.2 0 h)
  obtain rfl:M=1:=by
   have U:M≠0:=λh=>by
    have:=w.1
    rw[h]at this
    exact absurd this (by show Aj o.desc 0 1 0≠0;unfold Aj;rw[if_pos rfl];decide)
   obtain h|h:=Nat.lt_or_ge 1 M
   .exact absurd (show Aj o.desc 0 1 1=0 by unfold Aj;rw[if_neg (by decide)];exact Q 1) (w.2 1 h)
   .omega
  have j:OH q.fds F:=j;have g:OH (q.fds.set F ((0:Nat):Int)) G:=g;rw[O]at j g;obtain rfl:F=0:=by
   obtain h|h:=Nat.eq_zero_or_pos F
   .exact h
   .exact absurd rfl (j.2 0 h)
  obtain rfl:G=1:=by
   have U:G≠0:=λh=>by
    have:=g.1
    rw[h]at this
    simp at this
   obtain h|h:=Nat.lt_or_ge 1 G
   .exact absurd rfl (g.2 1 h)
   .omega
  have l:BX _ b _ b=some r2:=l;rw[Ah]at l;cases l;obtain⟨_,_,rfl,rfl⟩|⟨_,h,_⟩|⟨⟨_,_,_,h⟩,_⟩:=hc
  .refine⟨by simp[D.1],p,e1,e2,⟨k2,⟨_,Ah,D.1,D.2.1,⟨by simp[q1,hl],λi I hn'=>?_⟩,by show(q.fds.set 0 _).set 1 _=_;rw[O];rfl,rfl,D.2.2⟩,λk s=>?_,k4.trans hN.1,k3.trans hN.2.1,by omega,⟨?_,?_⟩,⟨rfl,rfl⟩,⟨rfl,rfl⟩,⟨?_,?_⟩,?_⟩⟩
   .show((q.Ae.set 76 0).set 77 1)[i]?=_;rw[List.getElem?_set_ne (by omega),q1];by_cases h:i=76
    .subst h;rw[List.getElem?_set_self (by rw[hl];decide)];unfold pw;rw[if_neg (by omega),if_neg (by omega),if_neg (by omega),if_neg (by omega),if_neg (by omega),if_neg (by omega),if_neg (by omega),if_pos (by omega)]
    .rw[List.getElem?_set_ne (by omega)];exact hi i I
   .show BX (BX (BX (BX o.ps b _) b _) b _) b _ k=none;rw[Bg s,Bg s,Bg s,Bg s];exact k5 k s
   .rfl
   .rfl
   .show(Ff _ p e1 e2 e1).n=p;unfold Ff Aj;rw[if_neg (by omega),if_pos rfl]
   .show(Ff _ p e1 e2 e2).n=p;unfold Ff Aj;rw[if_pos rfl]
   .show(Ff _ p e1 e2 p).ws=[]/\(Ff _ p e1 e2 p).x=true/\(Ff _ p e1 e2 p).y=true;unfold Ff Aj;rw[if_neg (by omega),if_neg (by omega),if_pos rfl];exact⟨rfl,rfl,rfl⟩
  .have h:q.en=true:=h;rw[D.2.1]at h;cases h
  .cases h
theorem ak7 {e:Int} (h:Mid t n m d b1 p e1 e2 K) (hle:1<=t/\t<=4/\1<=n/\n<=32/\1<=m/\m<=16) (hP:UU K 1 1 BA e K'):e=0/\BA=[(1,2,2,0)]/\∃b2,PI t n m d b1 b2 p e1 e2 (2*t+3) 8 [] K':=by
 obtain⟨r,S,L,w,B,jK,s,IV⟩:=h.ps;obtain⟨he,hW⟩:=rW h.AV S L w IV (by omega) hP;refine⟨he,?_⟩;obtain⟨j,⟨c,r0,l,I,rfl⟩,hS⟩:=hW.one;obtain⟨r1,co,O,u⟩:=l.at I;rw[S]at O;cases O;have hs:Dq { r0 with bl:=.nilFunc }=(1,2,{ r0 with bl:=.nilFunc,P:=6 }):=by
  subst u
  rw[Q3.step (t:=t) (n:=n) (m:=m) (d:=d) (op:=11) (a:=2) (r:={ r with co:=co,bl:=.nilFunc }) B (by show r.P+1<112;omega) (by show r.P+1<77;omega) (by show pw t n m d r.P=_;rw[s];rfl) (by show pw t n m d (r.P+1)=_;rw[s];rfl)]
  simp[MV,s]
 obtain⟨K2,x,y,f,r2,hX,o,hc⟩:=Jr (K:=c.AP b1 { r0 with bl:=.nilFunc }) Ah hs hS;have R:yX ((c.AP b1 { r0 with bl:=.nilFunc }).AP b1 { r0 with bl:=.nilFunc,P:=6 }) { r0 with bl:=.nilFunc,P:=6 } K2 x y f:=by
  obtain⟨h,_⟩|⟨_,h⟩:=hX
  .exact absurd (.inl rfl) h
  .exact h
 rw[PS]at R;have k1:(c.AP b1 { r0 with bl:=.nilFunc,P:=6 }).AV=[b1]:=by show c.AV=_;rw[l.AV,h.AV]
 have k2:(c.AP b1 { r0 with bl:=.nilFunc,P:=6 }).BK=1:=by show c.BK=_;rw[l.eq];exact h.BK
 have k3:(c.AP b1 { r0 with bl:=.nilFunc,P:=6 }).swap=(Aw [(0,40)] 16).2:=by show c.swap=_;rw[l.eq];exact h.sw
 have U:(c.AP b1 { r0 with bl:=.nilFunc,P:=6 }).tv=K.tv:=by show c.tv=_;rw[l.eq]
 have k5:(c.AP b1 { r0 with bl:=.nilFunc,P:=6 }).ef=K.ef:=by show c.ef=_;rw[l.eq]
 have V:(c.AP b1 { r0 with bl:=.nilFunc,P:=6 }).desc=K.desc:=by show c.desc=_;rw[l.eq]
 have E:(c.AP b1 { r0 with bl:=.nilFunc,P:=6 }).ct=K.ct:=by show c.ct=_;rw[l.eq]
 have k8:∀k,k≠b1->(c.AP b1 { r0 with bl:=.nilFunc,P:=6 }).ps k=none:=λk D=>by
  show BX c.ps b1 _ k=none
  rw[Bg D]
  obtain⟨f,hf⟩:=l.ps
  rw[hf,h.no k D];rfl
 have W:(c.AP b1 { r0 with bl:=.nilFunc,P:=6 }).ps b1=some { r0 with bl:=.nilFunc,P:=6 }:=Ah;have q1:({ r0 with bl:=.nilFunc,P:=6 }:PR).Ae=r.Ae:=by rw[u]
 have F:({ r0 with bl:=.nilFunc,P:=6 }:PR).fds=[0,1,-1,-1,-1,-1]:=by rw[u];exact jK
 have X:({ r0 with bl:=.nilFunc,P:=6 }:PR).pid=1:=by rw[u];exact L
 have Y:({ r0 with bl:=.nilFunc,P:=6 }:PR).en=false:=by rw[u];exact w
 have Z:({ r0 with bl:=.nilFunc,P:=6 }:PR).P=6:=rfl;have q6:({ r0 with bl:=.nilFunc,P:=6 }:PR).bl=.nilFunc:=rfl;generalize c.AP b1 { r0 with bl:=.nilFunc,P:=6 }=j at*;generalize ({ r0 with bl:=.nilFunc,P:=6 }:PR)=q at*;obtain⟨z,_⟩|⟨_,z,_⟩|⟨_,b2,J,i,d1,M,g,v,rfl,rfl,rfl,rfl⟩:=R
 .rw[k1,k2]at z;simp at z
 .rw[k3,q1,B.len]at z;exact absurd z (by decide)
 .have G:b2≠b1:=λe=>by rw[e,W]at M;cases M
  have N:∀k,k≠b2->({ i with desc:=d1 }:KS).ps k=j.ps k:=λk D=>by
   show i.ps k=_
   rw[g.eq]
   exact Bg D
  rw[N b1 G.symm,W]at o;have o:=x_ o;subst o;have T:J.pid=2:=by rw[g.pid,k2]
  obtain⟨_,_,rfl,rfl⟩|⟨_,h,_⟩|⟨⟨_,_,_,h⟩,_⟩:=hc
  .refine⟨by rw[X,T],b2,⟨G.symm,h.pe,λ_=>⟨?_,_,Ah,⟨X,Y,by show Q3 t n m d q.Ae;rw[q1];exact B,F,.inl ⟨rfl,Z,by show J.pid≠0;omega⟩,.inl q6⟩⟩,λ_=>⟨?_,J,?_,⟨T,g.en,by rw[g.Ae,q1];exact B,by rw[g.fds,F];rfl,.inl ⟨rfl,by rw[g.P,Z],g.A⟩,.inl g.bl⟩⟩,λb r hm C hn=>?_,λ_=>?_,λ_=>?_,?_,?_,?_,?_,?_,λ_=>?_,?_,by simp,λh=>absurd h (by omega),by omega⟩⟩
   .show b1∈i.AV;rw[g.eq,k1];simp
   .show b2∈i.AV;rw[g.eq];simp
   .show BX i.ps b1 _ b2=_;rw[Bg G];exact g.ps
   .by_cases H:b=b1
    .exact .inl ⟨H,by omega⟩
    .by_cases Q:b=b2
     .exact .inr ⟨Q,by omega⟩
     .have C:BX i.ps b1 _ b=some r:=C;rw[Bg H,show i.ps b=j.ps b from N b Q,k8 b H]at C;cases C
   .show i.tv 0=_;rw[g.eq];show j.tv 0=_;rw[U];exact h.tv.1
   .show i.tv 1=_;rw[g.eq];show j.tv 1=_;rw[U];exact h.tv.2
   .show i.ef 0=none/\i.ef 1=none;rw[g.eq];show j.ef 0=none/\j.ef 1=none;rw[k5];exact h.ef
   .show d1 0=_;rw[v 0 (by omega),F,V,h.ds.1,if_pos (by omega)];rfl
   .show d1 1=_;rw[v 1 (by omega),F,V,h.ds.2,if_pos (by omega)];rfl
   .show(i.ct e1).n=p/\(i.ct e2).n=p;rw[g.eq];show(j.ct e1).n=p/\(j.ct e2).n=p;rw[E];exact h.n1
   .show(i.ct p).ws=[];rw[g.eq];show(j.ct p).ws=[];rw[E];exact h.ct.1
   .show(i.ct p).x=true;rw[g.eq];show(j.ct p).x=true;rw[E];exact h.ct.2.1
   .show(i.ct p).y=true ↔ _;rw[g.eq];show(j.ct p).y=true ↔ _;rw[E,h.ct.2.2];simp
  .rw[Y]at h;cases h
  .cases h
end
def mu (u c:Nat) (ws:List Nat):Nat:=c+7*(ws.length+16*((u+1) / 2-1))+u
def EN (u c:Nat):Nat:=(if u=0 then 1 else 0)+(if c=0 then 1 else 0)
def RS (pid u c:Nat) (ws:List Nat):Prop:=(pid=1/\(u=0\/(3<=u/\ws.length=16)))\/(pid=2/\(c=0\/(c=4/\ws=[]/\0<u)))
def bx2 (n m:Nat) (d:Nat->Nat) (b2 pid u c:Nat) (ws:List Nat) (u' c':Nat) (ws':List Nat) (BA:List Ev) (K':KS):Prop:=
 ((BA=[]\/BA=[(pid,8,0,0)])/\ws'=ws/\EN u' c'=EN u c)\/
 (∃x,BA=[(pid,7,x,0)]/\1<=x/\x<=n/\ws'=ws++(List.range x).map d/\EN u' c'=EN u c)\/
 (∃x r,BA=[(pid,6,x,0)]/\pid=2/\x<=m/\x<=ws.length/\ws'=ws.drop x/\K'.ps b2=some r/\r.Ae.length=128/\(∀i,i<x->r.Ae[112+i]?=ws[i]?)/\EN u' c'=EN u c)\/
 (BA=[(pid,1,0,0)]/\ws'=ws/\EN u' c'=EN u c+1)
def lM (t n m:Nat) (d:Nat->Nat) (b1 b2 p e1 e2 pid u c:Nat) (ws:List Nat) (BA:List Ev) (e:Int) (K':KS):Prop:=
 (e≠0/\PI t n m d b1 b2 p e1 e2 u c ws K'/\RS pid u c ws)\/
 (e=0/\BA=[]/\PI t n m d b1 b2 p e1 e2 u c ws K'/\RS pid u c ws)\/
 (e=0/\∃u' c' ws',PI t n m d b1 b2 p e1 e2 u' c' ws' K'/\mu u' c' ws'<mu u c ws/\bx2 n m d b2 pid u c ws u' c' ws' BA K')
section
variable {t n m b1 b2 p e1 e2 u c:Nat} {d:Nat->Nat} {ws:List Nat} {K K':KS} {r r':PR} {BA:List Ev} {NC NS:Nat} {e:Int}
theorem dK (h:PI t n m d b1 b2 p e1 e2 u c ws K) (h1:RS 1 u c ws) (h2:RS 2 u c ws):u=0/\c=0:=by
 obtain⟨_,h1⟩|⟨h,_⟩:=h1
 .obtain⟨h,_⟩|⟨_,h2⟩:=h2
  .omega
  .obtain h1|⟨h1,a⟩:=h1
   .obtain h2|⟨_,_,h2⟩:=h2
    .exact⟨h1,h2⟩
    .omega
   .obtain h2|⟨_,h2,_⟩:=h2
    .have:=(h.fin (by omega)).1;omega
    .rw[h2]at a;simp at a
 .omega
theorem PI.au4 (h:PI t n m d b1 b2 p e1 e2 u c ws K) (ok:GK NC NS K) (hP:UU K 1 1 BA e K'):lM t n m d b1 b2 p e1 e2 1 u c ws BA e K':=by
 obtain⟨C,rfl,rfl,rfl⟩|⟨b,r,J,s,O,⟨hn,_⟩|⟨_,f,rfl,rfl,rfl⟩|⟨_,f,rfl,H,_⟩⟩:=hP
 .refine .inl ⟨by decide,h,.inl ⟨rfl,?_⟩⟩;obtain g|g:=Nat.eq_zero_or_pos u
  .exact .inl g
  .obtain⟨v,q,i,j⟩:=h.one g;exact absurd (by rw[j.pid];rfl) (C b1 v q i)
 .omega
 .refine .inl ⟨by decide,h,.inl ⟨rfl,?_⟩⟩;obtain g|g:=Nat.eq_zero_or_pos u
  .exact .inl g
  .obtain⟨v,q,i,j⟩:=h.one g;obtain rfl:=ok.one b r b1 q J v s i (by rw[j.pid];omega);rw[s]at i;cases i;unfold KS.Eg at f;rw[j.en]at f;obtain w|⟨w,_,Q,_⟩:=j.bl
   .exact absurd (by unfold KS.blk;rw[w];rfl) f
   .refine .inr ⟨Q,?_⟩;unfold KS.blk at f;rw[w]at f;have f:(if(K'.ct p).FZ=true then(1:Int)else 0)≠0:=f;have l:(K'.ct p).FZ=true:=by
     cases E:(K'.ct p).FZ with
     |true=>rfl
     |false=>rw[E]at f;exact absurd rfl f
    unfold Ct.FZ at l;rw[h.wv]at l;have:=(Bool.and_eq_true _ _ ▸ l:(ws.length==16)=true/\_).1;simpa using this
 .have z:=SV f;obtain⟨rfl,g⟩|⟨rfl,T⟩:=h.only b r J s z
  .have B:=h.le;obtain⟨rfl,_,a1,_,a2,F⟩|⟨rfl,a1,a2⟩|⟨x,rfl,a1,a2,F,G⟩|⟨rfl,rfl,a1⟩:=h.parent g H
   .exact .inr (.inl ⟨rfl,rfl,F,.inl ⟨rfl,.inr ⟨a1,a2⟩⟩⟩)
   .refine .inr (.inr ⟨rfl,u-1,c,ws,a2,?_,.inl ⟨.inl rfl,rfl,?_⟩⟩)
    .unfold mu;omega
    .unfold EN;rw[if_neg (by omega),if_neg (c:=u=0) (by omega)]
   .refine .inr (.inr ⟨rfl,u-1,c,_,G,?_,.inr (.inl ⟨x,rfl,a1,a2,rfl,?_⟩)⟩)
    .have U:=G.wl;obtain⟨_,_,D⟩:=h.one g;have X:=D.2.at_;have V:=h.wl;unfold mu;simp only[List.length_append,List.length_map,List.length_range]at U ⊢;have L:u % 2=1:=by
      obtain N|N:=Nat.mod_two_eq_zero_or_one u
      .exfalso;obtain⟨Y,R,S⟩:=H.one;obtain⟨Z,q,E,M,W⟩:=h.br1 g R;obtain⟨e,_⟩|⟨k,I,e,o⟩|⟨k,I,e,_⟩:=M.at_
       .omega
       .obtain⟨w1,w2,_,_⟩:=Yt (n:=n) (m:=m) (d:=d) I B.2.2.2.1;have f:Dq q=(0,0,{ q with P:=q.P+2,A:=if k<t then 66 else 69 }):=by
         rw[M.Yn.step (op:=1) (a:=if k<t then 66 else 69) (by omega) (by omega) (by rw[o];exact w1) (by rw[o];exact w2)]
         simp[MV]
        have:=(step_plain E f S).1;cases this
       .omega
      .exact N
     omega
    .unfold EN;rw[if_neg (by omega),if_neg (c:=u=0) (by omega)]
   .have y:c≠0:=λe=>by have:=(h.fin (by omega)).1;omega
    refine .inr (.inr ⟨rfl,0,c,ws,a1,by unfold mu;omega,.inr (.inr (.inr ⟨rfl,rfl,?_⟩))⟩);unfold EN;rw[if_pos rfl,if_neg y,if_neg (by omega)]
  .obtain⟨_,q,i,j⟩:=h.two T;rw[s]at i;cases i;rw[j.pid]at O;omega
theorem PI.au3 (h:PI t n m d b1 b2 p e1 e2 u c ws K) (ok:GK NC NS K) (hP:UU K 2 1 BA e K'):lM t n m d b1 b2 p e1 e2 2 u c ws BA e K':=by
 obtain⟨A,rfl,rfl,rfl⟩|⟨b,r,D,s,F,⟨M,_⟩|⟨_,f,rfl,rfl,rfl⟩|⟨_,f,rfl,I,_⟩⟩:=hP
 .refine .inl ⟨by decide,h,.inr ⟨rfl,?_⟩⟩;obtain g|g:=Nat.eq_zero_or_pos c
  .exact .inl g
  .obtain⟨v,q,i,j⟩:=h.two g;exact absurd (by rw[j.pid];rfl) (A b2 v q i)
 .omega
 .refine .inl ⟨by decide,h,.inr ⟨rfl,?_⟩⟩;obtain g|g:=Nat.eq_zero_or_pos c
  .exact .inl g
  .obtain⟨v,q,i,j⟩:=h.two g;obtain rfl:=ok.one b r b2 q D v s i (by rw[j.pid];omega);rw[s]at i;cases i;unfold KS.Eg at f;rw[j.en]at f;obtain w|⟨w,H⟩:=j.bl
   .exact absurd (by unfold KS.blk;rw[w];rfl) f
   .unfold KS.blk at f;rw[w]at f;have f:(if(K'.ct p).starved=true then(1:Int)else 0)≠0:=f;have a:(K'.ct p).starved=true:=by
     cases hq:(K'.ct p).starved with
     |true=>rfl
     |false=>rw[hq]at f;exact absurd rfl f
    unfold Ct.starved at a;rw[h.wv]at a;have a:ws=[]/\(K'.ct p).y=true:=(by simpa using a);have:=h.y.1 a.2;exact .inr ⟨H,a.1,by omega⟩
 .have z:=SV f;obtain⟨rfl,L⟩|⟨rfl,g⟩:=h.only b r D s z
  .obtain⟨_,q,i,j⟩:=h.one L;rw[s]at i;cases i;rw[j.pid]at F;omega
  .have J:=h.le;obtain⟨rfl,a1,a2,k,l⟩|⟨rfl,C,a1,a2,k⟩|⟨rfl,rfl,a1⟩|⟨x,E,rfl,rfl,a1,a2,k,l,B,o⟩|⟨rfl,rfl,a1⟩:=h.child g I
   .exact .inr (.inl ⟨rfl,rfl,l,.inr ⟨rfl,.inr ⟨a1,a2,k⟩⟩⟩)
   .refine .inr (.inr ⟨rfl,u,C,ws,k,by unfold mu;omega,.inl ⟨.inl rfl,rfl,?_⟩⟩);unfold EN;rw[if_neg (c:=C=0) (by omega),if_neg (c:=c=0) (by omega)]
   .exact .inr (.inr ⟨rfl,u,5,ws,a1,by unfold mu;omega,.inl ⟨.inr rfl,rfl,rfl⟩⟩)
   .obtain⟨rfl,o⟩|⟨o,G⟩:=o
    .exact .inr (.inr ⟨rfl,u,3,ws,o,by unfold mu;omega,.inr (.inr (.inl ⟨0,E,rfl,rfl,a1,a2,rfl,k,l,B,rfl⟩))⟩)
    .refine .inr (.inr ⟨rfl,u,10,ws.drop x,G,?_,.inr (.inr (.inl ⟨x,E,rfl,rfl,a1,a2,rfl,k,l,B,rfl⟩))⟩);unfold mu;rw[List.length_drop];omega
   .refine .inr (.inr ⟨rfl,u,0,ws,a1,by unfold mu;omega,.inr (.inr (.inr ⟨rfl,rfl,?_⟩))⟩);unfold EN;rw[if_pos (c:=0=0) rfl,if_neg (c:=1=0) (by omega)]
end
end Go.Fxa
