/- Halved: its fram -/
import Derived.Test.YtmhplpfpcnjekaaGreatA37
namespace Go.Fxa
open Conc Proofs RowKit Proofs.Tryz
set_option maxRecDepth 1000000
set_option maxHeartbeats 0
variable {p:Nat}
theorem Yk:(prog.funcs[9]?).any (·.norace)=false:=sU
theorem body9:ES prog 9=Tryz.f9.body.getD .skip:=sU
def hq (P:l_)(i:Nat):Code:=piece (behind i (ES P 9))
def hX (P:l_)(i:Nat):Code:=behind i (ES P 9)
def hL (P:l_:=prog):Code:=match hq P 6 with | .seq _ (.block _ (.loop b))=>b|_=>.skip
def hB (P:l_:=prog):Code:=match hL P with | .seq _ (.seq b _)=>b|_=>.skip
def hI (P:l_:=prog):Code:=match hB P with | .block _ c=>c|_=>.skip
def hH (P:l_:=prog):Code:=match hL P with | .seq (.seq a _) _=>a|_=>.skip
def hR (P:l_:=prog):Code:=match hL P with | .seq _ r=>r|_=>.skip
def hN (P:l_:=prog):Code:=match hL P with | .seq _ (.seq _ r)=>r|_=>.skip
def hC:Code:=Code.cond (Operand.tmp 65) Code.skip (Code.exit 0)
def hi (P:l_)(k:Nat):Code:=piece (behind k (hI P))
def hb (P:l_)(k:Nat):Code:=behind k (hI P)
theorem PZ (i:Nat)(h:i=0\/i=1\/i=2\/i=3\/i=4\/i=7\/i=8\/i=9):hb prog i=(hi prog i).seq (hb prog (i+1)):=by obtain rfl|rfl|rfl|rfl|rfl|rfl|rfl|rfl:=h<;>kernel_rfl
theorem iV (i:Nat)(h:i=2\/i=3\/i=4\/i=5):hX prog i=(hq prog i).seq (hX prog (i+1)):=by obtain rfl|rfl|rfl|rfl:=h<;>kernel_rfl
theorem bi6:(hq prog 0).AP (Bh prog)=true:=sU
theorem bi5:(hq prog 2).AP (Bh prog)=true:=sU
theorem bi4:(hq prog 3).AP (Bh prog)=true:=sU
theorem bi3:(hq prog 4).AP (Bh prog)=true:=sU
theorem Ζ:(hq prog 5).AP (Bh prog)=true:=sU
theorem bj3:(hi prog 0).AP (Bh prog)=true:=sU
theorem bj2:(hi prog 1).AP (Bh prog)=true:=sU
theorem bj1:(hi prog 2).AP (Bh prog)=true:=sU
theorem bj0:(hi prog 3).AP (Bh prog)=true:=sU
theorem bi9:(hi prog 4).AP (Bh prog)=true:=sU
theorem bi8:(hi prog 7).AP (Bh prog)=true:=sU
theorem bi7:(hi prog 8).AP (Bh prog)=true:=sU
theorem Θ:(hi prog 9).AP (Bh prog)=true:=sU
theorem bx8:(hH prog).AP (Bh prog)=true:=sU
theorem bx7:(hN prog).AP (Bh prog)=true:=sU
theorem bx9:(hB prog).AP (Bh prog)=true:=sU
theorem bj4:(hX prog 7).AP (Bh prog)=true:=sU
abbrev hE (P:l_:=prog):List Item:=[.inLoop (hL P),.inBlock 0,.code (hX P 7)]
abbrev hT (P:l_:=prog):List Item:=.inBlock 1::.code (hN P)::hE P
section
variable (cv BF cu bx ka kb iv t1 e1 t2 e2 ο nv mv:n_)(cs:Z_)(f:Y_)(sb:Nat)(pid nn mm:Int)
theorem hA:Bv 1 (Frame.enter prog 9 #[cv,BF,cu] .normal,cs) 9 169 [(0,cv),(1,BF),(2,cu)] [.code (hq prog 0),.code (hX prog 1)] cs:=by unfold Bv;kernel_rfl
abbrev hFb (P:l_:=prog):Frame×Z_:=Fr 9 169 f [(1,BF),(2,cu),(3,bx)] [.code (hX P 1)] cs
theorem hBe:Uc 3 (hFb BF cu bx cs f) 13 #[] cs:=by unfold Uc;kernel_rfl
theorem hBf:Bv 2 ((below (run prog 3 (hFb BF cu bx cs f))).1.finish (.bool true),cs) 9 169 [(1,BF),(2,cu),(3,bx),(7,.bool true)] [.code (hX prog 2)] cs:=by unfold Bv;kernel_rfl
theorem hLa:Bv 7 (Fr 9 169 f [(1,BF),(2,cu),(8,ka),(10,kb)] [.code (hX prog 6)] cs) 9 169 [(1,BF),(2,cu),(8,ka),(10,kb),(12,b_ (0:Nat))] (.code (hL prog)::hE) cs:=by unfold Bv;kernel_rfl
theorem hLb:Bv 2 (Fr 9 169 f [(1,BF),(2,cu),(8,ka),(10,kb),(12,iv)] (.code (hL prog)::hE) cs) 9 169 [(1,BF),(2,cu),(8,ka),(10,kb),(12,iv)] (.code (hH prog)::.code hC::.code (hR prog)::hE) cs:=by unfold Bv;kernel_rfl
theorem hLc:Bv 3 (Fr 9 169 f [(1,BF),(2,cu),(8,ka),(10,kb),(12,iv),(65,.bool true)] (.code hC::.code (hR prog)::hE) cs) 9 169 [(1,BF),(2,cu),(8,ka),(10,kb),(12,iv)] (.code (hB prog)::.code (hN prog)::hE) cs:=by unfold Bv;kernel_rfl
theorem hLd:Bv 1 (Fr 9 169 f [(1,BF),(2,cu),(8,ka),(10,kb),(12,iv)] (.code (hB prog)::.code (hN prog)::hE) cs) 9 169 [(1,BF),(2,cu),(8,ka),(10,kb),(12,iv)] (.code (hb prog 0)::hT) cs:=by unfold Bv;kernel_rfl
theorem hLe:Bv 2 (Fr 9 169 f [(1,BF),(2,cu),(8,ka),(10,kb),(12,iv),(65,.bool false)] (.code hC::.code (hR prog)::hE) cs) 9 169 [(8,ka),(10,kb)] [.code (hX prog 7)] cs:=by unfold Bv;kernel_rfl
theorem hLf:Bv 1 (Fr 9 169 f [(1,BF),(2,cu),(8,ka),(10,kb),(12,iv)] hT cs) 9 169 [(1,BF),(2,cu),(8,ka),(10,kb),(12,iv)] (.code (hN prog)::hE) cs:=by unfold Bv;kernel_rfl
theorem hLg:Bv 1 (Fr 9 169 f [(1,BF),(2,cu),(8,ka),(10,kb),(12,iv)] hE cs) 9 169 [(1,BF),(2,cu),(8,ka),(10,kb),(12,iv)] (.code (hL prog)::hE) cs:=by unfold Bv;kernel_rfl
def h25 (P:l_:=prog):Code:=match hi P 10 with | .seq c _=>c|_=>.skip
def hCo (P:l_:=prog):Code:=match hi P 10 with | .seq _ c=>c|_=>.skip
def h27 (P:l_:=prog):Code:=match hCo P with | .cond _ (.seq _ c) _=>c|_=>.skip
theorem Ι:(h25 prog).AP (Bh prog)=true:=sU
theorem bj5:(h27 prog).AP (Bh prog)=true:=sU
theorem au4:(hb prog 11).AP (Bh prog)=true:=sU
abbrev hFp (P:l_:=prog):Frame×Z_:=Fr 9 169 f [(1,BF),(2,cu),(8,ka),(10,kb),(12,iv),(13,ptr sb),(17,nv),(18,mv)] (.code (hb P 5)::hT P) cs
theorem σ:lW 4 2 (hFp BF cu ka kb iv nv mv cs f sb) sb pid nv ka cs:=by unfold lW;kernel_rfl
theorem hPb:Bv 6 ((below (rd1 4 2 (hFp BF cu ka kb iv nv mv cs f sb) (b_ pid))).1.finish (.tuple #[t1,e1]),cs) 9 169 [(1,BF),(2,cu),(8,ka),(10,kb),(12,iv),(13,ptr sb),(17,nv),(18,mv),(19,t1),(20,e1)] (.code (hb prog 6)::hT) cs:=by unfold Bv;kernel_rfl
abbrev hFr (P:l_:=prog):Frame×Z_:=Fr 9 169 f [(1,BF),(2,cu),(8,ka),(10,kb),(12,iv),(13,ptr sb),(17,nv),(18,mv),(19,t1),(20,e1)] (.code (hb P 6)::hT P) cs
theorem hRa:lW 4 2 (hFr BF cu ka kb iv t1 e1 nv mv cs f sb) sb pid mv kb cs:=by unfold lW;kernel_rfl
theorem hRb:Bv 6 ((below (rd1 4 2 (hFr BF cu ka kb iv t1 e1 nv mv cs f sb) (b_ pid))).1.finish (.tuple #[t2,e2]),cs) 9 169 [(1,BF),(2,cu),(8,ka),(10,kb),(12,iv),(13,ptr sb),(17,nv),(18,mv),(19,t1),(20,e1),(21,t2),(22,e2)] (.code (hb prog 7)::hT) cs:=by unfold Bv;kernel_rfl
theorem hGa:Bv 2 (Fr 9 169 f [(1,BF),(2,cu),(8,ka),(10,kb),(12,iv),(13,ptr sb),(17,nv),(18,mv),(19,t1),(20,e1),(21,t2),(23,ο),(24,e2),(25,.slice none 0 0)] (.code (hb prog 10)::hT) cs) 9 169 [(1,BF),(2,cu),(8,ka),(10,kb),(12,iv),(13,ptr sb),(17,nv),(18,mv),(19,t1),(20,e1),(21,t2),(23,ο),(24,e2),(25,.slice none 0 0)] (.code (h25 prog)::.code (hCo prog)::.code (hb prog 11)::hT) cs:=by unfold Bv;kernel_rfl
theorem hGf:Bv 2 (Fr 9 169 f [(1,BF),(2,cu),(8,ka),(10,kb),(12,iv),(19,t1),(21,t2),(25,.slice none 0 0),(140,.bool false)] (.code (hCo prog)::.code (hb prog 11)::hT) cs) 9 169 [(1,BF),(2,cu),(8,ka),(10,kb),(12,iv),(19,t1),(21,t2),(25,.slice none 0 0)] (.code (hb prog 11)::hT) cs:=by unfold Bv;kernel_rfl
abbrev hFs (P:l_:=prog):Frame×Z_:=Fr 9 169 f [(1,BF),(2,cu),(8,ka),(10,kb),(12,iv),(13,ptr sb),(17,b_ nn),(18,b_ mm),(19,t1),(21,t2),(140,.bool true)] (.code (hCo P)::.code (hb P 11)::hT P) cs
theorem hSa:lW 5 4 (hFs BF cu ka kb iv t1 t2 cs f sb nn mm) sb pid (b_ (IntKind.i64.wrap (nn-mm))) kb cs:=by unfold lW;kernel_rfl
theorem hSb:Bv 6 ((below (rd1 5 4 (hFs BF cu ka kb iv t1 t2 cs f sb nn mm) (b_ pid))).1.finish (.tuple #[ο,e2]),cs) 9 169 [(1,BF),(2,cu),(8,ka),(10,kb),(12,iv),(19,t1),(21,t2),(25,ο),(22,e2)] (.code (h27 prog)::.code (hb prog 11)::hT) cs:=by unfold Bv;kernel_rfl
theorem ab4 (g:Y_)(todo:List Item)(w:o_):stepG prog true (G (Frame.mk 9 (TN 169 (AQ g [(6,.bool true)])) todo [] .returning .normal none) []) w=.ended (.done (.bool true)) w #[]:=sU
end
section
variable {K K' K'' K1 K2 L L1 L2:KS}{b n m call x y NC NS:Nat}{r r1 r2:PR}{f:n_}{ev ev1 VL:List Ev}{pid e:Int}
theorem XG.ps (h:XG b K K'):K'.Ar=K.Ar/\(∀k q,K'.ps k=some q->(k=b/\q.co=-1)\/(k≠b/\K.ps k=some q))/\∀k q,K.ps k=some q->q.co=-1->K'.ps k=some q:=by
 obtain⟨r,f,⟨d,rfl⟩|⟨a,g,c,d,rfl⟩⟩:=h
 .refine⟨rfl,λk q hq=>?_,λk q hq _=>hq⟩;by_cases e:k=b
  .subst e;rw[f]at hq;cases hq;exact .inl ⟨rfl,d⟩
  .exact .inr ⟨e,hq⟩
 .refine⟨rfl,λk q hq=>?_,λk q hq i=>?_⟩
  .by_cases e:k=b
   .subst e;obtain rfl:({r with co:=-1}:PR)=q:=x_ (Ag.symm.trans hq);exact .inl ⟨rfl,rfl⟩
   .exact .inr ⟨e,(BB e).symm.trans hq⟩
  .have e:k≠b:=λe=>by subst e;rw[f]at hq;cases hq;rw[d]at i;omega
   exact(BB e).trans hq
theorem QD.out:∀{j:Nat} {s:KS},QD K n j s->s.Ar=K.Ar/\mV s j/\∀k q,K.ps k=some q->q.co=-1->s.ps k=some q
 |0,_,h=>by cases h;exact⟨rfl,λi b q hi=>qx hi wB,λ_ _ h _=>h⟩
 |j+1,s,⟨r,b,l,_,hb,p⟩=>by
  obtain⟨e,o,m⟩:=QD.out l
  obtain⟨f,p2,p3⟩:=p.ps
  refine⟨f.trans e,λi z q hi c hq=>?_,λk q hq a=>p3 k q (m k q hq a) a⟩
  obtain⟨_,a⟩|⟨g,hq⟩:=p2 z q hq
  .exact a
  .rw[f]at c;by_cases d:i<j
   .exact o i z q d c hq
   .obtain rfl:i=j:=wB;rw[e,hb]at c;exact qx (x_ c).symm g
theorem lH.in (h:lH b K K')(ok:DU NC NS K'')(G:K''.core=K'.core)(F:K''.Ar=K'.Ar)(E:∀z q,K''.ps z=some q->∃D,K'.ps z=some D/\D.co=q.co/\(z=b->D.Af=q.Af/\D.en=q.en))(hb:∃q,K''.ps b=some q/\q.en=false):K'.Ar=K.Ar/\∃r q,K.ps b=some r/\K'.ps b=some q/\q.co≠-1/\q={r with co:=q.co}/\(r.co≠-1->K'=K):=by
 obtain⟨r,g,⟨f,rfl⟩|⟨f,j,l,p,⟨m,rfl,rfl⟩|⟨a,m,rfl⟩⟩⟩:=h
 .exact⟨rfl,r,r,g,g,f,rfl,λ_=>rfl⟩
 .exfalso;obtain⟨e,w,v⟩:=p.out;have t:l.ps b=some r:=v b r g f;obtain⟨q,hq,o⟩:=hb;obtain⟨D,c,_,hi⟩:=E b q hq;have c:l.ps b=some D:=c;rw[t]at c;cases c;obtain⟨x,A⟩:=hi rfl;obtain⟨k,y,B,C⟩:=(ok.pr b q hq).len o;rw[<-x]at y;have d:K''.core=l.core:=by rw[G];exact Zv m
  refine Tv.never (n:=Aj r.Af.length) ok.co (by rw[d];exact m) (j:=K.Ar.length) (λi z q hi s hq=>?_) (by rw[F];exact Nat.le_of_eq (congrArg List.length e)) ok.co.le.1 (by unfold Aj;omega) (by unfold Aj;omega);obtain⟨D,c,u,_⟩:=E z q hq;rw[<-u];rw[F]at s;exact w i z D hi s c
 .exact⟨p.out.1,r,{r with co:=a},g,Ag,(show((a:Nat):Int)≠-1 by omega),rfl,λe=>qx f e⟩
theorem lH.self (h:lH b K K')(ok:DU NC NS K')(hb:∃q,K'.ps b=some q/\q.en=false):K'.Ar=K.Ar/\∃r q,K.ps b=some r/\K'.ps b=some q/\q.co≠-1/\q={r with co:=q.co}/\(r.co≠-1->K'=K):=h.in ok rfl rfl (λ_ q hq=>⟨q,hq,rfl,λ_=>⟨rfl,rfl⟩⟩) hb
theorem XH.in {Af:List Nat}(h:XH K b r Af K')(ok:DU NC NS K'')(l:K''.core=K'.core)(o:K''.Ar=K'.Ar)(k:∀z q,K''.ps z=some q->∃j,K'.ps z=some j/\j.co=q.co/\(z=b->j.Af=q.Af/\j.en=q.en))(hb:∃q,K''.ps b=some q/\q.en=false):K'.Ar=K.Ar/\∃q,K'.ps b=some q/\q.co≠-1/\q.bl=r.bl/\q.pid=r.pid:=by
 obtain⟨a,i,g,c,T,v,_,e,hI⟩:=h;obtain⟨e1,f,q,e2,e3,e4,d,_⟩:=hI.in ok l o k hb;obtain rfl:({r with co:=-1,sw:=a,im:=v,Af:=Af}:PR)=f:=x_ (Ag.symm.trans e2);exact⟨e1.trans e.ps.1,q,e3,e4,by rw[d],by rw[d]⟩
theorem bl0 {i:Nat}:(K.drop i).ps=K.ps/\(K.drop i).Ar=K.Ar:=by
 unfold KS.drop;split
 .split<;>exact⟨rfl,rfl⟩
 .exact⟨rfl,rfl⟩
def Kept (b:Nat)(r r2:PR)(K2:KS):Prop:=r2.bl=r.bl/\r2.co≠-1/\b∈K2.Ar/\r2.pid=r.pid
theorem Kept.no (d:K.ps b=some r)(hb:K2.ps b=some r2)(a:r.co≠-1)(c:b∈K.Ar){z:Nat}(h:GY K z K2 x y f):Kept b r r2 K2:=by
 obtain⟨rfl,_⟩:=h;rw[d]at hb;cases hb;exact⟨rfl,a,c,rfl⟩
theorem ac6 (h:YB K b r call K2 x y .nilFunc)(U:K.ps b=some r)(hb:K2.ps b=some r2)(W:r.en=false)(V:r2.en=false)(S:r.co≠-1):Kept b r r2 K2:=by
 obtain⟨hX,_,⟨E,F,O,ok⟩,d⟩:=h;have no:∀{z x y:Nat} {f:n_},GY K z K2 x y f->Kept b r r2 K2:=λh=>Kept.no U hb S d h
 obtain⟨_,hX⟩|⟨_,a⟩:=hX
 .exact no hX
 unfold dY at a;split at a
 .obtain⟨_,_,_,s,g,c,m,_,C,rfl,_⟩:=a;obtain⟨G,v⟩:=C.get Ag;have hb:m.ps b=some r2:=hb;rw[v]at hb;cases hb;cases V
 .obtain⟨_,h⟩|⟨_,_,⟨t,rfl⟩,_⟩|⟨_,p,q,m,d1,A,hC,_,rfl,_⟩:=a
  .exact no h
  .have hb:K.ps b=some r2:=hb;rw[U]at hb;cases hb;exact⟨rfl,S,d,rfl⟩
  .have e:m.ps b=K.ps b:=by
    rw[hC.eq]
    exact BB λe=>by subst e;rw[U]at A;cases A
   have hb:m.ps b=some r2:=hb;rw[e,U]at hb;cases hb;refine⟨rfl,S,?_,rfl⟩;show b∈m.Ar;rw[hC.eq];exact List.mem_append_left _ d
 .obtain⟨_,h⟩|⟨_,⟨_,h⟩|⟨_,⟨_,_,_,⟨_,_,e⟩,_⟩|⟨c,rc,D,k,_,_,_,rfl⟩⟩⟩:=a
  .exact no h
  .exact no h
  .cases e
  .have l:=List.find?_some D;rw[Pz k]at l;have ne:b≠c:=λe=>by subst e;rw[U]at k;cases k;rw[W]at l;simp at l
   have e:(((K.Bj b {r with Af:=r.Af.set (DR r 0) rc.st}).Bj c {rc with par:=0}).PV).ps b=some {r with Af:=r.Af.set (DR r 0) rc.st}:=(BB ne).trans Ag;rw[e]at hb;cases hb;refine⟨rfl,S,List.mem_filter.2 ⟨d,?_⟩,rfl⟩;have:QH ((K.Bj b {r with Af:=r.Af.set (DR r 0) rc.st}).Bj c {rc with par:=0}).ps b=false:=by
    unfold QH
    rw[show((K.Bj b {r with Af:=r.Af.set (DR r 0) rc.st}).Bj c {rc with par:=0}).ps b=some {r with Af:=r.Af.set (DR r 0) rc.st} from(BB ne).trans Ag]
    simp[W]
   rw[this];rfl
 .obtain⟨_,h⟩|⟨_,⟨_,h⟩|⟨_,_,_,h⟩⟩:=a
  .exact no h
  .exact no h
  .obtain⟨e1,q,e2,e3,e4,u⟩:=h.in ok rfl rfl (λ_ q hq=>⟨q,hq,rfl,λ_=>⟨rfl,rfl⟩⟩) ⟨_,hb,V⟩;rw[e2]at hb;cases hb;exact⟨e4,e3,by rw[e1];exact d,u⟩
 .obtain⟨_,h⟩|⟨_,_,h⟩|⟨_,_,_,h⟩|⟨_,p,e1,e2,T3,I,J,L,M,_,_,_,_,_,_,_,rfl,_⟩:=a
  .exact no h
  .exact no h
  .exact no h
  .rw[show KS.ps _ b=_ from Ag]at hb;cases hb;exact⟨rfl,S,d,rfl⟩
 .obtain⟨_,h⟩|⟨_,⟨_,h⟩|⟨i,_,_,⟨e,g,_,_,Af,n,_,rfl⟩|⟨e,_,_,Af,n,_,rfl⟩|⟨e,_,_,h⟩⟩⟩:=a
  .exact no h
  .exact no h
  .rw[show KS.ps _ b=_ from Ag]at hb;cases hb;exact⟨rfl,S,d,rfl⟩
  .rw[show KS.ps _ b=_ from Ag]at hb;cases hb;exact⟨rfl,S,d,rfl⟩
  .exact no h
 .obtain⟨_,h⟩|⟨_,⟨_,h⟩|⟨i,_,_,⟨e,g,_,_,t,n,_,rfl⟩|⟨e,_,_,h⟩|⟨e,_,_,t,n,_,rfl⟩⟩⟩:=a
  .exact no h
  .exact no h
  .have hb:K.ps b=some r2:=hb;rw[U]at hb;cases hb;exact⟨rfl,S,d,rfl⟩
  .exact no h
  .have hb:K.ps b=some r2:=hb;rw[U]at hb;cases hb;exact⟨rfl,S,d,rfl⟩
 .obtain⟨_,h⟩|⟨i,_,_,rfl,_⟩:=a
  .exact no h
  .rw[show KS.ps _ b=_ from Ag]at hb;cases hb;refine⟨rfl,S,?_,rfl⟩;show b∈(K.drop i).Ar;rw[bl0.2];exact d
 .obtain⟨_,h⟩|⟨_,_,h⟩|⟨i,j,_,_,_,rfl,_⟩:=a
  .exact no h
  .exact no h
  .rw[show KS.ps _ b=_ from Ag]at hb;cases hb;exact⟨rfl,S,d,rfl⟩
 .obtain⟨_,h⟩|⟨_,⟨_,_,h⟩|⟨_,⟨_,h⟩|⟨_,_,h⟩|⟨w,Q,N,T,n,H,j,_,_,_,_,_,rfl,_⟩⟩⟩:=a
  .exact no h
  .exact no h
  .exact no h
  .exact no h
  .rw[show KS.ps _ b=_ from Ag]at hb;cases hb;exact⟨rfl,S,d,rfl⟩
 .obtain⟨_,w,R,_,_,⟨_,h⟩|⟨_,⟨_,h⟩|⟨_,_,_,s,o,h,B,rfl⟩⟩⟩|⟨_,_,h⟩|⟨_,h⟩:=a
  .exact no h
  .exact no h
  .rw[show(s.Bj b {o with P:=0}).ps b=some {o with P:=0} from Ag]at hb;cases hb;obtain⟨e1,q,e2,e3,e4,u⟩:=h.in ok rfl rfl (λz q hq=>by
    by_cases e:z=b
    .subst e;obtain rfl:({o with P:=0}:PR)=q:=x_ (Ag.symm.trans hq);exact⟨o,B,rfl,λ_=>⟨rfl,rfl⟩⟩
    .exact⟨q,(BB e).symm.trans hq,rfl,λh=>qx h e⟩) ⟨_,Ag,V⟩
   rw[B]at e2;cases e2;exact⟨e4,e3,by show b∈s.Ar;rw[e1];exact d,u⟩
  .exact no h
  .exact no h
 .obtain⟨rfl,_⟩:=a;rw[U]at hb;cases hb;exact⟨rfl,S,d,rfl⟩
 .obtain⟨_,w,_,_,_,_,T,rfl⟩|⟨_,_,h⟩|⟨_,h⟩:=a
  .have hb:K.ps b=some r2:=hb;rw[U]at hb;cases hb;exact⟨rfl,S,d,rfl⟩
  .exact no h
  .exact no h
 .obtain⟨_,h⟩|⟨i,_,_,⟨e,g,_,_,t,n,_,rfl⟩|⟨e,_,_,h⟩|⟨e,_,_,h⟩⟩:=a
  .exact no h
  .have hb:K.ps b=some r2:=hb;rw[U]at hb;cases hb;exact⟨rfl,S,d,rfl⟩
  .exact no h
  .exact no h
 .exact no a
def Inn (b:Nat)(p:Nat)(K:KS):Prop:=∃r,K.ps b=some r/\r.bl=.nilFunc/\r.co≠-1/\r.en=false/\b∈K.Ar/\r.pid=p
theorem ak2 {α:Type}{P:α->Prop}{c:Prop} [Decidable c] {a d:α} (g:P a) (i:P d):P (if c then a else d):=by
 by_cases h:c
 .rw[rW h];exact g
 .rw[ru h];exact i
theorem Zz (r:PR):(EO r).2.2.bl=r.bl/\(EO r).2.2.co=r.co/\(EO r).2.2.en=r.en/\(EO r).2.2.pid=r.pid:=by
 have key:∀P:Nat×Nat×PR->Prop,(∀a c q,q.bl=r.bl/\q.co=r.co/\q.en=r.en/\q.pid=r.pid->P (a,c,q))->P (EO r):=by
  intro P h
  unfold EO XR EF
  repeat' refine ak2 (P:=P) ?_ ?_
  all_goals first|exact h _ _ _ ⟨rfl,rfl,rfl,rfl⟩|exact h _ _ _ (ak2 (P:=λq:PR=>q.bl=r.bl/\q.co=r.co/\q.en=r.en/\q.pid=r.pid) ⟨rfl,rfl,rfl,rfl⟩ ⟨rfl,rfl,rfl,rfl⟩)
 exact key (λs=>s.2.2.bl=r.bl/\s.2.2.co=r.co/\s.2.2.en=r.en/\s.2.2.pid=r.pid) λ_ _ _ h=>h
theorem Tu.inn (h:Tu b K ev K')(hi:Inn b p K):Inn b p K':=by
 obtain⟨r0,i,c,d,e,j,f⟩:=hi;obtain⟨r,s,call,o,g,k,h⟩:=h;rw[i]at g;cases g;obtain⟨k1,k2,k3,a⟩:=Zz r0;rw[k]at k1 k2 k3 a;obtain⟨_,_,rfl⟩|⟨_,q,x,y,t,hC,e1,e2,_,rfl⟩:=h
 .exact⟨o,Ag,k1.trans c,by rw[k2];exact d,k3.trans e,j,a.trans f⟩
 .obtain⟨q1,l,m,n⟩:=ac6 hC Ag e1 (k3.trans e) e2 (by rw[k2];exact d);exact⟨_,Ag,q1.trans (k1.trans c),l,e2,m,n.trans (a.trans f)⟩
theorem Run.inn {p:Nat}(hi:Inn b p K):∀{j:Nat} {ev:List Ev} {K':KS},Run b K j ev K'->Inn b p K'
 |0,_,_,h=>by obtain⟨_,rfl⟩:=h;exact hi
 |j+1,_,_,h=>by
  obtain⟨_,_,d,a,c,_⟩:=h
  exact c.inn (Run.inn hi a)
theorem RI.inn (h:RI b K K')(s:K.ps b=some r)(u:r.en=false)(t:b∈K.Ar):Inn b r.pid K'/\(r.co≠-1->r.bl=.nilFunc->K'=K):=by
 obtain⟨d,n,g,e1,rfl,hX,_,_,_,ok⟩:=h;obtain⟨r0,c,e2,e3⟩:=g.at e1;rw[s]at e2;cases e2;have a:n.en=false:=by rw[e3];exact u
 obtain⟨j,p,q,q1,f,l,o,m⟩:=hX.self ok ⟨_,e1,a⟩;rw[s]at q1;cases q1;rw[e1]at f;cases f;refine⟨⟨_,Ag,rfl,l,a,by show b∈d.Ar;rw[j];exact t,by rw[e3]⟩,λi hb=>?_⟩;obtain rfl:=m i;rw[s]at e1;cases e1;unfold KS.Bj;have:CY d.ps b {r with bl:=.nilFunc}=d.ps:=by
  funext k
  unfold CY
  by_cases e:k=b
  .subst e;rw[rW rfl,s,<-hb]
  .rw[ru e]
 rw[this]
theorem Run.add {i:Nat}(h:Run b K i ev1 K1):∀{j:Nat} {VL:List Ev} {K2:KS},Run b K1 j VL K2->Run b K (i+j) (ev1++VL) K2
 |0,_,_,a=>by obtain⟨rfl,rfl⟩:=a;rw[List.append_nil];exact h
 |j+1,_,_,a=>by
  obtain⟨e1,e2,c,d,p2,rfl⟩:=a
  exact⟨ev1++e1,e2,c,Run.add h d,p2,by rw[List.append_assoc]⟩
theorem ϙ {r':PR}(d:K.ps b=some r)(c:r.en=false)(a:r'.en=false):(K.Bj b r').PS p=K.PS p:=by
 unfold KS.PS;show K.Ar.find? (isZ (CY K.ps b r') p)=_
 congr 1
 funext k;by_cases e:k=b
 .subst e;rw[Pz Ag,Pz d,c,a];rfl
 .unfold isZ;rw[BB e]
theorem yA {fn:Fn}{ca cb:X_}{E:Nat}(h:YB K b r call K2 x y f)(G:K.ps b=some r)(hb:K2.ps b=some r2)(F:r.en=false)(H:f=.func fn ca cb):(K2.Bj b {r2 with bl:=f,P:=E}).BV {r2 with bl:=f,P:=E}=1:=by
 obtain⟨hX,_⟩:=h;have nil:f=.nilFunc->(K2.Bj b {r2 with bl:=f,P:=E}).BV {r2 with bl:=f,P:=E}=1:=λe=>by rw[H]at e;cases e
 have one:r2.en=false->(K2.Bj b {r2 with bl:=f,P:=E}).blk {r2 with bl:=f,P:=E}=true->(K2.Bj b {r2 with bl:=f,P:=E}).BV {r2 with bl:=f,P:=E}=1:=λe1 e2=>by unfold KS.BV;rw[e2,show({r2 with bl:=f,P:=E}:PR).en=false from e1];rfl
 clear H;obtain⟨_,hX⟩|⟨_,a⟩:=hX
 .exact nil hX.2.2.2
 unfold dY at a;split at a
 .exact nil a.2.2.1
 .obtain⟨_,h⟩|⟨_,_,_,_,_,e⟩|⟨_,p,q,t,d1,_,_,_,_,_,_,e⟩:=a
  .exact nil h.2.2.2
  .exact nil e
  .exact nil e
 .obtain⟨_,h⟩|⟨_,⟨_,h⟩|⟨_,⟨s,_,_,⟨g,o,rfl⟩,T,rfl⟩|⟨c,rc,_,_,_,_,e,_⟩⟩⟩:=a
  .exact nil h.2.2.2
  .exact nil h.2.2.2
  .have hb:K.ps b=some r2:=hb;rw[G]at hb;cases hb;refine one F ?_;rw[η rfl];exact(congrArg Option.isNone ((ϙ (K:={K with T:=T}) (r':={r with bl:=.func (.func 196) #[] #[ptr g,ptr o],P:=E}) G F F).trans s)).trans rfl
  .exact nil e
 .obtain⟨_,h⟩|⟨_,⟨_,h⟩|⟨_,_,e,_⟩⟩:=a
  .exact nil h.2.2.2
  .exact nil h.2.2.2
  .exact nil e
 .obtain⟨_,h⟩|⟨_,_,h⟩|⟨_,_,_,h⟩|⟨_,p,e1,e2,T3,v,w,z,A,_,_,_,_,_,_,_,_,_,_,e⟩:=a
  .exact nil h.2.2.2
  .exact nil h.2.2.2
  .exact nil h.2.2.2
  .exact nil e
 .obtain⟨_,h⟩|⟨_,⟨_,h⟩|⟨i,_,_,⟨e,g,_,_,n,d,⟨_,_,_,_,h⟩,_⟩|⟨e,_,_,n,d,⟨_,k,rfl,rfl,_,_,rfl⟩|⟨_,_,_,_,_,h⟩,rfl⟩|⟨e,_,_,h⟩⟩⟩:=a
  .exact nil h.2.2.2
  .exact nil h.2.2.2
  .exact nil h
  .rw[show KS.ps _ b=_ from Ag]at hb;cases hb;refine one F ?_;rw[ε rfl];exact k
  .exact nil h
  .exact nil h.2.2.2
 .obtain⟨_,h⟩|⟨_,⟨_,h⟩|⟨i,_,_,⟨e,g,_,_,l,d,⟨h,_⟩,_⟩|⟨e,_,_,h⟩|⟨e,_,_,l,d,⟨_,_,_,_,h⟩|⟨_,_,k,rfl,_,_,rfl⟩|⟨_,_,_,_,_,h⟩,rfl⟩⟩⟩:=a
  .exact nil h.2.2.2
  .exact nil h.2.2.2
  .exact nil h
  .exact nil h.2.2.2
  .exact nil h
  .have hb:K.ps b=some r2:=hb;rw[G]at hb;cases hb;refine one F ?_;rw[ζ rfl];exact k
  .exact nil h
 .obtain⟨_,h⟩|⟨i,_,_,_,_,_,e⟩:=a
  .exact nil h.2.2.2
  .exact nil e
 .obtain⟨_,h⟩|⟨_,_,h⟩|⟨i,j,_,_,_,_,_,_,e⟩:=a
  .exact nil h.2.2.2
  .exact nil h.2.2.2
  .exact nil e
 .obtain⟨_,h⟩|⟨_,⟨_,_,h⟩|⟨_,⟨_,h⟩|⟨_,_,h⟩|⟨m,C,B,T,d,u,j,_,_,_,_,_,_,_,_,e⟩⟩⟩:=a
  .exact nil h.2.2.2
  .exact nil h.2.2.2
  .exact nil h.2.2.2
  .exact nil h.2.2.2
  .exact nil e
 .obtain⟨_,m,D,_,_,⟨_,h⟩|⟨_,⟨_,h⟩|⟨_,_,e,_⟩⟩⟩|⟨_,_,h⟩|⟨_,h⟩:=a
  .exact nil h.2.2.2
  .exact nil h.2.2.2
  .exact nil e
  .exact nil h.2.2.2
  .exact nil h.2.2.2
 .exact nil a.2.2.2
 .obtain⟨_,m,_,_,_,e,_⟩|⟨_,_,h⟩|⟨_,h⟩:=a
  .exact nil e
  .exact nil h.2.2.2
  .exact nil h.2.2.2
 .obtain⟨_,h⟩|⟨i,_,_,⟨e,g,_,_,l,d,⟨_,_,_,_,h⟩|⟨_,_,_,_,h⟩,_⟩|⟨e,_,_,h⟩|⟨e,_,_,h⟩⟩:=a
  .exact nil h.2.2.2
  .exact nil h
  .exact nil h
  .exact nil h.2.2.2
  .exact nil h.2.2.2
 .exact nil a.2.2.2
theorem sZ.dead {j:Nat}(h:sZ K b r j K'):∃q,K'.ps b=some q/\q.en=true:=by
 obtain⟨f,g,c,e,_,d,rfl,_⟩:=h;obtain⟨i,a⟩:=d.get Ag;exact⟨_,a,rfl⟩
theorem Last.not (h:Last b K ev K')(hi:Inn b p K):∃q,K'.ps b=some q/\K'.BV q≠0:=by
 obtain⟨r0,d,o,t,g,u,v⟩:=hi;obtain⟨r,s,call,w,c,i,h⟩:=h;rw[d]at c;cases c;obtain⟨k1,k2,k3,j⟩:=Zz r0;rw[i]at k1 k2 k3 j;have a:∀{K:KS} {q:PR},q.en=true->K.BV q≠0:=λe=>by unfold KS.BV;rw[e];simp
 obtain⟨_,hE,_⟩|⟨_,l,x,y,f,k,hC,e1,⟨_,e2,_,rfl⟩|⟨⟨fn,m,n,e2⟩,_,rfl⟩⟩:=h
 .obtain⟨q,e1,e2⟩:=hE.1.dead;exact⟨q,e1,a e2⟩
 .exact⟨k,e1,a e2⟩
 .exact⟨_,Ag,by rw[yA hC Ag e1 (k3.trans g) e2];simp⟩
def YL (K:KS)(pid:Int):Prop:=∃b r,b∈K.Ar/\K.ps b=some r/\(r.pid:Int)=pid/\K.BV r=0
theorem Inn.ready (h:Inn b p K):YL K p:=by
 obtain⟨r,a,c,_,d,e,f⟩:=h;exact⟨b,r,e,a,by rw[f],by unfold KS.BV;rw[d,γ c];rfl⟩
theorem LW.more (t:1<=m)(s:m<n)(u:n<=1000)(h:LW L pid m ev e L1)(q:e=0->¬YL L1 pid):LW L pid n ev e L1:=by
 obtain h|⟨b,r,c,d,f,⟨g,_⟩|⟨_,h⟩|⟨_,g,rfl,⟨i,hB,a⟩,hR⟩⟩:=h
 .exact .inl h
 .omega
 .exact .inr ⟨b,r,c,d,f,.inr (.inl ⟨wB,h⟩)⟩
 .refine .inr ⟨b,r,c,d,f,.inr (.inr ⟨wB,g,rfl,⟨i,hB,.inr ?_⟩,hR⟩)⟩;rw[Int.toNat_natCast]at a ⊢;have hi:=(hB.inn d (Y2 g) c).1;obtain a|⟨j,e1,e2,k,o,l,p2,p3⟩:=a
  .exact qx (by rw[<-f];exact(a.inn hi).ready) (q rfl)
  .exact⟨j,e1,e2,k,wB,l,p2,p3⟩
theorem LW.halves {e2:Int}(ok:DU NC NS L)(M:DU NC NS L1)(P:1<=m)(O:m<n)(Q:n<=1000)(h:LW L pid m ev1 0 L1)(hR:YL L1 pid)(N:LW L1 pid ((n-m:Nat):Int) VL e2 L2):e2=0/\LW L pid n (ev1++VL) 0 L2:=by
 obtain⟨c,rc,f,c2,c3,c4⟩:=hR;obtain⟨_,e,_⟩|⟨b,r,a1,a2,x,⟨_,e,_⟩|⟨_,_,e,_⟩|⟨_,t,_,⟨w,hB,g⟩,hR⟩⟩:=h
 .cases e
 .cases e
 .cases e
 have hi:=(hB.inn a2 (Y2 t) a1).1;have y:c=b:=by
  by_cases e:c=b
  .exact e
  .exfalso;obtain k|⟨_,k⟩:=hR.come c f
   .obtain⟨q,hq⟩:=ok.th c k;obtain⟨_,J,l,A⟩|⟨i,_⟩:=hR.keep c q k hq e
    .rw[c2]at l;cases l;exact e (ok.one c q b r k a1 hq a2 (by have:=A.pid;omega))
    .exact i f
   .have:=k rc c2;have:=(ok.pid b r a2).2;omega
 subst y;rw[Int.toNat_natCast]at g;obtain g|⟨j,e1,e3,s,z,p,p2,p3⟩:=g
 .obtain⟨K,u,B,C,D,H,I⟩:=g.inn hi;rw[c2]at u;cases u;obtain⟨i,_⟩|⟨d,v,d1,d2,d3,⟨i,_⟩|⟨_,i,_⟩|⟨_,d4,rfl,⟨G,o,a⟩,E⟩⟩:=N
  .exact qx c3 (i c f rc c2)
  .omega
  .obtain rfl:=M.one d v c rc d1 f d2 c2 wB;rw[c2]at d2;cases d2;exact qx c4 i
  .obtain rfl:=M.one d v c rc d1 f d2 c2 wB;obtain rfl:=(o.inn c2 D f).2 C B;refine⟨rfl,.inr ⟨d,r,a1,a2,x,.inr (.inr ⟨wB,t,rfl,⟨w,hB,?_⟩,hR.trans E (by rw[a2];simp) ok.th⟩)⟩⟩;rw[Int.toNat_natCast]at a ⊢;obtain a|⟨j,e1,e3,s,z,p,p2,rfl⟩:=a
   .have:=g.add a;rw[show m+(n-m)=n by omega]at this;exact .inl this
   .exact .inr ⟨m+j,ev1++e1,e3,s,wB,g.add p,p2,by rw[List.append_assoc]⟩
 .exfalso;obtain⟨q,q1,F⟩:=p2.not (p.inn hi);rw[c2]at q1;cases q1;exact F c4
end
end Go.Fxa
