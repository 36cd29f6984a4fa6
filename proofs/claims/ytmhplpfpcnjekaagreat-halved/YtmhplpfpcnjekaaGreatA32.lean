/- A process of man -/
import Derived.Test.YtmhplpfpcnjekaaGreatA30
import Derived.Maps.OwnIn
namespace Go.Fxa
open Conc Proofs RowKit Proofs.Tryz
set_option maxRecDepth 1000000
set_option maxHeartbeats 0
variable {r:PR}{j res wr:Nat}{ev:Ev}
def ES (P:l_)(f:h_):Code:=match (((P.funcs[f]?).bind λf=>f.body):d_ Code)with
 |some c=>c
 |none=>Code.skip
def behind:Nat->Code->Code
 |0,c=>c
 |n+1,.seq _ c=>behind n c
 |_+1,_=>.skip
def piece:Code->Code
 |.seq c _=>c
 |c=>c
theorem QP:ES prog 56=Tryz.f56.body.getD .skip:=sU
theorem bl9:ES prog 136=Tryz.f136.body.getD .skip:=sU
theorem bl8:ES prog 187=Tryz.f187.body.getD .skip:=sU
def gA (P:l_):Code:=match ES P 56 with | .seq _ (.seq _ (.seq _ (.seq _ (.seq _ (.seq _ (.block _ (.loop (.block _ (.seq _ (.seq _ (.block _ (.cond _ a c))))))))))))=>.seq a c|_=>.skip
def gR2 (P:l_):Code:=match ES P 56 with | .seq _ (.seq _ (.seq c _))=>c|_=>.skip
theorem co6:R2 prog=gR2 prog:=sU
def gR3 (P:l_):Code:=match ES P 56 with | .seq _ (.seq _ (.seq _ (.seq c _)))=>c|_=>.skip
theorem co5:R3 prog=gR3 prog:=sU
def bo8 (P:l_):Code:=match ES P 136 with | .seq (.seq _ (.block _ (.loop (.seq _ (.seq _ (.seq (.block _ (.seq c _)) _)))))) _=>c|_=>.skip
theorem be1:XA prog=bo8 prog:=sU
def ce2 (P:l_):Code:=match gA P with | .seq (.seq _ (.seq _ (.seq (.seq c _) _))) _=>c|_=>.skip
theorem bz7:R11 prog=ce2 prog:=sU
def ce1 (P:l_):Code:=match gA P with | .seq (.seq _ (.seq _ (.seq (.seq _ (.cond _ (.seq c _) _)) _))) _=>c|_=>.skip
theorem bz6:R12 prog=ce1 prog:=sU
def cd9 (P:l_):Code:=match gA P with | .seq (.seq _ (.seq _ (.seq _ (.seq _ (.seq (.seq c _) _))))) _=>c|_=>.skip
theorem bz4:R16 prog=cd9 prog:=sU
def SL (f:Y_)(a b c d e g h:n_):X_:=#[a,b,c,f 3,f 4,f 5,f 6,d,e,g,h,f 11,f 12,f 13,f 14,f 15,f 16,f 17,f 18,f 19,f 20,f 21,f 22,f 23,f 24,f 25,f 26,f 27,f 28,f 29,f 30,f 31,f 32,f 33,f 34,f 35,f 36,f 37,f 38,f 39,f 40,f 41,f 42,f 43,f 44,f 45,f 46,f 47,f 48,f 49,f 50,f 51,f 52,f 53,f 54,f 55,f 56,f 57,f 58,f 59,f 60,f 61,f 62,f 63,f 64,f 65,f 66,f 67,f 68,f 69,f 70,f 71,f 72,f 73,f 74,f 75]
theorem bg1 {fn:Fn}{ca cb:X_}{w:o_}:(binOp .neq 32 (.func fn ca cb) .nilFunc).run prog w=.ok (.bool true) w:=sU
section
variable {NC NS b:Nat}{K0:KS}{v0:o_}{n:Nat}{m:Nat}{w:o_}{q:Nat}{i:Int}{told x:n_}{bA:Nat}{f:Nat->n_}
theorem Ok.bo2 {A B P:Nat}{Af:List Nat}(o:r.Ok)(hA:A<65536)(hB:B<65536)(c:P<65536)(a:Af.length=r.Af.length)(hi:∀x∈Af,x<65536):({r with A:=A,B:=B,P:=P,Af:=Af}:PR).Ok:=
 ⟨hA,hB,c,o.st,o.pid,o.par,hi,o.fds,o.fd,λe=>by obtain⟨k,h⟩:=o.len e;exact⟨k,by show Af.length=_/\_;rw[a];exact h⟩,λe=>⟨(o.off e).1,by have:=(o.off e).2.1;rw[this]at a;exact List.length_eq_zero_iff.1 a,(o.off e).2.2⟩⟩
theorem Ok.ca9 {v:n_}(o:r.Ok):({r with bl:=v}:PR).Ok:=⟨o.A,o.B,o.P,o.st,o.pid,o.par,o.Af,o.fds,o.fd,o.len,o.off⟩
theorem qm (h:SO NC NS b K0 v0 Di w)(s:Int):(R2 prog).wpIn NF m prog (Ends λu w'=>∃t,u=TN 76 (AQ t (rV (ptr K0.kb) (R_ b) s Di))/\SM NC NS b K0 v0 Di w') ⟨TN 76 (AQ f (rV (ptr K0.kb) (R_ b) s Di)),[]⟩ w:=by
 obtain⟨r,g,p,k⟩:=h;have o:=λm=>gV m w K0 b NC r g.ka g.ok.th g.ps k g.ok.nd g.ok.co (by have:=g.ok.len;omega)
 rw[co6];unfold gR2;rw[QP];dsimp only[Tryz.f56,Option.getD];show Code.wpIn (Fence.list LF none) m prog _ _ ⟨SL f (ptr K0.kb) (Q_ b) (b_ s) Di (f 8) (f 9) (f 10),[]⟩ _;unfold SL ptr;gi_wp2_with fail;refine(o _).mono ?_;rintro e w1 ⟨rfl,l,n,a,hC,j,_,d⟩;gi_wp2;obtain⟨c,i⟩:=a.get g.ps;exact⟨rfl,rfl,_,BH rfl (by simp[rV,pv,Di]),l,_,g.next n (g.ok.GZ a hC) (a.rel b) j i,p,by rw[a.Ar];exact k,a,d,j.ext,_,_,g.ok.GZ a hC⟩
theorem ql (h:SM NC NS b K0 v0 Di w)(o:Int):(R3 prog).wpIn NF m prog (Ends λs w'=>∃p,s=TN 76 (AQ p (rV (ptr K0.kb) (R_ b) o Di))/\SI NC NS b K0 v0 0 Di w') ⟨TN 76 (AQ f (rV (ptr K0.kb) (R_ b) o Di)),[]⟩ w:=by
 obtain⟨K,r,g,k,j,e,a⟩:=h;have c4:=g.ka.Iu g.ps 4;have l:=g.ka.lF g.ps 4;simp[PR.arr]at c4;rw[co5];unfold gR3;rw[QP];dsimp only[Tryz.f56,Option.getD];show Code.wpIn (Fence.list LF none) m prog _ _ ⟨SL f (ptr K0.kb) (Q_ b) (b_ o) Di (f 8) (f 9) (f 10),[]⟩ _;unfold SL ptr;gi_wp2;have d:=g.ka.GR (r':={r with bl:=.nilFunc}) (i:=4) (v:=.nilFunc) g.ps ⟨rfl,rfl,rfl,rfl,rfl⟩ rfl (.inl rfl);have c:=g.ok.GR (r':={r with bl:=.nilFunc}) g.ps rfl rfl rfl rfl rfl rfl (Ok.ca9 (g.ok.pr b r g.ps));exact⟨rfl,rfl,_,BH rfl (by simp[rV,pv,Di]),0,[],_,_,rfl,g.next d c.1 c.2 (g.ka.EG g.ps) Ag,k,j,_,⟨K,r,e,g.ps,rfl,a⟩,rfl,rfl⟩
theorem step_ok (o:r.Ok)(u:r.en=false):(EO r).2.2.Ok/\(EO r).1<=2/\(EO r).2.1<65536/\(EO r).2.2.Af.length=r.Af.length/\(EO r).2.2.pid=r.pid/\(EO r).2.2.en=r.en/\(EO r).2.2.co=r.co/\(EO r).2.2.sw=r.sw/\(EO r).2.2.fds=r.fds:=by
 have hA:=o.A;have hB:=o.B;have s:=o.P;obtain⟨k,t,_,q⟩:=o.len u;have e:∀i:Nat,(r.Af[i]?).getD 0<65536:=λi=>by
  cases h:r.Af[i]? with
  |none=>decide
  |some x=>exact o.Af x (t_ h)
 have mk:∀{A B P:Nat} {Af:List Nat},A<65536->B<65536->P<65536->Af.length=r.Af.length->(∀x∈Af,x<65536)->({r with A:=A,B:=B,P:=P,Af:=Af}:PR).Ok/\True:=λf g j l m=>⟨Ok.bo2 o f g j l m,dE⟩
 unfold EO;split
 .have b:r.P+2<65536:=wB
  have c:=e (r.P+1);generalize (r.Af[r.P+1]?).getD 0=n at*;generalize (r.Af[r.P]?).getD 0=op at*;unfold XR;split
  .exact⟨(mk c hB b rfl o.Af).1,sJ,sJ,rfl,rfl,rfl,rfl,rfl,rfl⟩
  split
  .exact⟨(mk hA hB c rfl o.Af).1,sJ,sJ,rfl,rfl,rfl,rfl,rfl,rfl⟩
  split
  .simp only;split
   .exact⟨(mk hA hB c rfl o.Af).1,sJ,sJ,rfl,rfl,rfl,rfl,rfl,rfl⟩
   .exact⟨(mk hA hB b rfl o.Af).1,sJ,sJ,rfl,rfl,rfl,rfl,rfl,rfl⟩
  split
  .exact⟨(mk hB hA b rfl o.Af).1,sJ,sJ,rfl,rfl,rfl,rfl,rfl,rfl⟩
  split
  .exact⟨(mk hA hB b rfl o.Af).1,sJ,c,rfl,rfl,rfl,rfl,rfl,rfl⟩
  unfold EF;generalize FV {r with P:=r.P+2} op n=a;have p:=e a;split
  .split
   .exact⟨(mk p hB b rfl o.Af).1,sJ,sJ,rfl,rfl,rfl,rfl,rfl,rfl⟩
   split
   .exact⟨(mk hA hB b sJ λx d=>by obtain d|rfl:=List.mem_or_eq_of_mem_set d;exact o.Af x d;exact hA).1,sJ,sJ,sJ,rfl,rfl,rfl,rfl,rfl⟩
   split
   .exact⟨(mk (Nat.mod_lt _ sN) hB b rfl o.Af).1,sJ,sJ,rfl,rfl,rfl,rfl,rfl,rfl⟩
   split
   .exact⟨(mk (Nat.mod_lt _ sN) hB b rfl o.Af).1,sJ,sJ,rfl,rfl,rfl,rfl,rfl,rfl⟩
   .exact⟨(mk hA hB b rfl o.Af).1,sJ,sJ,rfl,rfl,rfl,rfl,rfl,rfl⟩
  .exact⟨(mk hA hB b rfl o.Af).1,sJ,sJ,rfl,rfl,rfl,rfl,rfl,rfl⟩
 .exact⟨o,sJ,sJ,rfl,rfl,rfl,rfl,rfl,rfl⟩
theorem xw (h:SI NC NS b K0 v0 i told w)(hi:i<(n:Nat)):(XA prog).wpIn NF m prog (Ends λU w'=>∃S R x,U=yP (AQ S (Fh q (VM (R_ b)) (n:Nat) i R x))/\((R=0/\SI NC NS b K0 v0 (i+1) told w')\/(R=1/\SC NC NS b K0 v0 n i told x w')\/(R=2/\SB NC NS b K0 v0 n told w'))) ⟨yP (AQ f (Ob q (VM (R_ b)) (n:Nat) i)),[]⟩ w:=by
 obtain⟨j,s,K,r,rfl,g,L,J,t⟩:=h;have N:j<n:=wB
 have o:=g.ok.pr b r g.ps;have hL:=(g.ok.co.pl b r g.ps).1;have O:=λm=>ba7 m w K b r g.ka g.ps L o hL
 obtain⟨u,x1,M,z,A,l,B,C,D⟩:=step_ok o L;obtain⟨v,R,y,c,k⟩:∃v R y c,v=EO r/\v=(R,y,c):=⟨_,_,_,_,rfl,rfl⟩;obtain⟨k,F⟩:=k;rw[<-k,F]at O u x1 M z A l B C D;simp only at u x1 M z A l B C D;have p:EO r=(R,y,c):=k.symm.trans F;have E:=g.ok.GR (r':=c) g.ps A l B C z D u;have a:c.en=false:=l.trans L;have d:∀{w1:o_},AY (K.Bj b c) w1->BQ K.T K.T w w1->(((R:Nat):Int)=0/\SI NC NS b K0 v0 ((j:Int)+1) told w1)\/(((R:Nat):Int)=1/\SC NC NS b K0 v0 n j told (a_ (y:Nat)) w1)\/(((R:Nat):Int)=2/\SB NC NS b K0 v0 n told w1):=λI G=>by
  have H:=g.next I E.1 E.2 G Ag
  have Q:R=0\/R=1\/R=2:=wB
  obtain rfl|rfl|rfl:=Q
  .obtain⟨P,hB,hR⟩:=t;exact .inl ⟨rfl,j+1,s,_,_,wB,H,a,J,P,hB,s,[],K,hR,⟨r,0,y,c,g.ps,p,.inl ⟨rfl,rfl,rfl⟩⟩,sJ⟩
  .exact .inr (.inl ⟨rfl,j,s,_,_,y,rfl,N,rfl,M,H,a,J,K,r,t,g.ps,p,rfl⟩)
  .exact .inr (.inr ⟨rfl,j,s,_,_,y,N,H,a,J,K,r,t,g.ps,p,rfl⟩)
 clear x1 z A l B C D k F p E a t u v;rw[be1];unfold bo8;rw[bl9];dsimp only[Tryz.f136,Option.getD];show Code.wpIn (Fence.list LF none) m prog _ _ ⟨#[pr q,.pointer (some (S_ b 5)),f 2,f 3,f 4,f 5,f 6,f 7,b_ (n:Nat),b_ (j:Nat),f 10,f 11,f 12,f 13,f 14,f 15,f 16,f 17,f 18,f 19,f 20,f 21,f 22,f 23,f 24,f 25,f 26,f 27,f 28,f 29,f 30,f 31],[]⟩ _;gi_wp2_with fail;refine(O _).mono ?_;rintro e w1 ⟨rfl,I,G⟩;gi_wp2;exact⟨rfl,rfl,_,(R:Nat),a_ (y:Nat),BH (n:=32) rfl (by simp[Fh,VM,Addr.add]),d I G⟩
theorem qo (h:SD NC NS b K0 v0 n i told x bA w):(R11 prog).wpIn NF m prog (Ends λy w'=>∃v c,y=TN 76 (AQ (AQ v (XQ (ptr K0.kb) (R_ b) told q x bA)) [(39,.bool c)])/\((c=false/\SDn NC NS b K0 v0 n i told x bA w')\/(c=true/\SDb NC NS b K0 v0 n i told x bA w'))) ⟨TN 76 (AQ f (XQ (ptr K0.kb) (R_ b) told q x bA)),[]⟩ w:=by
 obtain⟨j,l,K,r,call,d,wr,k,rfl,p,rfl,t,g,u,e,o,s⟩:=h;have c2:w.cell? (S_ bA 2)=some k:=by rw[Ai e.blk];rfl
 rw[bz7];unfold ce2 gA;rw[QP];dsimp only[Tryz.f56,Option.getD];show Code.wpIn (Fence.list LF none) m prog _ _ ⟨SL f (ptr K0.kb) (Q_ b) (f 2) told (pr q) (a_ (call:Nat)) (Q_ bA),[]⟩ _;unfold SL ptr;have a:k=.nilFunc\/∃fn ca cb,k=.func fn ca cb:=by
  obtain h|⟨_,_,h,_⟩|⟨_,h|h,_⟩:=o
  .exact .inl h
  all_goals exact .inr ⟨_,_,_,h⟩
 obtain rfl|⟨fn,ca,cb,rfl⟩:=a
 .have hq:=Wp w;gi_wp2;exact⟨rfl,rfl,_,false,aj0 rfl (by simp[XQ,pv,pr]) sJ,.inl ⟨rfl,j,l,K,r,call,d,wr,rfl,p,rfl,t,g,u,e,s⟩⟩
 .have hq:=bg1 (w:=w) (fn:=fn) (ca:=ca) (cb:=cb);gi_wp2;exact⟨rfl,rfl,_,true,aj0 rfl (by simp[XQ,pv,pr]) sJ,.inr ⟨rfl,j,l,K,r,call,d,wr,_,rfl,p,g,e,o,⟨_,_,_,rfl⟩,s⟩⟩
theorem kJ (h:SDb NC NS b K0 v0 n i told x bA w):(R12 prog).wpIn NF m prog (Ends λA w'=>∃z,A=TN 76 (AQ z (yL (ptr K0.kb) (R_ b) told q bA))/\SBc NC NS b K0 v0 n told bA w') ⟨TN 76 (AQ f (XQ (ptr K0.kb) (R_ b) told q x bA)),[]⟩ w:=by
 obtain⟨j,l,K,r,call,d,wr,u,rfl,p,g,e,bl,⟨fn,a,c,rfl⟩,s⟩:=h;have c2:w.cell? (S_ bA 2)=some (.func fn a c):=by rw[Ai e.blk];rfl
 have y:=g.ka.lF g.ps 4;have c4:=g.ka.Iu g.ps 4;simp[PR.arr]at c4;have o:=g.ka.GR (r':={r with bl:=.func fn a c}) (i:=4) (v:=.func fn a c) g.ps ⟨rfl,rfl,rfl,rfl,rfl⟩ rfl bl;have k:=g.ok.GR (r':={r with bl:=.func fn a c}) g.ps rfl rfl rfl rfl rfl rfl (Ok.ca9 (g.ok.pr b r g.ps));have hb:(w.setCell (S_ b 4) (.func fn a c)).heap[bA]?=some (N_ #[a_ (d:Nat),a_ (wr:Nat),.func fn a c] 206):=(g.ka.EG g.ps).old e.blk e.t;rw[bz6];unfold ce1 gA;rw[QP];dsimp only[Tryz.f56,Option.getD];show Code.wpIn (Fence.list LF none) m prog _ _ ⟨SL f (ptr K0.kb) (Q_ b) (f 2) told (pr q) x (Q_ bA),[]⟩ _;unfold SL ptr;gi_wp2;exact⟨rfl,rfl,_,BH rfl (by simp[yL,pv,pr]),⟨l,_,_,g.next o k.1 k.2 (g.ka.EG g.ps) Ag,j,call,d,wr,_,K,r,p,s,g.ps,⟨_,_,_,rfl⟩,rfl⟩,d,wr,fn,a,c,hb⟩
theorem XE.ended {CU:List Ev}{K:KS}(h:XE b K0 j CU res wr K r)(l:j<n)(hb:K.ps b=some r)(o:r.en=true):ϕ b n K0 CU K:=by
 obtain⟨e1,call,⟨k,rc,⟨c,i,⟨a,d,e⟩,f,g,rfl⟩,hX⟩,rfl⟩:=h;exact⟨a,d,.inr ⟨j,e1,_,c,l,e,⟨i,1,call,rc,f,g,.inr ⟨rfl,K,res,wr,.nilFunc,r,hX,hb,.inl ⟨rfl,o,rfl,rfl⟩⟩⟩,rfl⟩⟩
theorem qj (h:SE0 NC NS b K0 v0 n i told bA w):(R16 prog).wpIn NF m prog (Ends λs w'=>∃p c,s=TN 76 (AQ p (slG (ptr K0.kb) (R_ b) told q bA c))/\((c=true/\SF NC NS b K0 v0 n told w')\/(c=false/\SE NC NS b K0 v0 n i told bA w'))) ⟨TN 76 (AQ f (yL (ptr K0.kb) (R_ b) told q bA)),[]⟩ w:=by
 obtain⟨j,d,K,r,a,wr,rfl,e,g,o,l,k⟩:=h;have c2:=g.ka.Iu g.ps 2;simp[PR.arr]at c2;rw[bz4];unfold cd9 gA;rw[QP];dsimp only[Tryz.f56,Option.getD];show Code.wpIn (Fence.list LF none) m prog _ _ ⟨SL f (ptr K0.kb) (Q_ b) (f 2) told (pr q) (f 9) (Q_ bA),[]⟩ _;unfold SL ptr;cases hn:r.en with
 |false=>
  rw[hn]at c2
  gi_wp2
  exact⟨rfl,rfl,_,false,BH rfl (by simp[slG,pv,pr]),.inr ⟨rfl,j,d,K,r,a,wr,rfl,e,g,hn,o hn,l,k⟩⟩
 |true=>
  rw[hn]at c2
  gi_wp2
  exact⟨rfl,rfl,_,true,BH rfl (by simp[slG,pv,pr]),.inl ⟨rfl,d,K,r,g,k.ended e g.ps hn⟩⟩
end
def ce3 (P:l_):Code:=match gA P with | .seq (.seq _ (.seq c _)) _=>c|_=>.skip
theorem bz8:R10 prog=ce3 prog:=sU
def ce0 (P:l_):Code:=match gA P with | .seq (.seq _ (.seq _ (.seq _ (.seq c _)))) _=>c|_=>.skip
theorem bz5:R15 prog=ce0 prog:=sU
def cd8 (P:l_):Code:=match gA P with | .seq _ (.cond _ (.seq _ (.seq (.seq _ (.cond _ c _)) _)) _)=>c|_=>.skip
theorem bz3:R21 prog=cd8 prog:=sU
def bp0 (P:l_):Code:=match ES P 187 with | .seq _ (.seq _ (.seq _ (.seq _ (.block _ (.cond _ c _)))))=>c|_=>.skip
theorem bm9:aX prog=bp0 prog:=sU
theorem ak3:(prog.info? 59).map (λi=>(i.zero,i.size,i.bytes))=some (some (.agg #[b_ 0,b_ 0,b_ 0,b_ 0]),4,32):=sU
section
variable {NC NS b:Nat}{K0:KS}{v0:o_}{n:Nat}{m:Nat}{w:o_}{q:Nat}{i:Int}{told x:n_}{bA:Nat}{f:Nat->n_}{K:KS}{r:PR}{CU:List Ev}{v v':o_}
theorem WQ.keep {base:Nat}{T:Tag}{S:Nat->Prop}(h:WQ base T told v CU)(k:Aa S v v')(l:∀g,told.ownBlock=some g->¬S g):WQ base T told v' CU:=by
 obtain⟨⟨f,e⟩,i⟩:=h;refine⟨⟨f,?_⟩,i⟩;obtain e|⟨g,cap,a,rfl,b,c,d⟩:=e
 .exact .inl e
 .exact .inr ⟨g,cap,a,rfl,b,k.old c (l g rfl),d⟩
theorem WH.box {rb:Nat}(h:WH NC NS b K0 v0 CU told v K r)(c:Aa (At rb) v v')(l:K.T rb=(0,0))(d:v0.heap.size<=rb)(o:∀g,told.ownBlock=some g->g≠rb):WH NC NS b K0 v0 CU told v' K r:=
 ⟨h.ka.own c l,h.ok,h.rel,h.mv.own c (λk e=>by rw[show k=rb from e];exact d),h.told.keep c (λg a e=>o g a e),h.ps,h.z⟩
theorem WH.push {l:n_}(h:WH NC NS b K0 v0 CU told v K r)(p:v'.ownsRow v0.heap.size 59 4 l (CU.length+1) (SS CU++iC ev))(s:v.grownBy v' told.ownBlock)(o:l.ownBlock=told.ownBlock\/l.ownBlock=some v.heap.size):WH NC NS b K0 v0 (CU++[ev]) l v' K r:=by
 have a:Aa (λk=>told.ownBlock=some k) v v':=Ef s (λk d _=>d);refine⟨h.ka.keep (a.on λk _ e=>h.told.no k e) λk d=>h.ka.lt k (lN a.size d),h.ok,h.rel,h.mv.own a (λk e=>(h.told.row.lt k e).1),⟨?_,λg c=>?_⟩,h.ps,h.z⟩
 .rw[oC];simpa [SS]using p
 .obtain e|e:=o
  .exact h.told.no g (by rw[<-e];exact c)
  .rw[e]at c;cases c;exact h.ka.lt _ w_
theorem al1 {w:o_}{k:Nat}(h:w.heap[k]?=some (N_ #[b_ ev.1,b_ ev.2.1,b_ ev.2.2.1,b_ ev.2.2.2] 59)):∀j u,(iC ev)[j]?=some u->w.cell? (((R_ k):f_).add j)=some u:=by
 intro j u a;have b:((R_ k):f_).add j=(S_ k j):=by rw[Addr.add_lit,Nat.zero_add]
 rw[b];refine(Ai h j).trans ?_
 match j,a with
 |0,a=>simpa [iC]using a
 |1,a=>simpa [iC]using a
 |2,a=>simpa [iC]using a
 |3,a=>simpa [iC]using a
theorem qh (W:VZ NC NS b K0 n)(h:SC NC NS b K0 v0 n i told x w):(R10 prog).wpIn NF m prog (Ends λY w'=>∃X bA,Y=TN 76 (AQ X (XQ (ptr K0.kb) (R_ b) told q x bA))/\SD NC NS b K0 v0 n i told x bA w') ⟨TN 76 (AQ f (slX (ptr K0.kb) (R_ b) told q x)),[]⟩ w:=by
 obtain⟨j,u,K,r,call,rfl,E,rfl,P,g,S,F,G⟩:=h;have c:=λm=>W m w j u K r call E G g.ka g.ok F g.ps S
 rw[g.rel.kb]at c;rw[bz8];unfold ce3 gA;rw[QP];dsimp only[Tryz.f56,Option.getD];show Code.wpIn (Fence.list LF none) m prog _ _ ⟨SL f (ptr K0.kb) (Q_ b) (f 2) told (pr q) (a_ (call:Nat)) (f 10),[]⟩ _;unfold SL ptr;gi_wp2_with (first|(gi_at_call 96;refine(c _).mono ?_;rintro e w1 ⟨v,d,wr,C,rfl,N,O,D,J,a,o,B,⟨U,I,p⟩,hX⟩;obtain⟨V,H,A,L⟩:=Az (w:=w1.alloc V_) (rb:=w1.heap.size) (x:=d) (y:=wr) (f:=C) (Yw rfl) D.one)|refine Fa H ?_);have l:=g.next J a o B I;have z:Aa No w1 (w1.alloc V_):=(Aa.refl _ _).alloc _;have s:v.T w1.heap.size=(0,0):=l.ka.lt _ w_;have M:=(l.no z).box A s l.mv.keep.size (λg R e=>by have:=(l.told.row.lt g R).2;omega);exact⟨rfl,rfl,_,w1.heap.size,BH rfl (by simp[XQ,pv,pr]),j,u,v,U,call,d,wr,C,rfl,E,rfl,P,M,p,⟨L,s,N,O⟩,(D.no z).keep (A.on (Q:=λt=>t=(0,0)) λk _ e=>by rw[show k=w1.heap.size from e];exact s) sJ,K,r,G,hX,B.ext,⟨_,_,g.ok,a⟩,F⟩
theorem qg (h:SDn NC NS b K0 v0 n i told x bA w)(W:n<=1000):(R15 prog).wpIn NF m prog (Ends λV w'=>∃U T,V=TN 76 (AQ U (yL (ptr K0.kb) (R_ b) T q bA))/\SE0 NC NS b K0 v0 n i T bA w') ⟨TN 76 (AQ f (XQ (ptr K0.kb) (R_ b) told q x bA)),[]⟩ w:=by
 obtain⟨j,d,K,r,call,a,wr,rfl,L,rfl,J,g,N,c,B⟩:=h;have S:d.length<=j:=by obtain⟨_,_,⟨_,_,⟨_,_,h⟩,_⟩,_⟩:=B;exact h.len
 obtain⟨O,hi,s,u,v⟩:=info_parts ak3;have z:=g.ka.Iu g.ps 0;simp[PR.arr]at z;have Q:w.cell? (R_ bA)=some (a_ a):=by rw[Ai c.blk];rfl
 have R:w.cell? (S_ bA 1)=some (a_ wr):=by rw[Ai c.blk];rfl
 have c2:w.cell? (S_ bA 2)=some .nilFunc:=by rw[Ai c.blk];rfl
 rw[bz5];unfold ce0 gA;rw[QP];dsimp only[Tryz.f56,Option.getD];show Code.wpIn (Fence.list LF none) m prog _ _ ⟨SL f (ptr K0.kb) (Q_ b) (f 2) told (pr q) (a_ (call:Nat)) (Q_ bA),[]⟩ _;unfold SL ptr;gi_wp2_with fail;refine(Μ _ w b r.pid call a wr z J c.res c.wr).mono ?_;rintro e w1 ⟨D,rfl⟩;have o:Aa No w (w1.alloc (.cells #[b_ r.pid,b_ call,b_ a,b_ wr] 59)):=D.alloc _;have l:=g.no o;have F:(w1.alloc (.cells #[b_ r.pid,b_ call,b_ a,b_ wr] 59)).heap[w1.heap.size]?=some (N_ #[b_ ((r.pid,call,a,wr):Ev).1,b_ ((r.pid,call,a,wr):Ev).2.1,b_ ((r.pid,call,a,wr):Ev).2.2.1,b_ ((r.pid,call,a,wr):Ev).2.2.2] 59):=Yw rfl;gi_wp2_with (gi_at_builtin;refine wpListIn_append_own_at _ rfl (.tmp 49) (.tmp 54) 43 rfl v0.heap.size 59 O (.agg #[b_ 0,b_ 0,b_ 0,b_ 0]) 4 32 underlying43 hi s u v rfl sN told d.length (SS d) rfl l.told.row (R_ w1.heap.size) 1 1 (iC (r.pid,call,a,wr)) rfl rfl (al1 F) (by simp[iC,Value.oneCell']) (by unfold maxLen;omega) wB (by have:=l.mv.keep.size;omega) ?_;intro P w3 C y _ p);have H:=l.push C y p;have E:Aa (λk=>told.ownBlock=some k) (w1.alloc (.cells #[b_ r.pid,b_ call,b_ a,b_ wr] 59)) w3:=Ef y (λk M _=>M);refine⟨rfl,rfl,_,P,BH rfl (by simp[yL,pv,pr]),j,_,K,r,a,wr,rfl,L,H,N,⟨E.old (c.no o).blk λh=>?_,c.t,c.res,c.wr⟩,d,call,B,rfl⟩;obtain⟨rfl,_⟩|⟨I,cap,G,rfl,_,A,_⟩:=l.told.row.2
 .cases h
 .obtain rfl:I=bA:=x_ h;rw[(c.no o).blk]at A;cases A
theorem XS.bad {call:Nat}{K':KS}{r':PR}(h:XS b K0 j CU 2 call K r)(k:j<n)(hX:cg1 K b r 65535 K')(hb:K'.ps b=some r'):ϕ b n K0 (CU++[(r'.pid,1,65535,0)]) K':=by
 obtain⟨c,i,⟨a,d,e⟩,f,g,rfl⟩:=h;exact⟨a,d,.inr ⟨j,CU,_,c,k,e,⟨i,2,call,r,f,g,.inl ⟨rfl,hX,r',hb,rfl⟩⟩,rfl⟩⟩
theorem ϰ (S:n<=1000)(h:SB NC NS b K0 v0 n told w):(R21 prog).wpIn NF m prog (Ends λR w'=>∃Q P,R=TN 76 (AQ Q [(7,P)])/\SF NC NS b K0 v0 n P w') ⟨TN 76 (AQ f (slS (ptr K0.kb) (R_ b) told q)),[]⟩ w:=by
 obtain⟨j,d,K,r,call,L,g,A,y,z⟩:=h;have O:d.length<=j:=by obtain⟨_,_,⟨_,_,h⟩,_⟩:=z;exact h.len
 obtain⟨M,hi,p,s,t⟩:=info_parts ak3;have c:=λm=>al2 m w K NC NS b 65535 r g.ka g.ok y g.ps A wB
 rw[g.rel.kb]at c;rw[bz3];unfold cd8 gA;rw[QP];dsimp only[Tryz.f56,Option.getD];show Code.wpIn (Fence.list LF none) m prog _ _ ⟨SL f (ptr K0.kb) (Q_ b) (f 2) told (pr q) (f 9) (f 10),[]⟩ _;unfold SL ptr;gi_wp2_with fail;refine(c _).mono ?_;rintro e w1 ⟨rfl,D,H,I,hR,v,⟨a,u,J⟩,l⟩;have i:=g.next H I hR v u;have x:=i.ka.Iu i.ps 0;simp[PR.arr]at x;gi_wp2_with fail;refine(Μ _ w1 b a.pid 1 65535 0 x sN sN sN).mono ?_;rintro e w2 ⟨E,rfl⟩;have F:Aa No w1 (w2.alloc (.cells #[b_ a.pid,b_ (1:Nat),b_ (65535:Nat),b_ (0:Nat)] 59)):=E.alloc _;have k:=i.no F;have G:(w2.alloc (.cells #[b_ a.pid,b_ (1:Nat),b_ (65535:Nat),b_ (0:Nat)] 59)).heap[w2.heap.size]?=some (N_ #[b_ ((a.pid,1,65535,0):Ev).1,b_ ((a.pid,1,65535,0):Ev).2.1,b_ ((a.pid,1,65535,0):Ev).2.2.1,b_ ((a.pid,1,65535,0):Ev).2.2.2] 59):=Yw rfl;gi_wp2_with (gi_at_builtin;refine wpListIn_append_own_at _ rfl (.tmp 67) (.tmp 73) 43 rfl v0.heap.size 59 M (.agg #[b_ 0,b_ 0,b_ 0,b_ 0]) 4 32 underlying43 hi p s t rfl sN told d.length (SS d) rfl k.told.row (R_ w2.heap.size) 1 1 (iC (a.pid,1,65535,0)) rfl rfl (al1 G) (by simp[iC,Value.oneCell']) (by unfold maxLen;omega) wB (by have:=k.mv.keep.size;omega) ?_;intro N w3 B C _ o);exact⟨rfl,rfl,_,N,BH rfl sJ,_,D,a,k.push B C o,z.bad L ⟨l,v.ext,⟨_,_,g.ok⟩,y⟩ u⟩
theorem av7 (q1 a:Nat)(A:n_):commResult (G5 q1 a) .select 0 A true=.tuple #[b_ 0,.bool true,A,.agg #[]]:=sU
theorem kZ {X:Obj}(u:res<65536)(y:wr<65536)(g:WH NC NS b K0 v0 CU told w K r)(z:r.en=false)(C:b∈K.Ar)(D:XE b K0 j CU res wr K r):
  SI NC NS b K0 v0 ((j:Int)+1) told (((w.setCell (S_ b 5) (a_ res)).setCell (S_ b 6) (a_ wr)).alloc X).drew:=by
 have a:=g.ka.GR (r':={r with A:=res}) (i:=5) (v:=a_ (res:Nat)) g.ps ⟨rfl,rfl,rfl,rfl,rfl⟩ rfl (g.ka.ps b r g.ps).bl;have l:=g.ka.EG g.ps (i:=5) (v:=a_ (res:Nat));have c:=a.GR (b:=b) (r:={r with A:=res}) (r':={r with A:=res,B:=wr}) (i:=6) (v:=a_ (wr:Nat)) Ag ⟨rfl,rfl,rfl,rfl,rfl⟩ rfl (a.ps b _ Ag).bl;have m:=a.EG (b:=b) (r:={r with A:=res}) Ag (i:=6) (v:=a_ (wr:Nat));have o:=g.ok.pr b r g.ps;have d:=g.ok.GR (r':={r with A:=res,B:=wr}) g.ps rfl rfl rfl rfl rfl rfl ⟨u,y,o.P,o.st,o.pid,o.par,o.Af,o.fds,o.fd,o.len,o.off⟩;have e2:CY (CY K.ps b {r with A:=res}) b {r with A:=res,B:=wr}=CY K.ps b {r with A:=res,B:=wr}:=by
  funext k
  by_cases e:k=b
  .subst e;rw[Ag,Ag]
  .rw[BB e,BB e,BB e]
 simp only[e2]at c;have n:=g.next (K':=K.Bj b {r with A:=res,B:=wr}) c d.1 d.2 (l.trans m) Ag;obtain⟨e1,call,⟨t,rc,⟨h,s,⟨f,a,c⟩,p,q,rfl⟩,hX⟩,rfl⟩:=D;exact⟨j+1,_,_,_,wB,n.no (((Aa.refl No _).alloc X).drew),z,C,f,a,e1,_,h,c,⟨s,1,call,rc,p,q,.inr ⟨rfl,K,res,wr,r,hX,g.ps,z,rfl,rfl⟩⟩,rfl⟩
theorem Z5 (q1 z:Nat)(A:n_)(h:SA NC NS b K0 v0 n i told A w):(aX prog).wpIn NF m prog (SX λC w'=>∃g,C=TN 49 (AQ g [(6,.bool true)])/\SI NC NS b K0 v0 (i+1) told w') ⟨TN 49 (AQ f (slA q1 z (VM (R_ b)) A)),[]⟩ w:=by
 obtain⟨j,u,K,r,a,wr,rfl,x,g,t,s,d,e,rfl,k⟩:=h;have l:=(g.ka.no ((Aa.refl No w).alloc (.cells #[a_ a,a_ wr,.nilFunc] 206))).Iu g.ps 5;have v:=(g.ka.no ((Aa.refl No w).alloc (.cells #[a_ a,a_ wr,.nilFunc] 206))).lF g.ps 5;simp[PR.arr]at l;have c:=(g.ka.ps b r g.ps).o;have y:=Dt c;have p3:=((Aa.refl No _).alloc (.cells #[a_ a,a_ wr,.nilFunc] 206)).old (Ap (i:=5) c (a_ (a:Nat))) id;have q:=Cf p3 6;have p:((w.setCell (S_ b 5) (a_ a)).alloc (.cells #[a_ a,a_ wr,.nilFunc] 206)).cell? (S_ b 6)=some (a_ r.B):=bce p3 rfl;have hq:=Wp (w.alloc (.cells #[a_ a,a_ wr,.nilFunc] 206));have done:=λX=>kZ (X:=X) d e g t s k
 clear k p3;rw[bm9];unfold bp0;rw[bl8];dsimp only[Tryz.f187,Option.getD];unfold slA;rw[av7];show Code.wpIn (Fence.list LF none) m prog _ _ ⟨#[f 0,.pointer (some (S_ b 5)),f 2,f 3,f 4,f 5,f 6,f 7,f 8,f 9,f 10,f 11,f 12,f 13,f 14,f 15,f 16,f 17,f 18,f 19,f 20,f 21,f 22,f 23,f 24,f 25,f 26,f 27,f 28,.tuple #[b_ 0,.bool true,.agg #[a_ a,a_ wr,.nilFunc],.agg #[]],f 30,f 31,f 32,f 33,f 34,f 35,f 36,f 37,f 38,f 39,f 40,f 41,f 42,f 43,f 44,f 45,f 46,f 47,f 48],[]⟩ _;gi_wp2;gi_region
 all_goals gi_wp2
 all_goals exact⟨rfl,rfl,_,BH rfl sJ,done _⟩
end
section
variable (NC NS b:Nat)(K0:KS)(v0:o_)(n m:Nat)
theorem wO {NC NS b:Nat}{K0:KS}{v0:o_}{n:Nat}{told:n_}{v:o_}(h:SBl NC NS b K0 v0 n told v):∃cs ty p,v.heap[b]?=some (N_ cs ty)/\cs[7]?=some (a_ p)/\∀v',θ (R_ b) cs ty p v v'->SF NC NS b K0 v0 n told v':=by
 obtain⟨i,K,r,g,I⟩:=h;refine⟨r.arr,128,r.P,(g.ka.ps b r g.ps).o,rfl,λv' ⟨u,w,x,y,z⟩=>?_⟩;have o:=g.ok.pr b r g.ps;have e:IntKind.u16.wrap ((r.P:Int)-2)=(((r.P+65534) % 65536:Nat):Int):=by rw[wrap_u16];omega
 have C:Aa (At b) v v':=⟨y,z,u,λk F G=>w k F G⟩;have H:v'.heap[b]?=some ({r with A:=r.A,B:=r.B,P:=(r.P+65534) % 65536}:PR).obj:=by
  refine x.trans ?_
  unfold VV PR.obj
  rw[e]
  rfl
 obtain⟨k1,t⟩:=Τ g.ka g.ps C H;have l:=g.ok.GR (r':={r with A:=r.A,B:=r.B,P:=(r.P+65534) % 65536}) g.ps rfl rfl rfl rfl rfl rfl (Ok.bo2 o o.A o.B (Nat.mod_lt _ sN) rfl o.Af);refine⟨i,_,_,g.next k1 l.1 l.2 t Ag,?_⟩;obtain⟨j,call,d,wr,f,m,a,E,⟨O,rc,⟨s,J,⟨q,x1,L⟩,M,N,rfl⟩,hX⟩,c,D,rfl⟩:=I;have e2:r={a with bl:=f}:=by have:=g.ps;rw[show(m.Bj b {a with bl:=f}).ps b=some {a with bl:=f} from Ag]at this;exact(x_ this).symm
 subst e2;rw[Vf];exact⟨q,x1,.inr ⟨j,i,[],s,E,L,⟨J,1,call,rc,M,N,.inr ⟨rfl,m,d,wr,f,a,hX,c,.inr ⟨D,rfl,rfl⟩⟩⟩,sJ⟩⟩
def zF (hn:n<=1000)(hSv:VZ NC NS b K0 n):Tq prog NF m (ptr K0.kb) (R_ b) (n:Nat) where
 I:=SI NC NS b K0 v0
 Cd:=SC NC NS b K0 v0 n
 Bd:=SB NC NS b K0 v0 n
 D:=SD NC NS b K0 v0 n
 E0:=SE0 NC NS b K0 v0 n
 E:=SE NC NS b K0 v0 n
 An:=SA NC NS b K0 v0 n
 Fin:=SF NC NS b K0 v0 n
 Dn:=SDn NC NS b K0 v0 n
 Db:=SDb NC NS b K0 v0 n
 Bc:=λ_=>SBc NC NS b K0 v0 n
 Bl:=λ_=>SBl NC NS b K0 v0 n
 tDn:=λ_ _ _ _ v τ d h=>h.no (Dh v τ d)
 tDb:=λ_ _ _ _ v τ d h=>h.no (Dh v τ d)
 tBc:=λ_ _ _ v τ d h=>h.no (Dh v τ d)
 tBl:=λ_ _ v τ d h=>h.no (Dh v τ d)
 tI:=λ_ _ v τ d h=>h.no (Dh v τ d)
 tC:=λ_ _ _ v τ d h=>h.no (Dh v τ d)
 tB:=λ_ v τ d h=>h.no (Dh v τ d)
 tD:=λ_ _ _ _ v τ d h=>h.no (Dh v τ d)
 tE0:=λ_ _ _ v τ d h=>h.no (Dh v τ d)
 tE:=λ_ _ _ v τ d h=>h.no (Dh v τ d)
 tA:=λ_ _ _ v τ d h=>h.no (Dh v τ d)
 tF:=λ_ v τ d h=>h.no (Dh v τ d)
 step:=λ_ _ _ v _ h _ hi τ d=>xw (h.no (Dh v τ d)) hi
 serve:=λ_ _ _ _ v _ h τ d=>qh hSv (h.no (Dh v τ d))
 asked:=λ_ _ _ _ _ v _ h τ d=>qo (h.no (Dh v τ d))
 tells:=λ_ _ _ _ _ v _ h τ d=>qg (h.no (Dh v τ d)) hn
 ended:=λ_ _ _ _ v _ h τ d=>qj (h.no (Dh v τ d))
 answer:=λ_ _ _ _ ⟨j,CU,K,r,res,wr,h1,h2,h4,h5,h6,h7,h8⟩=>⟨a_ res,a_ wr,.nilFunc,⟨by rw[Ai h7.blk];rfl,by rw[Ai h7.blk];rfl,by rw[Ai h7.blk];rfl,dE⟩,j,CU,K,r,res,wr,h1,h2,h4,h5,h6,h7.res,h7.wr,rfl,h8⟩
 grow:=λ_ _ _ _ _ h hg=>h.no (ZR hg)
 oO:=λq1 q3 _ _ A v _ h _ _ τ d=>Z5 q1 q3 A (h.no (Dh v τ d))
 bad:=λ_ _ v _ h τ d=>ϰ hn (h.no (Dh v τ d))
 spent:=λtold v ⟨j,CU,K,r,h1,h3,_,_,K1,h6,h7⟩=>⟨CU,K,r,h3,K1,h6,.inl (by obtain rfl:n=j:=wB;exact h7)⟩
 blocks:=λ_ _ _ _ _ v _ h τ d=>kJ (h.no (Dh v τ d))
 blocked:=λ_ _ _ _ ⟨h,res,wr,fn,ca,cb,hb⟩=>⟨res,wr,fn,ca,cb,⟨by rw[Ai hb];rfl,by rw[Ai hb];rfl,by rw[Ai hb];rfl,dE⟩,h⟩
 bp5:=λ_ _ _ h=>wO h
def bv3 (hn:n<=1000)(hSv:VZ NC NS b K0 n):κ (zF NC NS b K0 v0 n m hn hSv) where
 B0:=SO NC NS b K0 v0 Di
 B2:=SM NC NS b K0 v0 Di
 B3:=SI NC NS b K0 v0 0 Di
 t2:=λv τ d h=>h.no (Dh v τ d)
 t3:=λv τ d h=>h.no (Dh v τ d)
 bring:=λv _ h τ d=>qm (h.no (Dh v τ d)) _
 clear:=λv _ h τ d=>ql (h.no (Dh v τ d)) _
 start:=λ_ _ h hg=>h.no (ZR hg)
end
end Go.Fxa
