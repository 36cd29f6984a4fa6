/- A process of many goes on: the -/
import Derived.Test.YtmhplpfpcnjekaaGreatA32
import Derived.Maps.OwnIn
namespace Go.Fxa
open Conc Proofs RowKit Proofs.Tryz
set_option maxRecDepth 1000000
set_option maxHeartbeats 0
def FP (P:l_) (f:h_):Code:=match (((P.funcs[f]?).bind λf=>f.body):d_ Code)with
 |some c=>c
 |none=>Code.skip
def behind:Nat->Code->Code
 |0,c=>c
 |n+1,.seq _ c=>behind n c
 |_+1,_=>.skip
def piece:Code->Code
 |.seq c _=>c
 |c=>c
theorem PY:FP prog 56=Tryz.f56.body.getD .skip:=by kernel_rfl
theorem al5:FP prog 136=Tryz.f136.body.getD .skip:=by kernel_rfl
theorem al4:FP prog 187=Tryz.f187.body.getD .skip:=by kernel_rfl
def gA (P:l_):Code:=match FP P 56 with | .seq _ (.seq _ (.seq _ (.seq _ (.seq _ (.seq _ (.block _ (.loop (.block _ (.seq _ (.seq _ (.block _ (.cond _ a c))))))))))))=>.seq a c|_=>.skip
def gR2 (P:l_):Code:=match FP P 56 with | .seq _ (.seq _ (.seq c _))=>c|_=>.skip
theorem bo5:R2 prog=gR2 prog:=by kernel_rfl
def gR3 (P:l_):Code:=match FP P 56 with | .seq _ (.seq _ (.seq _ (.seq c _)))=>c|_=>.skip
theorem bo4:R3 prog=gR3 prog:=by kernel_rfl
def ao9 (P:l_):Code:=match FP P 136 with | .seq (.seq _ (.block _ (.loop (.seq _ (.seq _ (.seq (.block _ (.seq c _)) _)))))) _=>c|_=>.skip
theorem af8:Vu prog=ao9 prog:=by kernel_rfl
def bf0 (P:l_):Code:=match gA P with | .seq (.seq _ (.seq _ (.seq (.seq c _) _))) _=>c|_=>.skip
theorem bb6:R11 prog=bf0 prog:=by kernel_rfl
def be9 (P:l_):Code:=match gA P with | .seq (.seq _ (.seq _ (.seq (.seq _ (.cond _ (.seq c _) _)) _))) _=>c|_=>.skip
theorem bb5:R12 prog=be9 prog:=by kernel_rfl
def be7 (P:l_):Code:=match gA P with | .seq (.seq _ (.seq _ (.seq _ (.seq _ (.seq (.seq c _) _))))) _=>c|_=>.skip
theorem ba9:R16 prog=be7 prog:=by kernel_rfl
def QW (f:Y_) (a b c d e g h:n_):X_:=#[a,b,c,f 3,f 4,f 5,f 6,d,e,g,h,f 11,f 12,f 13,f 14,f 15,f 16,f 17,f 18,f 19,f 20,f 21,f 22,f 23,f 24,f 25,f 26,f 27,f 28,f 29,f 30,f 31,f 32,f 33,f 34,f 35,f 36,f 37,f 38,f 39,f 40,f 41,f 42,f 43,f 44,f 45,f 46,f 47,f 48,f 49,f 50,f 51,f 52,f 53,f 54,f 55,f 56,f 57,f 58,f 59,f 60,f 61,f 62,f 63,f 64,f 65,f 66,f 67,f 68,f 69,f 70,f 71,f 72,f 73,f 74,f 75]
theorem ah4 {fn:Fn} {ca cb:X_} {w:o_}:(binOp .neq 32 (.func fn ca cb) .nilFunc).run prog w=.ok (.bool true) w:=by kernel_rfl
section
variable {bg:Bool} {NC NS b:Nat} {K0:KS} {v0:o_} {n:Nat} {m:Nat} {w:o_} {q:Nat} {i:Int} {told x:n_} {bA:Nat} {f:Nat->n_}
theorem Ok.ao0 {r:PR} {A B P:Nat} {Ag:List Nat} (o:r.Ok) (hA:A<65536) (hB:B<65536) (hP:P<65536) (hl:Ag.length=r.Ag.length) (hi:∀x∈Ag,x<65536):({ r with A:=A,B:=B,P:=P,Ag:=Ag }:PR).Ok:=
 ⟨hA,hB,hP,o.st,o.pid,o.par,hi,o.fds,o.fd,λe=>by obtain⟨k,h⟩:=o.len e;exact⟨k,by show Ag.length=_/\_;rw[hl];exact h⟩,λe=>⟨(o.off e).1,by have:=(o.off e).2.1;rw[this]at hl;exact List.length_eq_zero_iff.1 hl,(o.off e).2.2⟩⟩
theorem Ok.bc6 {r:PR} {v:n_} (o:r.Ok):({ r with bl:=v }:PR).Ok:=⟨o.A,o.B,o.P,o.st,o.pid,o.par,o.Ag,o.fds,o.fd,o.len,o.off⟩
theorem jG (h:SI bg NC NS b K0 v0 0 CY w) (N1:Int):(R2 prog).wpIn NF m prog (Ends λtm w'=>∃f',tm=TN 76 (AY f' (kV (ptr K0.kb) (S_ b) N1 CY))/\SI bg NC NS b K0 v0 0 CY w') ⟨TN 76 (AY f (kV (ptr K0.kb) (S_ b) N1 CY)),[]⟩ w:=by
 obtain⟨j,l,K,r,v,s,g,t,k,u⟩:=h;obtain rfl:j=0:=by omega
 have i:=λm=>Zx m w K b NC r g.ka g.ok.th g.ps k g.ok.nd g.ok.co (by have:=g.ok.len;omega)
 rw[g.rel.kb]at i;rw[bo5];unfold gR2;rw[PY];dsimp only[Tryz.f56,Option.getD];show Code.wpIn (Fence.list LF none) m prog _ _ ⟨QW f (ptr K0.kb) (R_ b) (b_ N1) CY (f 8) (f 9) (f 10),[]⟩ _;unfold QW ptr;gi_wp2_with fail;refine(i _).mono ?_;rintro e w1 ⟨rfl,n,p,a,q,o,_⟩;gi_wp2;obtain⟨c,d⟩:=a.get g.ps;exact⟨rfl,rfl,_,DW rfl (by simp[kV,pv,CY]),0,l,n,_,rfl,s,g.next p (g.ok.moved a q) (a.rel b) o d,t,by rw[a.AP];exact k,u.1,λh=>absurd h (by omega)⟩
theorem jF (h:SI bg NC NS b K0 v0 0 CY w) (N1:Int):(R3 prog).wpIn NF m prog (Ends λtm w'=>∃f',tm=TN 76 (AY f' (kV (ptr K0.kb) (S_ b) N1 CY))/\SI bg NC NS b K0 v0 0 CY w') ⟨TN 76 (AY f (kV (ptr K0.kb) (S_ b) N1 CY)),[]⟩ w:=by
 obtain⟨j,c,K,r,o,e,g,l,k,n⟩:=h;obtain rfl:j=0:=by omega
 have c4:=g.ka.GG g.ps 4;have p:=g.ka.bU g.ps 4;simp[PR.arr]at c4;rw[bo4];unfold gR3;rw[PY];dsimp only[Tryz.f56,Option.getD];show Code.wpIn (Fence.list LF none) m prog _ _ ⟨QW f (ptr K0.kb) (R_ b) (b_ N1) CY (f 8) (f 9) (f 10),[]⟩ _;unfold QW ptr;gi_wp2;have d:=g.ka.like (r':={ r with bl:=.nilFunc }) (i:=4) (v:=.nilFunc) g.ps ⟨rfl,rfl,rfl,rfl,rfl⟩ rfl (.inl rfl);have a:=g.ok.like (r':={ r with bl:=.nilFunc }) g.ps rfl rfl rfl rfl rfl rfl (Ok.bc6 (g.ok.pr b r g.ps));exact⟨rfl,rfl,_,DW rfl (by simp[kV,pv,CY]),0,c,_,_,rfl,e,g.next d a.1 a.2 (g.ka.Ee g.ps) Am,l,k,n.1,λh=>absurd h (by omega)⟩
theorem pJ (hbg:bg=true->n=1) (h:SI bg NC NS b K0 v0 i told w) (hi:i<(n:Nat)):(Vu prog).wpIn NF m prog (Ends λtm w'=>∃f' oc x,tm=ry (AY f' (sl6 q (Sr (S_ b)) (n:Nat) i oc x))/\((oc=0/\SI bg NC NS b K0 v0 (i+1) told w')\/(oc=1/\SC bg NC NS b K0 v0 n i told x w')\/(oc=2/\SB bg NC NS b K0 v0 n told w'))) ⟨ry (AY f (sl4 q (Sr (S_ b)) (n:Nat) i)),[]⟩ w:=by
 obtain⟨j,t,K,r,rfl,G,g,a,s,H⟩:=h;have F:j<n:=by omega
 have o:=g.ok.pr b r g.ps;have E:=(g.ok.co.pl b r g.ps).1;rw[af8];unfold ao9;rw[al5];dsimp only[Tryz.f136,Option.getD];show Code.wpIn (Fence.list LF none) m prog _ _ ⟨#[pr q,.pointer (some (T_ b 5)),f 2,f 3,f 4,f 5,f 6,f 7,b_ (n:Nat),b_ (j:Nat),f 10,f 11,f 12,f 13,f 14,f 15,f 16,f 17,f 18,f 19,f 20,f 21,f 22,f 23,f 24,f 25,f 26,f 27,f 28,f 29,f 30,f 31],[]⟩ _;cases bg with
 |false=>
  have C:=λm=>ae1 m w K b r g.ka g.ps a o E
  gi_wp2_with fail
  refine(C _).mono ?_
  rintro e w1 ⟨⟨oc,y,O,Q,rfl⟩,A,B,P,Ag,J,L,M,D,z,v,u⟩
  gi_wp2
  have c:=g.ok.like (r':={ r with A:=A,B:=B,P:=P,Ag:=Ag }) g.ps rfl rfl rfl rfl D rfl (Ok.ao0 o J L M D z)
  have d:=g.next v c.1 c.2 u Am
  refine⟨rfl,rfl,_,(oc:Nat),a_ (y:Nat),DW (n:=32) rfl (by simp[sl6,Sr,Addr.add]),?_⟩
  have I:oc=0\/oc=1\/oc=2:=by omega
  obtain rfl|rfl|rfl:=I
  .exact .inl ⟨rfl,j+1,t,_,_,by omega,by omega,d,a,s,λh=>absurd h (by omega),λ_ h=>by cases h⟩
  .exact .inr (.inl ⟨rfl,j,t,_,_,y,rfl,F,rfl,Q,G,d,a,s,λh=>by cases h⟩)
  .exact .inr (.inr ⟨rfl,t,_,_,by omega,d,a,s,rfl⟩)
 |true=>
  obtain rfl:n=1:=hbg rfl
  obtain rfl:j=0:=by omega
  clear hbg
  obtain⟨rfl,x1,l,p⟩:=H.1 rfl rfl
  have C:=λm=>wo m w K b 12 r g.ka g.ps a o E (by rw[l,p];decide) (by rw[l,p];rfl) (by rw[l,p];rfl)
  have k:XC true ([]:List Ev) 12 { r with P:=r.P+2 }:=λ_=>⟨rfl,rfl,x1,by rw[l],by show r.Ag.length=8;rw[p];rfl⟩
  clear x1 l p H
  gi_wp2_with fail
  refine(C _).mono ?_
  rintro e w1 ⟨rfl,v,u⟩
  gi_wp2
  have c:=g.ok.like (r':={ r with P:=r.P+2 }) g.ps rfl rfl rfl rfl rfl rfl (by
   have N:r.P+2<65536:=by have:=(k rfl).2.2.2.1;simp only at this;omega
   exact⟨o.A,o.B,N,o.st,o.pid,o.par,o.Ag,o.fds,o.fd,o.len,o.off⟩)
  have d:=g.next v c.1 c.2 u Am
  exact⟨rfl,rfl,_,1,a_ 12,DW (n:=32) rfl (by simp[sl6,Sr,Addr.add]),.inr (.inl ⟨rfl,0,[],_,_,12,rfl,F,rfl,by omega,G,d,a,s,k⟩)⟩
theorem jH (h:SD bg NC NS b K0 v0 n i told x bA w):(R11 prog).wpIn NF m prog (Ends λtm w'=>∃f' c,tm=TN 76 (AY (AY f' (VF (ptr K0.kb) (S_ b) told q x bA)) [(39,.bool c)])/\((c=false/\SDn bg NC NS b K0 v0 n i told x bA w')\/(c=true/\SDb bg NC NS b K0 v0 n i told x bA w'))) ⟨TN 76 (AY f (VF (ptr K0.kb) (S_ b) told q x bA)),[]⟩ w:=by
 obtain⟨j,l,K,r,call,d,wr,k,rfl,p,rfl,u,s,g,v,e,o,t⟩:=h;have c2:w.cell? (T_ bA 2)=some k:=by rw[Af e.blk];rfl
 rw[bb6];unfold bf0 gA;rw[PY];dsimp only[Tryz.f56,Option.getD];show Code.wpIn (Fence.list LF none) m prog _ _ ⟨QW f (ptr K0.kb) (R_ b) (f 2) told (pr q) (a_ (call:Nat)) (R_ bA),[]⟩ _;unfold QW ptr;have a:k=.nilFunc\/∃fn ca cb,k=.func fn ca cb:=by
  obtain h|⟨_,_,h,_⟩|⟨_,h|h,_⟩:=o
  .exact .inl h
  all_goals exact .inr ⟨_,_,_,h⟩
 obtain rfl|⟨fn,ca,cb,rfl⟩:=a
 .have y:=QN w;gi_wp2;exact⟨rfl,rfl,_,false,Η rfl (by simp[VF,pv,pr]) (by simp),.inl ⟨rfl,j,l,K,r,call,d,wr,rfl,p,rfl,u,s,g,v,e,t⟩⟩
 .have y:=ah4 (w:=w) (fn:=fn) (ca:=ca) (cb:=cb);gi_wp2;refine⟨rfl,rfl,_,true,Η rfl (by simp[VF,pv,pr]) (by simp),.inr ⟨rfl,j,l,K,r,d,wr,_,rfl,p,s,g,e,o,⟨_,_,_,rfl⟩,?_⟩⟩;cases bg
  .rfl
  .have:=(t rfl).2.2.2.2.1;cases this
theorem aY (h:SDb bg NC NS b K0 v0 n i told x bA w):(R12 prog).wpIn NF m prog (Ends λtm w'=>∃f',tm=TN 76 (AY f' (rq (ptr K0.kb) (S_ b) told q bA))/\SBc bg NC NS b K0 v0 n told bA w') ⟨TN 76 (AY f (VF (ptr K0.kb) (S_ b) told q x bA)),[]⟩ w:=by
 obtain⟨j,l,K,r,d,wr,u,rfl,y,z,g,e,bl,⟨fn,a,c,rfl⟩,s⟩:=h;have c2:w.cell? (T_ bA 2)=some (.func fn a c):=by rw[Af e.blk];rfl
 have A:=g.ka.bU g.ps 4;have c4:=g.ka.GG g.ps 4;simp[PR.arr]at c4;have o:=g.ka.like (r':={ r with bl:=.func fn a c }) (i:=4) (v:=.func fn a c) g.ps ⟨rfl,rfl,rfl,rfl,rfl⟩ rfl bl;have k:=g.ok.like (r':={ r with bl:=.func fn a c }) g.ps rfl rfl rfl rfl rfl rfl (Ok.bc6 (g.ok.pr b r g.ps));have p:(w.setCell (T_ b 4) (.func fn a c)).heap[bA]?=some (O_ #[a_ (d:Nat),a_ (wr:Nat),.func fn a c] 206):=(g.ka.Ee g.ps).old e.blk e.t;rw[bb5];unfold be9 gA;rw[PY];dsimp only[Tryz.f56,Option.getD];show Code.wpIn (Fence.list LF none) m prog _ _ ⟨QW f (ptr K0.kb) (R_ b) (f 2) told (pr q) x (R_ bA),[]⟩ _;unfold QW ptr;gi_wp2;exact⟨rfl,rfl,_,DW rfl (by simp[rq,pv,pr]),⟨l,_,_,by omega,g.next o k.1 k.2 (g.ka.Ee g.ps) Am,s⟩,d,wr,fn,a,c,p⟩
theorem jE (h:SE0 bg NC NS b K0 v0 n i told bA w):(R16 prog).wpIn NF m prog (Ends λtm w'=>∃f' c,tm=TN 76 (AY f' (slG (ptr K0.kb) (S_ b) told q bA c))/\((c=true/\SF bg NC NS b K0 v0 told w')\/(c=false/\SE bg NC NS b K0 v0 n i told bA w'))) ⟨TN 76 (AY f (rq (ptr K0.kb) (S_ b) told q bA)),[]⟩ w:=by
 obtain⟨j,d,K,r,a,wr,rfl,o,p,g,s,k,e⟩:=h;have c2:=g.ka.GG g.ps 2;simp[PR.arr]at c2;rw[ba9];unfold be7 gA;rw[PY];dsimp only[Tryz.f56,Option.getD];show Code.wpIn (Fence.list LF none) m prog _ _ ⟨QW f (ptr K0.kb) (R_ b) (f 2) told (pr q) (f 9) (R_ bA),[]⟩ _;unfold QW ptr;cases hn:r.en with
 |false=>
  rw[hn]at c2
  gi_wp2
  exact⟨rfl,rfl,_,false,DW rfl (by simp[slG,pv,pr]),.inr ⟨rfl,j,d,K,r,a,wr,rfl,o,p,g,hn,s hn,k,e⟩⟩
 |true=>
  rw[hn]at c2
  gi_wp2
  exact⟨rfl,rfl,_,true,DW rfl (by simp[slG,pv,pr]),.inl ⟨rfl,d,K,r,g,λl=>by have:=(e l).2.2.2.2.2;rw[hn]at this;cases this⟩⟩
end
def bf1 (P:l_):Code:=match gA P with | .seq (.seq _ (.seq c _)) _=>c|_=>.skip
theorem bb7:R10 prog=bf1 prog:=by kernel_rfl
def be8 (P:l_):Code:=match gA P with | .seq (.seq _ (.seq _ (.seq _ (.seq c _)))) _=>c|_=>.skip
theorem bb4:R15 prog=be8 prog:=by kernel_rfl
def be6 (P:l_):Code:=match gA P with | .seq _ (.cond _ (.seq _ (.seq (.seq _ (.cond _ c _)) _)) _)=>c|_=>.skip
theorem ba8:R21 prog=be6 prog:=by kernel_rfl
def ap0 (P:l_):Code:=match FP P 187 with | .seq _ (.seq _ (.seq _ (.seq _ (.block _ (.cond _ c _)))))=>c|_=>.skip
theorem am4:Yh prog=ap0 prog:=by kernel_rfl
theorem γ:(prog.info? 59).map (λi=>(i.zero,i.size,i.bytes))=some (some (.agg #[b_ 0,b_ 0,b_ 0,b_ 0]),4,32):=by kernel_rfl
section
variable {bg:Bool} {NC NS b:Nat} {K0:KS} {v0:o_} {n:Nat} {m:Nat} {w:o_} {q:Nat} {i:Int} {told x:n_} {bA:Nat} {f:Nat->n_} {K:KS} {r:PR} {D5:List Ev} {v v':o_}
theorem Wh.keep {base:Nat} {T:Tag} {S:Nat->Prop} (h:Wh base T told v D5) (hK:Keep S v v') (hS:∀g,told.ownBlock=some g->¬S g):Wh base T told v' D5:=by
 obtain⟨⟨f,e⟩,i⟩:=h;refine⟨⟨f,?_⟩,i⟩;obtain e|⟨g,cap,a,rfl,b,c,d⟩:=e
 .exact .inl e
 .exact .inr ⟨g,cap,a,rfl,b,hK.old c (hS g rfl),d⟩
theorem U2.box {rb:Nat} (h:U2 NC NS b K0 v0 D5 told v K r) (hK:Keep (At rb) v v') (hr:K.T rb=(0,0)) (h0:v0.heap.size<=rb) (ht:∀g,told.ownBlock=some g->g≠rb):U2 NC NS b K0 v0 D5 told v' K r:=
 ⟨h.ka.own hK hr,h.ok,h.rel,h.mv.own hK (λk e=>by rw[show k=rb from e];exact h0),h.told.keep hK (λg a e=>ht g a e),h.ps,h.z⟩
theorem U2.push {ev:Ev} {Cb:n_} (h:U2 NC NS b K0 v0 D5 told v K r) (Es:v'.ownsRow v0.heap.size 59 4 Cb (D5.length+1) (Vx D5++yF ev)) (EO:v.grownBy v' told.ownBlock) (hat:Cb.ownBlock=told.ownBlock\/Cb.ownBlock=some v.heap.size):U2 NC NS b K0 v0 (D5++[ev]) Cb v' K r:=by
 have a:Keep (λk=>told.ownBlock=some k) v v':=Ey EO (λk d _=>d);refine⟨h.ka.keep (a.on λk _ e=>h.told.no k e) λk d=>h.ka.lt k (Nat.le_trans a.size d),h.ok,h.rel,h.mv.own a (λk e=>(h.told.row.lt k e).1),⟨?_,λg c=>?_⟩,h.ps,h.z⟩
 .rw[iJ];simpa [Vx]using Es
 .obtain e|e:=hat
  .exact h.told.no g (by rw[<-e];exact c)
  .rw[e]at c;cases c;exact h.ka.lt _ (w_ _)
theorem ν {w:o_} {k:Nat} {ev:Ev} (h:w.heap[k]?=some (O_ #[b_ ev.1,b_ ev.2.1,b_ ev.2.2.1,b_ ev.2.2.2] 59)):∀j u,(yF ev)[j]?=some u->w.cell? (((S_ k):f_).add j)=some u:=by
 intro j u a;have b:((S_ k):f_).add j=(T_ k j):=by rw[Addr.add_lit,Nat.zero_add]
 rw[b];refine(Af h j).trans ?_
 match j,a with
 |0,a=>simpa [yF]using a
 |1,a=>simpa [yF]using a
 |2,a=>simpa [yF]using a
 |3,a=>simpa [yF]using a
def SvK (bg:Bool) (NC NS b:Nat) (K0:KS) (v0:o_) (D5:List Ev) (told:n_) (call:Nat) (e:Ending) (w':o_):Prop:=∃K' r' res wr fv,e=.returned (.agg #[a_ (res:Nat),a_ (wr:Nat),fv])/\res<65536/\wr<65536/\U2 NC NS b K0 v0 D5 told w' K' r'/\(r'.en=false->b∈K'.AP)/\KG K'.T w' K'.kb b fv/\XD bg D5 call res wr fv r'
theorem ϙ {call:Nat} (g:U2 NC NS b K0 v0 D5 told w K r) (hn:r.en=false) (hm:b∈K.AP) (hx:XC bg D5 call r):P_ m 96 #[R_ K0.kb,R_ b,a_ (call:Nat)] w (SvK bg NC NS b K0 v0 D5 told call):=by
 rw[<-g.rel.kb];cases bg with
 |false=>
  refine(ae3 m w K NC NS b call r g.ka g.ok hm g.ps hn).mono ?_
  rintro e w1 ⟨i,x,y,n,rfl,k,a,u,p,q,s,l,C,z,f⟩
  exact⟨i,C,x,y,n,rfl,k,a,g.next p q s l z,f,u,λh=>by cases h⟩
 |true=>
  obtain⟨rfl,rfl,x1,D,E⟩:=hx rfl
  have d:=g.ka.GG g.ps 5
  have c:=g.ka.GG g.ps 0
  simp[PR.arr]at d c
  obtain⟨o,ci,B,t,F,v⟩:=g.ka.YF g.ps hn
  refine(wC m w K.kb b o r.Ag.length ci r.A r.pid d B c (by omega)).mono ?_
  rintro e w1 ⟨rfl,j⟩
  exact⟨K,r,r.pid,0,.nilFunc,rfl,by omega,by omega,g.no j,λ_=>hm,.inl rfl,λ_=>⟨rfl,rfl,x1,rfl,rfl,x1,D,E,hn⟩⟩
theorem jD (h:SC bg NC NS b K0 v0 n i told x w):(R10 prog).wpIn NF m prog (Ends λtm w'=>∃f' bA,tm=TN 76 (AY f' (VF (ptr K0.kb) (S_ b) told q x bA))/\SD bg NC NS b K0 v0 n i told x bA w') ⟨TN 76 (AY f (slX (ptr K0.kb) (S_ b) told q x)),[]⟩ w:=by
 obtain⟨j,C,K,r,call,rfl,L,rfl,I,M,g,O,N,A⟩:=h;have l:=λm=>ϙ (m:=m) g O N A
 clear A;rw[bb7];unfold bf1 gA;rw[PY];dsimp only[Tryz.f56,Option.getD];show Code.wpIn (Fence.list LF none) m prog _ _ ⟨QW f (ptr K0.kb) (R_ b) (f 2) told (pr q) (a_ (call:Nat)) (f 10),[]⟩ _;unfold QW ptr;gi_wp2_with (first|(gi_at_call 96;refine(l _).mono ?_;rintro e w1 ⟨p,P,a,wr,v,rfl,G,H,c,d,z,D⟩;obtain⟨R,B,u,E⟩:=Ap (w:=w1.alloc V_) (rb:=w1.heap.size) (x:=a) (y:=wr) (f:=v) (heap_alloc_new rfl) z.one)|refine En B ?_);have s:Keep No w1 (w1.alloc V_):=(p_ _ _).alloc _;have o:p.T w1.heap.size=(0,0):=c.ka.lt _ (w_ _);have F:=(c.no s).box u o c.mv.keep.size (λg J e=>by have:=(c.told.row.lt g J).2;omega);exact⟨rfl,rfl,_,w1.heap.size,DW rfl (by simp[VF,pv,pr]),j,C,p,P,call,a,wr,v,rfl,L,rfl,I,M,F,d,⟨E,o,G,H⟩,(z.no s).keep (u.on (Q:=λt=>t=(0,0)) λk _ e=>by rw[show k=w1.heap.size from e];exact o) (by simp),D⟩
theorem jC (h:SDn bg NC NS b K0 v0 n i told x bA w) (hn:n<=1000):(R15 prog).wpIn NF m prog (Ends λtm w'=>∃f' Cb,tm=TN 76 (AY f' (rq (ptr K0.kb) (S_ b) Cb q bA))/\SE0 bg NC NS b K0 v0 n i Cb bA w') ⟨TN 76 (AY f (VF (ptr K0.kb) (S_ b) told q x bA)),[]⟩ w:=by
 obtain⟨j,v,K,r,call,a,wr,rfl,M,rfl,J,X,g,O,c,P⟩:=h;obtain⟨Q,L,p,s,u⟩:=info_parts γ;have z:=g.ka.GG g.ps 0;simp[PR.arr]at z;have V:w.cell? (S_ bA)=some (a_ a):=by rw[Af c.blk];rfl
 have W:w.cell? (T_ bA 1)=some (a_ wr):=by rw[Af c.blk];rfl
 have c2:w.cell? (T_ bA 2)=some .nilFunc:=by rw[Af c.blk];rfl
 rw[bb4];unfold be8 gA;rw[PY];dsimp only[Tryz.f56,Option.getD];show Code.wpIn (Fence.list LF none) m prog _ _ ⟨QW f (ptr K0.kb) (R_ b) (f 2) told (pr q) (a_ (call:Nat)) (R_ bA),[]⟩ _;unfold QW ptr;gi_wp2_with fail;refine(um _ w b r.pid call a wr z J c.res c.wr).mono ?_;rintro e w1 ⟨C,rfl⟩;have l:Keep No w (w1.alloc (.cells #[b_ r.pid,b_ call,b_ a,b_ wr] 59)):=C.alloc _;have d:=g.no l;have E:(w1.alloc (.cells #[b_ r.pid,b_ call,b_ a,b_ wr] 59)).heap[w1.heap.size]?=some (O_ #[b_ ((r.pid,call,a,wr):Ev).1,b_ ((r.pid,call,a,wr):Ev).2.1,b_ ((r.pid,call,a,wr):Ev).2.2.1,b_ ((r.pid,call,a,wr):Ev).2.2.2] 59):=heap_alloc_new rfl;gi_wp2_with (gi_at_builtin;refine wpListIn_append_own_at _ rfl (.tmp 49) (.tmp 54) 43 rfl v0.heap.size 59 Q (.agg #[b_ 0,b_ 0,b_ 0,b_ 0]) 4 32 underlying43 L p s u rfl (by decide) told v.length (Vx v) rfl d.told.row (S_ w1.heap.size) 1 1 (yF (r.pid,call,a,wr)) rfl rfl (ν E) (by simp[yF,Value.oneCell']) (by unfold maxLen;omega) (by omega) (by have:=d.mv.keep.size;omega) ?_;intro R w3 B y _ o);have G:=d.push B y o;have D:Keep (λk=>told.ownBlock=some k) (w1.alloc (.cells #[b_ r.pid,b_ call,b_ a,b_ wr] 59)) w3:=Ey y (λk N _=>N);refine⟨rfl,rfl,_,R,DW rfl (by simp[rq,pv,pr]),j,_,K,r,a,wr,rfl,M,by simp;omega,G,O,⟨D.old (c.no l).blk λh=>?_,c.t,c.res,c.wr⟩,λI=>?_⟩
 .obtain⟨rfl,_⟩|⟨H,cap,F,rfl,_,A,_⟩:=d.told.row.2
  .cases h
  .obtain rfl:H=bA:=x_ h;rw[(c.no l).blk]at A;cases A
 .obtain⟨rfl,rfl,rfl,rfl,_,x1,S,T,U⟩:=P I;exact⟨by rw[x1];rfl,rfl,x1,S,T,U⟩
theorem wU (hn:n<=1000) (h:SB bg NC NS b K0 v0 n told w):(R21 prog).wpIn NF m prog (Ends λtm w'=>∃f' Cb,tm=TN 76 (AY f' [(7,Cb)])/\SF bg NC NS b K0 v0 Cb w') ⟨TN 76 (AY f (slS (ptr K0.kb) (S_ b) told q)),[]⟩ w:=by
 obtain⟨p,K,r,M,g,t,I,rfl⟩:=h;obtain⟨J,H,k,l,o⟩:=info_parts γ;have c:=λm=>ξ m w K NC NS b 65535 r g.ka g.ok I g.ps t (by omega)
 rw[g.rel.kb]at c;rw[ba8];unfold be6 gA;rw[PY];dsimp only[Tryz.f56,Option.getD];show Code.wpIn (Fence.list LF none) m prog _ _ ⟨QW f (ptr K0.kb) (R_ b) (f 2) told (pr q) (f 9) (f 10),[]⟩ _;unfold QW ptr;gi_wp2_with fail;refine(c _).mono ?_;rintro e w1 ⟨rfl,y,D,E,F,B,a,x,G⟩;have d:=g.next D E F B x;have s:=d.ka.GG d.ps 0;simp[PR.arr]at s;gi_wp2_with fail;refine(um _ w1 b a.pid 1 65535 0 s (by decide) (by decide) (by decide)).mono ?_;rintro e w2 ⟨z,rfl⟩;have A:Keep No w1 (w2.alloc (.cells #[b_ a.pid,b_ (1:Nat),b_ (65535:Nat),b_ (0:Nat)] 59)):=z.alloc _;have i:=d.no A;have C:(w2.alloc (.cells #[b_ a.pid,b_ (1:Nat),b_ (65535:Nat),b_ (0:Nat)] 59)).heap[w2.heap.size]?=some (O_ #[b_ ((a.pid,1,65535,0):Ev).1,b_ ((a.pid,1,65535,0):Ev).2.1,b_ ((a.pid,1,65535,0):Ev).2.2.1,b_ ((a.pid,1,65535,0):Ev).2.2.2] 59):=heap_alloc_new rfl;gi_wp2_with (gi_at_builtin;refine wpListIn_append_own_at _ rfl (.tmp 67) (.tmp 73) 43 rfl v0.heap.size 59 J (.agg #[b_ 0,b_ 0,b_ 0,b_ 0]) 4 32 underlying43 H k l o rfl (by decide) told p.length (Vx p) rfl i.told.row (S_ w2.heap.size) 1 1 (yF (a.pid,1,65535,0)) rfl rfl (ν C) (by simp[yF,Value.oneCell']) (by unfold maxLen;omega) (by omega) (by have:=i.mv.keep.size;omega) ?_;intro L w3 v u _ j);exact⟨rfl,rfl,_,L,DW rfl (by simp),_,y,a,i.push v u j,λh=>by cases h⟩
theorem ab2 (q1 q3:Nat) (A:n_):commResult (Gv q1 q3) .select 0 A true=.tuple #[b_ 0,.bool true,A,.agg #[]]:=by kernel_rfl
theorem bT {j res wr:Nat} {X:Obj} (hres:res<65536) (hwr:wr<65536) (hl:D5.length<=j+1) (g:U2 NC NS b K0 v0 D5 told w K r) (hn:r.en=false) (hm:b∈K.AP) (hx:XE bg D5 res r):
  SI bg NC NS b K0 v0 ((j:Int)+1) told (((w.setCell (T_ b 5) (a_ res)).setCell (T_ b 6) (a_ wr)).alloc X).drew:=by
 have a:=g.ka.like (r':={ r with A:=res }) (i:=5) (v:=a_ (res:Nat)) g.ps ⟨rfl,rfl,rfl,rfl,rfl⟩ rfl (g.ka.ps b r g.ps).bl;have f:=g.ka.Ee g.ps (i:=5) (v:=a_ (res:Nat));have d:=a.like (b:=b) (r:={ r with A:=res }) (r':={ r with A:=res,B:=wr }) (i:=6) (v:=a_ (wr:Nat)) Am ⟨rfl,rfl,rfl,rfl,rfl⟩ rfl (a.ps b _ Am).bl;have l:=a.Ee (b:=b) (r:={ r with A:=res }) Am (i:=6) (v:=a_ (wr:Nat));have o:=g.ok.pr b r g.ps;have c:=g.ok.like (r':={ r with A:=res,B:=wr }) g.ps rfl rfl rfl rfl rfl rfl ⟨hres,hwr,o.P,o.st,o.pid,o.par,o.Ag,o.fds,o.fd,o.len,o.off⟩;have e2:Dz (Dz K.ps b { r with A:=res }) b { r with A:=res,B:=wr }=Dz K.ps b { r with A:=res,B:=wr }:=by
  funext k
  by_cases e:k=b
  .subst e;rw[Am,Am]
  .rw[BZ e,BZ e,BZ e]
 simp only[e2]at d;have m:=g.next (K':=K.Di b { r with A:=res,B:=wr }) d c.1 c.2 (f.trans l) Am;refine⟨j+1,D5,_,_,by omega,hl,m.no (((p_ No _).alloc X).drew),hn,hm,λh=>absurd h (by omega),λ_ n=>?_⟩;obtain⟨x1,p,q,s,t,u⟩:=hx n;exact⟨x1,p,s,t,q,u,hm⟩
theorem XP (q1 q3:Nat) (A:n_) (h:SA bg NC NS b K0 v0 n i told A w):(Yh prog).wpIn NF m prog (VZ λtm w'=>∃g,tm=TN 49 (AY g [(6,.bool true)])/\SI bg NC NS b K0 v0 (i+1) told w') ⟨TN 49 (AY f (slA q1 q3 (Sr (S_ b)) A)),[]⟩ w:=by
 obtain⟨j,v,K,r,a,wr,rfl,y,s,g,u,t,d,e,rfl,k⟩:=h;have l:=(g.ka.no ((p_ No w).alloc (.cells #[a_ a,a_ wr,.nilFunc] 206))).GG g.ps 5;have x:=(g.ka.no ((p_ No w).alloc (.cells #[a_ a,a_ wr,.nilFunc] 206))).bU g.ps 5;simp[PR.arr]at l;have c:=(g.ka.ps b r g.ps).o;have C:=BQ c;have p3:=((p_ No _).alloc (.cells #[a_ a,a_ wr,.nilFunc] 206)).old (Ah (i:=5) c (a_ (a:Nat))) id;have q:=BO p3 6;have p:((w.setCell (T_ b 5) (a_ a)).alloc (.cells #[a_ a,a_ wr,.nilFunc] 206)).cell? (T_ b 6)=some (a_ r.B):=bce p3 rfl;have z:=QN (w.alloc (.cells #[a_ a,a_ wr,.nilFunc] 206));have done:=λX=>bT (X:=X) d e s g u t k
 clear k p3;rw[am4];unfold ap0;rw[al4];dsimp only[Tryz.f187,Option.getD];unfold slA;rw[ab2];show Code.wpIn (Fence.list LF none) m prog _ _ ⟨#[f 0,.pointer (some (T_ b 5)),f 2,f 3,f 4,f 5,f 6,f 7,f 8,f 9,f 10,f 11,f 12,f 13,f 14,f 15,f 16,f 17,f 18,f 19,f 20,f 21,f 22,f 23,f 24,f 25,f 26,f 27,f 28,.tuple #[b_ 0,.bool true,.agg #[a_ a,a_ wr,.nilFunc],.agg #[]],f 30,f 31,f 32,f 33,f 34,f 35,f 36,f 37,f 38,f 39,f 40,f 41,f 42,f 43,f 44,f 45,f 46,f 47,f 48],[]⟩ _;gi_wp2;gi_region
 all_goals gi_wp2
 all_goals exact⟨rfl,rfl,_,DW rfl (by simp),done _⟩
end
section
variable (bg:Bool) (NC NS b:Nat) (K0:KS) (v0:o_) (n m:Nat)
theorem oN {bg:Bool} {NC NS b:Nat} {K0:KS} {v0:o_} {n:Nat} {told:n_} {v:o_} (h:SBl bg NC NS b K0 v0 n told v):∃cs ty p,v.heap[b]?=some (O_ cs ty)/\cs[7]?=some (a_ p)/\∀v',uF (S_ b) cs ty p v v'->SF bg NC NS b K0 v0 told v':=by
 obtain⟨j,K,r,H,g,G⟩:=h;refine⟨r.arr,128,r.P,(g.ka.ps b r g.ps).o,rfl,λv' ⟨m,q,s,t,u⟩=>?_⟩;have o:=g.ok.pr b r g.ps;obtain⟨a,C,e⟩:=WA ((r.P:Int)-2);have y:Keep (At b) v v':=⟨t,u,m,λk D E=>q k D E⟩;have F:v'.heap[b]?=some ({ r with A:=r.A,B:=r.B,P:=a }:PR).obj:=by
  refine s.trans ?_
  unfold Uy PR.obj
  rw[e]
  rfl
 obtain⟨A,B,P,Ag,w,x,z,d,c,k1,l⟩:=Dl.obj g.ka g.ps o o.A o.B C y F;have f:=g.ok.like (r':={ r with A:=A,B:=B,P:=P,Ag:=Ag }) g.ps rfl rfl rfl rfl d rfl (Ok.ao0 o w x z d c);exact⟨j,_,_,g.next k1 f.1 f.2 l Am,λi=>by rw[G]at i;cases i⟩
def sH (hbg:bg=true->n=1) (hn:n<=1000):Q5 prog NF m (ptr K0.kb) (S_ b) (n:Nat) where
 I:=SI bg NC NS b K0 v0
 Cd:=SC bg NC NS b K0 v0 n
 Bd:=SB bg NC NS b K0 v0 n
 D:=SD bg NC NS b K0 v0 n
 E0:=SE0 bg NC NS b K0 v0 n
 E:=SE bg NC NS b K0 v0 n
 An:=SA bg NC NS b K0 v0 n
 Fin:=SF bg NC NS b K0 v0
 Dn:=SDn bg NC NS b K0 v0 n
 Db:=SDb bg NC NS b K0 v0 n
 Bc:=λ_=>SBc bg NC NS b K0 v0 n
 Bl:=λ_=>SBl bg NC NS b K0 v0 n
 tDn:=λ_ _ _ _ v τ d h=>h.no (CU v τ d)
 tDb:=λ_ _ _ _ v τ d h=>h.no (CU v τ d)
 tBc:=λ_ _ _ v τ d h=>h.no (CU v τ d)
 tBl:=λ_ _ v τ d h=>h.no (CU v τ d)
 tI:=λ_ _ v τ d h=>h.no (CU v τ d)
 tC:=λ_ _ _ v τ d h=>h.no (CU v τ d)
 tB:=λ_ v τ d h=>h.no (CU v τ d)
 tD:=λ_ _ _ _ v τ d h=>h.no (CU v τ d)
 tE0:=λ_ _ _ v τ d h=>h.no (CU v τ d)
 tE:=λ_ _ _ v τ d h=>h.no (CU v τ d)
 tA:=λ_ _ _ v τ d h=>h.no (CU v τ d)
 tF:=λ_ v τ d h=>h.no (CU v τ d)
 step:=λ_ _ _ v _ h _ hi τ d=>pJ hbg (h.no (CU v τ d)) hi
 serve:=λ_ _ _ _ v _ h τ d=>jD (h.no (CU v τ d))
 asked:=λ_ _ _ _ _ v _ h τ d=>jH (h.no (CU v τ d))
 tells:=λ_ _ _ _ _ v _ h τ d=>jC (h.no (CU v τ d)) hn
 ended:=λ_ _ _ _ v _ h τ d=>jE (h.no (CU v τ d))
 answer:=λ_ _ _ _ ⟨j,D5,K,r,res,wr,h1,h2,h3,h4,h5,h6,h7,h8⟩=>⟨a_ res,a_ wr,.nilFunc,⟨by rw[Af h7.blk];rfl,by rw[Af h7.blk];rfl,by rw[Af h7.blk];rfl,trivial⟩,j,D5,K,r,res,wr,h1,h2,h3,h4,h5,h6,h7.res,h7.wr,rfl,h8⟩
 grow:=λ_ _ _ _ _ h hg=>h.no (XG hg)
 iU:=λq1 q3 _ _ A v _ h _ _ τ d=>XP q1 q3 A (h.no (CU v τ d))
 bad:=λ_ _ v _ h τ d=>wU hn (h.no (CU v τ d))
 spent:=λtold v ⟨j,D5,K,r,h1,_,h3,_,_,h6⟩=>⟨D5,K,r,h3,λhb=>h6.2 (by have:=hbg hb;omega) hb⟩
 blocks:=λ_ _ _ _ _ v _ h τ d=>aY (h.no (CU v τ d))
 blocked:=λ_ _ _ _ ⟨h,res,wr,fn,ca,cb,hb⟩=>⟨res,wr,fn,ca,cb,⟨by rw[Af hb];rfl,by rw[Af hb];rfl,by rw[Af hb];rfl,trivial⟩,h⟩
 ap4:=λ_ _ _ h=>oN h
def av5 (hbg:bg=true->n=1) (hn:n<=1000):uG (sH bg NC NS b K0 v0 n m hbg hn) where
 B0:=SI bg NC NS b K0 v0 0 CY
 B2:=SI bg NC NS b K0 v0 0 CY
 B3:=SI bg NC NS b K0 v0 0 CY
 t2:=λv τ d h=>h.no (CU v τ d)
 t3:=λv τ d h=>h.no (CU v τ d)
 bring:=λv _ h τ d=>jG (h.no (CU v τ d)) _
 clear:=λv _ h τ d=>jF (h.no (CU v τ d)) _
 start:=λ_ _ h hg=>h.no (XG hg)
end
def Fe (T:j_) (k:IntKind) (w:o_) (b n:Nat) (f:Nat->Int):Prop:=∃cs,w.heap[b]?=some (O_ cs T)/\cs.size=n/\∀i,i<n->cs[i]?=some (.int k (f i))
theorem Fe.row {T:j_} {k:IntKind} {w:o_} {b n:Nat} {f:Nat->Int} (h:Fe T k w b n f):Row k w b n f:=let ⟨cs,h1,h2,h3⟩:=h;⟨cs,T,h1,h2,h3⟩
theorem Fe.keep {T:j_} {k:IntKind} {w w':o_} {b n:Nat} {f:Nat->Int} {S:Nat->Prop} (h:Fe T k w b n f) (hK:Keep S w w') (hn:¬S b):Fe T k w' b n f:=let ⟨cs,h1,h2,h3⟩:=h;⟨cs,hK.old h1 hn,h2,h3⟩
theorem Fe.cell {T:j_} {k:IntKind} {w:o_} {b n:Nat} {f:Nat->Int} (h:Fe T k w b n f) {i:Nat} (hi:i<n):w.cell? (T_ b i)=some (.int k (f i)):=h.row.cell hi
def Words (n:Nat) (f:Nat->Int):Prop:=∀i,i<n->0<=f i/\f i<=65535
def dJ (n:Nat) (f:Nat->Int) (e:Ending):Prop:=∃r:Bool,e=.returned (.bool r)/\(r=true ↔ Words n f)
theorem dJ.yes {n:Nat} {f:Nat->Int} (h:Words n f):dJ n f (.returned (.bool true)):=⟨true,rfl,by simpa using h⟩
theorem dJ.no {n:Nat} {f:Nat->Int} (h:¬Words n f):dJ n f (.returned (.bool false)):=⟨false,rfl,by simpa using h⟩
section
variable (m:Nat) (w:o_)
theorem Fe.set {T:j_} {k:IntKind} {w:o_} {b n:Nat} {f:Nat->Int} (h:Fe T k w b n f) (i:Nat) (x:Int):Fe T k (w.setCell (T_ b i) (.int k x)) b n (upd f i x):=by
 obtain⟨l,d,a,g⟩:=h;refine⟨_,Ah d _,by simpa using a,λj c=>?_⟩;rw[Array.getElem?_setIfInBounds];by_cases e:i=j
 .subst e;simp[upd,a,c]
 .rw[if_neg e,g j c];simp[upd,Ne.symm e]
theorem Fe.ext {T:j_} {k:IntKind} {w:o_} {b n:Nat} {f g:Nat->Int} (h:Fe T k w b n f) (e:∀i,i<n->f i=g i):Fe T k w b n g:=by
 obtain⟨c,d,j,l⟩:=h;exact⟨c,d,j,λi a=>by rw[l i a,e i a]⟩
theorem Fe.fz {T:j_} {k:IntKind} {w:o_} {b n:Nat} {f:Nat->Int} (h:Fe T k w b n f) (i:Nat):w.frozen? (T_ b i)=false:=h.row.fz i
theorem WQ (n:Nat):Fe 3 .i64 (w.alloc (.cells (madeCells #[b_ 0] n) 3)) w.heap.size n (λ_=>0):=by
 refine⟨madeCells #[b_ 0] n,heap_alloc_new rfl,by simp[madeCells],λi a=>?_⟩;simp[madeCells,a,Nat.mod_one]
theorem Keep.an7 {S:Nat->Prop} {a w:o_} (h:Keep S a w) {g:Nat} (cs:X_) (hp:g<a.heap.size->S g):Keep S a (w.setRow g cs):=
 ⟨h.os,h.output,by rw[setRow_size];exact h.size,λk b c=>(setRow_other w g k cs (λe=>c (e ▸ hp (e ▸ b)))).trans (h.block k b c)⟩
theorem RU (n:Nat):Fe 123 .u16 (w.alloc (.cells (madeCells #[a_ 0] n) 123)) w.heap.size n (λ_=>0):=by
 refine⟨madeCells #[a_ 0] n,heap_alloc_new rfl,by simp[madeCells],λi a=>?_⟩;simp[madeCells,a,Nat.mod_one]
theorem aG (ib L:Nat) (Ag:Nat->Nat) (c:Nat) (h:∀i,i<L->w.cell? (T_ ib i)=some (a_ (Ag i))) (hw:∀i,i<L->Ag i<65536) (hL:L<=128):P_ m 101 #[Q_ ib L c] w λe w'=>Keep No w w'/\e=.returned (Q_ w.heap.size L L)/\Fe 3 .i64 w' w.heap.size L (λi=>Ag i):=by
 obtain⟨t,b,n,o,p⟩:=info_parts info3;have a:=run_make (P:=prog) w 22 3 t (b_ 0) underlying22 b n .i64 .i64 L L (by omega) (by omega) (by rw[p];omega) (by omega);rw[o]at a;simp only[Int.toNat_natCast,Nat.mul_one,Value.cells]at a;have r0:=WQ w L;have q:Keep No w (w.alloc (.cells (madeCells #[b_ 0] L) 3)):=(p_ _ _).alloc _;generalize w.alloc (.cells (madeCells #[b_ 0] L) 3)=w1 at*;gi_enter func101,ntmps101;gi_wp2;gi_loopw [11] (λi wr=>∃k:Nat,k<=L/\i=b_ k/\Keep No w wr/\Fe 3 .i64 wr w.heap.size L (λi=>if i<k then(Ag i:Int)else 0)) (λi _=>L-(intOf i).toNat)
 case atStart=>exact⟨0,by omega,rfl,q,r0.ext (λi _=>by simp)⟩
 case round=>
  obtain⟨k,u,rfl,KK,g⟩:=hrel
  by_cases j:k<L
  .have r:=hw k j;have d:=KK.has (h k j);have e:=g.cell j;have f:=g.fz k;gi_wp2;go_roundw
   case rel=>
    refine⟨k+1,by omega,by go_num,KK.setCell _ (λs=>absurd s (Nat.lt_irrefl _)),(g.set k (Ag k)).ext (λi b=>?_)⟩
    show(if i=k then(Ag k:Int)else if i<k then(Ag i:Int)else 0)=if i<k+1 then(Ag i:Int)else 0
    by_cases l:i=k
    .subst l;rw[if_pos rfl,if_pos (by omega)]
    .by_cases c2:i<k
     .rw[if_neg l,if_pos c2,if_pos (by omega)]
     .rw[if_neg l,if_neg c2,if_neg (by omega)]
   case measure=>simp[intOf];omega
  .obtain rfl:k=L:=(by omega);gi_wp2;go_ret;exact⟨KK,by simp,g.ext (λi b=>by simp[b])⟩
theorem nV:P_ m 101 #[.slice none 0 0] w λe w'=>Keep No w w'/\e=.returned (Q_ w.heap.size 0 0):=by
 obtain⟨h,g,b,c,d⟩:=info_parts info3;have a:=run_make (P:=prog) w 22 3 h (b_ 0) underlying22 g b .i64 .i64 0 0 (by omega) (by omega) (by rw[d];omega) (by omega);rw[c]at a;have a:(Instr.makeSlice 22 (b_ 0) (b_ 0)).run prog w=.ok (Q_ w.heap.size 0 0) (w.alloc (.cells (madeCells #[b_ 0] 0) 3)):=a;have f:Keep No w (w.alloc (.cells (madeCells #[b_ 0] 0) 3)):=(p_ _ _).alloc _;gi_enter func101,ntmps101;gi_wp2;refine wpIn_loop_once ?_;gi_wp2;go_ret;exact⟨f,by simp⟩
theorem Ug (v:n_) (n:Nat) (f:Nat->Int) (h:SlI w v n f):P_ m 87 #[v] w λe w'=>dJ n f e/\w'=w:=by
 obtain⟨A,s,c,rfl,p⟩:=h;by_cases q:n=0
 .subst q;gi_enter func87,ntmps87;gi_wp2;refine wpIn_loop_once ?_;gi_wp2;go_ret;exact⟨dJ.yes (λi d=>absurd d (by omega)),rfl⟩
 .obtain⟨b,o,rfl,t⟩:=p (by omega);clear p;gi_enter func87,ntmps87;gi_wp2;gi_loopw [7] (λi wr=>wr=w/\∃k:Nat,k<=n/\i=b_ k/\Words k f) (λi _=>n-(intOf i).toNat)
  case atStart=>exact⟨rfl,0,Nat.zero_le _,rfl,λi d=>absurd d (by omega)⟩
  case round=>
   obtain⟨u,k,z,rfl,l⟩:=hrel
   subst u
   by_cases g:k<n
   .have y:=t k g;have a:wrap64 (IntKind.u16.wrap (f k))=f k % 65536:=(by rw[wrap_u16];unfold wrap64;omega);by_cases j:f k % 65536=f k
    .have r:(f k !=wrap64 (IntKind.u16.wrap (f k)))=false:=(by rw[a,j];simp);gi_wp2;go_roundw
     case rel=>
      refine⟨trivial,k+1,by omega,by go_num,λi d=>?_⟩
      by_cases e:i=k
      .subst e;omega
      .exact l i (by omega)
     case measure=>simp[intOf];omega
    .have r:(f k !=wrap64 (IntKind.u16.wrap (f k)))=true:=by rw[a];simp only[bne_iff_ne,ne_eq];exact λe=>j e.symm
     gi_wp2;go_ret;exact⟨dJ.no (λx=>by have:=x k g;omega),rfl⟩
   .obtain rfl:k=n:=(by omega);gi_wp2;go_ret;exact⟨dJ.yes l,rfl⟩
theorem Yj (b o L c:Nat) (Ag:Nat->Nat) (hc:∀i,i<L->w.cell? (T_ b (o+i))=some (b_ (Ag i))) (hw:∀i,i<L->Ag i<65536) (hL1:1<=L) (hL:L<=128):P_ m 45 #[.slice (some (T_ b o)) L c] w λe w'=>Keep No w w'/\e=.returned (Q_ w.heap.size L L)/\Fe 123 .u16 w' w.heap.size L (λi=>Ag i):=by
 obtain⟨v,g,n,p,q⟩:=info_parts SX;have a:=run_make (P:=prog) w 116 123 v (a_ 0) underlying116 g n .i64 .i64 L L (by omega) (by omega) (by rw[q];omega) (by omega);rw[p]at a;simp only[Int.toNat_natCast,Nat.mul_one,Value.cells]at a;have r0:=RU w L;have r:Keep No w (w.alloc (.cells (madeCells #[a_ 0] L) 123)):=(p_ _ _).alloc _;generalize w.alloc (.cells (madeCells #[a_ 0] L) 123)=w1 at*;gi_enter func45,ntmps45;gi_wp2;gi_loopw [11] (λi wr=>∃k:Nat,k<=L/\i=b_ k/\Keep No w wr/\Fe 123 .u16 wr w.heap.size L (λi=>if i<k then(Ag i:Int)else 0)) (λi _=>L-(intOf i).toNat)
 case atStart=>exact⟨0,by omega,rfl,r,r0.ext (λi _=>by simp)⟩
 case round=>
  obtain⟨k,x,rfl,KK,h⟩:=hrel
  by_cases j:k<L
  .have s:=hw k j;have t:(Ag k:Int) % 65536=Ag k:=(by omega);have d:=KK.has (hc k j);have e:=h.cell j;have f:=h.fz k;gi_wp2;go_roundw
   case rel=>
    refine⟨k+1,by omega,by go_num,KK.setCell _ (λu=>absurd u (Nat.lt_irrefl _)),(h.set k (Ag k)).ext (λi g=>?_)⟩
    show(if i=k then(Ag k:Int)else if i<k then(Ag i:Int)else 0)=if i<k+1 then(Ag i:Int)else 0
    by_cases l:i=k
    .subst l;rw[if_pos rfl,if_pos (by omega)]
    .by_cases c2:i<k
     .rw[if_neg l,if_pos c2,if_pos (by omega)]
     .rw[if_neg l,if_neg c2,if_neg (by omega)]
   case measure=>simp[intOf];omega
  .obtain rfl:k=L:=(by omega);gi_wp2;go_ret;exact⟨KK,by simp,h.ext (λi g=>by simp[g])⟩
theorem iZ (s:d_ f_) (c:Nat):P_ m 45 #[.slice s 0 c] w λe w'=>Keep No w w'/\e=.returned (Q_ w.heap.size 0 0)/\Fe 123 .u16 w' w.heap.size 0 (λ_=>0):=by
 obtain⟨i,h,b,d,f⟩:=info_parts SX;have a:=run_make (P:=prog) w 116 123 i (a_ 0) underlying116 h b .i64 .i64 0 0 (by omega) (by omega) (by rw[f];omega) (by omega);rw[d]at a;have a:(Instr.makeSlice 116 (b_ 0) (b_ 0)).run prog w=.ok (Q_ w.heap.size 0 0) (w.alloc (.cells (madeCells #[a_ 0] 0) 123)):=a;have r0:=RU w 0;have g:Keep No w (w.alloc (.cells (madeCells #[a_ 0] 0) 123)):=(p_ _ _).alloc _;gi_enter func45,ntmps45;gi_wp2;refine wpIn_loop_once ?_;gi_wp2;go_ret;exact⟨g,by simp,r0⟩
def padded (n:Nat) (Ag:Nat->Nat) (i:Nat):Nat:=if i<n then Ag i else 0
theorem Yy (ab n nb N8:Nat) (Ag:Nat->Nat) (h:Fe 123 .u16 w ab n (λi=>Ag i)) (h8:8*nb=N8) (hn:n<=N8) (hb:N8<=128):P_ m 47 #[Q_ ab n n,b_ nb] w λe w'=>Keep No w w'/\e=.returned (Q_ w.heap.size N8 N8)/\Fe 123 .u16 w' w.heap.size N8 (λi=>padded n Ag i):=by
 obtain⟨z,l,r,k,s⟩:=info_parts SX;have d:=run_make (P:=prog) w 116 123 z (a_ 0) underlying116 l r .i64 .i64 N8 N8 (by omega) (by omega) (by rw[s];omega) (by omega);rw[k]at d;simp only[Int.toNat_natCast,Nat.mul_one,Value.cells]at d;have r0:=RU w N8;have t:Keep No w (w.alloc (.cells (madeCells #[a_ 0] N8) 123)):=(p_ _ _).alloc _;generalize w.alloc (.cells (madeCells #[a_ 0] N8) 123)=w1 at*;have x:=h.keep t id;have B:(nb:Int)*8=N8:=by omega
 obtain⟨a,q1,C,A⟩:=r0;have f:∀j v,((List.range n).map λi=>Value.int .u16 (Ag i))[j]?=some v->w1.cell? (((S_ ab):f_).add j)=some v:=λj v q=>by
  have c:j<n:=by
   obtain h|h:=Nat.lt_or_ge j n
   .exact h
   .rw[List.getElem?_eq_none (by simpa using h)]at q;cases q
  rw[Addr.add_lit,Nat.zero_add,x.cell c,<-q];simp[c]
 have o:=run_copy_row (P:=prog) w1 116 116 3 123 w.heap.size 0 N8 N8 (S_ ab) n n a 123 ((List.range n).map λi=>Value.int .u16 (Ag i)) underlying116 (by simp[l,k]) q1 (by simp;exact(Nat.min_eq_left hn).symm) f (by simp;omega) (by simp[Value.oneCell']);have p:=setRow_heap w1 w.heap.size a (a.toList.take 0++((List.range n).map λi=>Value.int .u16 (Ag i))++a.toList.drop (0+((List.range n).map λi=>Value.int .u16 (Ag i)).length)).toArray 123 (0,0) q1;have u:=t.an7 (g:=w.heap.size) (a.toList.take 0++((List.range n).map λi=>Value.int .u16 (Ag i))++a.toList.drop (0+((List.range n).map λi=>Value.int .u16 (Ag i)).length)).toArray (λy=>absurd y (Nat.lt_irrefl _));generalize w1.setRow w.heap.size _=w2 at*;gi_enter func47,ntmps47;gi_wp2_with (refine MC rfl (.tmp 9) (.tmp 10) _ rfl rfl rfl o ?_);go_ret;refine⟨u,by simp,_,p,by simp;omega,λi l=>?_⟩;by_cases b:i<n
 .simp[padded,b,List.getElem?_append_left]
 .have:=A i l;rw[<-Array.getElem?_toList]at this;simp[padded,b,List.getElem?_append_right (show((List.range n).map λi=>Value.int .u16 (Ag i)).length<=i by simp;omega)];rw[show n+(i-n)=i by omega];simpa using this
theorem pW (N:Nat) (h1:1<=N):P_ m 42 #[b_ N] w λe w'=>Keep No w w'/\∃cb,w.heap.size<=cb/\e=.returned (.agg #[Q_ cb 1 1])/\w'.heap[cb]?=some (O_ #[b_ 0,b_ N] 186):=by
 gi_enter func42,ntmps42;gi_wp2;have a:((w.alloc (.cells #[Q_ (w.heap.size+1) 1 1] 92)).alloc (.cells #[b_ 0,b_ N] 186)).cell? (S_ w.heap.size)=some (Q_ (w.heap.size+1) 1 1):=by
  rw[Af ((heap_alloc_old (by simp)).trans (heap_alloc_new rfl))];rfl
 refine bodyPost_ret (v:=.agg #[Q_ (w.heap.size+1) 1 1]) (by simp[results,results42,go_sem,a]) rfl ?_;exact⟨((p_ No w).alloc _).alloc _,w.heap.size+1,by omega,rfl,heap_alloc_new (by simp)⟩
theorem pU (N:Nat) (h1:1<=N):P_ m 43 #[b_ N] w λe w'=>Keep No w w'/\∃cb,w.heap.size<=cb/\e=.returned (.agg #[Q_ cb 1 1])/\w'.heap[cb]?=some (O_ #[b_ 0,b_ N] 188):=by
 gi_enter func43,ntmps43;gi_wp2;have a:((w.alloc (.cells #[Q_ (w.heap.size+1) 1 1] 97)).alloc (.cells #[b_ 0,b_ N] 188)).cell? (S_ w.heap.size)=some (Q_ (w.heap.size+1) 1 1):=by
  rw[Af ((heap_alloc_old (by simp)).trans (heap_alloc_new rfl))];rfl
 refine bodyPost_ret (v:=.agg #[Q_ (w.heap.size+1) 1 1]) (by simp[results,results43,go_sem,a]) rfl ?_;exact⟨((p_ No w).alloc _).alloc _,w.heap.size+1,by omega,rfl,heap_alloc_new (by simp)⟩
theorem xn:P_ m 90 #[.int .u64 1,.int .u64 6] w λe w'=>e=.returned (.tuple #[.int .u64 0,.int .u64 6])/\w'=w:=by
 gi_enter func90,ntmps90;gi_wp2;refine bodyPost_ret (v:=.tuple #[.int .u64 0,.int .u64 6]) (by kernel_rfl) rfl ?_;exact⟨rfl,rfl⟩
end
def pre6 (k:Nat) (i:Nat):Int:=if i<k then -1 else 0
theorem fP {W:o_} {fb k c d n cap sb so:Nat} (h:Fe 3 .i64 W fb 6 (pre6 k)) (hk:k<=6) (hd:6-k=d) (hc:Nat.min n d=c) (hs:∀j,j<c->W.cell? (T_ sb (so+j))=some (b_ (-1))):∃W',(Builtin.copy_ #[22,22] 3 #[.slice (some (T_ fb k)) d d,.slice (some (T_ sb so)) n cap]).run prog W=.ok (b_ c) W'/\Keep (At fb) W W'/\Fe 3 .i64 W' fb 6 (pre6 (k+c)):=by
 obtain⟨u,l,r,o,s⟩:=info_parts info3;obtain⟨f,q1,w,t⟩:=id h;have p:c<=d:=by rw[<-hc];exact Nat.min_le_right _ _
 have b:∀j v,(List.replicate c (Value.int .i64 (-1)))[j]?=some v->W.cell? (((T_ sb so):f_).add j)=some v:=λj v m=>by
  have a:j<c:=by
   obtain h|h:=Nat.lt_or_ge j c
   .exact h
   .rw[List.getElem?_eq_none (by simpa using h)]at m;cases m
  rw[Addr.add_lit,hs j a,<-m,List.getElem?_replicate_of_lt a]
 have g:=run_copy_row (P:=prog) W 22 22 3 3 fb k d d (T_ sb so) n cap f 3 (List.replicate c (Value.int .i64 (-1))) underlying22 (by simp[l,o]) q1 (by simp[hc]) b (by simp;omega) (by simp[Value.oneCell']);refine⟨_,by simpa [goInt]using g,(p_ _ W).an7 _ (λ_=>rfl),_,setRow_heap W fb f _ 3 (0,0) q1,by simp;omega,λi l=>?_⟩;have q:=t i l;rw[<-Array.getElem?_toList]at q;simp only[List.getElem?_toArray,pre6];by_cases e:i<k
 .rw[List.getElem?_append_left (by simp;omega),List.getElem?_take_of_lt e,q];have c2:i<k+c:=by omega
  simp[pre6,e,c2]
 .by_cases c2:i<k+c
  .rw[List.getElem?_append_right (by simp;omega),List.getElem?_append_left (by simp;omega),List.getElem?_replicate_of_lt (by simp;omega)];simp[c2]
  .rw[List.getElem?_append_right (by simp;omega),List.getElem?_append_right (by simp;omega),List.getElem?_drop];rw[show k+c+(i-(List.take k f.toList).length-(List.replicate c (Value.int .i64 (-1))).length)=i by simp;omega,q];simp[pre6,e,c2]
section
variable (m:Nat) (w:o_)
def bo7 (g k c:Nat) (v:n_) (W:o_):Prop:=v=b_ c/\Fe 3 .i64 W g 6 (pre6 (k+c))
theorem aW (vb:Nat) (hv:w.heap[vb]?=some (O_ #[b_ (-1)] 3)):P_ m 49 #[Q_ vb 1 1,b_ 6] w λe w'=>Keep No w w'/\e=.returned (Q_ w.heap.size 6 6)/\Fe 3 .i64 w' w.heap.size 6 (λ_=>-1):=by
 obtain⟨Q,h,t,v,y⟩:=info_parts info3;have b:=run_make (P:=prog) w 22 3 Q (b_ 0) underlying22 h t .i64 .i64 6 6 (by omega) (by omega) (by rw[y];omega) (by omega);rw[v]at b;have b:(Instr.makeSlice 22 (b_ 6) (b_ 6)).run prog w=.ok (Q_ w.heap.size 6 6) (w.alloc (.cells (madeCells #[b_ 0] 6) 3)):=b;have r0:=(WQ w 6).ext (g:=pre6 0) (λi _=>by simp[pre6]);have z:Keep No w (w.alloc (.cells (madeCells #[b_ 0] 6) 3)):=(p_ _ _).alloc _;have r:=z.old hv id;have q:∀j,j<1->(w.alloc (.cells (madeCells #[b_ 0] 6) 3)).cell? (T_ vb (0+j))=some (b_ (-1)):=λj E=>by
  obtain rfl:j=0:=by omega
  rw[Af r];rfl
 obtain⟨w2,a,J,R⟩:=fP (c:=1) (d:=6) (n:=1) (cap:=1) (sb:=vb) (so:=0) r0 (by omega) rfl rfl q;have K02:Keep No w w2:=z.trans J (λk F e=>absurd (show k=w.heap.size from e) (by omega));gi_enter func49,ntmps49;gi_wp2_with (first|(gi_at_call 90;refine(xn _ w).mono ?_;rintro e w2 ⟨rfl,s⟩;have s:=s.symm;subst s)|(refine MC rfl (.tmp 31) (.tmp 32) _ rfl rfl rfl a ?_));gi_loopw [8] (λi wr=>∃k:Nat,(k=1\/k=2\/k=4\/k=6)/\i=b_ k/\Keep No w wr/\Fe 3 .i64 wr w.heap.size 6 (pre6 k)) (λi _=>6-(intOf i).toNat)
 case atStart=>exact⟨1,.inl rfl,rfl,K02,R⟩
 case round=>
  obtain⟨k,F,rfl,KK,H⟩:=hrel
  by_cases B:k=6
  .subst B;gi_wp2;go_ret;exact⟨KK,by simp,H.ext (λi h=>by simp[pre6,h])⟩
  obtain⟨d,c,O,N,D,C⟩:∃d c,(k+c=2\/k+c=4\/k+c=6)/\1<=c/\6-k=d/\Nat.min k d=c:=by
   obtain rfl|rfl|rfl|rfl:=F
   .exact⟨5,1,by omega,by omega,rfl,rfl⟩
   .exact⟨4,2,by omega,by omega,rfl,rfl⟩
   .exact⟨2,2,by omega,by omega,rfl,rfl⟩
   .exact absurd rfl B
  have T:k<6:=by omega
  have I:d=6-k:=D.symm;have G:(k:Int)<6:=by omega
  have l:Fe 3 .i64 wr.drew w.heap.size 6 (pre6 k):=H;obtain⟨V,a,KC,S⟩:=fP (c:=c) (d:=d) (n:=k) (cap:=6) (sb:=w.heap.size) (so:=0) l (by omega) D C (λj E=>by
   have p:j<k:=Nat.lt_of_lt_of_le E (by rw[<-C];exact Nat.min_le_left _ _)
   rw[Nat.zero_add,l.cell (by omega)]
   simp[pre6,p]);gi_wp2;refine CV (P:=prog) _ rfl rfl (by kernel_rfl) 8 48 [0,1,2,3,4,5,6] [7] (by kernel_rfl) (by rfl)
   (NG (Go.Fxa.At w.heap.size) wr.drew 7 (bo7 w.heap.size k c) []) (FU (by simp) (by simp)) _ _ rfl rfl ?_;subst I;gi_wp2;refine⟨rfl,by kernel_rfl,Ef,?_,?_,?_⟩
  .intro A u W f
   repeat' (refine Ae ?_ ?_)
   all_goals first|exact trivial|gi_wp2
  .intro i h A u W f o X;obtain rfl:i=7:=(by simpa using h);obtain rfl:=f.2.1 o;refine Bh rfl λKK U=>?_
   show wpListIn NF m prog _ _ _ (Act.put _ (some 45) (u 7)) _;gi_wp2_with (refine MC rfl (.tmp 41) (.tmp 44) _ rfl rfl rfl a ?_);exact⟨_,rfl,FV f (by simp) KC ⟨rfl,S⟩⟩
  .intro A u W f M;obtain⟨K,L⟩:=f.2.2.1 (M 7 (by simp));show wpListIn NF m prog _ _ _ (Act.put _ (some 45) (u 7)) _;rw[K];gi_wp2;go_roundw
   case rel=>exact⟨k+c,by omega,by rw[Int.natCast_add],(KK.drew.trans f.1 (λx Y e=>absurd (show x=w.heap.size from e) (by omega))),L⟩
   case measure=>simp[intOf];omega
end
end Go.Fxa
