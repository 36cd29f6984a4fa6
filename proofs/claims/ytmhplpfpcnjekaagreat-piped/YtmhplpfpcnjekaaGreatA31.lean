/- A process of many goes on: the -/
import Derived.Test.YtmhplpfpcnjekaaGreatA30
import Derived.Maps.OwnIn
namespace Go.Fxa
open Conc Proofs RowKit Proofs.Tryz
set_option maxRecDepth 1000000
set_option maxHeartbeats 0
def ba9 (P:l_):Code:=match gA P with | .seq (.seq _ (.seq c _)) _=>c|_=>.skip
theorem ay2:R10 prog=ba9 prog:=by kernel_rfl
def ba6 (P:l_):Code:=match gA P with | .seq (.seq _ (.seq _ (.seq _ (.seq c _)))) _=>c|_=>.skip
theorem ax9:R15 prog=ba6 prog:=by kernel_rfl
def ba4 (P:l_):Code:=match gA P with | .seq _ (.cond _ (.seq _ (.seq (.seq _ (.cond _ c _)) _)) _)=>c|_=>.skip
theorem ax7:Ϻ prog=ba4 prog:=by kernel_rfl
def ao1 (P:l_):Code:=match Gj P 187 with | .seq _ (.seq _ (.seq _ (.seq _ (.block _ (.cond _ c _)))))=>c|_=>.skip
theorem al7:XT prog=ao1 prog:=by kernel_rfl
theorem zC:(prog.info? 59).map (λi=>(i.zero,i.size,i.bytes))=some (some (.agg #[b_ 0,b_ 0,b_ 0,b_ 0]),4,32):=by kernel_rfl
section
variable {NC NS b:Nat} {K0:KS} {v0:o_} {n:Nat} {m:Nat} {w:o_} {q:Nat} {i:Int} {told x:n_} {bA:Nat} {f:Nat->n_} {K:KS} {r:PR} {BA:List Ev} {v v':o_}
theorem O8.keep {base:Nat} {T:Tag} {S:Nat->Prop} (h:O8 base T told v BA) (hK:Keep S v v') (hS:∀g,told.ownBlock=some g->¬S g):O8 base T told v' BA:=by
 obtain⟨⟨f,e⟩,i⟩:=h;refine⟨⟨f,?_⟩,i⟩;obtain e|⟨g,cap,a,rfl,b,c,d⟩:=e
 .exact .inl e
 .exact .inr ⟨g,cap,a,rfl,b,hK.old c (hS g rfl),d⟩
theorem UI.box {rb:Nat} (h:UI NC NS b K0 v0 BA told v K r) (hK:Keep (At rb) v v') (hr:K.T rb=(0,0)) (h0:v0.heap.size<=rb) (ht:∀g,told.ownBlock=some g->g≠rb):UI NC NS b K0 v0 BA told v' K r:=
 ⟨h.ka.own hK hr,h.ok,h.rel,h.mv.own hK (λk e=>by rw[show k=rb from e];exact h0),h.told.keep hK (λg a e=>ht g a e),h.ps,h.z⟩
theorem UI.push {ev:Ev} {BM:n_} (h:UI NC NS b K0 v0 BA told v K r) (Jp:v'.ownsRow v0.heap.size 59 4 BM (BA.length+1) (VR BA++xw ev)) (DK:v.grownBy v' told.ownBlock) (hat:BM.ownBlock=told.ownBlock\/BM.ownBlock=some v.heap.size):UI NC NS b K0 v0 (BA++[ev]) BM v' K r:=by
 have a:Keep (λk=>told.ownBlock=some k) v v':=Gw DK (λk d _=>d);refine⟨h.ka.keep (a.on λk _ e=>h.told.no k e) λk d=>h.ka.lt k (Nat.le_trans a.size d),h.ok,h.rel,h.mv.own a (λk e=>(h.told.row.lt k e).1),⟨?_,λg c=>?_⟩,h.ps,h.z⟩
 .rw[fA];simpa [VR]using Jp
 .obtain e|e:=hat
  .exact h.told.no g (by rw[<-e];exact c)
  .rw[e]at c;cases c;exact h.ka.lt _ (w_ _)
theorem zI {w:o_} {k:Nat} {ev:Ev} (h:w.heap[k]?=some (O_ #[b_ ev.1,b_ ev.2.1,b_ ev.2.2.1,b_ ev.2.2.2] 59)):∀j u,(xw ev)[j]?=some u->w.cell? (((S_ k):f_).add j)=some u:=by
 intro j u a;have b:((S_ k):f_).add j=(T_ k j):=by rw[Addr.add_lit,Nat.zero_add]
 rw[b];refine(Af h j).trans ?_
 match j,a with
 |0,a=>simpa [xw]using a
 |1,a=>simpa [xw]using a
 |2,a=>simpa [xw]using a
 |3,a=>simpa [xw]using a
theorem iw (Ϧ:NR NC NS b K0 n) (h:SC NC NS b K0 v0 n i told x w):(R10 prog).wpIn NF m prog (Ends λtm w'=>∃f' bA,tm=TN 76 (AL f' (Vu (ptr K0.kb) (S_ b) told q x bA))/\SD NC NS b K0 v0 n i told x bA w') ⟨TN 76 (AL f (slX (ptr K0.kb) (S_ b) told q x)),[]⟩ w:=by
 obtain⟨j,u,K,r,call,rfl,D,rfl,P,g,U,S,E⟩:=h;have a:=λm=>Ϧ m w j u K r call D E g.ka g.ok S g.ps U
 rw[g.rel.kb]at a;rw[ay2];unfold ba9 gA;rw[PK];dsimp only[Tryz.f56,Option.getD];show Code.wpIn (Fence.list LF none) m prog _ _ ⟨QH f (ptr K0.kb) (R_ b) (f 2) told (pr q) (a_ (call:Nat)) (f 10),[]⟩ _;unfold QH ptr;gi_wp2_with (first|(gi_at_call 96;refine(a _).mono ?_;rintro e w1 ⟨v,c,wr,B,rfl,M,N,C,I,l,o,H,⟨V,G,p⟩,O⟩;obtain⟨W,F,A,J⟩:=AU (w:=w1.alloc V_) (rb:=w1.heap.size) (x:=c) (y:=wr) (f:=B) (heap_alloc_new rfl) C.one)|refine Io F ?_);have d:=g.next I l o H G;have z:Keep No w1 (w1.alloc V_):=(p_ _ _).alloc _;have s:v.T w1.heap.size=(0,0):=d.ka.lt _ (w_ _);have L:=(d.no z).box A s d.mv.keep.size (λg R e=>by have:=(d.told.row.lt g R).2;omega);exact⟨rfl,rfl,_,w1.heap.size,C9 rfl (by simp[Vu,pv,pr]),j,u,v,V,call,c,wr,B,rfl,D,rfl,P,L,p,⟨J,s,M,N⟩,(C.no z).keep (A.on (Q:=λt=>t=(0,0)) λk _ e=>by rw[show k=w1.heap.size from e];exact s) (by simp),K,r,E,O⟩
theorem iq (h:SDn NC NS b K0 v0 n i told x bA w) (hn:n<=1000):(R15 prog).wpIn NF m prog (Ends λtm w'=>∃f' BM,tm=TN 76 (AL f' (qo (ptr K0.kb) (S_ b) BM q bA))/\SE0 NC NS b K0 v0 n i BM bA w') ⟨TN 76 (AL f (Vu (ptr K0.kb) (S_ b) told q x bA)),[]⟩ w:=by
 obtain⟨j,d,K,r,call,a,wr,rfl,M,rfl,J,g,O,c,B⟩:=h;have T:d.length<=j:=by obtain⟨_,_,⟨_,_,⟨_,_,h⟩,_⟩,_⟩:=B;exact h.len
 obtain⟨P,L,s,u,v⟩:=info_parts zC;have z:=g.ka.JK g.ps 0;simp[PR.arr]at z;have R:w.cell? (S_ bA)=some (a_ a):=by rw[Af c.blk];rfl
 have S:w.cell? (T_ bA 1)=some (a_ wr):=by rw[Af c.blk];rfl
 have c2:w.cell? (T_ bA 2)=some .nilFunc:=by rw[Af c.blk];rfl
 rw[ax9];unfold ba6 gA;rw[PK];dsimp only[Tryz.f56,Option.getD];show Code.wpIn (Fence.list LF none) m prog _ _ ⟨QH f (ptr K0.kb) (R_ b) (f 2) told (pr q) (a_ (call:Nat)) (R_ bA),[]⟩ _;unfold QH ptr;gi_wp2_with fail;refine(sQ _ w b r.pid call a wr z J c.res c.wr).mono ?_;rintro e w1 ⟨D,rfl⟩;have o:Keep No w (w1.alloc (.cells #[b_ r.pid,b_ call,b_ a,b_ wr] 59)):=D.alloc _;have l:=g.no o;have F:(w1.alloc (.cells #[b_ r.pid,b_ call,b_ a,b_ wr] 59)).heap[w1.heap.size]?=some (O_ #[b_ ((r.pid,call,a,wr):Ev).1,b_ ((r.pid,call,a,wr):Ev).2.1,b_ ((r.pid,call,a,wr):Ev).2.2.1,b_ ((r.pid,call,a,wr):Ev).2.2.2] 59):=heap_alloc_new rfl;gi_wp2_with (gi_at_builtin;refine wpListIn_append_own_at _ rfl (.tmp 49) (.tmp 54) 43 rfl v0.heap.size 59 P (.agg #[b_ 0,b_ 0,b_ 0,b_ 0]) 4 32 underlying43 L s u v rfl (by decide) told d.length (VR d) rfl l.told.row (S_ w1.heap.size) 1 1 (xw (r.pid,call,a,wr)) rfl rfl (zI F) (by simp[xw,Value.oneCell']) (by unfold maxLen;omega) (by omega) (by have:=l.mv.keep.size;omega) ?_;intro Q w3 C y _ p);have H:=l.push C y p;have E:Keep (λk=>told.ownBlock=some k) (w1.alloc (.cells #[b_ r.pid,b_ call,b_ a,b_ wr] 59)) w3:=Gw y (λk N _=>N);refine⟨rfl,rfl,_,Q,C9 rfl (by simp[qo,pv,pr]),j,_,K,r,a,wr,rfl,M,H,O,⟨E.old (c.no o).blk λh=>?_,c.t,c.res,c.wr⟩,d,call,B,rfl⟩;obtain⟨rfl,_⟩|⟨I,cap,G,rfl,_,A,_⟩:=l.told.row.2
 .cases h
 .obtain rfl:I=bA:=x_ h;rw[(c.no o).blk]at A;cases A
theorem XS.bad {j call:Nat} {K':KS} {r':PR} (h:XS b K0 j BA 2 call K r) (hj:j<n) (hX:bn K b r 65535 K') (hb:K'.ps b=some r'):VT b n K0 (BA++[(r'.pid,1,65535,0)]) K':=by
 obtain⟨c,i,⟨a,d,e⟩,f,g,rfl⟩:=h;exact⟨a,d,.inr ⟨j,BA,_,c,hj,e,⟨i,2,call,r,f,g,.inl ⟨rfl,hX,r',hb,rfl⟩⟩,rfl⟩⟩
theorem uZ (hn:n<=1000) (h:SB NC NS b K0 v0 n told w):(Ϻ prog).wpIn NF m prog (Ends λtm w'=>∃f' BM,tm=TN 76 (AL f' [(7,BM)])/\SF NC NS b K0 v0 n BM w') ⟨TN 76 (AL f (Ϯ (ptr K0.kb) (S_ b) told q)),[]⟩ w:=by
 obtain⟨j,d,K,r,call,M,g,y,N,x⟩:=h;have Q:d.length<=j:=by obtain⟨_,_,⟨_,_,h⟩,_⟩:=x;exact h.len
 obtain⟨O,L,p,s,t⟩:=info_parts zC;have c:=λm=>zJ m w K NC NS b 65535 r g.ka g.ok N g.ps y (by omega)
 rw[g.rel.kb]at c;rw[ax7];unfold ba4 gA;rw[PK];dsimp only[Tryz.f56,Option.getD];show Code.wpIn (Fence.list LF none) m prog _ _ ⟨QH f (ptr K0.kb) (R_ b) (f 2) told (pr q) (f 9) (f 10),[]⟩ _;unfold QH ptr;gi_wp2_with fail;refine(c _).mono ?_;rintro e w1 ⟨rfl,B,G,H,I,E,⟨a,u,J⟩,l⟩;have i:=g.next G H I E u;have v:=i.ka.JK i.ps 0;simp[PR.arr]at v;gi_wp2_with fail;refine(sQ _ w1 b a.pid 1 65535 0 v (by decide) (by decide) (by decide)).mono ?_;rintro e w2 ⟨C,rfl⟩;have D:Keep No w1 (w2.alloc (.cells #[b_ a.pid,b_ (1:Nat),b_ (65535:Nat),b_ (0:Nat)] 59)):=C.alloc _;have k:=i.no D;have F:(w2.alloc (.cells #[b_ a.pid,b_ (1:Nat),b_ (65535:Nat),b_ (0:Nat)] 59)).heap[w2.heap.size]?=some (O_ #[b_ ((a.pid,1,65535,0):Ev).1,b_ ((a.pid,1,65535,0):Ev).2.1,b_ ((a.pid,1,65535,0):Ev).2.2.1,b_ ((a.pid,1,65535,0):Ev).2.2.2] 59):=heap_alloc_new rfl;gi_wp2_with (gi_at_builtin;refine wpListIn_append_own_at _ rfl (.tmp 67) (.tmp 73) 43 rfl v0.heap.size 59 O (.agg #[b_ 0,b_ 0,b_ 0,b_ 0]) 4 32 underlying43 L p s t rfl (by decide) told d.length (VR d) rfl k.told.row (S_ w2.heap.size) 1 1 (xw (a.pid,1,65535,0)) rfl rfl (zI F) (by simp[xw,Value.oneCell']) (by unfold maxLen;omega) (by omega) (by have:=k.mv.keep.size;omega) ?_;intro P w3 A z _ o);exact⟨rfl,rfl,_,P,C9 rfl (by simp),_,B,a,k.push A z o,x.bad M l u⟩
theorem ϛ (q1 q3:Nat) (A:n_):commResult (Gl q1 q3) .select 0 A true=.tuple #[b_ 0,.bool true,A,.agg #[]]:=by kernel_rfl
theorem aP {j res wr:Nat} {X:Obj} (hres:res<65536) (hwr:wr<65536) (g:UI NC NS b K0 v0 BA told w K r) (hn:r.en=false) (hm:b∈K.AV) (hx:XE b K0 j BA res wr K r):
  SI NC NS b K0 v0 ((j:Int)+1) told (((w.setCell (T_ b 5) (a_ res)).setCell (T_ b 6) (a_ wr)).alloc X).drew:=by
 have a:=g.ka.like (r':={ r with A:=res }) (i:=5) (v:=a_ (res:Nat)) g.ps ⟨rfl,rfl,rfl,rfl,rfl⟩ rfl (g.ka.ps b r g.ps).bl;have l:=g.ka.FI g.ps (i:=5) (v:=a_ (res:Nat));have c:=a.like (b:=b) (r:={ r with A:=res }) (r':={ r with A:=res,B:=wr }) (i:=6) (v:=a_ (wr:Nat)) Ah ⟨rfl,rfl,rfl,rfl,rfl⟩ rfl (a.ps b _ Ah).bl;have m:=a.FI (b:=b) (r:={ r with A:=res }) Ah (i:=6) (v:=a_ (wr:Nat));have o:=g.ok.pr b r g.ps;have d:=g.ok.like (r':={ r with A:=res,B:=wr }) g.ps rfl rfl rfl rfl rfl rfl ⟨hres,hwr,o.P,o.st,o.pid,o.par,o.Ae,o.fds,o.fd,o.len,o.off⟩;have e2:BX (BX K.ps b { r with A:=res }) b { r with A:=res,B:=wr }=BX K.ps b { r with A:=res,B:=wr }:=by
  funext k
  by_cases e:k=b
  .subst e;rw[Ah,Ah]
  .rw[Bg e,Bg e,Bg e]
 simp only[e2]at c;have n:=g.next (K':=K.AP b { r with A:=res,B:=wr }) c d.1 d.2 (l.trans m) Ah;obtain⟨e1,call,⟨u,rc,⟨h,t,⟨f,a,c⟩,p,q,rfl⟩,s⟩,rfl⟩:=hx;exact⟨j+1,_,_,_,by omega,n.no (((p_ No _).alloc X).drew),hn,hm,f,a,e1,_,h,c,⟨t,1,call,rc,p,q,.inr ⟨rfl,K,res,wr,r,s,g.ps,hn,rfl,rfl⟩⟩,rfl⟩
theorem Xx (q1 q3:Nat) (A:n_) (h:SA NC NS b K0 v0 n i told A w):(XT prog).wpIn NF m prog (XU λtm w'=>∃g,tm=TN 49 (AL g [(6,.bool true)])/\SI NC NS b K0 v0 (i+1) told w') ⟨TN 49 (AL f (slA q1 q3 (TV (S_ b)) A)),[]⟩ w:=by
 obtain⟨j,u,K,r,a,wr,rfl,x,g,t,s,d,e,rfl,k⟩:=h;have l:=(g.ka.no ((p_ No w).alloc (.cells #[a_ a,a_ wr,.nilFunc] 206))).JK g.ps 5;have v:=(g.ka.no ((p_ No w).alloc (.cells #[a_ a,a_ wr,.nilFunc] 206))).tZ g.ps 5;simp[PR.arr]at l;have c:=(g.ka.ps b r g.ps).o;have z:=DN c;have p3:=((p_ No _).alloc (.cells #[a_ a,a_ wr,.nilFunc] 206)).old (Ak (i:=5) c (a_ (a:Nat))) id;have q:=BN p3 6;have p:((w.setCell (T_ b 5) (a_ a)).alloc (.cells #[a_ a,a_ wr,.nilFunc] 206)).cell? (T_ b 6)=some (a_ r.B):=bce p3 rfl;have y:=Uw (w.alloc (.cells #[a_ a,a_ wr,.nilFunc] 206));have done:=λX=>aP (X:=X) d e g t s k
 clear k p3;rw[al7];unfold ao1;rw[ak0];dsimp only[Tryz.f187,Option.getD];unfold slA;rw[ϛ];show Code.wpIn (Fence.list LF none) m prog _ _ ⟨#[f 0,.pointer (some (T_ b 5)),f 2,f 3,f 4,f 5,f 6,f 7,f 8,f 9,f 10,f 11,f 12,f 13,f 14,f 15,f 16,f 17,f 18,f 19,f 20,f 21,f 22,f 23,f 24,f 25,f 26,f 27,f 28,.tuple #[b_ 0,.bool true,.agg #[a_ a,a_ wr,.nilFunc],.agg #[]],f 30,f 31,f 32,f 33,f 34,f 35,f 36,f 37,f 38,f 39,f 40,f 41,f 42,f 43,f 44,f 45,f 46,f 47,f 48],[]⟩ _;gi_wp2;gi_region
 all_goals gi_wp2
 all_goals exact⟨rfl,rfl,_,C9 rfl (by simp),done _⟩
end
section
variable (NC NS b:Nat) (K0:KS) (v0:o_) (n m:Nat)
theorem mX {NC NS b:Nat} {K0:KS} {v0:o_} {n:Nat} {told:n_} {v:o_} (h:SBl NC NS b K0 v0 n told v):∃cs ty p,v.heap[b]?=some (O_ cs ty)/\cs[7]?=some (a_ p)/\∀v',tK (S_ b) cs ty p v v'->SF NC NS b K0 v0 n told v':=by
 obtain⟨i,K,r,g,J⟩:=h;refine⟨r.arr,128,r.P,(g.ka.ps b r g.ps).o,rfl,λv' ⟨u,w,x,y,z⟩=>?_⟩;have o:=g.ok.pr b r g.ps;have e:IntKind.u16.wrap ((r.P:Int)-2)=(((r.P+65534) % 65536:Nat):Int):=by rw[wrap_u16];omega
 have C:Keep (At b) v v':=⟨y,z,u,λk G H=>w k G H⟩;have I:v'.heap[b]?=some ({ r with A:=r.A,B:=r.B,P:=(r.P+65534) % 65536 }:PR).obj:=by
  refine x.trans ?_
  unfold Uh PR.obj
  rw[e]
  rfl
 obtain⟨k1,t⟩:=tq g.ka g.ps C I;have l:=g.ok.like (r':={ r with A:=r.A,B:=r.B,P:=(r.P+65534) % 65536 }) g.ps rfl rfl rfl rfl rfl rfl (Ok.am9 o o.A o.B (Nat.mod_lt _ (by decide)) rfl o.Ae);refine⟨i,_,_,g.next k1 l.1 l.2 t Ah,?_⟩;obtain⟨j,call,d,wr,f,m,a,F,⟨Q,rc,⟨s,L,⟨q,x1,M⟩,N,O,rfl⟩,D⟩,c,E,rfl⟩:=J;have e2:r={ a with bl:=f }:=by have:=g.ps;rw[show(m.AP b { a with bl:=f }).ps b=some { a with bl:=f } from Ah]at this;exact(x_ this).symm
 subst e2;rw[PS];exact⟨q,x1,.inr ⟨j,i,[],s,F,M,⟨L,1,call,rc,N,O,.inr ⟨rfl,m,d,wr,f,a,D,c,.inr ⟨E,rfl,rfl⟩⟩⟩,by simp⟩⟩
def ru (hn:n<=1000) (Ϧ:NR NC NS b K0 n):QN prog NF m (ptr K0.kb) (S_ b) (n:Nat) where
 I:=SI NC NS b K0 v0
 Cd:=SC NC NS b K0 v0 n
 Bd:=SB NC NS b K0 v0 n
 D:=SD NC NS b K0 v0 n
 E0:=SE0 NC NS b K0 v0 n
 E:=SE NC NS b K0 v0 n
 An:=SA NC NS b K0 v0 n
 Fin:=SF NC NS b K0 v0 n
 Dn:=SDn NC NS b K0 v0 n
 Db:=SDb NC NS b K0 v0 n
 Bc:=λ_=>SBc NC NS b K0 v0 n
 Bl:=λ_=>SBl NC NS b K0 v0 n
 tDn:=λ_ _ _ _ v τ d h=>h.no (CO v τ d)
 tDb:=λ_ _ _ _ v τ d h=>h.no (CO v τ d)
 tBc:=λ_ _ _ v τ d h=>h.no (CO v τ d)
 tBl:=λ_ _ v τ d h=>h.no (CO v τ d)
 tI:=λ_ _ v τ d h=>h.no (CO v τ d)
 tC:=λ_ _ _ v τ d h=>h.no (CO v τ d)
 tB:=λ_ v τ d h=>h.no (CO v τ d)
 tD:=λ_ _ _ _ v τ d h=>h.no (CO v τ d)
 tE0:=λ_ _ _ v τ d h=>h.no (CO v τ d)
 tE:=λ_ _ _ v τ d h=>h.no (CO v τ d)
 tA:=λ_ _ _ v τ d h=>h.no (CO v τ d)
 tF:=λ_ v τ d h=>h.no (CO v τ d)
 step:=λ_ _ _ v _ h _ hi τ d=>nV (h.no (CO v τ d)) hi
 serve:=λ_ _ _ _ v _ h τ d=>iw Ϧ (h.no (CO v τ d))
 asked:=λ_ _ _ _ _ v _ h τ d=>iE (h.no (CO v τ d))
 tells:=λ_ _ _ _ _ v _ h τ d=>iq (h.no (CO v τ d)) hn
 ended:=λ_ _ _ _ v _ h τ d=>iy (h.no (CO v τ d))
 answer:=λ_ _ _ _ ⟨j,BA,K,r,res,wr,h1,h2,h4,h5,h6,h7,h8⟩=>⟨a_ res,a_ wr,.nilFunc,⟨by rw[Af h7.blk];rfl,by rw[Af h7.blk];rfl,by rw[Af h7.blk];rfl,trivial⟩,j,BA,K,r,res,wr,h1,h2,h4,h5,h6,h7.res,h7.wr,rfl,h8⟩
 grow:=λ_ _ _ _ _ h hg=>h.no (Xm hg)
 fH:=λq1 q3 _ _ A v _ h _ _ τ d=>Xx q1 q3 A (h.no (CO v τ d))
 bad:=λ_ _ v _ h τ d=>uZ hn (h.no (CO v τ d))
 spent:=λtold v ⟨j,BA,K,r,h1,h3,_,_,K1,h6,h7⟩=>⟨BA,K,r,h3,K1,h6,.inl (by obtain rfl:n=j:=(by omega);exact h7)⟩
 blocks:=λ_ _ _ _ _ v _ h τ d=>ax (h.no (CO v τ d))
 blocked:=λ_ _ _ _ ⟨h,res,wr,fn,ca,cb,hb⟩=>⟨res,wr,fn,ca,cb,⟨by rw[Af hb];rfl,by rw[Af hb];rfl,by rw[Af hb];rfl,trivial⟩,h⟩
 ao4:=λ_ _ _ h=>mX h
def au9 (hn:n<=1000) (Ϧ:NR NC NS b K0 n):tN (ru NC NS b K0 v0 n m hn Ϧ) where
 B0:=SO NC NS b K0 v0 CS
 B2:=SM NC NS b K0 v0 CS
 B3:=SI NC NS b K0 v0 0 CS
 t2:=λv τ d h=>h.no (CO v τ d)
 t3:=λv τ d h=>h.no (CO v τ d)
 bring:=λv _ h τ d=>iD (h.no (CO v τ d)) _
 clear:=λv _ h τ d=>iC (h.no (CO v τ d)) _
 start:=λ_ _ h hg=>h.no (Xm hg)
end
def Fe (T:j_) (k:IntKind) (w:o_) (b n:Nat) (f:Nat->Int):Prop:=∃cs,w.heap[b]?=some (O_ cs T)/\cs.size=n/\∀i,i<n->cs[i]?=some (.int k (f i))
theorem Fe.row {T:j_} {k:IntKind} {w:o_} {b n:Nat} {f:Nat->Int} (h:Fe T k w b n f):Row k w b n f:=let ⟨cs,h1,h2,h3⟩:=h;⟨cs,T,h1,h2,h3⟩
theorem Fe.keep {T:j_} {k:IntKind} {w w':o_} {b n:Nat} {f:Nat->Int} {S:Nat->Prop} (h:Fe T k w b n f) (hK:Keep S w w') (hn:¬S b):Fe T k w' b n f:=let ⟨cs,h1,h2,h3⟩:=h;⟨cs,hK.old h1 hn,h2,h3⟩
theorem Fe.cell {T:j_} {k:IntKind} {w:o_} {b n:Nat} {f:Nat->Int} (h:Fe T k w b n f) {i:Nat} (hi:i<n):w.cell? (T_ b i)=some (.int k (f i)):=h.row.cell hi
def Words (n:Nat) (f:Nat->Int):Prop:=∀i,i<n->0<=f i/\f i<=65535
def bz (n:Nat) (f:Nat->Int) (e:Ending):Prop:=∃r:Bool,e=.returned (.bool r)/\(r=true ↔ Words n f)
theorem bz.yes {n:Nat} {f:Nat->Int} (h:Words n f):bz n f (.returned (.bool true)):=⟨true,rfl,by simpa using h⟩
theorem bz.no {n:Nat} {f:Nat->Int} (h:¬Words n f):bz n f (.returned (.bool false)):=⟨false,rfl,by simpa using h⟩
section
variable (m:Nat) (w:o_)
theorem Fe.set {T:j_} {k:IntKind} {w:o_} {b n:Nat} {f:Nat->Int} (h:Fe T k w b n f) (i:Nat) (x:Int):Fe T k (w.setCell (T_ b i) (.int k x)) b n (upd f i x):=by
 obtain⟨l,d,a,g⟩:=h;refine⟨_,Ak d _,by simpa using a,λj c=>?_⟩;rw[Array.getElem?_setIfInBounds];by_cases e:i=j
 .subst e;simp[upd,a,c]
 .rw[if_neg e,g j c];simp[upd,Ne.symm e]
theorem Fe.ext {T:j_} {k:IntKind} {w:o_} {b n:Nat} {f g:Nat->Int} (h:Fe T k w b n f) (e:∀i,i<n->f i=g i):Fe T k w b n g:=by
 obtain⟨c,d,j,l⟩:=h;exact⟨c,d,j,λi a=>by rw[l i a,e i a]⟩
theorem Fe.fz {T:j_} {k:IntKind} {w:o_} {b n:Nat} {f:Nat->Int} (h:Fe T k w b n f) (i:Nat):w.frozen? (T_ b i)=false:=h.row.fz i
theorem dY (n:Nat):Fe 3 .i64 (w.alloc (.cells (madeCells #[b_ 0] n) 3)) w.heap.size n (λ_=>0):=by
 refine⟨madeCells #[b_ 0] n,heap_alloc_new rfl,by simp[madeCells],λi a=>?_⟩;simp[madeCells,a,Nat.mod_one]
theorem Keep.am7 {S:Nat->Prop} {a w:o_} (h:Keep S a w) {g:Nat} (cs:X_) (hp:g<a.heap.size->S g):Keep S a (w.setRow g cs):=
 ⟨h.os,h.output,by rw[setRow_size];exact h.size,λk b c=>(setRow_other w g k cs (λe=>c (e ▸ hp (e ▸ b)))).trans (h.block k b c)⟩
theorem Rx (n:Nat):Fe 123 .u16 (w.alloc (.cells (madeCells #[a_ 0] n) 123)) w.heap.size n (λ_=>0):=by
 refine⟨madeCells #[a_ 0] n,heap_alloc_new rfl,by simp[madeCells],λi a=>?_⟩;simp[madeCells,a,Nat.mod_one]
theorem ZX (ib L:Nat) (Ae:Nat->Nat) (c:Nat) (h:∀i,i<L->w.cell? (T_ ib i)=some (a_ (Ae i))) (hw:∀i,i<L->Ae i<65536) (hL:L<=128):P_ m 101 #[Q_ ib L c] w λe w'=>Keep No w w'/\e=.returned (Q_ w.heap.size L L)/\Fe 3 .i64 w' w.heap.size L (λi=>Ae i):=by
 obtain⟨t,b,n,o,p⟩:=info_parts info3;have a:=run_make (P:=prog) w 22 3 t (b_ 0) underlying22 b n .i64 .i64 L L (by omega) (by omega) (by rw[p];omega) (by omega);rw[o]at a;simp only[Int.toNat_natCast,Nat.mul_one,Value.cells]at a;have r0:=dY w L;have q:Keep No w (w.alloc (.cells (madeCells #[b_ 0] L) 3)):=(p_ _ _).alloc _;generalize w.alloc (.cells (madeCells #[b_ 0] L) 3)=w1 at*;gi_enter func101,ntmps101;gi_wp2;gi_loopw [11] (λi wr=>∃k:Nat,k<=L/\i=b_ k/\Keep No w wr/\Fe 3 .i64 wr w.heap.size L (λi=>if i<k then(Ae i:Int)else 0)) (λi _=>L-(intOf i).toNat)
 case atStart=>exact⟨0,by omega,rfl,q,r0.ext (λi _=>by simp)⟩
 case round=>
  obtain⟨k,u,rfl,KK,g⟩:=hrel
  by_cases j:k<L
  .have r:=hw k j;have d:=KK.has (h k j);have e:=g.cell j;have f:=g.fz k;gi_wp2;go_roundw
   case rel=>
    refine⟨k+1,by omega,by go_num,KK.setCell _ (λs=>absurd s (Nat.lt_irrefl _)),(g.set k (Ae k)).ext (λi b=>?_)⟩
    show(if i=k then(Ae k:Int)else if i<k then(Ae i:Int)else 0)=if i<k+1 then(Ae i:Int)else 0
    by_cases l:i=k
    .subst l;rw[if_pos rfl,if_pos (by omega)]
    .by_cases c2:i<k
     .rw[if_neg l,if_pos c2,if_pos (by omega)]
     .rw[if_neg l,if_neg c2,if_neg (by omega)]
   case measure=>simp[intOf];omega
  .obtain rfl:k=L:=(by omega);gi_wp2;go_ret;exact⟨KK,by simp,g.ext (λi b=>by simp[b])⟩
theorem lV:P_ m 101 #[.slice none 0 0] w λe w'=>Keep No w w'/\e=.returned (Q_ w.heap.size 0 0):=by
 obtain⟨h,g,b,c,d⟩:=info_parts info3;have a:=run_make (P:=prog) w 22 3 h (b_ 0) underlying22 g b .i64 .i64 0 0 (by omega) (by omega) (by rw[d];omega) (by omega);rw[c]at a;have a:(Instr.makeSlice 22 (b_ 0) (b_ 0)).run prog w=.ok (Q_ w.heap.size 0 0) (w.alloc (.cells (madeCells #[b_ 0] 0) 3)):=a;have f:Keep No w (w.alloc (.cells (madeCells #[b_ 0] 0) 3)):=(p_ _ _).alloc _;gi_enter func101,ntmps101;gi_wp2;refine wpIn_loop_once ?_;gi_wp2;go_ret;exact⟨f,by simp⟩
theorem TD (v:n_) (n:Nat) (f:Nat->Int) (h:SlI w v n f):P_ m 87 #[v] w λe w'=>bz n f e/\w'=w:=by
 obtain⟨A,s,c,rfl,p⟩:=h;by_cases q:n=0
 .subst q;gi_enter func87,ntmps87;gi_wp2;refine wpIn_loop_once ?_;gi_wp2;go_ret;exact⟨bz.yes (λi d=>absurd d (by omega)),rfl⟩
 .obtain⟨b,o,rfl,t⟩:=p (by omega);clear p;gi_enter func87,ntmps87;gi_wp2;gi_loopw [7] (λi wr=>wr=w/\∃k:Nat,k<=n/\i=b_ k/\Words k f) (λi _=>n-(intOf i).toNat)
  case atStart=>exact⟨rfl,0,Nat.zero_le _,rfl,λi d=>absurd d (by omega)⟩
  case round=>
   obtain⟨u,k,z,rfl,l⟩:=hrel
   subst u
   by_cases g:k<n
   .have y:=t k g;have a:wrap64 (IntKind.u16.wrap (f k))=f k % 65536:=(by rw[wrap_u16];unfold wrap64;omega);by_cases j:f k % 65536=f k
    .have r:(f k !=wrap64 (IntKind.u16.wrap (f k)))=false:=(by rw[a,j];simp);gi_wp2;go_roundw
     case rel=>
      refine⟨trivial,k+1,by omega,by go_num,λi d=>?_⟩
      by_cases e:i=k
      .subst e;omega
      .exact l i (by omega)
     case measure=>simp[intOf];omega
    .have r:(f k !=wrap64 (IntKind.u16.wrap (f k)))=true:=by rw[a];simp only[bne_iff_ne,ne_eq];exact λe=>j e.symm
     gi_wp2;go_ret;exact⟨bz.no (λx=>by have:=x k g;omega),rfl⟩
   .obtain rfl:k=n:=(by omega);gi_wp2;go_ret;exact⟨bz.yes l,rfl⟩
theorem XV (b o L c:Nat) (Ae:Nat->Nat) (hc:∀i,i<L->w.cell? (T_ b (o+i))=some (b_ (Ae i))) (hw:∀i,i<L->Ae i<65536) (hL1:1<=L) (hL:L<=128):P_ m 45 #[.slice (some (T_ b o)) L c] w λe w'=>Keep No w w'/\e=.returned (Q_ w.heap.size L L)/\Fe 123 .u16 w' w.heap.size L (λi=>Ae i):=by
 obtain⟨v,g,n,p,q⟩:=info_parts VH;have a:=run_make (P:=prog) w 116 123 v (a_ 0) underlying116 g n .i64 .i64 L L (by omega) (by omega) (by rw[q];omega) (by omega);rw[p]at a;simp only[Int.toNat_natCast,Nat.mul_one,Value.cells]at a;have r0:=Rx w L;have r:Keep No w (w.alloc (.cells (madeCells #[a_ 0] L) 123)):=(p_ _ _).alloc _;generalize w.alloc (.cells (madeCells #[a_ 0] L) 123)=w1 at*;gi_enter func45,ntmps45;gi_wp2;gi_loopw [11] (λi wr=>∃k:Nat,k<=L/\i=b_ k/\Keep No w wr/\Fe 123 .u16 wr w.heap.size L (λi=>if i<k then(Ae i:Int)else 0)) (λi _=>L-(intOf i).toNat)
 case atStart=>exact⟨0,by omega,rfl,r,r0.ext (λi _=>by simp)⟩
 case round=>
  obtain⟨k,x,rfl,KK,h⟩:=hrel
  by_cases j:k<L
  .have s:=hw k j;have t:(Ae k:Int) % 65536=Ae k:=(by omega);have d:=KK.has (hc k j);have e:=h.cell j;have f:=h.fz k;gi_wp2;go_roundw
   case rel=>
    refine⟨k+1,by omega,by go_num,KK.setCell _ (λu=>absurd u (Nat.lt_irrefl _)),(h.set k (Ae k)).ext (λi g=>?_)⟩
    show(if i=k then(Ae k:Int)else if i<k then(Ae i:Int)else 0)=if i<k+1 then(Ae i:Int)else 0
    by_cases l:i=k
    .subst l;rw[if_pos rfl,if_pos (by omega)]
    .by_cases c2:i<k
     .rw[if_neg l,if_pos c2,if_pos (by omega)]
     .rw[if_neg l,if_neg c2,if_neg (by omega)]
   case measure=>simp[intOf];omega
  .obtain rfl:k=L:=(by omega);gi_wp2;go_ret;exact⟨KK,by simp,h.ext (λi g=>by simp[g])⟩
theorem fP (s:d_ f_) (c:Nat):P_ m 45 #[.slice s 0 c] w λe w'=>Keep No w w'/\e=.returned (Q_ w.heap.size 0 0)/\Fe 123 .u16 w' w.heap.size 0 (λ_=>0):=by
 obtain⟨i,h,b,d,f⟩:=info_parts VH;have a:=run_make (P:=prog) w 116 123 i (a_ 0) underlying116 h b .i64 .i64 0 0 (by omega) (by omega) (by rw[f];omega) (by omega);rw[d]at a;have a:(Instr.makeSlice 116 (b_ 0) (b_ 0)).run prog w=.ok (Q_ w.heap.size 0 0) (w.alloc (.cells (madeCells #[a_ 0] 0) 123)):=a;have r0:=Rx w 0;have g:Keep No w (w.alloc (.cells (madeCells #[a_ 0] 0) 123)):=(p_ _ _).alloc _;gi_enter func45,ntmps45;gi_wp2;refine wpIn_loop_once ?_;gi_wp2;go_ret;exact⟨g,by simp,r0⟩
def padded (n:Nat) (Ae:Nat->Nat) (i:Nat):Nat:=if i<n then Ae i else 0
theorem Yi (ab n nb N8:Nat) (Ae:Nat->Nat) (h:Fe 123 .u16 w ab n (λi=>Ae i)) (h8:8*nb=N8) (hn:n<=N8) (hb:N8<=128):P_ m 47 #[Q_ ab n n,b_ nb] w λe w'=>Keep No w w'/\e=.returned (Q_ w.heap.size N8 N8)/\Fe 123 .u16 w' w.heap.size N8 (λi=>padded n Ae i):=by
 obtain⟨z,l,r,k,s⟩:=info_parts VH;have d:=run_make (P:=prog) w 116 123 z (a_ 0) underlying116 l r .i64 .i64 N8 N8 (by omega) (by omega) (by rw[s];omega) (by omega);rw[k]at d;simp only[Int.toNat_natCast,Nat.mul_one,Value.cells]at d;have r0:=Rx w N8;have t:Keep No w (w.alloc (.cells (madeCells #[a_ 0] N8) 123)):=(p_ _ _).alloc _;generalize w.alloc (.cells (madeCells #[a_ 0] N8) 123)=w1 at*;have x:=h.keep t id;have B:(nb:Int)*8=N8:=by omega
 obtain⟨a,q1,C,A⟩:=r0;have f:∀j v,((List.range n).map λi=>Value.int .u16 (Ae i))[j]?=some v->w1.cell? (((S_ ab):f_).add j)=some v:=λj v q=>by
  have c:j<n:=by
   obtain h|h:=Nat.lt_or_ge j n
   .exact h
   .rw[List.getElem?_eq_none (by simpa using h)]at q;cases q
  rw[Addr.add_lit,Nat.zero_add,x.cell c,<-q];simp[c]
 have o:=run_copy_row (P:=prog) w1 116 116 3 123 w.heap.size 0 N8 N8 (S_ ab) n n a 123 ((List.range n).map λi=>Value.int .u16 (Ae i)) underlying116 (by simp[l,k]) q1 (by simp;exact(Nat.min_eq_left hn).symm) f (by simp;omega) (by simp[Value.oneCell']);have p:=setRow_heap w1 w.heap.size a (a.toList.take 0++((List.range n).map λi=>Value.int .u16 (Ae i))++a.toList.drop (0+((List.range n).map λi=>Value.int .u16 (Ae i)).length)).toArray 123 (0,0) q1;have u:=t.am7 (g:=w.heap.size) (a.toList.take 0++((List.range n).map λi=>Value.int .u16 (Ae i))++a.toList.drop (0+((List.range n).map λi=>Value.int .u16 (Ae i)).length)).toArray (λy=>absurd y (Nat.lt_irrefl _));generalize w1.setRow w.heap.size _=w2 at*;gi_enter func47,ntmps47;gi_wp2_with (refine Ot rfl (.tmp 9) (.tmp 10) _ rfl rfl rfl o ?_);go_ret;refine⟨u,by simp,_,p,by simp;omega,λi l=>?_⟩;by_cases b:i<n
 .simp[padded,b,List.getElem?_append_left]
 .have:=A i l;rw[<-Array.getElem?_toList]at this;simp[padded,b,List.getElem?_append_right (show((List.range n).map λi=>Value.int .u16 (Ae i)).length<=i by simp;omega)];rw[show n+(i-n)=i by omega];simpa using this
theorem oz (N:Nat) (h1:1<=N):P_ m 42 #[b_ N] w λe w'=>Keep No w w'/\∃cb,w.heap.size<=cb/\e=.returned (.agg #[Q_ cb 1 1])/\w'.heap[cb]?=some (O_ #[b_ 0,b_ N] 186):=by
 gi_enter func42,ntmps42;gi_wp2;have a:((w.alloc (.cells #[Q_ (w.heap.size+1) 1 1] 92)).alloc (.cells #[b_ 0,b_ N] 186)).cell? (S_ w.heap.size)=some (Q_ (w.heap.size+1) 1 1):=by
  rw[Af ((heap_alloc_old (by simp)).trans (heap_alloc_new rfl))];rfl
 refine bodyPost_ret (v:=.agg #[Q_ (w.heap.size+1) 1 1]) (by simp[results,results42,go_sem,a]) rfl ?_;exact⟨((p_ No w).alloc _).alloc _,w.heap.size+1,by omega,rfl,heap_alloc_new (by simp)⟩
theorem oq (N:Nat) (h1:1<=N):P_ m 43 #[b_ N] w λe w'=>Keep No w w'/\∃cb,w.heap.size<=cb/\e=.returned (.agg #[Q_ cb 1 1])/\w'.heap[cb]?=some (O_ #[b_ 0,b_ N] 188):=by
 gi_enter func43,ntmps43;gi_wp2;have a:((w.alloc (.cells #[Q_ (w.heap.size+1) 1 1] 97)).alloc (.cells #[b_ 0,b_ N] 188)).cell? (S_ w.heap.size)=some (Q_ (w.heap.size+1) 1 1):=by
  rw[Af ((heap_alloc_old (by simp)).trans (heap_alloc_new rfl))];rfl
 refine bodyPost_ret (v:=.agg #[Q_ (w.heap.size+1) 1 1]) (by simp[results,results43,go_sem,a]) rfl ?_;exact⟨((p_ No w).alloc _).alloc _,w.heap.size+1,by omega,rfl,heap_alloc_new (by simp)⟩
theorem vF:P_ m 90 #[.int .u64 1,.int .u64 6] w λe w'=>e=.returned (.tuple #[.int .u64 0,.int .u64 6])/\w'=w:=by
 gi_enter func90,ntmps90;gi_wp2;refine bodyPost_ret (v:=.tuple #[.int .u64 0,.int .u64 6]) (by kernel_rfl) rfl ?_;exact⟨rfl,rfl⟩
end
def pre6 (k:Nat) (i:Nat):Int:=if i<k then -1 else 0
theorem cZ {W:o_} {fb k c d n cap sb so:Nat} (h:Fe 3 .i64 W fb 6 (pre6 k)) (hk:k<=6) (hd:6-k=d) (hc:Nat.min n d=c) (hs:∀j,j<c->W.cell? (T_ sb (so+j))=some (b_ (-1))):∃W',(Builtin.copy_ #[22,22] 3 #[.slice (some (T_ fb k)) d d,.slice (some (T_ sb so)) n cap]).run prog W=.ok (b_ c) W'/\Keep (At fb) W W'/\Fe 3 .i64 W' fb 6 (pre6 (k+c)):=by
 obtain⟨u,l,r,o,s⟩:=info_parts info3;obtain⟨f,q1,w,t⟩:=id h;have p:c<=d:=by rw[<-hc];exact Nat.min_le_right _ _
 have b:∀j v,(List.replicate c (Value.int .i64 (-1)))[j]?=some v->W.cell? (((T_ sb so):f_).add j)=some v:=λj v m=>by
  have a:j<c:=by
   obtain h|h:=Nat.lt_or_ge j c
   .exact h
   .rw[List.getElem?_eq_none (by simpa using h)]at m;cases m
  rw[Addr.add_lit,hs j a,<-m,List.getElem?_replicate_of_lt a]
 have g:=run_copy_row (P:=prog) W 22 22 3 3 fb k d d (T_ sb so) n cap f 3 (List.replicate c (Value.int .i64 (-1))) underlying22 (by simp[l,o]) q1 (by simp[hc]) b (by simp;omega) (by simp[Value.oneCell']);refine⟨_,by simpa [goInt]using g,(p_ _ W).am7 _ (λ_=>rfl),_,setRow_heap W fb f _ 3 (0,0) q1,by simp;omega,λi l=>?_⟩;have q:=t i l;rw[<-Array.getElem?_toList]at q;simp only[List.getElem?_toArray,pre6];by_cases e:i<k
 .rw[List.getElem?_append_left (by simp;omega),List.getElem?_take_of_lt e,q];have c2:i<k+c:=by omega
  simp[pre6,e,c2]
 .by_cases c2:i<k+c
  .rw[List.getElem?_append_right (by simp;omega),List.getElem?_append_left (by simp;omega),List.getElem?_replicate_of_lt (by simp;omega)];simp[c2]
  .rw[List.getElem?_append_right (by simp;omega),List.getElem?_append_right (by simp;omega),List.getElem?_drop];rw[show k+c+(i-(List.take k f.toList).length-(List.replicate c (Value.int .i64 (-1))).length)=i by simp;omega,q];simp[pre6,e,c2]
section
variable (m:Nat) (w:o_)
def bm4 (g k c:Nat) (v:n_) (W:o_):Prop:=v=b_ c/\Fe 3 .i64 W g 6 (pre6 (k+c))
theorem ak (vb:Nat) (hv:w.heap[vb]?=some (O_ #[b_ (-1)] 3)):P_ m 49 #[Q_ vb 1 1,b_ 6] w λe w'=>Keep No w w'/\e=.returned (Q_ w.heap.size 6 6)/\Fe 3 .i64 w' w.heap.size 6 (λ_=>-1):=by
 obtain⟨Q,h,t,v,y⟩:=info_parts info3;have b:=run_make (P:=prog) w 22 3 Q (b_ 0) underlying22 h t .i64 .i64 6 6 (by omega) (by omega) (by rw[y];omega) (by omega);rw[v]at b;have b:(Instr.makeSlice 22 (b_ 6) (b_ 6)).run prog w=.ok (Q_ w.heap.size 6 6) (w.alloc (.cells (madeCells #[b_ 0] 6) 3)):=b;have r0:=(dY w 6).ext (g:=pre6 0) (λi _=>by simp[pre6]);have z:Keep No w (w.alloc (.cells (madeCells #[b_ 0] 6) 3)):=(p_ _ _).alloc _;have r:=z.old hv id;have q:∀j,j<1->(w.alloc (.cells (madeCells #[b_ 0] 6) 3)).cell? (T_ vb (0+j))=some (b_ (-1)):=λj E=>by
  obtain rfl:j=0:=by omega
  rw[Af r];rfl
 obtain⟨w2,a,J,R⟩:=cZ (c:=1) (d:=6) (n:=1) (cap:=1) (sb:=vb) (so:=0) r0 (by omega) rfl rfl q;have K02:Keep No w w2:=z.trans J (λk F e=>absurd (show k=w.heap.size from e) (by omega));gi_enter func49,ntmps49;gi_wp2_with (first|(gi_at_call 90;refine(vF _ w).mono ?_;rintro e w2 ⟨rfl,s⟩;have s:=s.symm;subst s)|(refine Ot rfl (.tmp 31) (.tmp 32) _ rfl rfl rfl a ?_));gi_loopw [8] (λi wr=>∃k:Nat,(k=1\/k=2\/k=4\/k=6)/\i=b_ k/\Keep No w wr/\Fe 3 .i64 wr w.heap.size 6 (pre6 k)) (λi _=>6-(intOf i).toNat)
 case atStart=>exact⟨1,.inl rfl,rfl,K02,R⟩
 case round=>
  obtain⟨k,F,rfl,KK,H⟩:=hrel
  by_cases B:k=6
  .subst B;gi_wp2;go_ret;exact⟨KK,by simp,H.ext (λi h=>by simp[pre6,h])⟩
  obtain⟨d,c,O,N,D,C⟩:∃d c,(k+c=2\/k+c=4\/k+c=6)/\1<=c/\6-k=d/\Nat.min k d=c:=by
   obtain rfl|rfl|rfl|rfl:=F
   .exact⟨5,1,by omega,by omega,rfl,rfl⟩
   .exact⟨4,2,by omega,by omega,rfl,rfl⟩
   .exact⟨2,2,by omega,by omega,rfl,rfl⟩
   .exact absurd rfl B
  have T:k<6:=by omega
  have I:d=6-k:=D.symm;have G:(k:Int)<6:=by omega
  have l:Fe 3 .i64 wr.drew w.heap.size 6 (pre6 k):=H;obtain⟨V,a,KC,S⟩:=cZ (c:=c) (d:=d) (n:=k) (cap:=6) (sb:=w.heap.size) (so:=0) l (by omega) D C (λj E=>by
   have p:j<k:=Nat.lt_of_lt_of_le E (by rw[<-C];exact Nat.min_le_left _ _)
   rw[Nat.zero_add,l.cell (by omega)]
   simp[pre6,p]);gi_wp2;refine DT (P:=prog) _ rfl rfl (by kernel_rfl) 8 48 [0,1,2,3,4,5,6] [7] (by kernel_rfl) (by rfl)
   (NJ (Go.Fxa.At w.heap.size) wr.drew 7 (bm4 w.heap.size k c) []) (F8 (by simp) (by simp)) _ _ rfl rfl ?_;subst I;gi_wp2;refine⟨rfl,by kernel_rfl,En,?_,?_,?_⟩
  .intro A u W f
   repeat' (refine Az ?_ ?_)
   all_goals first|exact trivial|gi_wp2
  .intro i h A u W f o X;obtain rfl:i=7:=(by simpa using h);obtain rfl:=f.2.1 o;refine BJ rfl λKK U=>?_
   show wpListIn NF m prog _ _ _ (Act.put _ (some 45) (u 7)) _;gi_wp2_with (refine Ot rfl (.tmp 41) (.tmp 44) _ rfl rfl rfl a ?_);exact⟨_,rfl,F9 f (by simp) KC ⟨rfl,S⟩⟩
  .intro A u W f M;obtain⟨K,L⟩:=f.2.2.1 (M 7 (by simp));show wpListIn NF m prog _ _ _ (Act.put _ (some 45) (u 7)) _;rw[K];gi_wp2;go_roundw
   case rel=>exact⟨k+c,by omega,by rw[Int.natCast_add],(KK.drew.trans f.1 (λx Y e=>absurd (show x=w.heap.size from e) (by omega))),L⟩
   case measure=>simp[intOf];omega
end
def PgI (w:o_) (v:n_) (n:Nat) (f:Nat->Int):Prop:=(∃s c,v=.slice s n c)/\(n<=128->SlI w v n f)
theorem PgI.kp {w w':o_} {v:n_} {n:Nat} {f:Nat->Int} (h:PgI w v n f) (hK:Keep No w w'):PgI w' v n f:=⟨h.1,λa=>(h.2 a).keep hK⟩
def bu (w:o_) (v:n_) (nf:Nat) (ff:Nat->n_×Nat×(Nat->Int)):Prop:=∃s c,v=.slice s nf c/\(0<nf->∃b o,s=some (T_ b o)/\∀i,i<nf->w.cell? (T_ b (o+i))=some (ff i).1/\PgI w (ff i).1 (ff i).2.1 (ff i).2.2)
theorem bu.kp {w w':o_} {v:n_} {nf:Nat} {ff:Nat->n_×Nat×(Nat->Int)} (h:bu w v nf ff) (hK:Keep No w w'):bu w' v nf ff:=let ⟨s,c,e,h2⟩:=h;⟨s,c,e,λd=>let ⟨b,o,e',h3⟩:=h2 d;⟨b,o,e',λi a=>⟨hK.has (h3 i a).1,(h3 i a).2.kp hK⟩⟩⟩
def zf (ff:Nat->n_×Nat×(Nat->Int)) (k:Nat):Prop:=∀i,i<k->(ff i).2.1<=64/\Words (ff i).2.1 (ff i).2.2
def Ze (L:Nat->Nat) (k:Nat):Nat:=Iq (λi=>Am (L i)) k
def uB (nf:Nat) (ff:Nat->n_×Nat×(Nat->Int)) (e:Ending):Prop:=∃r:Bool,e=.returned (.bool r)/\(r=true->nf<=16/\zf ff nf/\Ze (λi=>(ff i).2.1) nf<=40)/\(nf=0->r=true)
theorem uB.no {nf:Nat} {ff:Nat->n_×Nat×(Nat->Int)} (h:nf≠0):uB nf ff (.returned (.bool false)):=⟨false,rfl,(λh=>by cases h),λe=>absurd e h⟩
def YB (core swap:Int) (n:Nat) (f:Nat->Int):Prop:=(16<=core/\core<=64/\1<=swap/\swap<=256)/\(1<=n/\n<=128/\Words n f)/\(Am n:Int)<=swap
def VV (core swap:Int) (n:Nat) (f:Nat->Int) (nf:Nat) (ff:Nat->n_×Nat×(Nat->Int)) (e:Ending):Prop:=∃r:Bool,e=.returned (.bool r)/\(r=true->YB core swap n f/\nf<=16/\zf ff nf/\Ze (λi=>(ff i).2.1) nf<=40)/\(nf=0->YB core swap n f->r=true)
theorem VV.no {core swap:Int} {n nf:Nat} {f:Nat->Int} {ff:Nat->n_×Nat×(Nat->Int)} (h:¬YB core swap n f):VV core swap n f nf ff (.returned (.bool false)):=⟨false,rfl,(λh=>by cases h),λ_ e=>absurd e h⟩
theorem oC {n:Nat} (h:n<=64):Am n<=8:=by unfold Am;omega
section
variable (m:Nat) (w:o_)
theorem YW {F:Fence} {n:Nat} {P:l_} {ops:Array Oper} {Q:Exit->Act->o_->Prop} {a:Act} {w:o_} {rest:List Oper} {o:Oper} (hw:Region.wanted o (yielded ops a.tmps)=false) (ha:o.about P w a.eval=none) (hp:a.put o.dst undef=a) (h:wpListIn F n P ops Q rest a w):wpListIn F n P ops Q (o::rest) a w:=
 wpListIn_skip hw ha (by rw[hp];exact h)
theorem oD (v:n_) (nf:Nat) (ff:Nat->n_×Nat×(Nat->Int)) (h:bu w v nf ff):P_ m 88 #[v] w λe w'=>Keep No w w'/\uB nf ff e:=by
 obtain⟨s,c,rfl,B⟩:=h;by_cases g:nf=0
 .subst g;gi_enter func88,ntmps88;gi_wp2;refine wpIn_loop_once ?_;gi_wp2;go_ret;exact⟨p_ _ _,true,by simp,λ_=>⟨by omega,λi l=>absurd l (by omega),Nat.zero_le _⟩,λ_=>rfl⟩
 by_cases F:(16:Int)<nf
 .gi_enter func88,ntmps88;gi_wp2;go_ret;exact⟨p_ _ _,uB.no g⟩
 obtain⟨b,o,rfl,K⟩:=B (by omega);clear B;gi_enter func88,ntmps88;gi_wp2;gi_loopw [3,11] (λa i wr=>∃(k:Nat) (x:Int),k<=nf/\a=b_ x/\0<=x/\x<=8*k/\i=b_ k/\Keep No w wr/\zf ff k/\Nonempty (PLift (x=(Ze (λi=>(ff i).2.1) k:Nat)))) (λ_ i _=>nf-(intOf i).toNat)
 case atStart=>exact⟨0,0,by omega,rfl,by omega,by omega,rfl,p_ _ _,λi l=>absurd l (by omega),⟨⟨rfl⟩⟩⟩
 case round=>
  obtain⟨k,x,O,rfl,L,M,rfl,KK,z,j⟩:=hrel
  by_cases D:k<nf
  .obtain⟨t,⟨P,N,C⟩,y⟩:=K k D;generalize A:ff k=q at*;obtain⟨Q,d,u⟩:=q;simp only at t C y;subst C;have d1:=KK.has t;by_cases G:(64:Int)<d
   .gi_wp2_with (refine YW rfl rfl rfl ?_);go_ret;exact⟨KK,uB.no g⟩
   .have H:=(y (by omega)).keep KK;gi_wp2_with (gi_at_call 87;refine(TD _ _ _ d u H).mono ?_;rintro e w1 ⟨⟨r,rfl,p⟩,f⟩;have f:=f.symm;subst f;cases r<;>first|(have I:Words d u:=p.1 rfl;clear p)|clear p)
    .go_ret;exact⟨KK,uB.no g⟩
    .have J:=oC (n:=d) (by omega);gi_wp2_with (gi_at_call 48;refine(Ig _ _ d (by omega)).mono ?_;rintro e w1 ⟨rfl,f⟩;have f:=f.symm;subst f);go_roundw
     case rel=>
      have E:Ze (λi=>(ff i).2.1) (k+1)=Am d+Ze (λi=>(ff i).2.1) k:=by simp only[Ze,Iq,A]
      refine⟨k+1,x+Am d,by omega,by go_num,by omega,by omega,by go_num,KK,λi l=>?_,⟨⟨by obtain⟨⟨j⟩⟩:=j;rw[E];omega⟩⟩⟩
      by_cases e:i=k
      .subst e;rw[A];exact⟨by show d<=64;omega,I⟩
      .exact z i (by omega)
     case measure=>simp[intOf];omega
  .obtain rfl:k=nf:=(by omega);gi_wp2;go_ret;refine⟨KK,_,rfl,λe=>⟨by omega,z,?_⟩,λe=>absurd e g⟩;obtain⟨⟨j⟩⟩:=j;simp at e;omega
theorem ag4 (core swap:Int) (v fv:n_) (n nf:Nat) (f:Nat->Int) (ff:Nat->n_×Nat×(Nat->Int)) (h:PgI w v n f) (hF:bu w fv nf ff):P_ m 41 #[.agg #[b_ core,b_ swap,v,fv]] w λe w'=>Keep No w w'/\VV core swap n f nf ff e:=by
 obtain⟨⟨s,c,rfl⟩,y⟩:=h;obtain⟨g,i,rfl⟩:∃s c,fv=.slice s nf c:=let ⟨s,c,e,_⟩:=hF;⟨s,c,e⟩
 have d:Keep No w (w.alloc (.cells #[b_ core,b_ swap,.slice s n c,.slice g nf i] 25)):=(p_ _ _).alloc _;gi_enter func41,ntmps41;by_cases G:core<16
 .gi_wp2;go_ret;exact⟨d,VV.no (λb=>by have:=b.1;omega)⟩
 by_cases H:64<core
 .gi_wp2;go_ret;exact⟨d,VV.no (λb=>by have:=b.1;omega)⟩
 by_cases I:swap<1
 .gi_wp2;go_ret;exact⟨d,VV.no (λb=>by have:=b.1;omega)⟩
 by_cases J:256<swap
 .gi_wp2;go_ret;exact⟨d,VV.no (λb=>by have:=b.1;omega)⟩
 by_cases K:(n:Int)<1
 .gi_wp2;go_ret;exact⟨d,VV.no (λb=>by have:=b.2.1;omega)⟩
 by_cases L:128<(n:Int)
 .gi_wp2;go_ret;exact⟨d,VV.no (λb=>by have:=b.2.1;omega)⟩
 have C:=(y (by omega)).keep d;have k:=hF.kp d;clear y hF;gi_wp2_with fail;refine(TD _ (w.alloc (.cells #[b_ core,b_ swap,.slice s n c,.slice g nf i] 25)) _ n f C).mono ?_;rintro e w1 ⟨⟨r,rfl,o⟩,q⟩;have q:=q.symm;subst q;cases r
 .gi_wp2;go_ret;exact⟨d,VV.no (λb=>by have:=o.2 b.2.1.2.2;cases this)⟩
 have F:Words n f:=o.1 rfl;clear o;have t:(w.alloc (.cells #[b_ core,b_ swap,.slice s n c,.slice g nf i] 25)).heap[w.heap.size]?=some (O_ #[b_ core,b_ swap,.slice s n c,.slice g nf i] 25):=heap_alloc_new rfl;have x:(w.alloc (.cells #[b_ core,b_ swap,.slice s n c,.slice g nf i] 25)).cell? (T_ w.heap.size 1)=some (b_ swap):=bce t rfl;have c3:(w.alloc (.cells #[b_ core,b_ swap,.slice s n c,.slice g nf i] 25)).cell? (T_ w.heap.size 3)=some (.slice g nf i):=bce t rfl;gi_wp2;generalize w.alloc (.cells #[b_ core,b_ swap,.slice s n c,.slice g nf i] 25)=w1 at*;refine CV 4 47 ?_;gi_wp2_with (gi_at_call 48;refine(Ig _ w1.drew n (by omega)).mono ?_;rintro e w2 ⟨rfl,a⟩;have a:=a.symm;subst a);refine Fg ?_ ?_
 .intro V D;have d1:=D.has (w:=w1.drew) x
  repeat' (refine Az ?_ ?_)
  all_goals first|exact trivial|gi_wp2_with (gi_at_call 48;refine(Ig _ V n (by omega)).mono ?_;rintro e w2 ⟨rfl,a⟩;have a:=a.symm;subst a)
 intro V j;have u:Keep No w V:=d.drew.then j;have d1:=j.has (w:=w1.drew) x;have d3:=j.has (w:=w1.drew) c3;have l:=(k.kp (w':=w1.drew) (p_ No w1).drew).kp j;by_cases B:(Am n:Int)<=swap
 .have E:YB core swap n f:=⟨⟨by omega,by omega,by omega,by omega⟩,⟨by omega,by omega,F⟩,B⟩;gi_wp2_with (gi_at_call 88;refine(oD _ V _ nf ff l).mono ?_;rintro e w2 ⟨A,r,rfl,z,p⟩);go_ret;exact⟨u.then A,r,by simp,λh=>⟨E,z h⟩,λh _=>p h⟩
 .gi_wp2_with (refine YW rfl rfl rfl ?_);go_ret;exact⟨u,VV.no (λb=>by have:=b.2.2;omega)⟩
end
end Go.Fxa
