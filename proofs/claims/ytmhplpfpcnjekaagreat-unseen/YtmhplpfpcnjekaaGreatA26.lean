/- An image is written into; a pi -/
import Derived.Test.YtmhplpfpcnjekaaGreatA25
namespace Go.Fxa
open Conc Proofs RowKit Proofs.Tryz
set_option maxRecDepth 1000000
set_option maxHeartbeats 0
variable {w w' w0 w7 w8 W:o_} {b c o n x y M p i:Nat} {r:PR} {Af ws nl ys:List Nat} {v f:n_} {a d:d_ f_} {ty:j_} {ct:Nat->Ct} {T T':Tag} {nm:Nat->d_ Nat}
def OM (r:PR) (v:n_) (o n:Nat):Prop:=(v=.slice none 0 0/\n=0)\/∃g c,r.im=P_ g r.Af.length c/\v=.slice (some (S_ g o)) n n/\1<=n/\o+n<=r.Af.length
def RP (l:List Nat) (o:Nat) (ws:List Nat):List Nat:=l.take o++ws++l.drop (o+ws.length)
theorem bf9 (l:List Nat) (o:Nat):RP l o []=l:=by simp[RP]
def YC (X:List Nat->(Nat->Ct)->Nat->Nat->n_->Prop) (K:KS) (b:Nat) (r:PR) (w:o_) (e:Ending) (w':o_):Prop:=∃(Af:List Nat) (ct:Nat->Ct) (x y:Nat) (f:n_),e=.returned (.agg #[a_ x,a_ y,f])/\x<65536/\y<65536/\LW K.T w' K.kb b f/\Af.length=r.Af.length/\(∀z∈Af,z<65536)/\AV (KS.Bi { K with ct:=ct } b { r with Af:=Af }) w'/\BN K.T K.T w w'/\X Af ct x y f
theorem AV.jm {K:KS} (h:AV K w) (j:K.ps b=some r) (k:r.en=false):∃g c,w.cell? (S_ b 8)=some (P_ g r.Af.length c)/\Rw 123 1 w g r.Af.length c (Az r.Af)/\K.T g=(7,b)/\r.im=P_ g r.Af.length c:=by
 obtain⟨g,c,a,d,e⟩:=(h.ps b r j).im k;exact⟨g,c,by rw[h.Il j];simp[PR.arr,a],d,e,a⟩
theorem AV.ag0 {K:KS} {g:Nat} (h:AV K w) (z:K.ps b=some r) (A:r.en=false) (s:r.im=P_ g r.Af.length c) (l:K.T g=(7,b)) (m:Ac (At g) w w') (u:Rw 123 1 w' g r.Af.length c (Az Af)) (q:Af.length=r.Af.length):AV (K.Bi b { r with Af:=Af }) w'/\BN K.T K.T w w':=by
 have M:Dh K.T K.T (λt=>t=(6,b)\/t=(7,b)\/t=(8,b)\/t=(9,b)) (λt=>t=(6,b)\/t=(7,b)\/t=(8,b)\/t=(9,b)) w w':=Dh.of (m.on λk _ e=>by subst e;exact .inr (.inl l)) h.lt;have a:=h.ps b r z;have d:Ac (On K.T λt=>t=(7,b)) w w':=m.on λk _ e=>by subst e;exact l
 refine⟨h.jF M ⟨a.t,m.old a.o (λe=>?_),λ_=>⟨g,c,by rw[s];simp only[q],by simpa only[q]using u,l⟩,λe=>?_,a.bl.keep d zF,λe=>ql e (by simp[A])⟩,M.WB (by rintro t (rfl|rfl|rfl|rfl)<;>simp)⟩
 .have:=a.t;rw[show b=g from e,l]at this;simp at this
 .obtain⟨j,i,a1,a2,f⟩:=a.fd e;exact⟨j,i,a1,a2.keep d (by unfold On;rw[f];simp),f⟩
theorem Fj {K:KS} (g:K.ps b=some r):K.Bi b r=K:=by
 unfold KS.Bi;have e:C9 K.ps b r=K.ps:=by funext k;unfold C9;split;rename_i e;rw[e,g];rfl
 rw[e]
theorem JO {K:KS} {CV sCap:Nat} (h:AV K w) (O:K.ps b=some r) (Q:r.en=false) (N:∀z∈r.Af,z<65536) (U:OM r v o n) (V:∀x∈ws,x<65536) (P:ws.length=CV) (S:∀ad,a=some ad->∀j u,(Az ws)[j]?=some u->w.cell? (ad.add j)=some u) (R:a=none->CV=0):
  ∃w' k Af,(Builtin.copy_ #[116,116] ty #[v,.slice a CV sCap]).run prog w=.ok (goInt (k:Nat)) w'/\k<=CV/\k<=128+r.Af.length/\Af.length=r.Af.length/\(∀z∈Af,z<65536)/\AV (K.Bi b { r with Af:=Af }) w'/\BN K.T K.T w w'/\Ac (On K.T λt=>t=(7,b)) w w'/\ag (k=Nat.min CV n/\Af=RP r.Af o (ws.take k)):=by
 have i:∀(d:d_ f_) (IQ Hu:Nat),Nat.min CV IQ=0->v=.slice d IQ Hu->IQ=n->∃w' k Af,(Builtin.copy_ #[116,116] ty #[v,.slice a CV sCap]).run prog w=.ok (goInt (k:Nat)) w'/\k<=CV/\k<=128+r.Af.length/\Af.length=r.Af.length/\(∀z∈Af,z<65536)/\AV (K.Bi b { r with Af:=Af }) w'/\BN K.T K.T w w'/\Ac (On K.T λt=>t=(7,b)) w w'/\ag (k=Nat.min CV n/\Af=RP r.Af o (ws.take k)):=λd IQ Hu f e F=>by
  subst e F
  exact⟨w,0,r.Af,bf0 f,zD,zD,rfl,N,by rw[Fj O];exact h,BN.no (Ac.refl _ _) h.lt,Ac.refl _ _,f.symm,by rw[List.take_zero,bf9]⟩
 obtain⟨rfl,e⟩|⟨g,c,p,rfl,J,M⟩:=U
 .exact i none 0 0 zF rfl e.symm
 .cases a with
  |none=>exact i _ n n (by rw[R rfl];simp) rfl rfl
  |some ad=>
   obtain⟨G,E,_,H,C,l⟩:=h.jm O Q
   obtain⟨rfl,rfl⟩:g=G/\c=E:=by rw[l]at p;simp at p;exact⟨p.1.symm,p.2.symm⟩
   have B:(ws.take (Nat.min CV n)).length=Nat.min CV n:=by rw[ed,P];exact Nat.min_eq_left (Nat.min_le_left _ _)
   have I:Nat.min CV n<=n:=Nat.min_le_right _ _
   have m:Nat.min CV n<=CV:=Nat.min_le_left _ _
   obtain⟨w',L,A,D⟩:=UH (ty:=ty) (sCap:=sCap) (Hu:=n) (IQ:=n) (o:=o) (a:=ad) H rfl (ws:=ws.take (Nat.min CV n)) (λj u q=>S ad rfl j u (by
    simp only[Az,List.map_take,List.getElem?_take]at q
    split at q
    .exact q
    .cases q)) B (by rw[B];omega)
   have y:(r.Af.take o++ws.take (Nat.min CV n)++r.Af.drop (o+(ws.take (Nat.min CV n)).length)).length=r.Af.length:=by
    simp only[jR,ed,List.length_drop,P]
    have:min (Nat.min CV n) CV=Nat.min CV n:=Nat.min_eq_left m
    rw[this];omega
   have s:=h.ag0 O Q l C A D y;refine⟨w',Nat.min CV n,_,L,m,zD,y,λz f=>?_,s.1,s.2,A.on λk _ e=>(by subst e;exact C),rfl,rfl⟩;obtain f|f:=gJ.1 f
   .obtain f|f:=gJ.1 f
    .exact N z (List.mem_of_mem_take f)
    .exact V z (List.mem_of_mem_take f)
   .exact N z (List.mem_of_mem_drop f)
theorem ER {X:List Nat->(Nat->Ct)->Nat->Nat->n_->Prop} {K:KS} (h:∀k,w.heap.size<=k->K.T k=(0,0)) (j:Ac No w w0) (q:BN K.T K.T w0 w7) (l:AV (KS.Bi { K with ct:=ct } b { r with Af:=Af }) w7) (g:Ac (At w.heap.size) w7 w8) (B:x<65536) (C:y<65536) (u:LW K.T w7 K.kb b f) (A:Af.length=r.Af.length) (m:∀z∈Af,z<65536) (s:X Af ct x y f):YC X K b r w (.returned (.agg #[a_ x,a_ y,f])) w8:=by
 have a:K.T w.heap.size=(0,0):=h _ (w_ _);have c:Ac (On K.T λt=>t=(0,0)) w7 w8:=g.on λk _ e=>by rw[show k=w.heap.size from e];exact a
 exact⟨Af,ct,x,y,f,rfl,B,C,u.keep c zF,A,m,l.own g a,((BN.no j h).trans q).own g (λk e=>by rw[show k=w.heap.size from e];exact w_ _),s⟩
def af2 (T:Tag) (p:Nat) (ws:List Nat) (v:n_) (W:o_):Prop:=(∃a n c,v=.slice a n c)/\RU T W p 16 v ws
theorem RU.shape (h:RU T w b M v ws):∃(a:d_ f_) (c:Nat),v=.slice a ws.length c/\ws.length<=c/\ws.length<=M/\(∀x∈ws,x<65536)/\(a=none->ws.length=0)/\(∀ad,a=some ad->∀j u,(Az ws)[j]?=some u->w.cell? (ad.add j)=some u):=by
 obtain⟨rfl,rfl⟩|⟨g,c,rfl,d,f,i,_⟩:=h
 .exact⟨none,0,rfl,zF,zF,zF,λ_=>rfl,λad e=>by cases e⟩
 .exact⟨_,c,rfl,d.le,f,i,λe=>(by cases e),λad e=>by cases e;exact d.cells⟩
section
variable (m:Nat) (w:o_)
theorem zf (T:Tag) (p k:Nat) (v:n_) (ws:List Nat) (h:RU T w p 16 v ws) (s:∀a n c,v=.slice a n c->k<=n):O_ m 271 #[v,b_ 0,b_ (k:Nat)] w λe w'=>∃u,e=.returned u/\af2 T p (ws.drop k) u w'/\Ac (On T λt=>t=(15,p)) w w':=by
 obtain⟨rfl,rfl⟩|⟨g,c,rfl,i,o,j,f⟩:=h
 .have:=s _ _ _ rfl;obtain rfl:k=0:=zD
  refine(U3 m w none 0 0 zD).mono ?_;rintro e w' ⟨rfl,b⟩;exact⟨_,rfl,⟨⟨_,_,_,rfl⟩,.inl ⟨rfl,rfl⟩⟩,b.no⟩
 .have s:=s _ _ _ rfl;by_cases r:k=0
  .subst r;refine(U3 m w _ _ _ i.le).mono ?_;rintro e w' ⟨rfl,b⟩;exact⟨_,rfl,⟨⟨_,_,_,rfl⟩,.inr ⟨g,c,rfl,i.keep b id,o,j,f⟩⟩,b.no⟩
  .refine(ϛ m w g ws.length c 0 k _ i zD s).mono ?_;rintro e w' ⟨rfl,b,l⟩;have d:(ws.drop k).length=0+(ws.length-k):=zF;refine⟨_,rfl,⟨⟨_,_,_,rfl⟩,.inr ⟨g,c,by rw[d],?_,by rw[d];omega,λx q=>j x (List.mem_of_mem_drop q),f⟩⟩,b.on λx _ e=>by subst e;exact f⟩;rw[d];simpa [Az,List.map_drop]using l
def XRd (K:KS) (p:Nat) (r:PR) (o n:Nat):List Nat->(Nat->Ct)->Nat->Nat->n_->Prop:=λAf ct x y f=>
 (1<=n/\(K.ct p).starved=true/\Af=r.Af/\ct=K.ct/\x=0/\y=0/\f=.func (.func 270) #[ptr p] #[])\/
 ((n=0\/(K.ct p).starved=false)/\x=Nat.min (K.ct p).ws.length n/\Af=RP r.Af o ((K.ct p).ws.take x)/\ct=Ag K.ct p { K.ct p with ws:=(K.ct p).ws.drop x }/\y=0/\f=.nilFunc)
theorem al0 (K:KS) (b e0 o n:Nat) (r:PR) (v:n_) (h:AV K w) (hb:K.ps b=some r) (hn:r.en=false) (hI:∀z∈r.Af,z<65536) (te:K.T e0=(13,0)) (hv:OM r v o n):
  O_ m 266 #[Q_ e0,v] w (YC (XRd K (K.ct e0).n r o n) K b r w):=by
 obtain⟨K0,rb,_⟩:=Iw w;have M:=h.no K0;have GV:K.T w.heap.size=(0,0):=h.lt _ (w_ _);obtain⟨d0,rfl⟩:∃d,v=.slice d n n:=by
  obtain⟨rfl,rfl⟩|⟨g,c,_,rfl,_⟩:=hv
  .exact⟨none,rfl⟩
  .exact⟨_,rfl⟩
 obtain⟨he,j⟩:=M.fl.rend e0 te;generalize (K.ct e0).n=p at*;have d1:(w.alloc V_).cell? (R_ e0)=some (Q_ p):=(Ah he 0).trans rfl;have A:∀w1,Ac No (w.alloc V_) w1->∃(a:d_ f_) (G D k:Nat) (Af:List Nat) (w2:o_),w1.cell? (R_ e0)=some (Q_ p)/\w1.cell? (R_ p)=some (.slice a G D)/\(Builtin.copy_ #[116,116] 3 #[.slice d0 n n,.slice a G D]).run prog w1=.ok (goInt (k:Nat)) w2/\k<=G/\G<=16/\Af.length=r.Af.length/\(∀z∈Af,z<65536)/\AV (K.Bi b { r with Af:=Af }) w2/\BN K.T K.T w1 w2/\w2.heap[p]?=some (N_ #[.slice a G D,.bool (K.ct p).x,.bool (K.ct p).y] 329)/\RU K.T w2 p 16 (.slice a G D) (K.ct p).ws/\ag (k=Nat.min (K.ct p).ws.length n/\Af=RP r.Af o ((K.ct p).ws.take k))/\w2.cell? (R_ e0)=some (Q_ p):=λw1 B=>by
  have h1:=M.no B
  obtain⟨u,hp,hu⟩:=h1.fl.pipe p j
  obtain⟨a,D,rfl,hwc,hw16,hwx,hwn,hws⟩:=hu.shape
  obtain⟨w2,k,Af,BF,hk,_,IL,Zp,Gn,hM2,Q,l⟩:=JO (ty:=3) (sCap:=D) h1 hb hn hI hv hwx rfl hws hwn
  have L:=B.has d1
  exact⟨a,(K.ct p).ws.length,D,k,Af,w2,L,(Ah hp 0).trans rfl,BF,hk,hw16,IL,Zp,Gn,hM2,Q.old hp (by unfold On;rw[j];simp),hu.keep Q zF,l,(Q.cell (qy _ _ L) (by unfold On;rw[te];simp)).trans L⟩
 by_cases hz:n=0
 .subst hz;have B:Ac No (w.alloc V_) (w.alloc V_):=Ac.refl _ _;obtain⟨a,G,D,k,Af,w2,d1,d2,hcp,R,cl3,IL,Zp,h2,M2,q,S,l,e1⟩:=A _ B;clear A;have dH:=qy _ _ e1;have V:=Dt q;have e2:w2.cell? (R_ p)=some (.slice a G D):=(Ah q 0).trans rfl;gi_enter func266,ntmps266;gi_wp2;generalize hw0:w.alloc V_=w0 at*;refine Dl (P:=prog) _ rfl rfl sJ 13 48 [0,1,2,3,4,5,6,7,8,9,10,11] [12] sJ (by rfl)
   (Oa (On K.T λt=>t=(15,p)) w2.drew 12 (af2 K.T p ((K.ct p).ws.drop k)) []) (F7 zF zF) _ _ rfl rfl ?_;have cD:=λm=>zf m w2.drew K.T p k _ _ (S.set (Ac.refl No w2).drew (λ_ _=>id)) (λ_ _ _ e=>by cases e;exact R)
  gi_wp2_with (gi_at_call 271;refine(cD _).mono ?_;rintro e w3 ⟨u3,rfl,_,_⟩);refine⟨rfl,sJ,Em,?_,?_,?_⟩
  .intro L' u W hI;have d1:=(hI.1.cell (w:=w2.drew) (p:=(R_ e0)) dH (by unfold On;rw[te];simp)).trans e1;have d2:=(hI.1.cell (w:=w2.drew) (p:=(R_ p)) V (by unfold On;rw[j];simp)).trans e2
   repeat' (refine Au ?_ ?_)
   all_goals first|exact eu|gi_wp2
  .intro i hi L' u W hI N hu;obtain rfl:i=12:=(by simpa using hi);obtain rfl:=hI.2.1 N;refine BC rfl λKK Nc=>?_
   show wpListIn NF m prog _ _ _ (Act.put _ (some 43) (u 12)) _;gi_wp2_with (gi_at_call 271;refine(cD _).mono ?_;rintro e w3 ⟨u3,rfl,O,C⟩);exact⟨_,rfl,F8 hI zF C O⟩
  .intro L' u W hI hL;obtain⟨⟨J,X,c3,E⟩,F⟩:=hI.2.2.1 (hL 12 zF);show wpListIn NF m prog _ _ _ (Act.put _ (some 43) (u 12)) _;rw[E];rw[E]at F;have C:Ac (On K.T λt=>t=(15,p)) w2 W:=(Ac.refl _ w2).drew.then hI.1;have s:=C.old q (by unfold On;rw[j];simp);have q3:W.cell? (R_ p)=some _:=(Ah s 0).trans rfl;have z3:=BQ s 0;have e1':=(C.cell (p:=(R_ e0)) dH (by unfold On;rw[te];simp)).trans e1;gi_wp2_with fail;have K4:Ac (λx=>x=p\/K.T x=(15,p)) w2 (W.setCell (R_ p) (.slice J X c3)):=(C.mono λx _ e=>.inr e).setCell _ λ_=>.inl rfl
   have s4:=AV.jO (b0:=p) (Qe:=Ag K.ct p { K.ct p with ws:=(K.ct p).ws.drop k }) h2 K4 (λx U=>by
    obtain rfl|U:=U
    .exact .inl ⟨rfl,by show(K.T x).1≠15;rw[j];simp⟩
    .exact .inr U) (by show 10<=(K.T p).1;rw[j];simp) (by show(K.T p).1<15;rw[j];simp) (EI.VR (T:=K.T) (v:=.slice J X c3) j ((Ap s _).trans (by simp[Ag])) (by have:=F.set (Ac.NZ (b:=p) (o:=0) (.slice J X c3)) (λg hg e=>by rw[show g=p from e,j]at hg;simp at hg);simpa [Ag]using this)) (λb hb=>ru hb) (λe=>ql (j.symm.trans e) zF)
   have LC:BN K.T K.T w0 _:=((BN.no B M.lt).trans M2).trans s4.2;gi_wp2_with (first|(gi_at_call 272;refine(Dk _ _ k zD).mono ?_;rintro e wz ⟨rfl,I⟩;obtain⟨w8,Y,Z,H⟩:=AA (x:=k) (y:=0) (f:=.nilFunc) (I.old (LC.old rb GV) id) rfl)|refine EX Y ?_);refine T_ k 0 (by simp[results,results266,go_sem,FI H]) rfl ?_;exact ER (x:=k) (y:=0) h.lt K0 ((LC).then I) ((s4.1).no I) Z zD zD (.inl rfl) (IL) (Zp) (.inr ⟨.inl rfl,l.out.1,l.out.2,rfl,rfl,rfl⟩)
 .have f1:(0:Int)<(n:Int):=zD
  have cs:=λm=>YO m _ K p M j
  gi_enter func266,ntmps266;gi_wp2_with (first|(gi_at_call 270;refine(cs _).mono ?_;rintro e w1 ⟨B,xb,rfl,hxb⟩;obtain⟨a,G,D,k,Af,w2,d1,d2,hcp,R,cl3,IL,Zp,h2,M2,q,S,l,e1⟩:=A w1 B;clear A;generalize hw0:w.alloc V_=w0 at *;obtain⟨w8,Y,Z,H⟩:=AA (x:=0) (y:=0) (f:=.func (.func 270) #[Q_ p] #[]) (B.old rb id) rfl;have dH:=qy _ _ e1;have V:=Dt q;have e2:w2.cell? (R_ p)=some (.slice a G D):=(Ah q 0).trans rfl;cases xb)|refine EX Y ?_)
  .clear Y Z H;refine Dl (P:=prog) _ rfl rfl sJ 13 48 [0,1,2,3,4,5,6,7,8,9,10,11] [12] sJ (by rfl)
    (Oa (On K.T λt=>t=(15,p)) w2.drew 12 (af2 K.T p ((K.ct p).ws.drop k)) []) (F7 zF zF) _ _ rfl rfl ?_;have cD:=λm=>zf m w2.drew K.T p k _ _ (S.set (Ac.refl No w2).drew (λ_ _=>id)) (λ_ _ _ e=>by cases e;exact R)
   gi_wp2_with (gi_at_call 271;refine(cD _).mono ?_;rintro e w3 ⟨u3,rfl,_,_⟩);refine⟨rfl,sJ,Em,?_,?_,?_⟩
   .intro L' u W hI;have d1:=(hI.1.cell (w:=w2.drew) (p:=(R_ e0)) dH (by unfold On;rw[te];simp)).trans e1;have d2:=(hI.1.cell (w:=w2.drew) (p:=(R_ p)) V (by unfold On;rw[j];simp)).trans e2
    repeat' (refine Au ?_ ?_)
    all_goals first|exact eu|gi_wp2
   .intro i hi L' u W hI N hu;obtain rfl:i=12:=(by simpa using hi);obtain rfl:=hI.2.1 N;refine BC rfl λKK Nc=>?_
    show wpListIn NF m prog _ _ _ (Act.put _ (some 43) (u 12)) _;gi_wp2_with (gi_at_call 271;refine(cD _).mono ?_;rintro e w3 ⟨u3,rfl,O,C⟩);exact⟨_,rfl,F8 hI zF C O⟩
   .intro L' u W hI hL;obtain⟨⟨J,X,c3,E⟩,F⟩:=hI.2.2.1 (hL 12 zF);show wpListIn NF m prog _ _ _ (Act.put _ (some 43) (u 12)) _;rw[E];rw[E]at F;have C:Ac (On K.T λt=>t=(15,p)) w2 W:=(Ac.refl _ w2).drew.then hI.1;have s:=C.old q (by unfold On;rw[j];simp);have q3:W.cell? (R_ p)=some _:=(Ah s 0).trans rfl;have z3:=BQ s 0;have e1':=(C.cell (p:=(R_ e0)) dH (by unfold On;rw[te];simp)).trans e1;gi_wp2_with fail;have K4:Ac (λx=>x=p\/K.T x=(15,p)) w2 (W.setCell (R_ p) (.slice J X c3)):=(C.mono λx _ e=>.inr e).setCell _ λ_=>.inl rfl
    have s4:=AV.jO (b0:=p) (Qe:=Ag K.ct p { K.ct p with ws:=(K.ct p).ws.drop k }) h2 K4 (λx U=>by
     obtain rfl|U:=U
     .exact .inl ⟨rfl,by show(K.T x).1≠15;rw[j];simp⟩
     .exact .inr U) (by show 10<=(K.T p).1;rw[j];simp) (by show(K.T p).1<15;rw[j];simp) (EI.VR (T:=K.T) (v:=.slice J X c3) j ((Ap s _).trans (by simp[Ag])) (by have:=F.set (Ac.NZ (b:=p) (o:=0) (.slice J X c3)) (λg hg e=>by rw[show g=p from e,j]at hg;simp at hg);simpa [Ag]using this)) (λb hb=>ru hb) (λe=>ql (j.symm.trans e) zF)
    have LC:BN K.T K.T w0 _:=((BN.no B M.lt).trans M2).trans s4.2;gi_wp2_with (first|(gi_at_call 272;refine(Dk _ _ k zD).mono ?_;rintro e wz ⟨rfl,I⟩;obtain⟨w8,Y,Z,H⟩:=AA (x:=k) (y:=0) (f:=.nilFunc) (I.old (LC.old rb GV) id) rfl)|refine EX Y ?_);refine T_ k 0 (by simp[results,results266,go_sem,FI H]) rfl ?_;exact ER (x:=k) (y:=0) h.lt K0 ((LC).then I) ((s4.1).no I) Z zD zD (.inl rfl) (IL) (Zp) (.inr ⟨.inr hxb.out.symm,l.out.1,l.out.2,rfl,rfl,rfl⟩)
  .have zK:w8.cell? (R_ w.heap.size)=some (a_ 0):=bce H rfl;have zJ:w8.cell? (S_ w.heap.size 1)=some (a_ 0):=bce H rfl;have zI:w8.cell? (S_ w.heap.size 2)=some (.func (.func 270) #[Q_ p] #[]):=bce H rfl;refine bodyPost_ret (v:=.agg #[a_ 0,a_ 0,.func (.func 270) #[Q_ p] #[]]) (by simp[results,results266,go_sem,zK,zJ,zI]) rfl ?_;exact ER (x:=0) (y:=0) (Af:=r.Af) (ct:=K.ct) h.lt K0 (BN.no B M.lt) (by rw[show KS.Bi { K with ct:=K.ct } b { r with Af:=r.Af }=K from Fj hb];exact M.no B) Z zD zD (.inr (.inr ⟨p,.inl rfl,j⟩)) rfl hI (.inl ⟨zD,hxb.out.symm,rfl,rfl,rfl,rfl,rfl⟩)
end
theorem EI.IX {op:Nat->Nat} {Q N:Nat×Nat->Prop} {kb:Nat} (h:EI T op ct w kb b) (M:Dh T T' Q N w w') (g:¬Q (15,b)) (l:∀t,Q t->t.1<10\/t.1=15) (j:∀t,N t->t.1<10\/t.1=15):EI T' op ct w' kb b:=by
 have q:∀k c,10<=k->k<15->¬Q (k,c):=λk c d f e=>by have:=l _ e;simp at this;omega
 have n:∀k c,10<=k->k<15->¬N (k,c):=λk c d f e=>by have:=j _ e;simp at this;omega
 refine⟨λe=>?_,λe=>?_,λc e=>?_,λe=>?_,λe=>?_⟩
 .have e:=M.back e zF (n _ _ zD zD);obtain⟨x,a1,a2⟩:=h.file e;exact⟨x,M.blk a1 e (q _ _ zD zD),a2.IX M g⟩
 .have e:=M.back e zF (n _ _ zD zD);obtain⟨x,a1,a2⟩:=h.pipe e;exact⟨x,M.blk a1 e (q _ _ zD zD),a2.IX M g⟩
 .have e:=M.back e zF (n _ _ zD zD);obtain⟨a1,a2,a⟩:=h.GI c e;exact⟨M.blk a1 e (q _ _ zD zD),M.tag a2 zF,a⟩
 .have e:=M.back e zF (n _ _ zD zD);obtain⟨a1,a2⟩:=h.rend e;exact⟨M.blk a1 e (q _ _ zD zD),M.tag a2 zF⟩
 .have e:=M.back e zF (n _ _ zD zD);obtain⟨a1,a2⟩:=h.TM e;exact⟨M.blk a1 e (q _ _ zD zD),M.tag a2 zF⟩
theorem Xd.other (h:Xd T nm nl w) (M:Dh T T' (λt=>t=(15,p)) (λt=>t=(15,p)) w W) (g:T p≠(10,0)):Xd T' nm nl (W.setCell (S_ p i) v):=
 (h.IX M zF zF).to λb n e=>⟨e,λc=>c.keep ((Ac.refl (At p) W).setCell (p:=(S_ p i)) v λ_=>rfl) λa=>g (by rw[<-show b=p from a];exact M.back e zF zF)⟩
def KS.Gw (K:KS) (f n:Nat):Prop:=Np (λb=>(K.ct b).ws.length) K.nm K.nl+Ai n<=40+Ai (K.ct f).ws.length
def X0 (K:KS) (w:o_) (f n:Nat) (x:Bool):Prop:=(x=true->∃ln:Nat->Nat,(∀b,K.T b=(10,0)->JJ w b (ln b))/\Np ln K.nm K.nl<=40/\Np ln K.nm K.nl+Ai n<=40+Ai (ln f))/\ag (x=true ↔ K.Gw f n)
structure Uniq (nm:Nat->d_ Nat) (nl:List Nat):Prop where
 nd:nl.Nodup
 inj:∀i j f,i<16->j<16->nm i=some f->nm j=some f->i=j
 dj:∀i f,i<16->nm i=some f->f ∉ nl
theorem Vt {f g:Nat->Nat} {l:List Nat} (h:l.Nodup) (j:b∈l) (m:∀k,k∈l->k≠b->f k=g k):BK f l+g b=BK g l+f b:=by
 have e:=BO (f:=f) (g:=λk=>if k=b then f b else g k) (l:=l) λk a=>by
  by_cases e:k=b
  .subst e;simp
  .rw[ru e];exact m k a e
 have:=Jt (f:=λk=>if k=b then f b else g k) (g:=g) h j λk a=>ru a
 rw[rC rfl]at this;omega
theorem Ϙ {q:Nat->Nat} {f:Nat} (s:Uniq nm nl) (t:Np q nm nl<=40) (u:Np q nm nl+Ai n<=40+Ai (q f)):Np (Ag q f n) nm nl<=40:=by
 have d:∀k,k≠f->Ai (Ag q f n k)=Ai (q k):=λk c=>by unfold Ag;rw[ru c]
 have m:Ai (Ag q f n f)=Ai n:=by unfold Ag;rw[rC rfl]
 unfold Np at*;by_cases o:∃i,i<16/\nm i=some f
 .obtain⟨i,e,a⟩:=o;have e1:=BO (f:=λb=>Ai (Ag q f n b)) (g:=λb=>Ai (q b)) (l:=nl) λk c=>d k (by rintro rfl;exact s.dj i k e a c)
  have e2:=Vt (f:=Pq (Ag q f n) nm) (g:=Pq q nm) (l:=List.range 16) (b:=i) List.nodup_range (List.mem_range.2 e) λk c h=>by
   unfold Pq
   cases hk':nm k with
   |none=>rfl
   |some g=>exact d g (by rintro rfl;exact h (s.inj k i g (List.mem_range.1 c) e hk' a))
  have e3:Pq q nm i=Ai (q f):=by unfold Pq;rw[a]
  have e4:Pq (Ag q f n) nm i=Ai n:=by unfold Pq;rw[a];exact m
  omega
 .have e2:=BO (f:=Pq (Ag q f n) nm) (g:=Pq q nm) (l:=List.range 16) λk c=>by
   unfold Pq
   cases hk':nm k with
   |none=>rfl
   |some g=>exact d g (by rintro rfl;exact o ⟨k,List.mem_range.1 c,hk'⟩)
  by_cases j:f∈nl
  .have e1:=Jt (f:=λb=>Ai (Ag q f n b)) (g:=λb=>Ai (q b)) s.nd j d;simp only[m]at e1;omega
  .have e1:=BO (f:=λb=>Ai (Ag q f n b)) (g:=λb=>Ai (q b)) (l:=nl) λk c=>d k (by rintro rfl;exact j c)
   omega
theorem Xd.grow {K:KS} {w1:o_} {o v0:n_} (k:X0 K w p n true) (m:Uniq K.nm K.nl) (l:Ac No w w1) (M:Dh K.T T' (λt=>t=(15,p)) (λt=>t=(15,p)) w1 W) (q:W.heap[p]?=some (N_ #[v0,o] 191)):Xd T' K.nm K.nl (W.setCell (R_ p) (.slice a n c)):=by
 obtain⟨d,h,i,j⟩:=k.1 rfl;refine⟨Ag d p n,λb e=>?_,Ϙ m i j⟩;have g:=M.back e zF zF;by_cases f:b=p
 .subst f;have:Ag d b n b=n:=rC rfl;rw[this];exact⟨a,c,o,by rw[Ap q];simp⟩
 .have:Ag d p n b=d b:=ru f;rw[this];exact(((h b g).keep l id).keep M.keep (by unfold On;rw[g];simp)).keep ((Ac.refl (At p) W).setCell (p:=(R_ p)) _ λ_=>rfl) f
theorem AV.aa1 {K:KS} {Qe:Nat->Ct} (h:AV K w) (z:10<=(K.T p).1) (A:(K.T p).1<15) (M:Dh K.T T' (λt=>t=(15,p)) (λt=>t=(15,p)) w W) (D:EI T' K.op Qe (W.setCell (S_ p i) v) K.kb p) (C:Xd T' K.nm K.nl (W.setCell (S_ p i) v)) (B:∀b,b≠p->Qe b=K.ct b):AV { K with T:=T',ct:=Qe } (W.setCell (S_ p i) v)/\BN K.T T' w (W.setCell (S_ p i) v):=by
 obtain⟨y,u,s⟩:=h.k;have f:T' p=K.T p:=Dh.old M p (by intro e;rw[e]at z;simp at z);have a:Ac (At p) W (W.setCell (S_ p i) v):=(Ac.refl _ _).setCell _ λ_=>rfl
 have o:Ac (On K.T λt=>t=(1,0)\/t=(5,0)\/10<=t.1) w (W.setCell (S_ p i) v):=(M.keep.on λk _ e=>.inr (.inr (by rw[show K.T k=(15,p)from e];simp))).trans a λk _ e=>by subst e;exact .inr (.inr z)
 have j:∀b,(W.setCell (S_ p i) v).heap.size<=b->T' b=(0,0):=λb r=>M.lt b (pV a.size r)
 have m:Dh K.T T' (λt=>t=(1,0)\/t=(5,0)\/10<=t.1) (λt=>t=(5,0)\/10<=t.1) w (W.setCell (S_ p i) v):=⟨o,Dh.old M,λb c d=>.inr (by rw[Dh.new M b c d];simp),j,M.fresh⟩;have l:Dh K.T T' (λt=>10<=t.1) (λt=>10<=t.1) w (W.setCell (S_ p i) v):=⟨(M.keep.on λk _ e=>by rw[show K.T k=(15,p)from e];simp).trans a λk _ e=>by subst e;exact z,Dh.old M,λb c d=>by rw[Dh.new M b c d];simp,j,M.fresh⟩;have x:K.kb≠p:=λe=>by rw[<-e,h.tk]at z;simp at z
 refine⟨h.ZB (ks':=y) m (l.blk u h.tk zF) (KC.bl0 (s.IX l zF) Qe) (ae.of λb=>?_) C,m.WB ?_⟩
 .by_cases e:b=p
  .subst e;exact D
  .refine EI.ct (((h.fl.one b).IX M (by simpa using e) (by rintro t rfl;simp) (by rintro t rfl;simp)).keep a e λg n q=>?_) (B b e);rw[show g=p from q,f]at n;rw[n]at A;simp at A
 .rintro t (rfl|rfl|h)<;>try simp
  rintro rfl;simp at h
def Uc (T:Tag) (w:o_) (p M:Nat) (ws:List Nat) (v:n_) (W:o_):Prop:=(v=.slice none 0 0/\ws=[])\/∃g c,v=P_ g ws.length c/\Rw 123 1 W g ws.length c (Az ws)/\ws.length<=M/\(∀x∈ws,x<65536)/\(T g=(15,p)\/w.heap.size<=g)
theorem br3 {a:f_} {m:Nat} (q:ys.length=m) (t:1<=m) (l:∀j v,(Az ys)[j]?=some v->w.cell? (a.add j)=some v) (s:m<=1000):∃cap w',(Builtin.append_ #[116,116] ty #[.slice none 0 0,.slice (some a) m c]).run prog w=.ok (P_ w.heap.size m cap) w'/\Rw 123 1 w' w.heap.size m cap (Az ys)/\Ac No w w':=by
 obtain⟨ii,h,k,i,d⟩:=JI.parts;have b:(Az ys).length=m:=by simp[Az,q]
 have g:=run_append_nil (P:=prog) w 116 ty 123 ii (a_ 0) JI.und h k a m c (Az ys) (by rw[i,b];simp) l zD zD (by rw[d];omega);have f:m<=maxLen:=by simp only[maxLen];omega
 have e:=grownCap_ge w m 0 123;refine⟨_,_,g,⟨⟨_,Y7 rfl,?_,?_⟩,e,grownCap_le_maxLen w m 0 123 f,by rw[b];omega,EF ys⟩,(Ac.refl No w).drew.alloc _⟩
 .simp only[Array.size_append,List.size_toArray,size_zeroCells,JI.zs,b];omega
 .simp only[Array.toList_append];have:m*1=(Az ys).length:=by rw[b];omega
  rw[this];exact List.take_left
theorem bj7 {c2:Nat} (h:n<=c):(Builtin.append_ #[116,116] ty #[.slice a n c,.slice d 0 c2]).run prog w=.ok (.slice a n c) w:=by
 obtain⟨ii,e,g,f,b⟩:=JI.parts;cases a<;>cases d<;>simp[Builtin.append_,run_underlying JI.und,Builtin.lenOf,Builtin.firstCells,sizeOf,typeInfo,e,h,storeCells,loadCells,loadCellsFrom]
theorem appW {F k cS:Nat} (G:RU T w p M (.slice a n c) ws) (I:M<=F) (E:ys.length=k) (H:∀x∈ys,x<65536) (K:k=0\/∃ad,d=some ad/\∀j v,(Az ys)[j]?=some v->w.cell? (ad.add j)=some v) (L:n+k<=F) (J:F<=1000):∃v W,(Builtin.append_ #[116,116] ty #[.slice a n c,.slice d k cS]).run prog w=.ok v W/\Uc T w p F (ws++ys) v W/\Ac (On T λt=>t=(15,p)) w W:=by
 by_cases z:k=0
 .subst z;obtain rfl:ys=[]:=by cases ys;rfl;simp at E
  rw[List.append_nil];obtain⟨e,rfl⟩|⟨g,B,e,i,s,m,h⟩:=G
  .cases e;exact⟨_,_,bj7 (w_ _),.inl ⟨rfl,rfl⟩,Ac.refl _ _⟩
  .cases e;exact⟨_,_,bj7 i.le,.inr ⟨g,c,rfl,i,pV s I,m,.inl h⟩,Ac.refl _ _⟩
 .obtain⟨ad,rfl,y⟩:=K.resolve_left z;obtain⟨e,rfl⟩|⟨g,B,e,i,s,m,h⟩:=G
  .cases e;rw[List.nil_append];obtain⟨cap,D,o,l,b⟩:=br3 (ty:=ty) (c:=cS) E zD y zD;exact⟨_,_,o,.inr ⟨w.heap.size,cap,by rw[E],by rw[E];exact l,zD,H,.inr (w_ _)⟩,b.no⟩
  .cases e;have q:(Az ys).length=k*1:=(by simp[Az,E]);obtain⟨C,A,D,o,l,u⟩:=jP (ty:=ty) (sCap:=cS) JI i q y (EF ys) zD zD;have r:(ws++ys).length=ws.length+k:=(by rw[jR,E]);refine⟨_,_,o,.inr ⟨C,A,by rw[r],by rw[r];simpa [Az]using l,zD,λx f=>?_,?_⟩,?_⟩
   .obtain f|f:=gJ.1 f
    .exact m x f
    .exact H x f
   .obtain⟨rfl,_⟩|⟨rfl,_⟩:=u
    .exact .inl h
    .exact .inr (w_ _)
   .obtain⟨rfl,b⟩|⟨rfl,b⟩:=u
    .exact b.on λx _ e=>by subst e;exact h
    .exact b.no
theorem Uc.IX (h:Uc T w p M ws v W) (j:Ac (On T λt=>t=(15,p)) w W) (k:∀b,w.heap.size<=b->T b=(0,0)):∃T',Dh T T' (λt=>t=(15,p)) (λt=>t=(15,p)) w W/\RU T' W p M v ws:=by
 obtain⟨rfl,e⟩|⟨g,c,rfl,a,d,f,i⟩:=h
 .exact⟨T,Dh.of j k,.inl ⟨rfl,e⟩⟩
 .exact⟨Bg T g (15,p),Dh.row j k i a.lt rfl,.inr ⟨g,c,rfl,a,d,f,AY⟩⟩
def RD (X:(Nat->Ct)->Nat->Nat->n_->Prop) (K:KS) (b:Nat) (w:o_) (e:Ending) (w':o_):Prop:=∃(T':Tag) (ct:Nat->Ct) (x y:Nat) (f:n_),e=.returned (.agg #[a_ x,a_ y,f])/\x<65536/\y<65536/\LW T' w' K.kb b f/\AV { K with T:=T',ct:=ct } w'/\BN K.T T' w w'/\X ct x y f
theorem Dp {X:(Nat->Ct)->Nat->Nat->n_->Prop} {K:KS} (h:∀k,w.heap.size<=k->K.T k=(0,0)) (m:Ac No w w0) (l:w.heap.size<w0.heap.size) (j:BN K.T T' w0 w7) (q:AV { K with T:=T',ct:=ct } w7) (g:Ac (At w.heap.size) w7 w8) (z:x<65536) (A:y<65536) (u:LW T' w7 K.kb b f) (s:X ct x y f):RD X K b w (.returned (.agg #[a_ x,a_ y,f])) w8:=by
 have a:T' w.heap.size=(0,0):=(Dh.fresh j _ l).trans (h _ (w_ _));have c:Ac (On T' λt=>t=(0,0)) w7 w8:=g.on λk _ e=>by rw[show k=w.heap.size from e];exact a
 exact⟨T',ct,x,y,f,rfl,z,A,u.keep c zF,AV.own q g a,((BN.no m h).trans j).own g (λk e=>by rw[show k=w.heap.size from e];exact w_ _),s⟩
theorem OM.words {K:KS} (h:AV K w) (D:K.ps b=some r) (E:r.en=false) (C:∀z∈r.Af,z<65536) (F:OM r (.slice d n n) o n) (k:Nat) (G:k<=n):∃ys:List Nat,ys.length=k/\(∀x∈ys,x<65536)/\(k=0\/∃ad,d=some ad/\∀j v,(Az ys)[j]?=some v->w.cell? (ad.add j)=some v)/\ag (ys=(r.Af.drop o).take k):=by
 obtain⟨e,A⟩|⟨g,c,a,e,t,y⟩:=F
 .cases e;obtain rfl:k=0:=zD
  exact⟨[],rfl,zF,.inl rfl,by unfold ag;simp⟩
 .cases e;obtain⟨p,m,_,q,B,i⟩:=h.jm D E;obtain⟨rfl,rfl⟩:g=p/\c=m:=by rw[i]at a;simp at a;exact⟨a.1.symm,a.2.symm⟩
  refine⟨(r.Af.drop o).take k,by simp;omega,λx u=>C x (List.mem_of_mem_drop (List.mem_of_mem_take u)),.inr ⟨_,rfl,λj v f=>?_⟩,rfl⟩;have l:((S_ g o):f_).add j=(S_ g (o+j)):=by unfold Addr.add;split<;>simp_all
  simp only[Az,List.map_take,List.map_drop,List.getElem?_take,List.getElem?_drop]at f;split at f
  .rename_i s;rw[l,q.cell zD];exact f
  .cases f
section
variable (m:Nat) (w:o_)
def XWr (K:KS) (p:Nat) (r:PR) (o n:Nat):(Nat->Ct)->Nat->Nat->n_->Prop:=λct x y f=>
 ((K.ct p).x=false/\ct=K.ct/\x=0/\y=11/\f=.nilFunc)\/
 ((K.ct p).x=true/\1<=n/\(K.ct p).Jr=true/\ct=K.ct/\x=0/\y=0/\f=.func (.func 265) #[ptr p] #[])\/
 ((K.ct p).x=true/\(n=0\/(K.ct p).Jr=false)/\x=Nat.min n (16-(K.ct p).ws.length)/\ct=Ag K.ct p { K.ct p with ws:=(K.ct p).ws++(r.Af.drop o).take x }/\y=0/\f=.nilFunc)
theorem XWr.of {K:KS} (j:(K.ct p).x=true) (e:ag ((K.ct p).ws=ws)) (g:n=0\/(K.ct p).Jr=false) (k:ag (ys=(r.Af.drop o).take x)) (h:x=Nat.min n (16-ws.length)):XWr K p r o n (Ag K.ct p { K.ct p with ws:=ws++ys }) x 0 .nilFunc:=by
 refine .inr (.inr ⟨j,g,?_,?_,rfl,rfl⟩)
 .rw[e.out];exact h
 .rw[e.out,k.out]
theorem Η (K:KS) (b e0 o n:Nat) (r:PR) (v:n_) (h:AV K w) (hb:K.ps b=some r) (hn:r.en=false) (hI:∀z∈r.Af,z<65536) (hL:r.Af.length<=128) (te:K.T e0=(14,0)) (hv:OM r v o n):
  O_ m 275 #[Q_ e0,v] w (RD (XWr K (K.ct e0).n r o n) K b w):=by
 obtain⟨K0,rb,Cb⟩:=Iw w;have F:=h.no K0;have GV:K.T w.heap.size=(0,0):=h.lt _ (w_ _);obtain⟨d0,rfl,cb7⟩:∃d,v=.slice d n n/\n<=128:=by
  obtain⟨rfl,rfl⟩|⟨g,c,_,rfl,_,_⟩:=hv
  .exact⟨none,rfl,zD⟩
  .exact⟨_,rfl,zD⟩
 obtain⟨he,A⟩:=F.fl.TM e0 te;generalize (K.ct e0).n=p at*;have d1:(w.alloc V_).cell? (R_ e0)=some (Q_ p):=(Ah he 0).trans rfl;obtain⟨u,hp,hu⟩:=F.fl.pipe p A;generalize ex:(K.ct p).x=x at hp;generalize ey:(K.ct p).y=y at hp;obtain⟨ws,WE⟩:∃ws,ag ((K.ct p).ws=ws):=⟨_,rfl⟩;rw[WE.out]at hu;obtain⟨a,c',rfl,hwc,hw16,hwx,hwn,hws⟩:=hu.shape;have q0:(w.alloc V_).cell? (R_ p)=some (.slice a ws.length c'):=(Ah hp 0).trans rfl;have q1:(w.alloc V_).cell? (S_ p 1)=some (.bool x):=(Ah hp 1).trans rfl;obtain⟨B,cu8⟩:∃B:Nat,(16:Int)-(ws.length:Int)=(B:Int):=⟨16-ws.length,zD⟩;cases x with
 |false=>
  gi_enter func275,ntmps275
  gi_wp2_with fail
  gi_wp2_with (first|(gi_at_call 273;refine(fw8 11 rb _).mono ?_;rintro e wz ⟨rfl,G,w8,H,I,C⟩)|refine EX H ?_)
  refine T_ 0 11 (by simp[results,results275,go_sem,FI C]) rfl ?_
  exact Dp (T':=K.T) (ct:=K.ct) (x:=0) (y:=11) h.lt K0 Cb (((BN.no (Ac.refl No _) F.lt)).then G) ((F).no G) I zD zD (.inl rfl) (.inl ⟨ex,rfl,rfl,rfl,rfl⟩)
 |true=>
  have cs:=λm=>Zb m _ K p F A
  by_cases hz:n=0
  .subst hz;have l:Ac No (w.alloc V_) (w.alloc V_):=Ac.refl _ _;gi_enter func275,ntmps275;gi_wp2;have N:=d1;have q0w:=q0;generalize hw0:w.alloc V_=J at*;have k:AV K J.drew:=F.no l.drew;obtain⟨ys,Y,Z,V,X⟩:=hv.words k hb hn hI 0 (w_ 0);obtain⟨va,Wa,GY,ϸ,O⟩:=appW (ty:=116) (cS:=0) (hu.set l.drew (fun _ _=>id)) (w_ 16) Y Z V zD zD;have e1:J.drew.cell? (R_ e0)=some (Q_ p):=N;have e2:J.drew.cell? (R_ p)=some (.slice a ws.length c'):=q0w;have dH:=qy _ _ e1;have lp2:=qy _ _ e2;refine Dl (P:=prog) _ rfl rfl sJ 15 62 [0,1,2,3,4,5,6,7,8,9,10,11,12,13] [14] sJ (by rfl)
    (Oa (On K.T λt=>t=(15,p)) J.drew 14 (Uc K.T J.drew p 16 (ws++ys)) []) (F7 zF zF) _ _ rfl rfl ?_;gi_wp2_with (refine Cj rfl (.tmp 53) (.tmp 56) _ rfl rfl rfl GY ?_);refine⟨rfl,sJ,Em,?_,?_,?_⟩
   .intro L' u W j;have d1:=(j.1.cell (w:=J.drew) (p:=(R_ e0)) dH (by unfold On;rw[te];simp)).trans e1;have d2:=(j.1.cell (w:=J.drew) (p:=(R_ p)) lp2 (by unfold On;rw[A];simp)).trans e2
    repeat' (refine Au ?_ ?_)
    all_goals first|exact eu|gi_wp2
   .intro i hi L' u W j R hu';obtain rfl:i=14:=(by simpa using hi);obtain rfl:=j.2.1 R;refine BC rfl λKK Nc=>?_
    show wpListIn NF m prog _ _ _ (Act.put _ (some 57) (u 14)) _;gi_wp2_with (refine Cj rfl (.tmp 53) (.tmp 56) _ rfl rfl rfl GY ?_);exact⟨_,rfl,F8 j zF O ϸ⟩
   .intro L' u W j Q;have q:=j.2.2.1 (Q 14 zF);obtain⟨M,n3,c3,D⟩:∃a n c,u 14=.slice a n c:=by
     obtain⟨e,_⟩|⟨g,c,e,_⟩:=q<;>exact⟨_,_,_,e⟩
    show wpListIn NF m prog _ _ _ (Act.put _ (some 57) (u 14)) _;rw[D];rw[D]at q;have s:=j.1.old (w:=J.drew) (l.old hp id) (by unfold On;rw[A];simp);have q3:W.cell? (R_ p)=some _:=(Ah s 0).trans rfl;have z3:=BQ s 0;gi_wp2_with fail;obtain⟨T',L,S⟩:=q.IX j.1 k.lt;have E:T' p=(11,0):=L.tag A zF;have s4:=k.aa1 (i:=0) (v:=.slice M n3 c3) (by rw[A];simp) (by rw[A];simp) L (EI.VR (ct:=Ag K.ct p { K.ct p with ws:=ws++ys }) (v:=.slice M n3 c3) E ((Ap s _).trans (by simp[Ag,ex,ey])) (by have:=S.set (Ac.NZ (b:=p) (o:=0) (.slice M n3 c3)) (λg hg e=>by rw[show g=p from e,E]at hg;simp at hg);simpa [Ag]using this)) (k.dk.other L (by rw[A];simp)) (λb hb=>ru hb);have LC:BN K.T T' J _:=(BN.no l.drew F.lt).trans s4.2;gi_wp2_with (first|(gi_at_call 272;refine(Dk _ _ 0 zD).mono ?_;rintro e wz ⟨rfl,G⟩;obtain⟨w8,H,I,C⟩:=AA (x:=0) (y:=0) (f:=.nilFunc) (G.old (LC.old rb GV) id) rfl)|refine EX H ?_);refine T_ 0 0 (by simp[results,results275,go_sem,FI C]) rfl ?_;exact Dp (T':=T') (x:=0) (y:=0) h.lt K0 Cb ((LC).then G) ((s4.1).no G) I zD zD (.inl rfl) (XWr.of ex WE (.inl rfl) X zF)
  .have f1:(0:Int)<(n:Int):=zD;by_cases hkn:n<=B
   .have f2:¬(B:Int)<(n:Int):=zD;gi_enter func275,ntmps275;gi_wp2_with (first|(gi_at_call 265;refine(cs _).mono ?_;rintro e w1 ⟨l,xb,rfl,U⟩;have N:=l.has d1;have q0w:=l.has q0;generalize hw0:w.alloc V_=J at *;obtain⟨w8,H,I,C⟩:=AA (x:=0) (y:=0) (f:=.func (.func 265) #[Q_ p] #[]) (l.old rb id) rfl;cases xb)|refine EX H ?_)
    .clear H I C;have k:AV K w1.drew:=F.no l.drew;obtain⟨ys,Y,Z,V,X⟩:=hv.words k hb hn hI n (w_ n);obtain⟨va,Wa,GY,ϸ,O⟩:=appW (ty:=116) (cS:=n) (hu.set l.drew (fun _ _=>id)) (w_ 16) Y Z V zD zD;have e1:w1.drew.cell? (R_ e0)=some (Q_ p):=N;have e2:w1.drew.cell? (R_ p)=some (.slice a ws.length c'):=q0w;have dH:=qy _ _ e1;have lp2:=qy _ _ e2;refine Dl (P:=prog) _ rfl rfl sJ 15 62 [0,1,2,3,4,5,6,7,8,9,10,11,12,13] [14] sJ (by rfl)
      (Oa (On K.T λt=>t=(15,p)) w1.drew 14 (Uc K.T w1.drew p 16 (ws++ys)) []) (F7 zF zF) _ _ rfl rfl ?_;gi_wp2_with (refine Cj rfl (.tmp 53) (.tmp 56) _ rfl rfl rfl GY ?_);refine⟨rfl,sJ,Em,?_,?_,?_⟩
     .intro L' u W j;have d1:=(j.1.cell (w:=w1.drew) (p:=(R_ e0)) dH (by unfold On;rw[te];simp)).trans e1;have d2:=(j.1.cell (w:=w1.drew) (p:=(R_ p)) lp2 (by unfold On;rw[A];simp)).trans e2
      repeat' (refine Au ?_ ?_)
      all_goals first|exact eu|gi_wp2
     .intro i hi L' u W j R hu';obtain rfl:i=14:=(by simpa using hi);obtain rfl:=j.2.1 R;refine BC rfl λKK Nc=>?_
      show wpListIn NF m prog _ _ _ (Act.put _ (some 57) (u 14)) _;gi_wp2_with (refine Cj rfl (.tmp 53) (.tmp 56) _ rfl rfl rfl GY ?_);exact⟨_,rfl,F8 j zF O ϸ⟩
     .intro L' u W j Q;have q:=j.2.2.1 (Q 14 zF);obtain⟨M,n3,c3,D⟩:∃a n c,u 14=.slice a n c:=by
       obtain⟨e,_⟩|⟨g,c,e,_⟩:=q<;>exact⟨_,_,_,e⟩
      show wpListIn NF m prog _ _ _ (Act.put _ (some 57) (u 14)) _;rw[D];rw[D]at q;have s:=j.1.old (w:=w1.drew) (l.old hp id) (by unfold On;rw[A];simp);have q3:W.cell? (R_ p)=some _:=(Ah s 0).trans rfl;have z3:=BQ s 0;gi_wp2_with fail;obtain⟨T',L,S⟩:=q.IX j.1 k.lt;have E:T' p=(11,0):=L.tag A zF;have s4:=k.aa1 (i:=0) (v:=.slice M n3 c3) (by rw[A];simp) (by rw[A];simp) L (EI.VR (ct:=Ag K.ct p { K.ct p with ws:=ws++ys }) (v:=.slice M n3 c3) E ((Ap s _).trans (by simp[Ag,ex,ey])) (by have:=S.set (Ac.NZ (b:=p) (o:=0) (.slice M n3 c3)) (λg hg e=>by rw[show g=p from e,E]at hg;simp at hg);simpa [Ag]using this)) (k.dk.other L (by rw[A];simp)) (λb hb=>ru hb);have LC:BN K.T T' J _:=(BN.no l.drew F.lt).trans s4.2;gi_wp2_with (first|(gi_at_call 272;refine(Dk _ _ n zD).mono ?_;rintro e wz ⟨rfl,G⟩;obtain⟨w8,H,I,C⟩:=AA (x:=n) (y:=0) (f:=.nilFunc) (G.old (LC.old rb GV) id) rfl)|refine EX H ?_);refine T_ n 0 (by simp[results,results275,go_sem,FI C]) rfl ?_;exact Dp (T':=T') (x:=n) (y:=0) h.lt K0 Cb ((LC).then G) ((s4.1).no G) I zD zD (.inl rfl) (XWr.of ex WE (.inr U.out.symm) X (by simp only[Nat.min_def];split<;>omega))
    .have zK:w8.cell? (R_ w.heap.size)=some (a_ 0):=bce C rfl;have zJ:w8.cell? (S_ w.heap.size 1)=some (a_ 0):=bce C rfl;have zI:w8.cell? (S_ w.heap.size 2)=some (.func (.func 265) #[Q_ p] #[]):=bce C rfl;refine bodyPost_ret (v:=.agg #[a_ 0,a_ 0,.func (.func 265) #[Q_ p] #[]]) (by simp[results,results275,go_sem,zK,zJ,zI]) rfl ?_;exact Dp (T':=K.T) (ct:=K.ct) (x:=0) (y:=0) h.lt K0 Cb (BN.no l F.lt) (F.no l) I zD zD (.inr (.inr ⟨p,.inr rfl,A⟩)) (.inr (.inl ⟨ex,zD,U.out.symm,rfl,rfl,rfl,rfl⟩))
   .have f2:(B:Int)<(n:Int):=zD;gi_enter func275,ntmps275;gi_wp2_with (first|(gi_at_call 265;refine(cs _).mono ?_;rintro e w1 ⟨l,xb,rfl,U⟩;have N:=l.has d1;have q0w:=l.has q0;generalize hw0:w.alloc V_=J at *;obtain⟨w8,H,I,C⟩:=AA (x:=0) (y:=0) (f:=.func (.func 265) #[Q_ p] #[]) (l.old rb id) rfl;cases xb)|refine EX H ?_)
    .clear H I C;have k:AV K w1.drew:=F.no l.drew;obtain⟨ys,Y,Z,V,X⟩:=hv.words k hb hn hI B zD;obtain⟨va,Wa,GY,ϸ,O⟩:=appW (ty:=116) (cS:=n) (hu.set l.drew (fun _ _=>id)) (w_ 16) Y Z V zD zD;have e1:w1.drew.cell? (R_ e0)=some (Q_ p):=N;have e2:w1.drew.cell? (R_ p)=some (.slice a ws.length c'):=q0w;have dH:=qy _ _ e1;have lp2:=qy _ _ e2;refine Dl (P:=prog) _ rfl rfl sJ 15 62 [0,1,2,3,4,5,6,7,8,9,10,11,12,13] [14] sJ (by rfl)
      (Oa (On K.T λt=>t=(15,p)) w1.drew 14 (Uc K.T w1.drew p 16 (ws++ys)) []) (F7 zF zF) _ _ rfl rfl ?_;gi_wp2_with (refine Cj rfl (.tmp 53) (.tmp 56) _ rfl rfl rfl GY ?_);refine⟨rfl,sJ,Em,?_,?_,?_⟩
     .intro L' u W j;have d1:=(j.1.cell (w:=w1.drew) (p:=(R_ e0)) dH (by unfold On;rw[te];simp)).trans e1;have d2:=(j.1.cell (w:=w1.drew) (p:=(R_ p)) lp2 (by unfold On;rw[A];simp)).trans e2
      repeat' (refine Au ?_ ?_)
      all_goals first|exact eu|gi_wp2
     .intro i hi L' u W j R hu';obtain rfl:i=14:=(by simpa using hi);obtain rfl:=j.2.1 R;refine BC rfl λKK Nc=>?_
      show wpListIn NF m prog _ _ _ (Act.put _ (some 57) (u 14)) _;gi_wp2_with (refine Cj rfl (.tmp 53) (.tmp 56) _ rfl rfl rfl GY ?_);exact⟨_,rfl,F8 j zF O ϸ⟩
     .intro L' u W j Q;have q:=j.2.2.1 (Q 14 zF);obtain⟨M,n3,c3,D⟩:∃a n c,u 14=.slice a n c:=by
       obtain⟨e,_⟩|⟨g,c,e,_⟩:=q<;>exact⟨_,_,_,e⟩
      show wpListIn NF m prog _ _ _ (Act.put _ (some 57) (u 14)) _;rw[D];rw[D]at q;have s:=j.1.old (w:=w1.drew) (l.old hp id) (by unfold On;rw[A];simp);have q3:W.cell? (R_ p)=some _:=(Ah s 0).trans rfl;have z3:=BQ s 0;gi_wp2_with fail;obtain⟨T',L,S⟩:=q.IX j.1 k.lt;have E:T' p=(11,0):=L.tag A zF;have s4:=k.aa1 (i:=0) (v:=.slice M n3 c3) (by rw[A];simp) (by rw[A];simp) L (EI.VR (ct:=Ag K.ct p { K.ct p with ws:=ws++ys }) (v:=.slice M n3 c3) E ((Ap s _).trans (by simp[Ag,ex,ey])) (by have:=S.set (Ac.NZ (b:=p) (o:=0) (.slice M n3 c3)) (λg hg e=>by rw[show g=p from e,E]at hg;simp at hg);simpa [Ag]using this)) (k.dk.other L (by rw[A];simp)) (λb hb=>ru hb);have LC:BN K.T T' J _:=(BN.no l.drew F.lt).trans s4.2;gi_wp2_with (first|(gi_at_call 272;refine(Dk _ _ B zD).mono ?_;rintro e wz ⟨rfl,G⟩;obtain⟨w8,H,I,C⟩:=AA (x:=B) (y:=0) (f:=.nilFunc) (G.old (LC.old rb GV) id) rfl)|refine EX H ?_);refine T_ B 0 (by simp[results,results275,go_sem,FI C]) rfl ?_;exact Dp (T':=T') (x:=B) (y:=0) h.lt K0 Cb ((LC).then G) ((s4.1).no G) I zD zD (.inl rfl) (XWr.of ex WE (.inr U.out.symm) X (by simp only[Nat.min_def];split<;>omega))
    .have zK:w8.cell? (R_ w.heap.size)=some (a_ 0):=bce C rfl;have zJ:w8.cell? (S_ w.heap.size 1)=some (a_ 0):=bce C rfl;have zI:w8.cell? (S_ w.heap.size 2)=some (.func (.func 265) #[Q_ p] #[]):=bce C rfl;refine bodyPost_ret (v:=.agg #[a_ 0,a_ 0,.func (.func 265) #[Q_ p] #[]]) (by simp[results,results275,go_sem,zK,zJ,zI]) rfl ?_;exact Dp (T':=K.T) (ct:=K.ct) (x:=0) (y:=0) h.lt K0 Cb (BN.no l F.lt) (F.no l) I zD zD (.inr (.inr ⟨p,.inr rfl,A⟩)) (.inr (.inl ⟨ex,zD,U.out.symm,rfl,rfl,rfl,rfl⟩))
end
end Go.Fxa
