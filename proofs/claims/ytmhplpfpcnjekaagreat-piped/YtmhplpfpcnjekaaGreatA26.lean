/- A pipe is read. -/
import Derived.Test.YtmhplpfpcnjekaaGreatA25
namespace Go.Fxa
open Conc Proofs RowKit Proofs.Tryz
set_option maxRecDepth 1000000
set_option maxHeartbeats 0
theorem Ez {X:List Nat->(Nat->Ct)->Nat->Nat->n_->Prop} {ct:Nat->Ct} {b x y:Nat} {K:KS} {r:PR} {w w0 w7 w8:o_} {f:n_} {Ae:List Nat} (Bv:∀k,w.heap.size<=k->K.T k=(0,0)) (K0:Keep No w w0) (hV:BV K.T K.T w0 w7) (h7:A8 (KS.AP { K with ct:=ct } b { r with Ae:=Ae }) w7) (K8:Keep (At w.heap.size) w7 w8) (hx:x<65536) (hy:y<65536) (hf:Nj K.T w7 K.kb b f) (hl:Ae.length=r.Ae.length) (hI:∀z∈Ae,z<65536) (hX:X Ae ct x y f):WJ X K b r w (.returned (.agg #[a_ x,a_ y,f])) w8:=by
 have a:K.T w.heap.size=(0,0):=Bv _ (w_ _);have c:Keep (On K.T λt=>t=(0,0)) w7 w8:=K8.on λk _ e=>by rw[show k=w.heap.size from e];exact a
 exact⟨Ae,ct,x,y,f,rfl,hx,hy,hf.keep c (by simp),hl,hI,h7.own K8 a,((BV.no K0 Bv).trans hV).own K8 (λk e=>by rw[show k=w.heap.size from e];exact w_ _),hX⟩
def yY (T:Tag) (p:Nat) (ws:List Nat) (v:n_) (W:o_):Prop:=(∃a n c,v=.slice a n c)/\RJ T W p 16 v ws
theorem RJ.shape {T:Tag} {w:o_} {b M:Nat} {v:n_} {ws:List Nat} (h:RJ T w b M v ws):∃(a:d_ f_) (c:Nat),v=.slice a ws.length c/\ws.length<=c/\ws.length<=M/\(∀x∈ws,x<65536)/\(a=none->ws.length=0)/\(∀ad,a=some ad->∀j u,(AB ws)[j]?=some u->w.cell? (ad.add j)=some u):=by
 obtain⟨rfl,rfl⟩|⟨g,c,rfl,d,f,i,_⟩:=h
 .exact⟨none,0,rfl,by simp,by simp,by simp,λ_=>rfl,λad e=>by cases e⟩
 .exact⟨_,c,rfl,d.le,f,i,λe=>(by cases e),λad e=>by cases e;exact d.cells⟩
section
variable (m:Nat) (w:o_)
theorem sU (T:Tag) (p k:Nat) (v:n_) (ws:List Nat) (h:RJ T w p 16 v ws) (hk:∀a n c,v=.slice a n c->k<=n):P_ m 271 #[v,b_ 0,b_ (k:Nat)] w λe w'=>∃u,e=.returned u/\yY T p (ws.drop k) u w'/\Keep (On T λt=>t=(15,p)) w w':=by
 obtain⟨rfl,rfl⟩|⟨g,c,rfl,i,o,j,f⟩:=h
 .have:=hk _ _ _ rfl;obtain rfl:k=0:=by omega
  refine(TF m w none 0 0 (by omega)).mono ?_;rintro e w' ⟨rfl,b⟩;exact⟨_,rfl,⟨⟨_,_,_,rfl⟩,.inl ⟨rfl,rfl⟩⟩,b.no⟩
 .have hk:=hk _ _ _ rfl;by_cases r:k=0
  .subst r;refine(TF m w _ _ _ i.le).mono ?_;rintro e w' ⟨rfl,b⟩;exact⟨_,rfl,⟨⟨_,_,_,rfl⟩,.inr ⟨g,c,rfl,i.keep b id,o,j,f⟩⟩,b.no⟩
  .refine(vY m w g ws.length c 0 k _ i (by omega) hk).mono ?_;rintro e w' ⟨rfl,b,l⟩;have d:(ws.drop k).length=0+(ws.length-k):=(by simp);refine⟨_,rfl,⟨⟨_,_,_,rfl⟩,.inr ⟨g,c,by rw[d],?_,by rw[d];omega,λx q=>j x (List.mem_of_mem_drop q),f⟩⟩,b.on λx _ e=>by subst e;exact f⟩;rw[d];simpa [AB,List.map_drop]using l
def XRd (K:KS) (p:Nat) (r:PR) (o n:Nat):List Nat->(Nat->Ct)->Nat->Nat->n_->Prop:=λAe ct x y f=>
 (1<=n/\(K.ct p).starved=true/\Ae=r.Ae/\ct=K.ct/\x=0/\y=0/\f=.func (.func 270) #[ptr p] #[])\/
 ((n=0\/(K.ct p).starved=false)/\x=Nat.min (K.ct p).ws.length n/\Ae=N7 r.Ae o ((K.ct p).ws.take x)/\ct=Aj K.ct p { K.ct p with ws:=(K.ct p).ws.drop x }/\y=0/\f=.nilFunc)
theorem dh (K:KS) (b e0 o n:Nat) (r:PR) (v:n_) (h:A8 K w) (hb:K.ps b=some r) (hn:r.en=false) (hI:∀z∈r.Ae,z<65536) (te:K.T e0=(13,0)) (hv:Jq r v o n):
  P_ m 266 #[R_ e0,v] w (WJ (XRd K (K.ct e0).n r o n) K b r w):=by
 obtain⟨K0,rb,_⟩:=Oa w;have M:=h.no K0;have MR:K.T w.heap.size=(0,0):=h.lt _ (w_ _);obtain⟨d0,rfl⟩:∃d,v=.slice d n n:=by
  obtain⟨rfl,rfl⟩|⟨g,c,_,rfl,_⟩:=hv
  .exact⟨none,rfl⟩
  .exact⟨_,rfl⟩
 obtain⟨he,j⟩:=M.fl.rend e0 te;generalize (K.ct e0).n=p at*;have d1:(w.alloc V_).cell? (S_ e0)=some (R_ p):=(Af he 0).trans rfl;have A:∀w1,Keep No (w.alloc V_) w1->∃(a:d_ f_) (G D k:Nat) (Ae:List Nat) (w2:o_),w1.cell? (S_ e0)=some (R_ p)/\w1.cell? (S_ p)=some (.slice a G D)/\(Builtin.copy_ #[116,116] 3 #[.slice d0 n n,.slice a G D]).run prog w1=.ok (goInt (k:Nat)) w2/\k<=G/\G<=16/\Ae.length=r.Ae.length/\(∀z∈Ae,z<65536)/\A8 (K.AP b { r with Ae:=Ae }) w2/\BV K.T K.T w1 w2/\w2.heap[p]?=some (O_ #[.slice a G D,.bool (K.ct p).x,.bool (K.ct p).y] 329)/\RJ K.T w2 p 16 (.slice a G D) (K.ct p).ws/\Hid (k=Nat.min (K.ct p).ws.length n/\Ae=N7 r.Ae o ((K.ct p).ws.take k))/\w2.cell? (S_ e0)=some (R_ p):=λw1 B=>by
  have h1:=M.no B
  obtain⟨u,hp,hu⟩:=h1.fl.pipe p j
  obtain⟨a,D,rfl,hwc,hw16,hwx,hwn,hws⟩:=hu.shape
  obtain⟨w2,k,Ae,Bi,hk,_,GI,UF,Hz,hM2,Q,l⟩:=Js (ty:=3) (sCap:=D) h1 hb hn hI hv hwx rfl hws hwn
  have L:=B.has d1
  exact⟨a,(K.ct p).ws.length,D,k,Ae,w2,L,(Af hp 0).trans rfl,Bi,hk,hw16,GI,UF,Hz,hM2,Q.old hp (by unfold On;rw[j];simp),hu.keep Q (by simp),l,(Q.cell (World.block_lt_of_cell? _ _ L) (by unfold On;rw[te];simp)).trans L⟩
 by_cases hz:n=0
 .subst hz;have B:Keep No (w.alloc V_) (w.alloc V_):=p_ _ _;obtain⟨a,G,D,k,Ae,w2,d1,d2,hcp,R,bs6,GI,UF,h2,M2,q,S,l,e1⟩:=A _ B;clear A;have Zb:=World.block_lt_of_cell? _ _ e1;have V:=DN q;have e2:w2.cell? (S_ p)=some (.slice a G D):=(Af q 0).trans rfl;gi_enter func266,ntmps266;gi_wp2;generalize hw0:w.alloc V_=w0 at*;refine DT (P:=prog) _ rfl rfl (by kernel_rfl) 13 48 [0,1,2,3,4,5,6,7,8,9,10,11] [12] (by kernel_rfl) (by rfl)
   (NJ (On K.T λt=>t=(15,p)) w2.drew 12 (yY K.T p ((K.ct p).ws.drop k)) []) (F8 (by simp) (by simp)) _ _ rfl rfl ?_;have cD:=λm=>sU m w2.drew K.T p k _ _ (S.set (p_ No w2).drew (λ_ _=>id)) (λ_ _ _ e=>by cases e;exact R)
  gi_wp2_with (gi_at_call 271;refine(cD _).mono ?_;rintro e w3 ⟨u3,rfl,_,_⟩);refine⟨rfl,by kernel_rfl,En,?_,?_,?_⟩
  .intro L' u W hI;have d1:=(hI.1.cell (w:=w2.drew) (p:=(S_ e0)) Zb (by unfold On;rw[te];simp)).trans e1;have d2:=(hI.1.cell (w:=w2.drew) (p:=(S_ p)) V (by unfold On;rw[j];simp)).trans e2
   repeat' (refine Az ?_ ?_)
   all_goals first|exact trivial|gi_wp2
  .intro i hi L' u W hI N hu;obtain rfl:i=12:=(by simpa using hi);obtain rfl:=hI.2.1 N;refine BJ rfl λKK Qj=>?_
   show wpListIn NF m prog _ _ _ (Act.put _ (some 43) (u 12)) _;gi_wp2_with (gi_at_call 271;refine(cD _).mono ?_;rintro e w3 ⟨u3,rfl,O,C⟩);exact⟨_,rfl,F9 hI (by simp) C O⟩
  .intro L' u W hI hL;obtain⟨⟨J,X,c3,E⟩,F⟩:=hI.2.2.1 (hL 12 (by simp));show wpListIn NF m prog _ _ _ (Act.put _ (some 43) (u 12)) _;rw[E];rw[E]at F;have C:Keep (On K.T λt=>t=(15,p)) w2 W:=(p_ _ w2).drew.then hI.1;have s:=C.old q (by unfold On;rw[j];simp);have q3:W.cell? (S_ p)=some _:=(Af s 0).trans rfl;have z3:=BN s 0;have e1':=(C.cell (p:=(S_ e0)) Zb (by unfold On;rw[te];simp)).trans e1;gi_wp2_with fail;have K4:Keep (λx=>x=p\/K.T x=(15,p)) w2 (W.setCell (S_ p) (.slice J X c3)):=(C.mono λx _ e=>.inr e).setCell _ λ_=>.inl rfl
   have s4:=A8.bF (b0:=p) (QL:=Aj K.ct p { K.ct p with ws:=(K.ct p).ws.drop k }) h2 K4 (λx U=>by
    obtain rfl|U:=U
    .exact .inl ⟨rfl,by show(K.T x).1≠15;rw[j];simp⟩
    .exact .inr U) (by show 10<=(K.T p).1;rw[j];simp) (by show(K.T p).1<15;rw[j];simp) (FOne.UK (T:=K.T) (v:=.slice J X c3) j ((Ak s _).trans (by simp[Aj])) (by have:=F.set (Keep.Jo (b:=p) (o:=0) (.slice J X c3)) (λg hg e=>by rw[show g=p from e,j]at hg;simp at hg);simpa [Aj]using this)) (λb hb=>if_neg hb) (λe=>absurd (j.symm.trans e) (by simp))
   have ND:BV K.T K.T w0 _:=((BV.no B M.lt).trans M2).trans s4.2;gi_wp2_with (first|(gi_at_call 272;refine(CZ _ _ k (by omega)).mono ?_;rintro e wz ⟨rfl,I⟩;obtain⟨w8,Y,Z,H⟩:=AU (x:=k) (y:=0) (f:=.nilFunc) (I.old (ND.old rb MR) id) rfl)|refine Io Y ?_);refine TR k 0 (by simp[results,results266,go_sem,Jj H]) rfl ?_;exact Ez (x:=k) (y:=0) h.lt K0 ((ND).then I) ((s4.1).no I) Z (by omega) (by omega) (.inl rfl) (GI) (UF) (.inr ⟨.inl rfl,l.out.1,l.out.2,rfl,rfl,rfl⟩)
 .have f1:(0:Int)<(n:Int):=by omega
  have cs:=λm=>WV m _ K p M j
  gi_enter func266,ntmps266;gi_wp2_with (first|(gi_at_call 270;refine(cs _).mono ?_;rintro e w1 ⟨B,xb,rfl,hxb⟩;obtain⟨a,G,D,k,Ae,w2,d1,d2,hcp,R,bs6,GI,UF,h2,M2,q,S,l,e1⟩:=A w1 B;clear A;generalize hw0:w.alloc V_=w0 at *;obtain⟨w8,Y,Z,H⟩:=AU (x:=0) (y:=0) (f:=.func (.func 270) #[R_ p] #[]) (B.old rb id) rfl;have Zb:=World.block_lt_of_cell? _ _ e1;have V:=DN q;have e2:w2.cell? (S_ p)=some (.slice a G D):=(Af q 0).trans rfl;cases xb)|refine Io Y ?_)
  .clear Y Z H;refine DT (P:=prog) _ rfl rfl (by kernel_rfl) 13 48 [0,1,2,3,4,5,6,7,8,9,10,11] [12] (by kernel_rfl) (by rfl)
    (NJ (On K.T λt=>t=(15,p)) w2.drew 12 (yY K.T p ((K.ct p).ws.drop k)) []) (F8 (by simp) (by simp)) _ _ rfl rfl ?_;have cD:=λm=>sU m w2.drew K.T p k _ _ (S.set (p_ No w2).drew (λ_ _=>id)) (λ_ _ _ e=>by cases e;exact R)
   gi_wp2_with (gi_at_call 271;refine(cD _).mono ?_;rintro e w3 ⟨u3,rfl,_,_⟩);refine⟨rfl,by kernel_rfl,En,?_,?_,?_⟩
   .intro L' u W hI;have d1:=(hI.1.cell (w:=w2.drew) (p:=(S_ e0)) Zb (by unfold On;rw[te];simp)).trans e1;have d2:=(hI.1.cell (w:=w2.drew) (p:=(S_ p)) V (by unfold On;rw[j];simp)).trans e2
    repeat' (refine Az ?_ ?_)
    all_goals first|exact trivial|gi_wp2
   .intro i hi L' u W hI N hu;obtain rfl:i=12:=(by simpa using hi);obtain rfl:=hI.2.1 N;refine BJ rfl λKK Qj=>?_
    show wpListIn NF m prog _ _ _ (Act.put _ (some 43) (u 12)) _;gi_wp2_with (gi_at_call 271;refine(cD _).mono ?_;rintro e w3 ⟨u3,rfl,O,C⟩);exact⟨_,rfl,F9 hI (by simp) C O⟩
   .intro L' u W hI hL;obtain⟨⟨J,X,c3,E⟩,F⟩:=hI.2.2.1 (hL 12 (by simp));show wpListIn NF m prog _ _ _ (Act.put _ (some 43) (u 12)) _;rw[E];rw[E]at F;have C:Keep (On K.T λt=>t=(15,p)) w2 W:=(p_ _ w2).drew.then hI.1;have s:=C.old q (by unfold On;rw[j];simp);have q3:W.cell? (S_ p)=some _:=(Af s 0).trans rfl;have z3:=BN s 0;have e1':=(C.cell (p:=(S_ e0)) Zb (by unfold On;rw[te];simp)).trans e1;gi_wp2_with fail;have K4:Keep (λx=>x=p\/K.T x=(15,p)) w2 (W.setCell (S_ p) (.slice J X c3)):=(C.mono λx _ e=>.inr e).setCell _ λ_=>.inl rfl
    have s4:=A8.bF (b0:=p) (QL:=Aj K.ct p { K.ct p with ws:=(K.ct p).ws.drop k }) h2 K4 (λx U=>by
     obtain rfl|U:=U
     .exact .inl ⟨rfl,by show(K.T x).1≠15;rw[j];simp⟩
     .exact .inr U) (by show 10<=(K.T p).1;rw[j];simp) (by show(K.T p).1<15;rw[j];simp) (FOne.UK (T:=K.T) (v:=.slice J X c3) j ((Ak s _).trans (by simp[Aj])) (by have:=F.set (Keep.Jo (b:=p) (o:=0) (.slice J X c3)) (λg hg e=>by rw[show g=p from e,j]at hg;simp at hg);simpa [Aj]using this)) (λb hb=>if_neg hb) (λe=>absurd (j.symm.trans e) (by simp))
    have ND:BV K.T K.T w0 _:=((BV.no B M.lt).trans M2).trans s4.2;gi_wp2_with (first|(gi_at_call 272;refine(CZ _ _ k (by omega)).mono ?_;rintro e wz ⟨rfl,I⟩;obtain⟨w8,Y,Z,H⟩:=AU (x:=k) (y:=0) (f:=.nilFunc) (I.old (ND.old rb MR) id) rfl)|refine Io Y ?_);refine TR k 0 (by simp[results,results266,go_sem,Jj H]) rfl ?_;exact Ez (x:=k) (y:=0) h.lt K0 ((ND).then I) ((s4.1).no I) Z (by omega) (by omega) (.inl rfl) (GI) (UF) (.inr ⟨.inr hxb.out.symm,l.out.1,l.out.2,rfl,rfl,rfl⟩)
  .have xE:w8.cell? (S_ w.heap.size)=some (a_ 0):=bce H rfl;have xC:w8.cell? (T_ w.heap.size 1)=some (a_ 0):=bce H rfl;have xB:w8.cell? (T_ w.heap.size 2)=some (.func (.func 270) #[R_ p] #[]):=bce H rfl;refine bodyPost_ret (v:=.agg #[a_ 0,a_ 0,.func (.func 270) #[R_ p] #[]]) (by simp[results,results266,go_sem,xE,xC,xB]) rfl ?_;exact Ez (x:=0) (y:=0) (Ae:=r.Ae) (ct:=K.ct) h.lt K0 (BV.no B M.lt) (by rw[show KS.AP { K with ct:=K.ct } b { r with Ae:=r.Ae }=K from GX hb];exact M.no B) Z (by omega) (by omega) (.inr (.inr ⟨p,.inl rfl,j⟩)) rfl hI (.inl ⟨by omega,hxb.out.symm,rfl,rfl,rfl,rfl,rfl⟩)
end
theorem FOne.Jl {T T':Tag} {op:Nat->Nat} {ct:Nat->Ct} {Q N:Nat×Nat->Prop} {w w':o_} {kb b:Nat} (h:FOne T op ct w kb b) (M:DY T T' Q N w w') (hw:¬Q (15,b)) (hQ:∀t,Q t->t.1<10\/t.1=15) (hN:∀t,N t->t.1<10\/t.1=15):FOne T' op ct w' kb b:=by
 have q:∀k c,10<=k->k<15->¬Q (k,c):=λk c d f e=>by have:=hQ _ e;simp at this;omega
 have n:∀k c,10<=k->k<15->¬N (k,c):=λk c d f e=>by have:=hN _ e;simp at this;omega
 refine⟨λe=>?_,λe=>?_,λc e=>?_,λe=>?_,λe=>?_⟩
 .have e:=M.back e (by simp) (n _ _ (by omega) (by omega));obtain⟨x,a1,a2⟩:=h.file e;exact⟨x,M.blk a1 e (q _ _ (by omega) (by omega)),a2.Jl M hw⟩
 .have e:=M.back e (by simp) (n _ _ (by omega) (by omega));obtain⟨x,a1,a2⟩:=h.pipe e;exact⟨x,M.blk a1 e (q _ _ (by omega) (by omega)),a2.Jl M hw⟩
 .have e:=M.back e (by simp) (n _ _ (by omega) (by omega));obtain⟨a1,a2,a⟩:=h.Iu c e;exact⟨M.blk a1 e (q _ _ (by omega) (by omega)),M.tag a2 (by simp),a⟩
 .have e:=M.back e (by simp) (n _ _ (by omega) (by omega));obtain⟨a1,a2⟩:=h.rend e;exact⟨M.blk a1 e (q _ _ (by omega) (by omega)),M.tag a2 (by simp)⟩
 .have e:=M.back e (by simp) (n _ _ (by omega) (by omega));obtain⟨a1,a2⟩:=h.TU e;exact⟨M.blk a1 e (q _ _ (by omega) (by omega)),M.tag a2 (by simp)⟩
theorem VQ.other {T T':Tag} {nm:Nat->d_ Nat} {nl:List Nat} {w W:o_} {p i:Nat} {v:n_} (h:VQ T nm nl w) (M:DY T T' (λt=>t=(15,p)) (λt=>t=(15,p)) w W) (hp:T p≠(10,0)):VQ T' nm nl (W.setCell (T_ p i) v):=
 (h.Jl M (by simp) (by simp)).to λb n e=>⟨e,λc=>c.keep ((p_ (At p) W).setCell (p:=(T_ p i)) v λ_=>rfl) λa=>hp (by rw[<-show b=p from a];exact M.back e (by simp) (by simp))⟩
def lN (K:KS) (w:o_) (f n:Nat) (x:Bool):Prop:=x=true->∃ln:Nat->Nat,(∀b,K.T b=(10,0)->LenAt w b (ln b))/\VS ln K.nm K.nl<=40/\VS ln K.nm K.nl+Am n<=40+Am (ln f)
structure Uniq (nm:Nat->d_ Nat) (nl:List Nat):Prop where
 nd:nl.Nodup
 inj:∀i j f,i<16->j<16->nm i=some f->nm j=some f->i=j
 dj:∀i f,i<16->nm i=some f->f ∉ nl
theorem uI {f g:Nat->Nat} {l:List Nat} {b:Nat} (hN:l.Nodup) (hb:b∈l) (he:∀k,k∈l->k≠b->f k=g k):BF f l+g b=BF g l+f b:=by
 have e:=BQ (f:=f) (g:=λk=>if k=b then f b else g k) (l:=l) λk a=>by
  by_cases e:k=b
  .subst e;simp
  .rw[if_neg e];exact he k a e
 have:=Jb (f:=λk=>if k=b then f b else g k) (g:=g) hN hb λk a=>if_neg a
 rw[if_pos rfl]at this;omega
theorem vV {nm:Nat->d_ Nat} {nl:List Nat} {ln:Nat->Nat} {f n:Nat} (hU:Uniq nm nl) (h1:VS ln nm nl<=40) (h2:VS ln nm nl+Am n<=40+Am (ln f)):VS (Aj ln f n) nm nl<=40:=by
 have d:∀k,k≠f->Am (Aj ln f n k)=Am (ln k):=λk c=>by unfold Aj;rw[if_neg c]
 have m:Am (Aj ln f n f)=Am n:=by unfold Aj;rw[if_pos rfl]
 unfold VS at*;by_cases o:∃i,i<16/\nm i=some f
 .obtain⟨i,e,a⟩:=o;have e1:=BQ (f:=λb=>Am (Aj ln f n b)) (g:=λb=>Am (ln b)) (l:=nl) λk c=>d k (by rintro rfl;exact hU.dj i k e a c)
  have e2:=uI (f:=UE (Aj ln f n) nm) (g:=UE ln nm) (l:=List.range 16) (b:=i) List.nodup_range (List.mem_range.2 e) λk c h=>by
   unfold UE
   cases hk':nm k with
   |none=>rfl
   |some g=>exact d g (by rintro rfl;exact h (hU.inj k i g (List.mem_range.1 c) e hk' a))
  have e3:UE ln nm i=Am (ln f):=by unfold UE;rw[a]
  have e4:UE (Aj ln f n) nm i=Am n:=by unfold UE;rw[a];exact m
  omega
 .have e2:=BQ (f:=UE (Aj ln f n) nm) (g:=UE ln nm) (l:=List.range 16) λk c=>by
   unfold UE
   cases hk':nm k with
   |none=>rfl
   |some g=>exact d g (by rintro rfl;exact o ⟨k,List.mem_range.1 c,hk'⟩)
  by_cases j:f∈nl
  .have e1:=Jb (f:=λb=>Am (Aj ln f n b)) (g:=λb=>Am (ln b)) hU.nd j d;simp only[m]at e1;omega
  .have e1:=BQ (f:=λb=>Am (Aj ln f n b)) (g:=λb=>Am (ln b)) (l:=nl) λk c=>d k (by rintro rfl;exact j c)
   omega
theorem VQ.grow {K:KS} {T':Tag} {w w1 W:o_} {p n c:Nat} {a:d_ f_} {o v0:n_} (hG:lN K w p n true) (hU:Uniq K.nm K.nl) (hK:Keep No w w1) (M:DY K.T T' (λt=>t=(15,p)) (λt=>t=(15,p)) w1 W) (hp:W.heap[p]?=some (O_ #[v0,o] 191)):VQ T' K.nm K.nl (W.setCell (S_ p) (.slice a n c)):=by
 obtain⟨d,h,i,j⟩:=hG rfl;refine⟨Aj d p n,λb e=>?_,vV hU i j⟩;have g:=M.back e (by simp) (by simp);by_cases f:b=p
 .subst f;have:Aj d b n b=n:=if_pos rfl;rw[this];exact⟨a,c,o,by rw[Ak hp];simp⟩
 .have:Aj d p n b=d b:=if_neg f;rw[this];exact(((h b g).keep hK id).keep M.keep (by unfold On;rw[g];simp)).keep ((p_ (At p) W).setCell (p:=(S_ p)) _ λ_=>rfl) f
theorem A8.setW {K:KS} {T':Tag} {QL:Nat->Ct} {w W:o_} {p i:Nat} {v:n_} (h:A8 K w) (t1:10<=(K.T p).1) (t2:(K.T p).1<15) (M:DY K.T T' (λt=>t=(15,p)) (λt=>t=(15,p)) w W) (hp:FOne T' K.op QL (W.setCell (T_ p i) v) K.kb p) (hd:VQ T' K.nm K.nl (W.setCell (T_ p i) v)) (Es:∀b,b≠p->QL b=K.ct b):A8 { K with T:=T',ct:=QL } (W.setCell (T_ p i) v)/\BV K.T T' w (W.setCell (T_ p i) v):=by
 obtain⟨y,u,s⟩:=h.k;have f:T' p=K.T p:=DY.old M p (by intro e;rw[e]at t1;simp at t1);have a:Keep (At p) W (W.setCell (T_ p i) v):=(p_ _ _).setCell _ λ_=>rfl
 have o:Keep (On K.T λt=>t=(1,0)\/t=(5,0)\/10<=t.1) w (W.setCell (T_ p i) v):=(M.keep.on λk _ e=>.inr (.inr (by rw[show K.T k=(15,p)from e];simp))).trans a λk _ e=>by subst e;exact .inr (.inr t1)
 have j:∀b,(W.setCell (T_ p i) v).heap.size<=b->T' b=(0,0):=λb r=>M.lt b (Nat.le_trans a.size r)
 have m:DY K.T T' (λt=>t=(1,0)\/t=(5,0)\/10<=t.1) (λt=>t=(5,0)\/10<=t.1) w (W.setCell (T_ p i) v):=⟨o,DY.old M,λb c d=>.inr (by rw[DY.new M b c d];simp),j,M.fresh⟩;have l:DY K.T T' (λt=>10<=t.1) (λt=>10<=t.1) w (W.setCell (T_ p i) v):=⟨(M.keep.on λk _ e=>by rw[show K.T k=(15,p)from e];simp).trans a λk _ e=>by subst e;exact t1,DY.old M,λb c d=>by rw[DY.new M b c d];simp,j,M.fresh⟩;have x:K.kb≠p:=λe=>by rw[<-e,h.tk]at t1;simp at t1
 refine⟨h.aX (ks':=y) m (l.blk u h.tk (by simp)) (KC.ap4 (s.Jl l (by simp)) QL) (Yq.of λb=>?_) hd,m.TL ?_⟩
 .by_cases e:b=p
  .subst e;exact hp
  .refine FOne.ct (((h.fl.one b).Jl M (by simpa using e) (by rintro t rfl;simp) (by rintro t rfl;simp)).keep a e λg n q=>?_) (Es b e);rw[show g=p from q,f]at n;rw[n]at t2;simp at t2
 .rintro t (rfl|rfl|h)<;>try simp
  rintro rfl;simp at h
def PostA (T:Tag) (w:o_) (p M:Nat) (ws:List Nat) (v:n_) (W:o_):Prop:=(v=.slice none 0 0/\ws=[])\/∃g c,v=Q_ g ws.length c/\Rw 123 1 W g ws.length c (AB ws)/\ws.length<=M/\(∀x∈ws,x<65536)/\(T g=(15,p)\/w.heap.size<=g)
theorem ax3 {w:o_} {a:f_} {m c:Nat} {ys:List Nat} {ty:j_} (hl:ys.length=m) (hm:1<=m) (hsrc:∀j v,(AB ys)[j]?=some v->w.cell? (a.add j)=some v) (hsm:m<=1000):∃cap w',(Builtin.append_ #[116,116] ty #[.slice none 0 0,.slice (some a) m c]).run prog w=.ok (Q_ w.heap.size m cap) w'/\Rw 123 1 w' w.heap.size m cap (AB ys)/\Keep No w w':=by
 obtain⟨ii,h,k,i,d⟩:=Jm.parts;have b:(AB ys).length=m:=by simp[AB,hl]
 have g:=run_append_nil (P:=prog) w 116 ty 123 ii (a_ 0) Jm.und h k a m c (AB ys) (by rw[i,b];simp) hsrc (by omega) (by omega) (by rw[d];omega);have f:m<=maxLen:=by simp only[maxLen];omega
 have e:=grownCap_ge w m 0 123;refine⟨_,_,g,⟨⟨_,heap_alloc_new rfl,?_,?_⟩,e,grownCap_le_maxLen w m 0 123 f,by rw[b];omega,F5 ys⟩,(p_ No w).drew.alloc _⟩
 .simp only[Array.size_append,List.size_toArray,size_zeroCells,Jm.zs,b];omega
 .simp only[Array.toList_append];have:m*1=(AB ys).length:=by rw[b];omega
  rw[this];exact List.take_left
theorem ao6 {w:o_} {a d:d_ f_} {n c c2:Nat} {ty:j_} (h:n<=c):(Builtin.append_ #[116,116] ty #[.slice a n c,.slice d 0 c2]).run prog w=.ok (.slice a n c) w:=by
 obtain⟨ii,e,g,f,b⟩:=Jm.parts;cases a<;>cases d<;>simp[Builtin.append_,run_underlying Jm.und,Builtin.lenOf,Builtin.firstCells,sizeOf,typeInfo,e,h,storeCells,loadCells,loadCellsFrom]
theorem appW {T:Tag} {w:o_} {p M M' n c k cS:Nat} {a d:d_ f_} {ys ws:List Nat} {ty:j_} (hu:RJ T w p M (.slice a n c) ws) (hM:M<=M') (hk:ys.length=k) (hy:∀x∈ys,x<65536) (hd:k=0\/∃ad,d=some ad/\∀j v,(AB ys)[j]?=some v->w.cell? (ad.add j)=some v) (Dk:n+k<=M') (hM1:M'<=1000):∃v W,(Builtin.append_ #[116,116] ty #[.slice a n c,.slice d k cS]).run prog w=.ok v W/\PostA T w p M' (ws++ys) v W/\Keep (On T λt=>t=(15,p)) w W:=by
 by_cases z:k=0
 .subst z;obtain rfl:ys=[]:=by cases ys;rfl;simp at hk
  rw[List.append_nil];obtain⟨e,rfl⟩|⟨g,B,e,i,s,m,h⟩:=hu
  .cases e;exact⟨_,_,ao6 (w_ _),.inl ⟨rfl,rfl⟩,p_ _ _⟩
  .cases e;exact⟨_,_,ao6 i.le,.inr ⟨g,c,rfl,i,Nat.le_trans s hM,m,.inl h⟩,p_ _ _⟩
 .obtain⟨ad,rfl,y⟩:=hd.resolve_left z;obtain⟨e,rfl⟩|⟨g,B,e,i,s,m,h⟩:=hu
  .cases e;rw[List.nil_append];obtain⟨cap,D,o,l,b⟩:=ax3 (ty:=ty) (c:=cS) hk (by omega) y (by omega);exact⟨_,_,o,.inr ⟨w.heap.size,cap,by rw[hk],by rw[hk];exact l,by omega,hy,.inr (w_ _)⟩,b.no⟩
  .cases e;have q:(AB ys).length=k*1:=(by simp[AB,hk]);obtain⟨C,A,D,o,l,u⟩:=qH (ty:=ty) (sCap:=cS) Jm i q y (F5 ys) (by omega) (by omega);have r:(ws++ys).length=ws.length+k:=(by rw[List.length_append,hk]);refine⟨_,_,o,.inr ⟨C,A,by rw[r],by rw[r];simpa [AB]using l,by omega,λx f=>?_,?_⟩,?_⟩
   .obtain f|f:=List.mem_append.1 f
    .exact m x f
    .exact hy x f
   .obtain⟨rfl,_⟩|⟨rfl,_⟩:=u
    .exact .inl h
    .exact .inr (w_ _)
   .obtain⟨rfl,b⟩|⟨rfl,b⟩:=u
    .exact b.on λx _ e=>by subst e;exact h
    .exact b.no
theorem PostA.Jl {T:Tag} {w W:o_} {p M:Nat} {v:n_} {ws:List Nat} (h:PostA T w p M ws v W) (hK:Keep (On T λt=>t=(15,p)) w W) (hl:∀b,w.heap.size<=b->T b=(0,0)):∃T',DY T T' (λt=>t=(15,p)) (λt=>t=(15,p)) w W/\RJ T' W p M v ws:=by
 obtain⟨rfl,e⟩|⟨g,c,rfl,a,d,f,i⟩:=h
 .exact⟨T,DY.of hK hl,.inl ⟨rfl,e⟩⟩
 .exact⟨DZ T g (15,p),DY.row hK hl i a.lt rfl,.inr ⟨g,c,rfl,a,d,f,CX⟩⟩
def NW:(Nat->Ct)->Nat->Nat->n_->Prop:=λ_ _ _ _=>True
theorem NW.all {ct:Nat->Ct} {x y:Nat} {f:n_}:NW ct x y f:=trivial
def WritePost (X:(Nat->Ct)->Nat->Nat->n_->Prop) (K:KS) (b:Nat) (w:o_) (e:Ending) (w':o_):Prop:=∃(T':Tag) (ct:Nat->Ct) (x y:Nat) (f:n_),e=.returned (.agg #[a_ x,a_ y,f])/\x<65536/\y<65536/\Nj T' w' K.kb b f/\A8 { K with T:=T',ct:=ct } w'/\BV K.T T' w w'/\X ct x y f
theorem Dx {X:(Nat->Ct)->Nat->Nat->n_->Prop} {ct:Nat->Ct} {b x y:Nat} {K:KS} {T':Tag} {w w0 w7 w8:o_} {f:n_} (Bv:∀k,w.heap.size<=k->K.T k=(0,0)) (K0:Keep No w w0) (Cj:w.heap.size<w0.heap.size) (hV:BV K.T T' w0 w7) (h7:A8 { K with T:=T',ct:=ct } w7) (K8:Keep (At w.heap.size) w7 w8) (hx:x<65536) (hy:y<65536) (hf:Nj T' w7 K.kb b f) (hX:X ct x y f):WritePost X K b w (.returned (.agg #[a_ x,a_ y,f])) w8:=by
 have a:T' w.heap.size=(0,0):=(DY.fresh hV _ Cj).trans (Bv _ (w_ _));have c:Keep (On T' λt=>t=(0,0)) w7 w8:=K8.on λk _ e=>by rw[show k=w.heap.size from e];exact a
 exact⟨T',ct,x,y,f,rfl,hx,hy,hf.keep c (by simp),A8.own h7 K8 a,((BV.no K0 Bv).trans hV).own K8 (λk e=>by rw[show k=w.heap.size from e];exact w_ _),hX⟩
theorem Jq.words {K:KS} {w:o_} {b n o:Nat} {r:PR} {d:d_ f_} (h:A8 K w) (hb:K.ps b=some r) (hn:r.en=false) (hI:∀z∈r.Ae,z<65536) (hv:Jq r (.slice d n n) o n) (k:Nat) (hk:k<=n):∃ys:List Nat,ys.length=k/\(∀x∈ys,x<65536)/\(k=0\/∃ad,d=some ad/\∀j v,(AB ys)[j]?=some v->w.cell? (ad.add j)=some v)/\Hid (ys=(r.Ae.drop o).take k):=by
 obtain⟨e,A⟩|⟨g,c,a,e,t,y⟩:=hv
 .cases e;obtain rfl:k=0:=by omega
  exact⟨[],rfl,by simp,.inl rfl,by unfold Hid;simp⟩
 .cases e;obtain⟨p,m,_,q,B,i⟩:=h.qw hb hn;obtain⟨rfl,rfl⟩:g=p/\c=m:=by rw[i]at a;simp at a;exact⟨a.1.symm,a.2.symm⟩
  refine⟨(r.Ae.drop o).take k,by simp;omega,λx u=>hI x (List.mem_of_mem_drop (List.mem_of_mem_take u)),.inr ⟨_,rfl,λj v f=>?_⟩,rfl⟩;have l:((T_ g o):f_).add j=(T_ g (o+j)):=by unfold Addr.add;split<;>simp_all
  simp only[AB,List.map_take,List.map_drop,List.getElem?_take,List.getElem?_drop]at f;split at f
  .rename_i s;rw[l,q.cell (by omega)];exact f
  .cases f
section
variable (m:Nat) (w:o_)
def XWr (K:KS) (p:Nat) (r:PR) (o n:Nat):(Nat->Ct)->Nat->Nat->n_->Prop:=λct x y f=>
 ((K.ct p).x=false/\ct=K.ct/\x=0/\y=11/\f=.nilFunc)\/
 ((K.ct p).x=true/\1<=n/\(K.ct p).FZ=true/\ct=K.ct/\x=0/\y=0/\f=.func (.func 265) #[ptr p] #[])\/
 ((K.ct p).x=true/\(n=0\/(K.ct p).FZ=false)/\x=Nat.min n (16-(K.ct p).ws.length)/\ct=Aj K.ct p { K.ct p with ws:=(K.ct p).ws++(r.Ae.drop o).take x }/\y=0/\f=.nilFunc)
theorem XWr.of {K:KS} {p:Nat} {r:PR} {o n x:Nat} {ws ys:List Nat} (hx:(K.ct p).x=true) (hw:Hid ((K.ct p).ws=ws)) (hc:n=0\/(K.ct p).FZ=false) (hy:Hid (ys=(r.Ae.drop o).take x)) (he:x=Nat.min n (16-ws.length)):XWr K p r o n (Aj K.ct p { K.ct p with ws:=ws++ys }) x 0 .nilFunc:=by
 refine .inr (.inr ⟨hx,hc,?_,?_,rfl,rfl⟩)
 .rw[hw.out];exact he
 .rw[hw.out,hy.out]
theorem YG (K:KS) (b e0 o n:Nat) (r:PR) (v:n_) (h:A8 K w) (hb:K.ps b=some r) (hn:r.en=false) (hI:∀z∈r.Ae,z<65536) (hL:r.Ae.length<=128) (te:K.T e0=(14,0)) (hv:Jq r v o n):
  P_ m 275 #[R_ e0,v] w (WritePost (XWr K (K.ct e0).n r o n) K b w):=by
 obtain⟨K0,rb,Cj⟩:=Oa w;have F:=h.no K0;have MR:K.T w.heap.size=(0,0):=h.lt _ (w_ _);obtain⟨d0,rfl,bk5⟩:∃d,v=.slice d n n/\n<=128:=by
  obtain⟨rfl,rfl⟩|⟨g,c,_,rfl,_,_⟩:=hv
  .exact⟨none,rfl,by omega⟩
  .exact⟨_,rfl,by omega⟩
 obtain⟨he,A⟩:=F.fl.TU e0 te;generalize (K.ct e0).n=p at*;have d1:(w.alloc V_).cell? (S_ e0)=some (R_ p):=(Af he 0).trans rfl;obtain⟨u,hp,hu⟩:=F.fl.pipe p A;generalize ex:(K.ct p).x=x at hp;generalize ey:(K.ct p).y=y at hp;obtain⟨ws,jD⟩:∃ws,Hid ((K.ct p).ws=ws):=⟨_,rfl⟩;rw[jD.out]at hu;obtain⟨a,c',rfl,hwc,hw16,hwx,hwn,hws⟩:=hu.shape;have q0:(w.alloc V_).cell? (S_ p)=some (.slice a ws.length c'):=(Af hp 0).trans rfl;have q1:(w.alloc V_).cell? (T_ p 1)=some (.bool x):=(Af hp 1).trans rfl;obtain⟨B,cb5⟩:∃B:Nat,(16:Int)-(ws.length:Int)=(B:Int):=⟨16-ws.length,by omega⟩;cases x with
 |false=>
  gi_enter func275,ntmps275
  gi_wp2_with fail
  gi_wp2_with (first|(gi_at_call 273;refine(fw8 11 rb _).mono ?_;rintro e wz ⟨rfl,G,w8,H,I,C⟩)|refine Io H ?_)
  refine TR 0 11 (by simp[results,results275,go_sem,Jj C]) rfl ?_
  exact Dx (T':=K.T) (ct:=K.ct) (x:=0) (y:=11) h.lt K0 Cj (((BV.no (p_ No _) F.lt)).then G) ((F).no G) I (by omega) (by omega) (.inl rfl) (.inl ⟨ex,rfl,rfl,rfl,rfl⟩)
 |true=>
  have cs:=λm=>Xq m _ K p F A
  by_cases hz:n=0
  .subst hz;have l:Keep No (w.alloc V_) (w.alloc V_):=p_ _ _;gi_enter func275,ntmps275;gi_wp2;have N:=d1;have q0w:=q0;generalize hw0:w.alloc V_=J at*;have k:A8 K J.drew:=F.no l.drew;obtain⟨ys,X,Y,ϲ,V⟩:=hv.words k hb hn hI 0 (w_ 0);obtain⟨va,Wa,Ho,xq,O⟩:=appW (ty:=116) (cS:=0) (hu.set l.drew (fun _ _=>id)) (w_ 16) X Y ϲ (by omega) (by omega);have e1:J.drew.cell? (S_ e0)=some (R_ p):=N;have e2:J.drew.cell? (S_ p)=some (.slice a ws.length c'):=q0w;have Zb:=World.block_lt_of_cell? _ _ e1;have Z:=World.block_lt_of_cell? _ _ e2;refine DT (P:=prog) _ rfl rfl (by kernel_rfl) 15 62 [0,1,2,3,4,5,6,7,8,9,10,11,12,13] [14] (by kernel_rfl) (by rfl)
    (NJ (On K.T λt=>t=(15,p)) J.drew 14 (PostA K.T J.drew p 16 (ws++ys)) []) (F8 (by simp) (by simp)) _ _ rfl rfl ?_;gi_wp2_with (refine Cc rfl (.tmp 53) (.tmp 56) _ rfl rfl rfl Ho ?_);refine⟨rfl,by kernel_rfl,En,?_,?_,?_⟩
   .intro L' u W j;have d1:=(j.1.cell (w:=J.drew) (p:=(S_ e0)) Zb (by unfold On;rw[te];simp)).trans e1;have d2:=(j.1.cell (w:=J.drew) (p:=(S_ p)) Z (by unfold On;rw[A];simp)).trans e2
    repeat' (refine Az ?_ ?_)
    all_goals first|exact trivial|gi_wp2
   .intro i hi L' u W j R hu';obtain rfl:i=14:=(by simpa using hi);obtain rfl:=j.2.1 R;refine BJ rfl λKK Qj=>?_
    show wpListIn NF m prog _ _ _ (Act.put _ (some 57) (u 14)) _;gi_wp2_with (refine Cc rfl (.tmp 53) (.tmp 56) _ rfl rfl rfl Ho ?_);exact⟨_,rfl,F9 j (by simp) O xq⟩
   .intro L' u W j Q;have q:=j.2.2.1 (Q 14 (by simp));obtain⟨M,n3,c3,D⟩:∃a n c,u 14=.slice a n c:=by
     obtain⟨e,_⟩|⟨g,c,e,_⟩:=q<;>exact⟨_,_,_,e⟩
    show wpListIn NF m prog _ _ _ (Act.put _ (some 57) (u 14)) _;rw[D];rw[D]at q;have s:=j.1.old (w:=J.drew) (l.old hp id) (by unfold On;rw[A];simp);have q3:W.cell? (S_ p)=some _:=(Af s 0).trans rfl;have z3:=BN s 0;gi_wp2_with fail;obtain⟨T',L,S⟩:=q.Jl j.1 k.lt;have E:T' p=(11,0):=L.tag A (by simp);have s4:=k.setW (i:=0) (v:=.slice M n3 c3) (by rw[A];simp) (by rw[A];simp) L (FOne.UK (ct:=Aj K.ct p { K.ct p with ws:=ws++ys }) (v:=.slice M n3 c3) E ((Ak s _).trans (by simp[Aj,ex,ey])) (by have:=S.set (Keep.Jo (b:=p) (o:=0) (.slice M n3 c3)) (λg hg e=>by rw[show g=p from e,E]at hg;simp at hg);simpa [Aj]using this)) (k.dk.other L (by rw[A];simp)) (λb hb=>if_neg hb);have ND:BV K.T T' J _:=(BV.no l.drew F.lt).trans s4.2;gi_wp2_with (first|(gi_at_call 272;refine(CZ _ _ 0 (by omega)).mono ?_;rintro e wz ⟨rfl,G⟩;obtain⟨w8,H,I,C⟩:=AU (x:=0) (y:=0) (f:=.nilFunc) (G.old (ND.old rb MR) id) rfl)|refine Io H ?_);refine TR 0 0 (by simp[results,results275,go_sem,Jj C]) rfl ?_;exact Dx (T':=T') (x:=0) (y:=0) h.lt K0 Cj ((ND).then G) ((s4.1).no G) I (by omega) (by omega) (.inl rfl) (XWr.of ex jD (.inl rfl) V (by simp))
  .have f1:(0:Int)<(n:Int):=(by omega);by_cases hkn:n<=B
   .have f2:¬(B:Int)<(n:Int):=(by omega);gi_enter func275,ntmps275;gi_wp2_with (first|(gi_at_call 265;refine(cs _).mono ?_;rintro e w1 ⟨l,xb,rfl,U⟩;have N:=l.has d1;have q0w:=l.has q0;generalize hw0:w.alloc V_=J at *;obtain⟨w8,H,I,C⟩:=AU (x:=0) (y:=0) (f:=.func (.func 265) #[R_ p] #[]) (l.old rb id) rfl;cases xb)|refine Io H ?_)
    .clear H I C;have k:A8 K w1.drew:=F.no l.drew;obtain⟨ys,X,Y,ϲ,V⟩:=hv.words k hb hn hI n (w_ n);obtain⟨va,Wa,Ho,xq,O⟩:=appW (ty:=116) (cS:=n) (hu.set l.drew (fun _ _=>id)) (w_ 16) X Y ϲ (by omega) (by omega);have e1:w1.drew.cell? (S_ e0)=some (R_ p):=N;have e2:w1.drew.cell? (S_ p)=some (.slice a ws.length c'):=q0w;have Zb:=World.block_lt_of_cell? _ _ e1;have Z:=World.block_lt_of_cell? _ _ e2;refine DT (P:=prog) _ rfl rfl (by kernel_rfl) 15 62 [0,1,2,3,4,5,6,7,8,9,10,11,12,13] [14] (by kernel_rfl) (by rfl)
      (NJ (On K.T λt=>t=(15,p)) w1.drew 14 (PostA K.T w1.drew p 16 (ws++ys)) []) (F8 (by simp) (by simp)) _ _ rfl rfl ?_;gi_wp2_with (refine Cc rfl (.tmp 53) (.tmp 56) _ rfl rfl rfl Ho ?_);refine⟨rfl,by kernel_rfl,En,?_,?_,?_⟩
     .intro L' u W j;have d1:=(j.1.cell (w:=w1.drew) (p:=(S_ e0)) Zb (by unfold On;rw[te];simp)).trans e1;have d2:=(j.1.cell (w:=w1.drew) (p:=(S_ p)) Z (by unfold On;rw[A];simp)).trans e2
      repeat' (refine Az ?_ ?_)
      all_goals first|exact trivial|gi_wp2
     .intro i hi L' u W j R hu';obtain rfl:i=14:=(by simpa using hi);obtain rfl:=j.2.1 R;refine BJ rfl λKK Qj=>?_
      show wpListIn NF m prog _ _ _ (Act.put _ (some 57) (u 14)) _;gi_wp2_with (refine Cc rfl (.tmp 53) (.tmp 56) _ rfl rfl rfl Ho ?_);exact⟨_,rfl,F9 j (by simp) O xq⟩
     .intro L' u W j Q;have q:=j.2.2.1 (Q 14 (by simp));obtain⟨M,n3,c3,D⟩:∃a n c,u 14=.slice a n c:=by
       obtain⟨e,_⟩|⟨g,c,e,_⟩:=q<;>exact⟨_,_,_,e⟩
      show wpListIn NF m prog _ _ _ (Act.put _ (some 57) (u 14)) _;rw[D];rw[D]at q;have s:=j.1.old (w:=w1.drew) (l.old hp id) (by unfold On;rw[A];simp);have q3:W.cell? (S_ p)=some _:=(Af s 0).trans rfl;have z3:=BN s 0;gi_wp2_with fail;obtain⟨T',L,S⟩:=q.Jl j.1 k.lt;have E:T' p=(11,0):=L.tag A (by simp);have s4:=k.setW (i:=0) (v:=.slice M n3 c3) (by rw[A];simp) (by rw[A];simp) L (FOne.UK (ct:=Aj K.ct p { K.ct p with ws:=ws++ys }) (v:=.slice M n3 c3) E ((Ak s _).trans (by simp[Aj,ex,ey])) (by have:=S.set (Keep.Jo (b:=p) (o:=0) (.slice M n3 c3)) (λg hg e=>by rw[show g=p from e,E]at hg;simp at hg);simpa [Aj]using this)) (k.dk.other L (by rw[A];simp)) (λb hb=>if_neg hb);have ND:BV K.T T' J _:=(BV.no l.drew F.lt).trans s4.2;gi_wp2_with (first|(gi_at_call 272;refine(CZ _ _ n (by omega)).mono ?_;rintro e wz ⟨rfl,G⟩;obtain⟨w8,H,I,C⟩:=AU (x:=n) (y:=0) (f:=.nilFunc) (G.old (ND.old rb MR) id) rfl)|refine Io H ?_);refine TR n 0 (by simp[results,results275,go_sem,Jj C]) rfl ?_;exact Dx (T':=T') (x:=n) (y:=0) h.lt K0 Cj ((ND).then G) ((s4.1).no G) I (by omega) (by omega) (.inl rfl) (XWr.of ex jD (.inr U.out.symm) V (by simp only[Nat.min_def];split<;>omega))
    .have xE:w8.cell? (S_ w.heap.size)=some (a_ 0):=bce C rfl;have xC:w8.cell? (T_ w.heap.size 1)=some (a_ 0):=bce C rfl;have xB:w8.cell? (T_ w.heap.size 2)=some (.func (.func 265) #[R_ p] #[]):=bce C rfl;refine bodyPost_ret (v:=.agg #[a_ 0,a_ 0,.func (.func 265) #[R_ p] #[]]) (by simp[results,results275,go_sem,xE,xC,xB]) rfl ?_;exact Dx (T':=K.T) (ct:=K.ct) (x:=0) (y:=0) h.lt K0 Cj (BV.no l F.lt) (F.no l) I (by omega) (by omega) (.inr (.inr ⟨p,.inr rfl,A⟩)) (.inr (.inl ⟨ex,by omega,U.out.symm,rfl,rfl,rfl,rfl⟩))
   .have f2:(B:Int)<(n:Int):=(by omega);gi_enter func275,ntmps275;gi_wp2_with (first|(gi_at_call 265;refine(cs _).mono ?_;rintro e w1 ⟨l,xb,rfl,U⟩;have N:=l.has d1;have q0w:=l.has q0;generalize hw0:w.alloc V_=J at *;obtain⟨w8,H,I,C⟩:=AU (x:=0) (y:=0) (f:=.func (.func 265) #[R_ p] #[]) (l.old rb id) rfl;cases xb)|refine Io H ?_)
    .clear H I C;have k:A8 K w1.drew:=F.no l.drew;obtain⟨ys,X,Y,ϲ,V⟩:=hv.words k hb hn hI B (by omega);obtain⟨va,Wa,Ho,xq,O⟩:=appW (ty:=116) (cS:=n) (hu.set l.drew (fun _ _=>id)) (w_ 16) X Y ϲ (by omega) (by omega);have e1:w1.drew.cell? (S_ e0)=some (R_ p):=N;have e2:w1.drew.cell? (S_ p)=some (.slice a ws.length c'):=q0w;have Zb:=World.block_lt_of_cell? _ _ e1;have Z:=World.block_lt_of_cell? _ _ e2;refine DT (P:=prog) _ rfl rfl (by kernel_rfl) 15 62 [0,1,2,3,4,5,6,7,8,9,10,11,12,13] [14] (by kernel_rfl) (by rfl)
      (NJ (On K.T λt=>t=(15,p)) w1.drew 14 (PostA K.T w1.drew p 16 (ws++ys)) []) (F8 (by simp) (by simp)) _ _ rfl rfl ?_;gi_wp2_with (refine Cc rfl (.tmp 53) (.tmp 56) _ rfl rfl rfl Ho ?_);refine⟨rfl,by kernel_rfl,En,?_,?_,?_⟩
     .intro L' u W j;have d1:=(j.1.cell (w:=w1.drew) (p:=(S_ e0)) Zb (by unfold On;rw[te];simp)).trans e1;have d2:=(j.1.cell (w:=w1.drew) (p:=(S_ p)) Z (by unfold On;rw[A];simp)).trans e2
      repeat' (refine Az ?_ ?_)
      all_goals first|exact trivial|gi_wp2
     .intro i hi L' u W j R hu';obtain rfl:i=14:=(by simpa using hi);obtain rfl:=j.2.1 R;refine BJ rfl λKK Qj=>?_
      show wpListIn NF m prog _ _ _ (Act.put _ (some 57) (u 14)) _;gi_wp2_with (refine Cc rfl (.tmp 53) (.tmp 56) _ rfl rfl rfl Ho ?_);exact⟨_,rfl,F9 j (by simp) O xq⟩
     .intro L' u W j Q;have q:=j.2.2.1 (Q 14 (by simp));obtain⟨M,n3,c3,D⟩:∃a n c,u 14=.slice a n c:=by
       obtain⟨e,_⟩|⟨g,c,e,_⟩:=q<;>exact⟨_,_,_,e⟩
      show wpListIn NF m prog _ _ _ (Act.put _ (some 57) (u 14)) _;rw[D];rw[D]at q;have s:=j.1.old (w:=w1.drew) (l.old hp id) (by unfold On;rw[A];simp);have q3:W.cell? (S_ p)=some _:=(Af s 0).trans rfl;have z3:=BN s 0;gi_wp2_with fail;obtain⟨T',L,S⟩:=q.Jl j.1 k.lt;have E:T' p=(11,0):=L.tag A (by simp);have s4:=k.setW (i:=0) (v:=.slice M n3 c3) (by rw[A];simp) (by rw[A];simp) L (FOne.UK (ct:=Aj K.ct p { K.ct p with ws:=ws++ys }) (v:=.slice M n3 c3) E ((Ak s _).trans (by simp[Aj,ex,ey])) (by have:=S.set (Keep.Jo (b:=p) (o:=0) (.slice M n3 c3)) (λg hg e=>by rw[show g=p from e,E]at hg;simp at hg);simpa [Aj]using this)) (k.dk.other L (by rw[A];simp)) (λb hb=>if_neg hb);have ND:BV K.T T' J _:=(BV.no l.drew F.lt).trans s4.2;gi_wp2_with (first|(gi_at_call 272;refine(CZ _ _ B (by omega)).mono ?_;rintro e wz ⟨rfl,G⟩;obtain⟨w8,H,I,C⟩:=AU (x:=B) (y:=0) (f:=.nilFunc) (G.old (ND.old rb MR) id) rfl)|refine Io H ?_);refine TR B 0 (by simp[results,results275,go_sem,Jj C]) rfl ?_;exact Dx (T':=T') (x:=B) (y:=0) h.lt K0 Cj ((ND).then G) ((s4.1).no G) I (by omega) (by omega) (.inl rfl) (XWr.of ex jD (.inr U.out.symm) V (by simp only[Nat.min_def];split<;>omega))
    .have xE:w8.cell? (S_ w.heap.size)=some (a_ 0):=bce C rfl;have xC:w8.cell? (T_ w.heap.size 1)=some (a_ 0):=bce C rfl;have xB:w8.cell? (T_ w.heap.size 2)=some (.func (.func 265) #[R_ p] #[]):=bce C rfl;refine bodyPost_ret (v:=.agg #[a_ 0,a_ 0,.func (.func 265) #[R_ p] #[]]) (by simp[results,results275,go_sem,xE,xC,xB]) rfl ?_;exact Dx (T':=K.T) (ct:=K.ct) (x:=0) (y:=0) h.lt K0 Cj (BV.no l F.lt) (F.no l) I (by omega) (by omega) (.inr (.inr ⟨p,.inr rfl,A⟩)) (.inr (.inl ⟨ex,by omega,U.out.symm,rfl,rfl,rfl,rfl⟩))
end
end Go.Fxa
