/- A pipe is read. -/
import Derived.Test.YtmhplpfpcnjekaaGreatA25
namespace Go.Fxa
open Conc Proofs RowKit Proofs.Tryz
set_option maxRecDepth 1000000
set_option maxHeartbeats 0
theorem EI {b x y:Nat} {K:KS} {r:PR} {w w0 w7 w8:o_} {f:n_} {Ag:List Nat} (BI:∀k,w.heap.size<=k->K.T k=(0,0)) (K0:Keep No w w0) (hV:BM K.T K.T w0 w7) (h7:AV (K.Di b { r with Ag:=Ag }) w7) (K8:Keep (At w.heap.size) w7 w8) (hx:x<65536) (hy:y<65536) (hf:KG K.T w7 K.kb b f) (hl:Ag.length=r.Ag.length) (hI:∀z∈Ag,z<65536):WZ K b r w (.returned (.agg #[a_ x,a_ y,f])) w8:=by
 have a:K.T w.heap.size=(0,0):=BI _ (w_ _);have c:Keep (On K.T λt=>t=(0,0)) w7 w8:=K8.on λk _ e=>by rw[show k=w.heap.size from e];exact a
 exact⟨Ag,x,y,f,rfl,hx,hy,hf.keep c (by simp),hl,hI,h7.own K8 a,((BM.no K0 BI).trans hV).own K8 (λk e=>by rw[show k=w.heap.size from e];exact w_ _)⟩
def Γ (T:Tag) (p:Nat) (v:n_) (W:o_):Prop:=(∃a n c,v=.slice a n c)/\Sj T W p 16 v
theorem Sj.shape {T:Tag} {w:o_} {b M:Nat} {v:n_} (h:Sj T w b M v):∃(a:d_ f_) (ws:List Nat) (c:Nat),v=.slice a ws.length c/\ws.length<=c/\ws.length<=M/\(∀x∈ws,x<65536)/\(a=none->ws.length=0)/\(∀ad,a=some ad->∀j u,(Az ws)[j]?=some u->w.cell? (ad.add j)=some u):=by
 obtain rfl|⟨g,c,ws,rfl,d,f,i,_⟩:=h
 .exact⟨none,[],0,rfl,by simp,by simp,by simp,λ_=>rfl,λad e=>by cases e⟩
 .exact⟨_,ws,c,rfl,d.le,f,i,λe=>(by cases e),λad e=>by cases e;exact d.cells⟩
section
variable (m:Nat) (w:o_)
theorem uq (T:Tag) (p k:Nat) (v:n_) (h:Sj T w p 16 v) (hk:∀a n c,v=.slice a n c->k<=n):P_ m 271 #[v,b_ 0,b_ (k:Nat)] w λe w'=>∃u,e=.returned u/\Γ T p u w'/\Keep (On T λt=>t=(15,p)) w w':=by
 obtain rfl|⟨g,c,d,rfl,j,q,l,i⟩:=h
 .have:=hk _ _ _ rfl;obtain rfl:k=0:=by omega
  refine(Ui m w none 0 0 (by omega)).mono ?_;rintro e w' ⟨rfl,b⟩;exact⟨_,rfl,⟨⟨_,_,_,rfl⟩,.inl rfl⟩,b.no⟩
 .have hk:=hk _ _ _ rfl;by_cases s:k=0
  .subst s;refine(Ui m w _ _ _ j.le).mono ?_;rintro e w' ⟨rfl,b⟩;exact⟨_,rfl,⟨⟨_,_,_,rfl⟩,.inr ⟨g,c,d,rfl,j.keep b id,q,l,i⟩⟩,b.no⟩
  .refine(xO m w g d.length c 0 k _ j (by omega) hk).mono ?_;rintro e w' ⟨rfl,b,o⟩;have f:(d.drop k).length=0+(d.length-k):=(by simp);refine⟨_,rfl,⟨⟨_,_,_,rfl⟩,.inr ⟨g,c,d.drop k,by rw[f],?_,by rw[f];omega,λx r=>l x (List.mem_of_mem_drop r),i⟩⟩,b.on λx _ e=>by subst e;exact i⟩;rw[f];simpa [Az,List.map_drop]using o
theorem fU (K:KS) (b e0:Nat) (r:PR) (v:n_) (h:AV K w) (hb:K.ps b=some r) (hn:r.en=false) (hI:∀z∈r.Ag,z<65536) (te:K.T e0=(13,0)) (hv:Jr r v):
  P_ m 266 #[R_ e0,v] w (WZ K b r w):=by
 obtain⟨K0,rb,_⟩:=HY w;have J:=h.no K0;have Gp:K.T w.heap.size=(0,0):=h.lt _ (w_ _);obtain⟨d0,n,rfl⟩:∃d n,v=.slice d n n:=by
  obtain rfl|⟨g,c,o,n,_,rfl,_⟩:=hv
  .exact⟨none,0,rfl⟩
  .exact⟨_,n,rfl⟩
 obtain⟨p,he,j⟩:=J.fl.rend e0 te;have d1:(w.alloc V_).cell? (S_ e0)=some (R_ p):=(Af he 0).trans rfl;have s:∀w1,Keep No (w.alloc V_) w1->∃(a:d_ f_) (F C k:Nat) (Ag:List Nat) (w2:o_) (x y:Bool),w1.cell? (S_ e0)=some (R_ p)/\w1.cell? (S_ p)=some (.slice a F C)/\(Builtin.copy_ #[116,116] 3 #[.slice d0 n n,.slice a F C]).run prog w1=.ok (goInt (k:Nat)) w2/\k<=F/\F<=16/\Ag.length=r.Ag.length/\(∀z∈Ag,z<65536)/\AV (K.Di b { r with Ag:=Ag }) w2/\BM K.T K.T w1 w2/\w2.heap[p]?=some (O_ #[.slice a F C,.bool x,.bool y] 329)/\Sj K.T w2 p 16 (.slice a F C)/\w2.cell? (S_ e0)=some (R_ p):=λw1 A=>by
  have h1:=J.no A
  obtain⟨u,x,y,hp,hu⟩:=h1.fl.pipe p j
  obtain⟨a,ws,C,rfl,hwc,hw16,hwx,hwn,hws⟩:=hu.shape
  obtain⟨w2,k,Ag,BB,hk,_,X,UX,Gu,hM2,N⟩:=Js (ty:=3) (sCap:=C) h1 hb hn hI hv hwx rfl hws hwn
  have I:=A.has d1
  exact⟨a,ws.length,C,k,Ag,w2,x,y,I,(Af hp 0).trans rfl,BB,hk,hw16,X,UX,Gu,hM2,N.old hp (by unfold On;rw[j];simp),hu.keep N (by simp),(N.cell (World.block_lt_of_cell? _ _ I) (by unfold On;rw[te];simp)).trans I⟩
 by_cases hz:n=0
 .subst hz;have A:Keep No (w.alloc V_) (w.alloc V_):=p_ _ _;obtain⟨a,F,C,k,Ag,w2,x,y,d1,d2,hcp,O,bu2,X,UX,h2,M2,l,Q,e1⟩:=s _ A;clear s;have ZB:=World.block_lt_of_cell? _ _ e1;have S:=BQ l;have e2:w2.cell? (S_ p)=some (.slice a F C):=(Af l 0).trans rfl;gi_enter func266,ntmps266;gi_wp2;generalize hw0:w.alloc V_=w0 at*;refine CV (P:=prog) _ rfl rfl (by kernel_rfl) 13 48 [0,1,2,3,4,5,6,7,8,9,10,11] [12] (by kernel_rfl) (by rfl)
   (NG (On K.T λt=>t=(15,p)) w2.drew 12 (Γ K.T p) []) (FU (by simp) (by simp)) _ _ rfl rfl ?_;have cD:=λm=>uq m w2.drew K.T p k _ (Q.set (p_ No w2).drew (λ_ _=>id)) (λ_ _ _ e=>by cases e;exact O)
  gi_wp2_with (gi_at_call 271;refine(cD _).mono ?_;rintro e w3 ⟨u3,rfl,_,_⟩);refine⟨rfl,by kernel_rfl,Ef,?_,?_,?_⟩
  .intro Z u W hI;have d1:=(hI.1.cell (w:=w2.drew) (p:=(S_ e0)) ZB (by unfold On;rw[te];simp)).trans e1;have d2:=(hI.1.cell (w:=w2.drew) (p:=(S_ p)) S (by unfold On;rw[j];simp)).trans e2
   repeat' (refine Ae ?_ ?_)
   all_goals first|exact trivial|gi_wp2
  .intro i hi Z u W hI L hu;obtain rfl:i=12:=(by simpa using hi);obtain rfl:=hI.2.1 L;refine Bh rfl λKK Lh=>?_
   show wpListIn NF m prog _ _ _ (Act.put _ (some 43) (u 12)) _;gi_wp2_with (gi_at_call 271;refine(cD _).mono ?_;rintro e w3 ⟨u3,rfl,M,B⟩);exact⟨_,rfl,FV hI (by simp) B M⟩
  .intro Z u W hI hL;obtain⟨⟨a3,n3,c3,D⟩,E⟩:=hI.2.2.1 (hL 12 (by simp));show wpListIn NF m prog _ _ _ (Act.put _ (some 43) (u 12)) _;rw[D];rw[D]at E;have B:Keep (On K.T λt=>t=(15,p)) w2 W:=(p_ _ w2).drew.then hI.1;have q:=B.old l (by unfold On;rw[j];simp);have q3:W.cell? (S_ p)=some _:=(Af q 0).trans rfl;have z3:=BO q 0;have e1':=(B.cell (p:=(S_ e0)) ZB (by unfold On;rw[te];simp)).trans e1;gi_wp2_with fail;have K4:Keep (λx=>x=p\/K.T x=(15,p)) w2 (W.setCell (S_ p) (.slice a3 n3 c3)):=(B.mono λx _ e=>.inr e).setCell _ λ_=>.inl rfl
   have s4:=AV.dK (b0:=p) h2 K4 (λx R=>by
    obtain rfl|R:=R
    .exact .inl ⟨rfl,by show(K.T x).1≠15;rw[j];simp⟩
    .exact .inr R) (by show 10<=(K.T p).1;rw[j];simp) (by show(K.T p).1<15;rw[j];simp) (FOne.U3 (T:=K.T) j (Ah q _) (E.set (Keep.Oa (b:=p) (o:=0) (.slice a3 n3 c3)) (λg hg e=>by rw[show g=p from e,j]at hg;simp at hg))) (λe=>absurd (j.symm.trans e) (by simp))
   have Y:BM K.T K.T w0 _:=((BM.no A J.lt).trans M2).trans s4.2;gi_wp2_with (first|(gi_at_call 272;refine(Dh _ _ k (by omega)).mono ?_;rintro e wz ⟨rfl,H⟩;obtain⟨w8,U,V,G⟩:=Ap (x:=k) (y:=0) (f:=.nilFunc) (H.old (Y.old rb Gp) id) rfl)|refine En U ?_);refine TR k 0 (by simp[results,results266,go_sem,EF G]) rfl ?_;exact EI (x:=k) (y:=0) h.lt K0 ((Y).then H) ((s4.1).no H) V (by omega) (by omega) (.inl rfl) (X) (UX)
 .have f1:(0:Int)<(n:Int):=by omega
  have cs:=λm=>Xn m _ K p J j
  gi_enter func266,ntmps266;gi_wp2_with (first|(gi_at_call 270;refine(cs _).mono ?_;rintro e w1 ⟨A,xb,rfl⟩;obtain⟨a,F,C,k,Ag,w2,x,y,d1,d2,hcp,O,bu2,X,UX,h2,M2,l,Q,e1⟩:=s w1 A;clear s;generalize hw0:w.alloc V_=w0 at *;obtain⟨w8,U,V,G⟩:=Ap (x:=0) (y:=0) (f:=.func (.func 270) #[R_ p] #[]) (A.old rb id) rfl;have ZB:=World.block_lt_of_cell? _ _ e1;have S:=BQ l;have e2:w2.cell? (S_ p)=some (.slice a F C):=(Af l 0).trans rfl;cases xb)|refine En U ?_)
  .clear U V G;refine CV (P:=prog) _ rfl rfl (by kernel_rfl) 13 48 [0,1,2,3,4,5,6,7,8,9,10,11] [12] (by kernel_rfl) (by rfl)
    (NG (On K.T λt=>t=(15,p)) w2.drew 12 (Γ K.T p) []) (FU (by simp) (by simp)) _ _ rfl rfl ?_;have cD:=λm=>uq m w2.drew K.T p k _ (Q.set (p_ No w2).drew (λ_ _=>id)) (λ_ _ _ e=>by cases e;exact O)
   gi_wp2_with (gi_at_call 271;refine(cD _).mono ?_;rintro e w3 ⟨u3,rfl,_,_⟩);refine⟨rfl,by kernel_rfl,Ef,?_,?_,?_⟩
   .intro Z u W hI;have d1:=(hI.1.cell (w:=w2.drew) (p:=(S_ e0)) ZB (by unfold On;rw[te];simp)).trans e1;have d2:=(hI.1.cell (w:=w2.drew) (p:=(S_ p)) S (by unfold On;rw[j];simp)).trans e2
    repeat' (refine Ae ?_ ?_)
    all_goals first|exact trivial|gi_wp2
   .intro i hi Z u W hI L hu;obtain rfl:i=12:=(by simpa using hi);obtain rfl:=hI.2.1 L;refine Bh rfl λKK Lh=>?_
    show wpListIn NF m prog _ _ _ (Act.put _ (some 43) (u 12)) _;gi_wp2_with (gi_at_call 271;refine(cD _).mono ?_;rintro e w3 ⟨u3,rfl,M,B⟩);exact⟨_,rfl,FV hI (by simp) B M⟩
   .intro Z u W hI hL;obtain⟨⟨a3,n3,c3,D⟩,E⟩:=hI.2.2.1 (hL 12 (by simp));show wpListIn NF m prog _ _ _ (Act.put _ (some 43) (u 12)) _;rw[D];rw[D]at E;have B:Keep (On K.T λt=>t=(15,p)) w2 W:=(p_ _ w2).drew.then hI.1;have q:=B.old l (by unfold On;rw[j];simp);have q3:W.cell? (S_ p)=some _:=(Af q 0).trans rfl;have z3:=BO q 0;have e1':=(B.cell (p:=(S_ e0)) ZB (by unfold On;rw[te];simp)).trans e1;gi_wp2_with fail;have K4:Keep (λx=>x=p\/K.T x=(15,p)) w2 (W.setCell (S_ p) (.slice a3 n3 c3)):=(B.mono λx _ e=>.inr e).setCell _ λ_=>.inl rfl
    have s4:=AV.dK (b0:=p) h2 K4 (λx R=>by
     obtain rfl|R:=R
     .exact .inl ⟨rfl,by show(K.T x).1≠15;rw[j];simp⟩
     .exact .inr R) (by show 10<=(K.T p).1;rw[j];simp) (by show(K.T p).1<15;rw[j];simp) (FOne.U3 (T:=K.T) j (Ah q _) (E.set (Keep.Oa (b:=p) (o:=0) (.slice a3 n3 c3)) (λg hg e=>by rw[show g=p from e,j]at hg;simp at hg))) (λe=>absurd (j.symm.trans e) (by simp))
    have Y:BM K.T K.T w0 _:=((BM.no A J.lt).trans M2).trans s4.2;gi_wp2_with (first|(gi_at_call 272;refine(Dh _ _ k (by omega)).mono ?_;rintro e wz ⟨rfl,H⟩;obtain⟨w8,U,V,G⟩:=Ap (x:=k) (y:=0) (f:=.nilFunc) (H.old (Y.old rb Gp) id) rfl)|refine En U ?_);refine TR k 0 (by simp[results,results266,go_sem,EF G]) rfl ?_;exact EI (x:=k) (y:=0) h.lt K0 ((Y).then H) ((s4.1).no H) V (by omega) (by omega) (.inl rfl) (X) (UX)
  .have uY:w8.cell? (S_ w.heap.size)=some (a_ 0):=bce G rfl;have uX:w8.cell? (T_ w.heap.size 1)=some (a_ 0):=bce G rfl;have uV:w8.cell? (T_ w.heap.size 2)=some (.func (.func 270) #[R_ p] #[]):=bce G rfl;refine bodyPost_ret (v:=.agg #[a_ 0,a_ 0,.func (.func 270) #[R_ p] #[]]) (by simp[results,results266,go_sem,uY,uX,uV]) rfl ?_;exact EI (x:=0) (y:=0) (Ag:=r.Ag) h.lt K0 (BM.no A J.lt) (by rw[FY hb];exact J.no A) V (by omega) (by omega) (.inr (.inr ⟨p,.inl rfl,j⟩)) rfl hI
end
theorem FOne.IE {T T':Tag} {op:Nat->Nat} {Q N:Nat×Nat->Prop} {w w':o_} {kb b:Nat} (h:FOne T op w kb b) (M:Dv T T' Q N w w') (hw:¬Q (15,b)) (hQ:∀t,Q t->t.1<10\/t.1=15) (hN:∀t,N t->t.1<10\/t.1=15):FOne T' op w' kb b:=by
 have q:∀k c,10<=k->k<15->¬Q (k,c):=λk c d f e=>by have:=hQ _ e;simp at this;omega
 have n:∀k c,10<=k->k<15->¬N (k,c):=λk c d f e=>by have:=hN _ e;simp at this;omega
 refine⟨λe=>?_,λe=>?_,λc e=>?_,λe=>?_,λe=>?_⟩
 .have e:=M.back e (by simp) (n _ _ (by omega) (by omega));obtain⟨x,a1,a2⟩:=h.file e;exact⟨x,M.blk a1 e (q _ _ (by omega) (by omega)),a2.IE M hw⟩
 .have e:=M.back e (by simp) (n _ _ (by omega) (by omega));obtain⟨x,y,z,a1,a2⟩:=h.pipe e;exact⟨x,y,z,M.blk a1 e (q _ _ (by omega) (by omega)),a2.IE M hw⟩
 .have e:=M.back e (by simp) (n _ _ (by omega) (by omega));obtain⟨n,a1,a2,a⟩:=h.GL c e;exact⟨n,M.blk a1 e (q _ _ (by omega) (by omega)),M.tag a2 (by simp),a⟩
 .have e:=M.back e (by simp) (n _ _ (by omega) (by omega));obtain⟨x,a1,a2⟩:=h.rend e;exact⟨x,M.blk a1 e (q _ _ (by omega) (by omega)),M.tag a2 (by simp)⟩
 .have e:=M.back e (by simp) (n _ _ (by omega) (by omega));obtain⟨x,a1,a2⟩:=h.Ru e;exact⟨x,M.blk a1 e (q _ _ (by omega) (by omega)),M.tag a2 (by simp)⟩
theorem VK.other {T T':Tag} {nm:Nat->d_ Nat} {nl:List Nat} {w W:o_} {p i:Nat} {v:n_} (h:VK T nm nl w) (M:Dv T T' (λt=>t=(15,p)) (λt=>t=(15,p)) w W) (hp:T p≠(10,0)):VK T' nm nl (W.setCell (T_ p i) v):=
 (h.IE M (by simp) (by simp)).to λb n e=>⟨e,λc=>c.keep ((p_ (At p) W).setCell (p:=(T_ p i)) v λ_=>rfl) λa=>hp (by rw[<-show b=p from a];exact M.back e (by simp) (by simp))⟩
def nS (K:KS) (w:o_) (f n:Nat) (x:Bool):Prop:=x=true->∃ln:Nat->Nat,(∀b,K.T b=(10,0)->LenAt w b (ln b))/\Rx ln K.nm K.nl<=40/\Rx ln K.nm K.nl+Aj n<=40+Aj (ln f)
structure Uniq (nm:Nat->d_ Nat) (nl:List Nat):Prop where
 nd:nl.Nodup
 inj:∀i j f,i<16->j<16->nm i=some f->nm j=some f->i=j
 dj:∀i f,i<16->nm i=some f->f ∉ nl
theorem UE {f g:Nat->Nat} {l:List Nat} {b:Nat} (hN:l.Nodup) (hb:b∈l) (he:∀k,k∈l->k≠b->f k=g k):BD f l+g b=BD g l+f b:=by
 have e:=BV (f:=f) (g:=λk=>if k=b then f b else g k) (l:=l) λk a=>by
  by_cases e:k=b
  .subst e;simp
  .rw[if_neg e];exact he k a e
 have:=Jf (f:=λk=>if k=b then f b else g k) (g:=g) hN hb λk a=>if_neg a
 rw[if_pos rfl]at this;omega
theorem xM {nm:Nat->d_ Nat} {nl:List Nat} {ln:Nat->Nat} {f n:Nat} (hU:Uniq nm nl) (h1:Rx ln nm nl<=40) (h2:Rx ln nm nl+Aj n<=40+Aj (ln f)):Rx (Ar ln f n) nm nl<=40:=by
 have d:∀k,k≠f->Aj (Ar ln f n k)=Aj (ln k):=λk c=>by unfold Ar;rw[if_neg c]
 have m:Aj (Ar ln f n f)=Aj n:=by unfold Ar;rw[if_pos rfl]
 unfold Rx at*;by_cases o:∃i,i<16/\nm i=some f
 .obtain⟨i,e,a⟩:=o;have e1:=BV (f:=λb=>Aj (Ar ln f n b)) (g:=λb=>Aj (ln b)) (l:=nl) λk c=>d k (by rintro rfl;exact hU.dj i k e a c)
  have e2:=UE (f:=Ot (Ar ln f n) nm) (g:=Ot ln nm) (l:=List.range 16) (b:=i) List.nodup_range (List.mem_range.2 e) λk c h=>by
   unfold Ot
   cases hk':nm k with
   |none=>rfl
   |some g=>exact d g (by rintro rfl;exact h (hU.inj k i g (List.mem_range.1 c) e hk' a))
  have e3:Ot ln nm i=Aj (ln f):=by unfold Ot;rw[a]
  have e4:Ot (Ar ln f n) nm i=Aj n:=by unfold Ot;rw[a];exact m
  omega
 .have e2:=BV (f:=Ot (Ar ln f n) nm) (g:=Ot ln nm) (l:=List.range 16) λk c=>by
   unfold Ot
   cases hk':nm k with
   |none=>rfl
   |some g=>exact d g (by rintro rfl;exact o ⟨k,List.mem_range.1 c,hk'⟩)
  by_cases j:f∈nl
  .have e1:=Jf (f:=λb=>Aj (Ar ln f n b)) (g:=λb=>Aj (ln b)) hU.nd j d;simp only[m]at e1;omega
  .have e1:=BV (f:=λb=>Aj (Ar ln f n b)) (g:=λb=>Aj (ln b)) (l:=nl) λk c=>d k (by rintro rfl;exact j c)
   omega
theorem VK.grow {K:KS} {T':Tag} {w w1 W:o_} {p n c:Nat} {a:d_ f_} {o v0:n_} (hG:nS K w p n true) (hU:Uniq K.nm K.nl) (hK:Keep No w w1) (M:Dv K.T T' (λt=>t=(15,p)) (λt=>t=(15,p)) w1 W) (hp:W.heap[p]?=some (O_ #[v0,o] 191)):VK T' K.nm K.nl (W.setCell (S_ p) (.slice a n c)):=by
 obtain⟨d,h,i,j⟩:=hG rfl;refine⟨Ar d p n,λb e=>?_,xM hU i j⟩;have g:=M.back e (by simp) (by simp);by_cases f:b=p
 .subst f;have:Ar d b n b=n:=if_pos rfl;rw[this];exact⟨a,c,o,by rw[Ah hp];simp⟩
 .have:Ar d p n b=d b:=if_neg f;rw[this];exact(((h b g).keep hK id).keep M.keep (by unfold On;rw[g];simp)).keep ((p_ (At p) W).setCell (p:=(S_ p)) _ λ_=>rfl) f
theorem AV.setW {K:KS} {T':Tag} {w W:o_} {p i:Nat} {v:n_} (h:AV K w) (t1:10<=(K.T p).1) (t2:(K.T p).1<15) (M:Dv K.T T' (λt=>t=(15,p)) (λt=>t=(15,p)) w W) (hp:FOne T' K.op (W.setCell (T_ p i) v) K.kb p) (hd:VK T' K.nm K.nl (W.setCell (T_ p i) v)):AV { K with T:=T' } (W.setCell (T_ p i) v)/\BM K.T T' w (W.setCell (T_ p i) v):=by
 obtain⟨y,u,s⟩:=h.k;have f:T' p=K.T p:=Dv.old M p (by intro e;rw[e]at t1;simp at t1);have a:Keep (At p) W (W.setCell (T_ p i) v):=(p_ _ _).setCell _ λ_=>rfl
 have o:Keep (On K.T λt=>t=(1,0)\/t=(5,0)\/10<=t.1) w (W.setCell (T_ p i) v):=(M.keep.on λk _ e=>.inr (.inr (by rw[show K.T k=(15,p)from e];simp))).trans a λk _ e=>by subst e;exact .inr (.inr t1)
 have j:∀b,(W.setCell (T_ p i) v).heap.size<=b->T' b=(0,0):=λb r=>M.lt b (Nat.le_trans a.size r)
 have m:Dv K.T T' (λt=>t=(1,0)\/t=(5,0)\/10<=t.1) (λt=>t=(5,0)\/10<=t.1) w (W.setCell (T_ p i) v):=⟨o,Dv.old M,λb c d=>.inr (by rw[Dv.new M b c d];simp),j,M.fresh⟩;have l:Dv K.T T' (λt=>10<=t.1) (λt=>10<=t.1) w (W.setCell (T_ p i) v):=⟨(M.keep.on λk _ e=>by rw[show K.T k=(15,p)from e];simp).trans a λk _ e=>by subst e;exact t1,Dv.old M,λb c d=>by rw[Dv.new M b c d];simp,j,M.fresh⟩;have x:K.kb≠p:=λe=>by rw[<-e,h.tk]at t1;simp at t1
 refine⟨h.Yd (ks':=y) m (l.blk u h.tk (by simp)) (s.IE l (by simp)) (YI.of λb=>?_) hd,m.Vt ?_⟩
 .by_cases e:b=p
  .subst e;exact hp
  .refine((h.fl.one b).IE M (by simpa using e) (by rintro t rfl;simp) (by rintro t rfl;simp)).keep a e λg n q=>?_
   rw[show g=p from q,f]at n;rw[n]at t2;simp at t2
 .rintro t (rfl|rfl|h)<;>try simp
  rintro rfl;simp at h
def PostA (T:Tag) (w:o_) (p M:Nat) (v:n_) (W:o_):Prop:=v=.slice none 0 0\/∃g c ws,v=Q_ g ws.length c/\Rw 123 1 W g ws.length c (Az ws)/\ws.length<=M/\(∀x∈ws,x<65536)/\(T g=(15,p)\/w.heap.size<=g)
theorem ba3 {w:o_} {a:f_} {m c:Nat} {ys:List Nat} {ty:j_} (hl:ys.length=m) (hm:1<=m) (hsrc:∀j v,(Az ys)[j]?=some v->w.cell? (a.add j)=some v) (hsm:m<=1000):∃cap w',(Builtin.append_ #[116,116] ty #[.slice none 0 0,.slice (some a) m c]).run prog w=.ok (Q_ w.heap.size m cap) w'/\Rw 123 1 w' w.heap.size m cap (Az ys)/\Keep No w w':=by
 obtain⟨ii,h,k,i,d⟩:=Jp.parts;have b:(Az ys).length=m:=by simp[Az,hl]
 have g:=run_append_nil (P:=prog) w 116 ty 123 ii (a_ 0) Jp.und h k a m c (Az ys) (by rw[i,b];simp) hsrc (by omega) (by omega) (by rw[d];omega);have f:m<=maxLen:=by simp only[maxLen];omega
 have e:=grownCap_ge w m 0 123;refine⟨_,_,g,⟨⟨_,heap_alloc_new rfl,?_,?_⟩,e,grownCap_le_maxLen w m 0 123 f,by rw[b];omega,Et ys⟩,(p_ No w).drew.alloc _⟩
 .simp only[Array.size_append,List.size_toArray,size_zeroCells,Jp.zs,b];omega
 .simp only[Array.toList_append];have:m*1=(Az ys).length:=by rw[b];omega
  rw[this];exact List.take_left
theorem ap6 {w:o_} {a d:d_ f_} {n c c2:Nat} {ty:j_} (h:n<=c):(Builtin.append_ #[116,116] ty #[.slice a n c,.slice d 0 c2]).run prog w=.ok (.slice a n c) w:=by
 obtain⟨ii,e,g,f,b⟩:=Jp.parts;cases a<;>cases d<;>simp[Builtin.append_,run_underlying Jp.und,Builtin.lenOf,Builtin.firstCells,sizeOf,typeInfo,e,h,storeCells,loadCells,loadCellsFrom]
theorem appW {T:Tag} {w:o_} {p M M' n c k cS:Nat} {a d:d_ f_} {ys:List Nat} {ty:j_} (hu:Sj T w p M (.slice a n c)) (hM:M<=M') (hk:ys.length=k) (hy:∀x∈ys,x<65536) (hd:k=0\/∃ad,d=some ad/\∀j v,(Az ys)[j]?=some v->w.cell? (ad.add j)=some v) (Eo:n+k<=M') (hM1:M'<=1000):∃v W,(Builtin.append_ #[116,116] ty #[.slice a n c,.slice d k cS]).run prog w=.ok v W/\PostA T w p M' v W/\Keep (On T λt=>t=(15,p)) w W:=by
 by_cases A:k=0
 .subst A;obtain e|⟨g,C,h,e,l,u,o,i⟩:=hu
  .cases e;exact⟨_,_,ap6 (w_ _),.inl rfl,p_ _ _⟩
  .cases e;exact⟨_,_,ap6 l.le,.inr ⟨g,c,h,rfl,l,Nat.le_trans u hM,o,.inl i⟩,p_ _ _⟩
 .obtain⟨ad,rfl,z⟩:=hd.resolve_left A;obtain e|⟨g,C,h,e,l,u,o,i⟩:=hu
  .cases e;obtain⟨cap,E,q,m,b⟩:=ba3 (ty:=ty) (c:=cS) hk (by omega) z (by omega);exact⟨_,_,q,.inr ⟨w.heap.size,cap,ys,by rw[hk],by rw[hk];exact m,by omega,hy,.inr (w_ _)⟩,b.no⟩
  .cases e;have r:(Az ys).length=k*1:=(by simp[Az,hk]);obtain⟨D,B,E,q,m,y⟩:=dN (ty:=ty) (sCap:=cS) Jp l r z (Et ys) (by omega) (by omega);have s:(h++ys).length=h.length+k:=(by rw[List.length_append,hk]);refine⟨_,_,q,.inr ⟨D,B,h++ys,by rw[s],by rw[s];simpa [Az]using m,by omega,λx f=>?_,?_⟩,?_⟩
   .obtain f|f:=List.mem_append.1 f
    .exact o x f
    .exact hy x f
   .obtain⟨rfl,_⟩|⟨rfl,_⟩:=y
    .exact .inl i
    .exact .inr (w_ _)
   .obtain⟨rfl,b⟩|⟨rfl,b⟩:=y
    .exact b.on λx _ e=>by subst e;exact i
    .exact b.no
theorem PostA.IE {T:Tag} {w W:o_} {p M:Nat} {v:n_} (h:PostA T w p M v W) (hK:Keep (On T λt=>t=(15,p)) w W) (hl:∀b,w.heap.size<=b->T b=(0,0)):∃T',Dv T T' (λt=>t=(15,p)) (λt=>t=(15,p)) w W/\Sj T' W p M v:=by
 obtain rfl|⟨g,c,i,rfl,a,d,e,f⟩:=h
 .exact⟨T,Dv.of hK hl,.inl rfl⟩
 .exact⟨BA T g (15,p),Dv.row hK hl f a.lt rfl,.inr ⟨g,c,i,rfl,a,d,e,BH⟩⟩
def WritePost (K:KS) (b:Nat) (w:o_) (e:Ending) (w':o_):Prop:=∃(T':Tag) (x y:Nat) (f:n_),e=.returned (.agg #[a_ x,a_ y,f])/\x<65536/\y<65536/\KG T' w' K.kb b f/\AV { K with T:=T' } w'/\BM K.T T' w w'
theorem Dp {b x y:Nat} {K:KS} {T':Tag} {w w0 w7 w8:o_} {f:n_} (BI:∀k,w.heap.size<=k->K.T k=(0,0)) (K0:Keep No w w0) (BN:w.heap.size<w0.heap.size) (hV:BM K.T T' w0 w7) (h7:AV { K with T:=T' } w7) (K8:Keep (At w.heap.size) w7 w8) (hx:x<65536) (hy:y<65536) (hf:KG T' w7 K.kb b f):WritePost K b w (.returned (.agg #[a_ x,a_ y,f])) w8:=by
 have a:T' w.heap.size=(0,0):=(Dv.fresh hV _ BN).trans (BI _ (w_ _));have c:Keep (On T' λt=>t=(0,0)) w7 w8:=K8.on λk _ e=>by rw[show k=w.heap.size from e];exact a
 exact⟨T',x,y,f,rfl,hx,hy,hf.keep c (by simp),AV.own h7 K8 a,((BM.no K0 BI).trans hV).own K8 (λk e=>by rw[show k=w.heap.size from e];exact w_ _)⟩
theorem Jr.words {K:KS} {w:o_} {b n:Nat} {r:PR} {d:d_ f_} (h:AV K w) (hb:K.ps b=some r) (hn:r.en=false) (hI:∀z∈r.Ag,z<65536) (hv:Jr r (.slice d n n)) (k:Nat) (hk:k<=n):∃ys:List Nat,ys.length=k/\(∀x∈ys,x<65536)/\(k=0\/∃ad,d=some ad/\∀j v,(Az ys)[j]?=some v->w.cell? (ad.add j)=some v):=by
 obtain e|⟨g,c,o,A,a,e,t,y⟩:=hv
 .cases e;obtain rfl:k=0:=by omega
  exact⟨[],rfl,by simp,.inl rfl⟩
 .cases e;obtain⟨p,m,_,q,B,i⟩:=h.YF hb hn;obtain⟨rfl,rfl⟩:g=p/\c=m:=by rw[i]at a;simp at a;exact⟨a.1.symm,a.2.symm⟩
  refine⟨(r.Ag.drop o).take k,by simp;omega,λx u=>hI x (List.mem_of_mem_drop (List.mem_of_mem_take u)),.inr ⟨_,rfl,λj v f=>?_⟩⟩;have l:((T_ g o):f_).add j=(T_ g (o+j)):=by unfold Addr.add;split<;>simp_all
  simp only[Az,List.map_take,List.map_drop,List.getElem?_take,List.getElem?_drop]at f;split at f
  .rename_i s;rw[l,q.cell (by omega)];exact f
  .cases f
section
variable (m:Nat) (w:o_)
theorem YW (K:KS) (b e0:Nat) (r:PR) (v:n_) (h:AV K w) (hb:K.ps b=some r) (hn:r.en=false) (hI:∀z∈r.Ag,z<65536) (hL:r.Ag.length<=128) (te:K.T e0=(14,0)) (hv:Jr r v):
  P_ m 275 #[R_ e0,v] w (WritePost K b w):=by
 obtain⟨K0,rb,BN⟩:=HY w;have F:=h.no K0;have Gp:K.T w.heap.size=(0,0):=h.lt _ (w_ _);obtain⟨d0,n,rfl,bm7⟩:∃d n,v=.slice d n n/\n<=128:=by
  obtain rfl|⟨g,c,o,n,_,rfl,_,_⟩:=hv
  .exact⟨none,0,rfl,by omega⟩
  .exact⟨_,n,rfl,by omega⟩
 obtain⟨p,he,A⟩:=F.fl.Ru e0 te;have d1:(w.alloc V_).cell? (S_ e0)=some (R_ p):=(Af he 0).trans rfl;obtain⟨u,x,y,hp,hu⟩:=F.fl.pipe p A;obtain⟨a,ws,c',rfl,hwc,hw16,hwx,hwn,hws⟩:=hu.shape;have q0:(w.alloc V_).cell? (S_ p)=some (.slice a ws.length c'):=(Af hp 0).trans rfl;have q1:(w.alloc V_).cell? (T_ p 1)=some (.bool x):=(Af hp 1).trans rfl;obtain⟨B,ce2⟩:∃B:Nat,(16:Int)-(ws.length:Int)=(B:Int):=⟨16-ws.length,by omega⟩;cases x with
 |false=>
  gi_enter func275,ntmps275
  gi_wp2_with fail
  gi_wp2_with (first|(gi_at_call 273;refine(fw8 11 rb _).mono ?_;rintro e wz ⟨rfl,G,w8,H,I,C⟩)|refine En H ?_)
  refine TR 0 11 (by simp[results,results275,go_sem,EF C]) rfl ?_
  exact Dp (T':=K.T) (x:=0) (y:=11) h.lt K0 BN (((BM.no (p_ No _) F.lt)).then G) ((F).no G) I (by omega) (by omega) (.inl rfl)
 |true=>
  have cs:=λm=>XL m _ K p F A
  by_cases hz:n=0
  .subst hz;have l:Keep No (w.alloc V_) (w.alloc V_):=p_ _ _;gi_enter func275,ntmps275;gi_wp2;have M:=d1;have Z:=q0;generalize hw0:w.alloc V_=J at*;have k:AV K J.drew:=F.no l.drew;obtain⟨ys,V,X,U⟩:=hv.words k hb hn hI 0 (w_ 0);obtain⟨va,Wa,GH,R,N⟩:=appW (ty:=116) (cS:=0) (hu.set l.drew (fun _ _=>id)) (w_ 16) V X U (by omega) (by omega);have e1:J.drew.cell? (S_ e0)=some (R_ p):=M;have e2:J.drew.cell? (S_ p)=some (.slice a ws.length c'):=Z;have ZB:=World.block_lt_of_cell? _ _ e1;have Y:=World.block_lt_of_cell? _ _ e2;refine CV (P:=prog) _ rfl rfl (by kernel_rfl) 15 62 [0,1,2,3,4,5,6,7,8,9,10,11,12,13] [14] (by kernel_rfl) (by rfl)
    (NG (On K.T λt=>t=(15,p)) J.drew 14 (PostA K.T J.drew p 16) []) (FU (by simp) (by simp)) _ _ rfl rfl ?_;gi_wp2_with (refine Ci rfl (.tmp 53) (.tmp 56) _ rfl rfl rfl GH ?_);refine⟨rfl,by kernel_rfl,Ef,?_,?_,?_⟩
   .intro L' u W j;have d1:=(j.1.cell (w:=J.drew) (p:=(S_ e0)) ZB (by unfold On;rw[te];simp)).trans e1;have d2:=(j.1.cell (w:=J.drew) (p:=(S_ p)) Y (by unfold On;rw[A];simp)).trans e2
    repeat' (refine Ae ?_ ?_)
    all_goals first|exact trivial|gi_wp2
   .intro i hi L' u W j Q hu';obtain rfl:i=14:=(by simpa using hi);obtain rfl:=j.2.1 Q;refine Bh rfl λKK Lh=>?_
    show wpListIn NF m prog _ _ _ (Act.put _ (some 57) (u 14)) _;gi_wp2_with (refine Ci rfl (.tmp 53) (.tmp 56) _ rfl rfl rfl GH ?_);exact⟨_,rfl,FV j (by simp) N R⟩
   .intro L' u W j O;have q:=j.2.2.1 (O 14 (by simp));obtain⟨a3,n3,c3,D⟩:∃a n c,u 14=.slice a n c:=by
     obtain e|⟨g,c,ws,e,_⟩:=q<;>exact⟨_,_,_,e⟩
    show wpListIn NF m prog _ _ _ (Act.put _ (some 57) (u 14)) _;rw[D];rw[D]at q;have s:=j.1.old (w:=J.drew) (l.old hp id) (by unfold On;rw[A];simp);have q3:W.cell? (S_ p)=some _:=(Af s 0).trans rfl;have z3:=BO s 0;gi_wp2_with fail;obtain⟨T',L,S⟩:=q.IE j.1 k.lt;have E:T' p=(11,0):=L.tag A (by simp);have s4:=k.setW (by rw[A];simp) (by rw[A];simp) L (FOne.U3 (v:=.slice a3 n3 c3) (x:=true) (y:=y) E (Ah s _) (S.set (Keep.Oa (b:=p) (o:=0) (.slice a3 n3 c3)) (λg hg e=>by rw[show g=p from e,E]at hg;simp at hg))) (k.dk.other L (by rw[A];simp));have KO:BM K.T T' J _:=(BM.no l.drew F.lt).trans s4.2;gi_wp2_with (first|(gi_at_call 272;refine(Dh _ _ 0 (by omega)).mono ?_;rintro e wz ⟨rfl,G⟩;obtain⟨w8,H,I,C⟩:=Ap (x:=0) (y:=0) (f:=.nilFunc) (G.old (KO.old rb Gp) id) rfl)|refine En H ?_);refine TR 0 0 (by simp[results,results275,go_sem,EF C]) rfl ?_;exact Dp (T':=T') (x:=0) (y:=0) h.lt K0 BN ((KO).then G) ((s4.1).no G) I (by omega) (by omega) (.inl rfl)
  .have f1:(0:Int)<(n:Int):=(by omega);by_cases hkn:n<=B
   .have f2:¬(B:Int)<(n:Int):=(by omega);gi_enter func275,ntmps275;gi_wp2_with (first|(gi_at_call 265;refine(cs _).mono ?_;rintro e w1 ⟨l,xb,rfl⟩;have M:=l.has d1;have Z:=l.has q0;generalize hw0:w.alloc V_=J at *;obtain⟨w8,H,I,C⟩:=Ap (x:=0) (y:=0) (f:=.func (.func 265) #[R_ p] #[]) (l.old rb id) rfl;cases xb)|refine En H ?_)
    .clear H I C;have k:AV K w1.drew:=F.no l.drew;obtain⟨ys,V,X,U⟩:=hv.words k hb hn hI n (w_ n);obtain⟨va,Wa,GH,R,N⟩:=appW (ty:=116) (cS:=n) (hu.set l.drew (fun _ _=>id)) (w_ 16) V X U (by omega) (by omega);have e1:w1.drew.cell? (S_ e0)=some (R_ p):=M;have e2:w1.drew.cell? (S_ p)=some (.slice a ws.length c'):=Z;have ZB:=World.block_lt_of_cell? _ _ e1;have Y:=World.block_lt_of_cell? _ _ e2;refine CV (P:=prog) _ rfl rfl (by kernel_rfl) 15 62 [0,1,2,3,4,5,6,7,8,9,10,11,12,13] [14] (by kernel_rfl) (by rfl)
      (NG (On K.T λt=>t=(15,p)) w1.drew 14 (PostA K.T w1.drew p 16) []) (FU (by simp) (by simp)) _ _ rfl rfl ?_;gi_wp2_with (refine Ci rfl (.tmp 53) (.tmp 56) _ rfl rfl rfl GH ?_);refine⟨rfl,by kernel_rfl,Ef,?_,?_,?_⟩
     .intro L' u W j;have d1:=(j.1.cell (w:=w1.drew) (p:=(S_ e0)) ZB (by unfold On;rw[te];simp)).trans e1;have d2:=(j.1.cell (w:=w1.drew) (p:=(S_ p)) Y (by unfold On;rw[A];simp)).trans e2
      repeat' (refine Ae ?_ ?_)
      all_goals first|exact trivial|gi_wp2
     .intro i hi L' u W j Q hu';obtain rfl:i=14:=(by simpa using hi);obtain rfl:=j.2.1 Q;refine Bh rfl λKK Lh=>?_
      show wpListIn NF m prog _ _ _ (Act.put _ (some 57) (u 14)) _;gi_wp2_with (refine Ci rfl (.tmp 53) (.tmp 56) _ rfl rfl rfl GH ?_);exact⟨_,rfl,FV j (by simp) N R⟩
     .intro L' u W j O;have q:=j.2.2.1 (O 14 (by simp));obtain⟨a3,n3,c3,D⟩:∃a n c,u 14=.slice a n c:=by
       obtain e|⟨g,c,ws,e,_⟩:=q<;>exact⟨_,_,_,e⟩
      show wpListIn NF m prog _ _ _ (Act.put _ (some 57) (u 14)) _;rw[D];rw[D]at q;have s:=j.1.old (w:=w1.drew) (l.old hp id) (by unfold On;rw[A];simp);have q3:W.cell? (S_ p)=some _:=(Af s 0).trans rfl;have z3:=BO s 0;gi_wp2_with fail;obtain⟨T',L,S⟩:=q.IE j.1 k.lt;have E:T' p=(11,0):=L.tag A (by simp);have s4:=k.setW (by rw[A];simp) (by rw[A];simp) L (FOne.U3 (v:=.slice a3 n3 c3) (x:=true) (y:=y) E (Ah s _) (S.set (Keep.Oa (b:=p) (o:=0) (.slice a3 n3 c3)) (λg hg e=>by rw[show g=p from e,E]at hg;simp at hg))) (k.dk.other L (by rw[A];simp));have KO:BM K.T T' J _:=(BM.no l.drew F.lt).trans s4.2;gi_wp2_with (first|(gi_at_call 272;refine(Dh _ _ n (by omega)).mono ?_;rintro e wz ⟨rfl,G⟩;obtain⟨w8,H,I,C⟩:=Ap (x:=n) (y:=0) (f:=.nilFunc) (G.old (KO.old rb Gp) id) rfl)|refine En H ?_);refine TR n 0 (by simp[results,results275,go_sem,EF C]) rfl ?_;exact Dp (T':=T') (x:=n) (y:=0) h.lt K0 BN ((KO).then G) ((s4.1).no G) I (by omega) (by omega) (.inl rfl)
    .have uY:w8.cell? (S_ w.heap.size)=some (a_ 0):=bce C rfl;have uX:w8.cell? (T_ w.heap.size 1)=some (a_ 0):=bce C rfl;have uV:w8.cell? (T_ w.heap.size 2)=some (.func (.func 265) #[R_ p] #[]):=bce C rfl;refine bodyPost_ret (v:=.agg #[a_ 0,a_ 0,.func (.func 265) #[R_ p] #[]]) (by simp[results,results275,go_sem,uY,uX,uV]) rfl ?_;exact Dp (T':=K.T) (x:=0) (y:=0) h.lt K0 BN (BM.no l F.lt) (F.no l) I (by omega) (by omega) (.inr (.inr ⟨p,.inr rfl,A⟩))
   .have f2:(B:Int)<(n:Int):=(by omega);gi_enter func275,ntmps275;gi_wp2_with (first|(gi_at_call 265;refine(cs _).mono ?_;rintro e w1 ⟨l,xb,rfl⟩;have M:=l.has d1;have Z:=l.has q0;generalize hw0:w.alloc V_=J at *;obtain⟨w8,H,I,C⟩:=Ap (x:=0) (y:=0) (f:=.func (.func 265) #[R_ p] #[]) (l.old rb id) rfl;cases xb)|refine En H ?_)
    .clear H I C;have k:AV K w1.drew:=F.no l.drew;obtain⟨ys,V,X,U⟩:=hv.words k hb hn hI B (by omega);obtain⟨va,Wa,GH,R,N⟩:=appW (ty:=116) (cS:=n) (hu.set l.drew (fun _ _=>id)) (w_ 16) V X U (by omega) (by omega);have e1:w1.drew.cell? (S_ e0)=some (R_ p):=M;have e2:w1.drew.cell? (S_ p)=some (.slice a ws.length c'):=Z;have ZB:=World.block_lt_of_cell? _ _ e1;have Y:=World.block_lt_of_cell? _ _ e2;refine CV (P:=prog) _ rfl rfl (by kernel_rfl) 15 62 [0,1,2,3,4,5,6,7,8,9,10,11,12,13] [14] (by kernel_rfl) (by rfl)
      (NG (On K.T λt=>t=(15,p)) w1.drew 14 (PostA K.T w1.drew p 16) []) (FU (by simp) (by simp)) _ _ rfl rfl ?_;gi_wp2_with (refine Ci rfl (.tmp 53) (.tmp 56) _ rfl rfl rfl GH ?_);refine⟨rfl,by kernel_rfl,Ef,?_,?_,?_⟩
     .intro L' u W j;have d1:=(j.1.cell (w:=w1.drew) (p:=(S_ e0)) ZB (by unfold On;rw[te];simp)).trans e1;have d2:=(j.1.cell (w:=w1.drew) (p:=(S_ p)) Y (by unfold On;rw[A];simp)).trans e2
      repeat' (refine Ae ?_ ?_)
      all_goals first|exact trivial|gi_wp2
     .intro i hi L' u W j Q hu';obtain rfl:i=14:=(by simpa using hi);obtain rfl:=j.2.1 Q;refine Bh rfl λKK Lh=>?_
      show wpListIn NF m prog _ _ _ (Act.put _ (some 57) (u 14)) _;gi_wp2_with (refine Ci rfl (.tmp 53) (.tmp 56) _ rfl rfl rfl GH ?_);exact⟨_,rfl,FV j (by simp) N R⟩
     .intro L' u W j O;have q:=j.2.2.1 (O 14 (by simp));obtain⟨a3,n3,c3,D⟩:∃a n c,u 14=.slice a n c:=by
       obtain e|⟨g,c,ws,e,_⟩:=q<;>exact⟨_,_,_,e⟩
      show wpListIn NF m prog _ _ _ (Act.put _ (some 57) (u 14)) _;rw[D];rw[D]at q;have s:=j.1.old (w:=w1.drew) (l.old hp id) (by unfold On;rw[A];simp);have q3:W.cell? (S_ p)=some _:=(Af s 0).trans rfl;have z3:=BO s 0;gi_wp2_with fail;obtain⟨T',L,S⟩:=q.IE j.1 k.lt;have E:T' p=(11,0):=L.tag A (by simp);have s4:=k.setW (by rw[A];simp) (by rw[A];simp) L (FOne.U3 (v:=.slice a3 n3 c3) (x:=true) (y:=y) E (Ah s _) (S.set (Keep.Oa (b:=p) (o:=0) (.slice a3 n3 c3)) (λg hg e=>by rw[show g=p from e,E]at hg;simp at hg))) (k.dk.other L (by rw[A];simp));have KO:BM K.T T' J _:=(BM.no l.drew F.lt).trans s4.2;gi_wp2_with (first|(gi_at_call 272;refine(Dh _ _ B (by omega)).mono ?_;rintro e wz ⟨rfl,G⟩;obtain⟨w8,H,I,C⟩:=Ap (x:=B) (y:=0) (f:=.nilFunc) (G.old (KO.old rb Gp) id) rfl)|refine En H ?_);refine TR B 0 (by simp[results,results275,go_sem,EF C]) rfl ?_;exact Dp (T':=T') (x:=B) (y:=0) h.lt K0 BN ((KO).then G) ((s4.1).no G) I (by omega) (by omega) (.inl rfl)
    .have uY:w8.cell? (S_ w.heap.size)=some (a_ 0):=bce C rfl;have uX:w8.cell? (T_ w.heap.size 1)=some (a_ 0):=bce C rfl;have uV:w8.cell? (T_ w.heap.size 2)=some (.func (.func 265) #[R_ p] #[]):=bce C rfl;refine bodyPost_ret (v:=.agg #[a_ 0,a_ 0,.func (.func 265) #[R_ p] #[]]) (by simp[results,results275,go_sem,uY,uX,uV]) rfl ?_;exact Dp (T':=K.T) (x:=0) (y:=0) h.lt K0 BN (BM.no l F.lt) (F.no l) I (by omega) (by omega) (.inr (.inr ⟨p,.inr rfl,A⟩))
end
end Go.Fxa
