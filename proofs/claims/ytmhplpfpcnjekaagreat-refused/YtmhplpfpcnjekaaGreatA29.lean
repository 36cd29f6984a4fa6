/- A file is opened. -/
import Derived.Test.YtmhplpfpcnjekaaGreatA28
namespace Go.Fxa
open Conc Proofs RowKit Proofs.Tryz
set_option maxRecDepth 1000000
set_option maxHeartbeats 0
variable {b i x:Nat}{r r':PR}
def cp9 (K:KS)(i fl:Nat)(nm:Nat->d_ Nat)(T:Tag)(ct:Nat->Ct):Prop:=(K.nm i=some fl/\nm=K.nm/\T=K.T/\ct=K.ct)\/(K.nm i=none/\K.T fl=(0,0)/\nm=Ah K.nm i (some fl)/\T=Bi K.T fl (10,0)/\ct=Ah K.ct fl Ct.nil)
def Tn (K:KS)(b:Nat)(r:PR)(i num:Nat):KS->Nat->Nat->n_->Prop:=λK' x y f=>(16<=i/\GY K 13 K' x y f)\/(i<16/\((K.nm i=none/\num=0/\GY K 6 K' x y f)\/(¬(K.nm i=none/\num=0)/\((DF r.fds<1/\GY K 7 K' x y f)\/(1<=DF r.fds/\Fq K.desc 20<1/\GY K 8 K' x y f)\/∃fl pb nm T ct i0 j,cp9 K i fl nm T ct/\T pb=(0,0)/\i0<20/\(K.desc i0=0/\∀j,j<i0->K.desc j≠0)/\IV r.fds j/\K'=KS.Bj {K with nm:=nm,op:=Ah K.op fl (K.op fl+1),T:=Bi T pb (12,fl),desc:=Ah K.desc i0 1,ef:=Ah K.ef i0 (some fl),tv:=Ah K.tv i0 (.iface 337 (ptr pb)),ct:=Ah ct pb Ct.nil} b {r with fds:=r.fds.set j (i0:Int)}/\x=j/\y=0/\f=.nilFunc))))
theorem Tn.many {K:KS}{num:Nat}(hi:i<16)(d:¬(K.nm i=none/\num=0))(h:(DF r.fds<1/\x=7)\/(1<=DF r.fds/\Fq K.desc 20<1/\x=8)):Tn K b r i num K 0 x .nilFunc:=by
 obtain⟨a,rfl⟩|⟨a,c,rfl⟩:=h
 .exact .inr ⟨hi,.inr ⟨d,.inl ⟨a,GY.of⟩⟩⟩
 .exact .inr ⟨hi,.inr ⟨d,.inr (.inl ⟨a,c,GY.of⟩)⟩⟩
section
variable (m:Nat)(w:o_)
theorem qw (K:KS)(NC NS b name number:Nat)(r:PR)(h:AY K w)(hO:DU NC NS K)(hm:b∈K.Ar)(hb:K.ps b=some r)(hn:r.en=false)(hname:name<65536):
  O_ m 150 #[Q_ K.kb,Q_ b,a_ (name:Nat),a_ (number:Nat)] w (FX (Tn K b r name number) NC NS b K w):=by
 have o:=hO.pr b r hb;have hlen:r.fds.length<=6:=by rw[o.fds hn];omega
 obtain⟨U,rb,Cm⟩:=IE w;have h0:=h.no U;have Hl:K.T w.heap.size=(0,0):=h.lt _ w_;have cn:=λm=>Rf m _ K name h0 hname
 have ct:=λm w1 (hK:Aa No (w.alloc V_) w1)=>Zo m w1 K b 1 r (h0.no hK) hb hn wB
 simp only[Int.natCast_one]at ct;have g0:Yp ((number=0/\((number:Int) !=0)=false)\/(¬number=0/\((number:Int) !=0)=true)):=by
  by_cases h:number=0
  .exact .inl ⟨h,by simp[h]⟩
  .exact .inr ⟨h,by simp;omega⟩
 gi_enter func150,ntmps150;gi_wp2_with (gi_at_call 205;refine(cn _).mono ?_;rintro e w1 ⟨K1,x,rfl,hx⟩;obtain⟨rfl,F,f,sS⟩|⟨⟨rfl,F,sS⟩,⟨Q,g1⟩|⟨Q,g1⟩⟩|⟨rfl,F⟩:=hx.imp id (Or.imp (λa=>And.intro a g0.out) id))
 .gi_wp2_with (gi_at_call 198;refine(ct _ _ K1).mono ?_;rintro e w2 ⟨⟨rfl,hs1,hs2⟩|⟨xx,rfl,hxx,cb9,hxe⟩,K2⟩<;>generalize hw0:w.alloc V_=w0 at *)
  .have KK:=K1.then K2;have p:1<=DF r.fds:=hs1;have B:1<=Fq K.desc 20:=hs2;have h3:=h0.no KK;have h3d:AY {K with nm:=K.nm,T:=K.T} w2.drew:=AY.no h3 (Aa.refl No w2).drew;have V:=λm=>zZ m w2.drew {K with nm:=K.nm,T:=K.T} name f h3d F (sS) (by have D:=hO.Ei.op (f);have C:=Un K.desc K.ef (f);show K.op (f)<=1000;omega)
   refine Dx (P:=prog) _ rfl rfl sU 11 56 [0,1,2,3,4,5,6,7,8] [9,10] sU (by rfl)
    (iJ (On (K.T) λt=>t≠(0,0)) w2.drew 9 10 (λv W=>∃d,v=.iface 337 (ptr d)/\AY {K with nm:=K.nm,op:=Ah K.op f (K.op f+1),T:=Bi (K.T) d (12,f),ct:=Ah K.ct d Ct.nil} W/\BQ (K.T) (Bi (K.T) d (12,f)) w2.drew W/\Yp ((K.T) d=(0,0))) (λ_ v W=>∃d g,v=b_ (g:Nat)/\g<20/\K.desc g=0/\AY {K with nm:=K.nm,op:=Ah K.op f (K.op f+1),T:=Bi (K.T) d (12,f),desc:=Ah K.desc g 1,ef:=Ah K.ef g (some f),tv:=Ah K.tv g (.iface 337 (ptr d)),ct:=Ah K.ct d Ct.nil} W/\BQ (K.T) (Bi (K.T) d (12,f)) w2.drew W/\Yp ((K.T) d=(0,0)/\∀j,j<g->K.desc j≠0))) (YS sJ sJ) _ _ rfl rfl ?_;gi_wp2;refine⟨rfl,sU,Uf,?_,?_,?_⟩
   .intro L' u W hI
    repeat' (refine AA ?_ ?_)
    all_goals first|exact dE|gi_wp2
   .intro q hq L' u W hI z hu;obtain rfl|rfl:=(by simpa using hq:q=9\/q=10)
    .obtain⟨rfl,_⟩:=hI.2.1 z;refine BI rfl λKK Ol=>?_
     show wpListIn NF m prog _ _ _ (Act.put (Act.put _ (some 52) (u 9)) (some 53) (u 10)) _;gi_wp2_with (gi_at_call 206;refine(V _).mono ?_;rintro e w4 ⟨d,rfl,h4,I,tp⟩);exact⟨_,rfl,YR hI sN z I.keep ⟨d,rfl,h4,I,tp⟩⟩
    .have h9:=hu 9 sJ sN;obtain⟨d,Z,h4,I,tp⟩:=hI.2.2.1 h9 z;refine BI rfl λKK Ol=>?_
     show wpListIn NF m prog _ _ _ (Act.put (Act.put _ (some 52) (u 9)) (some 53) (u 10)) _;have ca:=λm=>iY m W _ (.iface 337 (ptr d)) (some (f)) h4 ⟨d,.inl ⟨rfl,f,A7,rfl⟩⟩ (Wi B)
     simp only[ptr]at ca Z;rw[Z];gi_wp2_with (gi_at_call 201;refine(ca _).mono ?_;rintro e w5 ⟨g,l,⟨n,A⟩,rfl,h5,O⟩;replace A:Yp _:=A);rw[<-Z];exact⟨_,rfl,YQ sN h9 (I.trans O).keep ⟨d,g,rfl,l,n,h5,I.trans O,tp.out,A.out⟩⟩
   .intro L' u W hI hL;obtain⟨d,g,Y,l,n,h5,O,L⟩:=hI.2.2.2 (hL 10 sJ);show wpListIn NF m prog _ _ _ (Act.put (Act.put _ (some 52) (u 9)) (some 53) (u 10)) _;rw[Y];have X:=λm=>UY m W _ b (g:Int) r h5 hb hn wB p
    gi_wp2_with (gi_at_call 200;refine(X _).mono ?_;rintro e w6 ⟨j,M,rfl,h6,M6⟩);have R:=M.1;have hjl:=(Oc.1 R).1;have hH0:BR K.ps K.Ar g=0:=(by rw[<-hO.Ei.ho g l];exact n);obtain⟨Td,IU⟩:=hO.fds (K1:={K with nm:=K.nm,op:=Ah K.op f (K.op f+1),T:=Bi (K.T) d (12,f),desc:=Ah K.desc g 1,ef:=Ah K.ef g (some f),tv:=Ah K.tv g (.iface 337 (ptr d)),ct:=Ah K.ct d Ct.nil}) (r':={r with fds:=r.fds.set j (g:Int)}) (H:=Ah (BR K.ps K.Ar) g 1) ⟨rfl⟩ hm hb rfl rfl rfl rfl rfl (iO o (λe=>by simp[o.fds e]) (VS o.fd (.inr ⟨g,rfl,l⟩)) hn) (hO.Ei.add (o:=some (f)) (nm:=K.nm) l n hO.Ei.nm hO.Ei.dj) (λk _=>by
     have:=Qa (m:=(g:Int)) (a:=(k:Int)) R
     rw[ru (c:=(-1:Int)=(k:Int)) wB]at this
     simp only[Ah]
     split
     .rename_i e;subst e;rw[rW rfl]at this;omega
     .rename_i e;rw[ru wB]at this;omega)
    have yN:BQ K.T (Bi (K.T) d (12,f)) w0 w6:=((((BQ.no KK h0.lt)).then (Aa.refl No w2).drew).trans O).trans M6;gi_wp2_with (first|(gi_at_call 152;refine(Eg _ _ j wB).mono ?_;rintro e wz ⟨rfl,s⟩;obtain⟨w8,E,G,J⟩:=Az (x:=j) (y:=0) (f:=.nilFunc) (s.old (yN.old rb Hl) id) rfl)|refine Fa E ?_);refine T_ j 0 (by simp[results,results150,go_sem,FU J]) rfl ?_;exact BD (K':=KS.Bj {K with nm:=K.nm,op:=Ah K.op f (K.op f+1),T:=Bi (K.T) d (12,f),desc:=Ah K.desc g 1,ef:=Ah K.ef g (some f),tv:=Ah K.tv g (.iface 337 (ptr d)),ct:=Ah K.ct d Ct.nil} b {r with fds:=r.fds.set j (g:Int)}) (x:=j) (y:=0) h.lt U Cm ((yN).then s) ((h6).no s) G wB wB (.inl rfl) (Td) (IU) Ag (λ_=>hm) (.inr ⟨F,.inr ⟨(by rw[sS];simp),.inr (.inr ⟨f,d,_,_,_,g,j,.inl ⟨sS,rfl,rfl,rfl⟩,L.out.1,l,⟨n,L.out.2⟩,M,rfl,rfl,rfl,rfl⟩)⟩⟩)
  .have KK:=K1.then K2;gi_wp2_with (first|(gi_at_call 140;refine(Oy _ _ xx).mono ?_;rintro e wz ⟨rfl,s⟩;obtain⟨w8,E,G,J⟩:=Az (x:=0) (y:=xx) (f:=.nilFunc) (s.old (KK.old rb id) id) rfl)|refine Fa E ?_);refine T_ 0 xx (by simp[results,results150,go_sem,FU J]) rfl ?_;exact Ci h hO hm hb U Cm (KK.then s) G sN wB (Tn.many F (by rw[sS];simp) hxe.out)
 .generalize hw0:w.alloc V_=w0 at*;gi_wp2_with (first|(gi_at_call 140;refine(Uy 6 (K1.old rb id) _).mono ?_;rintro e wz ⟨rfl,s,w8,E,G,J⟩)|refine Fa E ?_);refine T_ 0 6 (by simp[results,results150,go_sem,FU J]) rfl ?_;exact Ci h hO hm hb U Cm (K1.then s) G sN sN (.inr ⟨F,.inl ⟨sS,Q,GY.of⟩⟩)
 .gi_wp2_with (gi_at_call 198;refine(ct _ _ K1).mono ?_;rintro e w2 ⟨⟨rfl,hs1,hs2⟩|⟨xx,rfl,hxx,cb9,hxe⟩,K2⟩<;>generalize hw0:w.alloc V_=w0 at *)
  .have KK:=K1.then K2;have p:1<=DF r.fds:=hs1;have B:1<=Fq K.desc 20:=hs2;have C:=h0.no KK;have S:=bv4 C hO.Ei w_;have cmk:=λm=>bw4 m w2 K name C F S
   clear S;gi_wp2_with (gi_at_call 44;refine(cmk _).mono ?_;rintro e w3 ⟨rfl,h3,M3⟩);have N:K.T w2.heap.size=(0,0):=C.lt _ w_;have hnn:∀i,i<16->K.nm i≠some w2.heap.size:=λi hi e=>by
    have:=(C.nmc hi).2 _ e
    rw[N]at this;simp at this
   have cy4:∀i j f,i<16->j<16->Ah K.nm name (some w2.heap.size) i=some f->Ah K.nm name (some w2.heap.size) j=some f->i=j:=λi j f hi R D C=>by
    simp only[Ah]at D C
    split at D<;>split at C
    .omega
    .rename_i e1 e2;rw[<-D]at C;exact qx C (hnn j R)
    .rename_i e1 e2;rw[<-C]at D;exact qx D (hnn i hi)
    .exact hO.Ei.nm i j f hi R D C
   have cz5:∀i f,i<16->Ah K.nm name (some w2.heap.size) i=some f->f ∉ K.nl:=λi f hi D hf=>by
    simp only[Ah]at D
    split at D
    .obtain rfl:w2.heap.size=f:=(by simpa using D);obtain⟨ks,_,hc⟩:=C.k;obtain⟨_,_,_,hbN⟩:=hc.nl;have:=hbN _ hf;rw[N]at this;simp at this
    .exact hO.Ei.dj i f hi D hf
   have h3d:AY {K with nm:=Ah K.nm name (some w2.heap.size),T:=Bi K.T w2.heap.size (10,0),ct:=Ah K.ct w2.heap.size Ct.nil} w3.drew:=AY.no h3 (Aa.refl No w3).drew;have V:=λm=>zZ m w3.drew {K with nm:=Ah K.nm name (some w2.heap.size),T:=Bi K.T w2.heap.size (10,0),ct:=Ah K.ct w2.heap.size Ct.nil} name w2.heap.size h3d F (by simp[Ah]) (by have D:=hO.Ei.op (w2.heap.size);have C:=Un K.desc K.ef (w2.heap.size);show K.op (w2.heap.size)<=1000;omega)
   refine Dx (P:=prog) _ rfl rfl sU 11 56 [0,1,2,3,4,5,6,7,8] [9,10] sU (by rfl)
    (iJ (On (Bi K.T w2.heap.size (10,0)) λt=>t≠(0,0)) w3.drew 9 10 (λv W=>∃d,v=.iface 337 (ptr d)/\AY {K with nm:=Ah K.nm name (some w2.heap.size),op:=Ah K.op w2.heap.size (K.op w2.heap.size+1),T:=Bi (Bi K.T w2.heap.size (10,0)) d (12,w2.heap.size),ct:=Ah (Ah K.ct w2.heap.size Ct.nil) d Ct.nil} W/\BQ (Bi K.T w2.heap.size (10,0)) (Bi (Bi K.T w2.heap.size (10,0)) d (12,w2.heap.size)) w3.drew W/\Yp ((Bi K.T w2.heap.size (10,0)) d=(0,0))) (λ_ v W=>∃d g,v=b_ (g:Nat)/\g<20/\K.desc g=0/\AY {K with nm:=Ah K.nm name (some w2.heap.size),op:=Ah K.op w2.heap.size (K.op w2.heap.size+1),T:=Bi (Bi K.T w2.heap.size (10,0)) d (12,w2.heap.size),desc:=Ah K.desc g 1,ef:=Ah K.ef g (some w2.heap.size),tv:=Ah K.tv g (.iface 337 (ptr d)),ct:=Ah (Ah K.ct w2.heap.size Ct.nil) d Ct.nil} W/\BQ (Bi K.T w2.heap.size (10,0)) (Bi (Bi K.T w2.heap.size (10,0)) d (12,w2.heap.size)) w3.drew W/\Yp ((Bi K.T w2.heap.size (10,0)) d=(0,0)/\∀j,j<g->K.desc j≠0))) (YS sJ sJ) _ _ rfl rfl ?_;gi_wp2;refine⟨rfl,sU,Uf,?_,?_,?_⟩
   .intro L' u W hI
    repeat' (refine AA ?_ ?_)
    all_goals first|exact dE|gi_wp2
   .intro q hq L' u W hI z hu;obtain rfl|rfl:=(by simpa using hq:q=9\/q=10)
    .obtain⟨rfl,_⟩:=hI.2.1 z;refine BI rfl λKK Ol=>?_
     show wpListIn NF m prog _ _ _ (Act.put (Act.put _ (some 52) (u 9)) (some 53) (u 10)) _;gi_wp2_with (gi_at_call 206;refine(V _).mono ?_;rintro e w4 ⟨d,rfl,h4,I,tp⟩);exact⟨_,rfl,YR hI sN z I.keep ⟨d,rfl,h4,I,tp⟩⟩
    .have h9:=hu 9 sJ sN;obtain⟨d,Z,h4,I,tp⟩:=hI.2.2.1 h9 z;refine BI rfl λKK Ol=>?_
     show wpListIn NF m prog _ _ _ (Act.put (Act.put _ (some 52) (u 9)) (some 53) (u 10)) _;have ca:=λm=>iY m W _ (.iface 337 (ptr d)) (some (w2.heap.size)) h4 ⟨d,.inl ⟨rfl,w2.heap.size,A7,rfl⟩⟩ (Wi B)
     simp only[ptr]at ca Z;rw[Z];gi_wp2_with (gi_at_call 201;refine(ca _).mono ?_;rintro e w5 ⟨g,l,⟨n,A⟩,rfl,h5,O⟩;replace A:Yp _:=A);rw[<-Z];exact⟨_,rfl,YQ sN h9 (I.trans O).keep ⟨d,g,rfl,l,n,h5,I.trans O,tp.out,A.out⟩⟩
   .intro L' u W hI hL;obtain⟨d,g,Y,l,n,h5,O,L⟩:=hI.2.2.2 (hL 10 sJ);show wpListIn NF m prog _ _ _ (Act.put (Act.put _ (some 52) (u 9)) (some 53) (u 10)) _;rw[Y];have X:=λm=>UY m W _ b (g:Int) r h5 hb hn wB p
    gi_wp2_with (gi_at_call 200;refine(X _).mono ?_;rintro e w6 ⟨j,M,rfl,h6,M6⟩);have R:=M.1;have hjl:=(Oc.1 R).1;have hH0:BR K.ps K.Ar g=0:=(by rw[<-hO.Ei.ho g l];exact n);obtain⟨Td,IU⟩:=hO.fds (K1:={K with nm:=Ah K.nm name (some w2.heap.size),op:=Ah K.op w2.heap.size (K.op w2.heap.size+1),T:=Bi (Bi K.T w2.heap.size (10,0)) d (12,w2.heap.size),desc:=Ah K.desc g 1,ef:=Ah K.ef g (some w2.heap.size),tv:=Ah K.tv g (.iface 337 (ptr d)),ct:=Ah (Ah K.ct w2.heap.size Ct.nil) d Ct.nil}) (r':={r with fds:=r.fds.set j (g:Int)}) (H:=Ah (BR K.ps K.Ar) g 1) ⟨rfl⟩ hm hb rfl rfl rfl rfl rfl (iO o (λe=>by simp[o.fds e]) (VS o.fd (.inr ⟨g,rfl,l⟩)) hn) (hO.Ei.add (o:=some (w2.heap.size)) (nm:=Ah K.nm name (some w2.heap.size)) l n cy4 cz5) (λk _=>by
     have:=Qa (m:=(g:Int)) (a:=(k:Int)) R
     rw[ru (c:=(-1:Int)=(k:Int)) wB]at this
     simp only[Ah]
     split
     .rename_i e;subst e;rw[rW rfl]at this;omega
     .rename_i e;rw[ru wB]at this;omega)
    have yN:BQ K.T (Bi (Bi K.T w2.heap.size (10,0)) d (12,w2.heap.size)) w0 w6:=((((BQ.no KK h0.lt).trans M3).then (Aa.refl No w3).drew).trans O).trans M6;gi_wp2_with (first|(gi_at_call 152;refine(Eg _ _ j wB).mono ?_;rintro e wz ⟨rfl,s⟩;obtain⟨w8,E,G,J⟩:=Az (x:=j) (y:=0) (f:=.nilFunc) (s.old (yN.old rb Hl) id) rfl)|refine Fa E ?_);refine T_ j 0 (by simp[results,results150,go_sem,FU J]) rfl ?_;exact BD (K':=KS.Bj {K with nm:=Ah K.nm name (some w2.heap.size),op:=Ah K.op w2.heap.size (K.op w2.heap.size+1),T:=Bi (Bi K.T w2.heap.size (10,0)) d (12,w2.heap.size),desc:=Ah K.desc g 1,ef:=Ah K.ef g (some w2.heap.size),tv:=Ah K.tv g (.iface 337 (ptr d)),ct:=Ah (Ah K.ct w2.heap.size Ct.nil) d Ct.nil} b {r with fds:=r.fds.set j (g:Int)}) (x:=j) (y:=0) h.lt U Cm ((yN).then s) ((h6).no s) G wB wB (.inl rfl) (Td) (IU) Ag (λ_=>hm) (.inr ⟨F,.inr ⟨(λhh=>Q hh.2),.inr (.inr ⟨w2.heap.size,d,_,_,_,g,j,.inr ⟨sS,N,rfl,rfl,rfl⟩,L.out.1,l,⟨n,L.out.2⟩,M,rfl,rfl,rfl,rfl⟩)⟩⟩)
  .have KK:=K1.then K2;gi_wp2_with (first|(gi_at_call 140;refine(Oy _ _ xx).mono ?_;rintro e wz ⟨rfl,s⟩;obtain⟨w8,E,G,J⟩:=Az (x:=0) (y:=xx) (f:=.nilFunc) (s.old (KK.old rb id) id) rfl)|refine Fa E ?_);refine T_ 0 xx (by simp[results,results150,go_sem,FU J]) rfl ?_;exact Ci h hO hm hb U Cm (KK.then s) G sN wB (Tn.many F (λhh=>Q hh.2) hxe.out)
 .generalize hw0:w.alloc V_=w0 at*;gi_wp2_with (first|(gi_at_call 140;refine(Uy 13 (K1.old rb id) _).mono ?_;rintro e wz ⟨rfl,s,w8,E,G,J⟩)|refine Fa E ?_);refine T_ 0 13 (by simp[results,results150,go_sem,FU J]) rfl ?_;exact Ci h hO hm hb U Cm (K1.then s) G sN sN (.inl ⟨F,GY.of⟩)
end
theorem J6 (w:o_)(o:Obj):(w.alloc o).heap.size=w.heap.size+1:=sJ
theorem U7 {f:Nat->d_ PR}:CY (CY f b r) b r'=CY f b r':=by funext k;unfold CY;split<;>rfl
theorem Vf {K:KS}:(K.Bj b r).Bj b r'=K.Bj b r':=by
 unfold KS.Bj;have e:CY (CY K.ps b r) b r'=CY K.ps b r':=by funext k;unfold CY;split<;>rfl
 simp only[e]
theorem kC (l:List Int):DF l=l.count (-1):=by
 unfold DF TL;rw[List.count,List.countP_eq_length_filter]
theorem Ϫ {d:Nat->Nat}{j:Nat}(h:2<=Fq d 20):∃i,i<20/\Ah d j 1 i=0:=by
 refine Classical.byContradiction λc=>?_
 have f:∀x∈(List.range 20).filter (λi=>d i==0),x∈[j]:=λx g=>by
  obtain⟨a,b⟩:=List.mem_filter.1 g
  refine List.mem_singleton.2 (Classical.byContradiction λe=>c ⟨x,List.mem_range.1 a,?_⟩)
  simp only[Ah,ru e];simpa using b
 have:=Wn (List.Pairwise.filter _ List.nodup_range) f;unfold Fq at h;simp at this;omega
theorem AY.XZ {K:KS}{w:o_}{g c:Nat}(h:AY K w)(hb:K.ps b=some r)(k:r.en=false)(j:r.im=P_ g r.Af.length c):AY (K.Bj b {r with Af:=r.Af.set i x}) (w.setCell (S_ g i) (a_ (x:Nat)))/\BQ K.T K.T w (w.setCell (S_ g i) (a_ (x:Nat))):=by
 obtain⟨e,d,_,hR,f,a⟩:=h.lh hb k;obtain⟨rfl,rfl⟩:g=e/\c=d:=by rw[a]at j;simp at j;exact⟨j.1.symm,j.2.symm⟩
 have:=hR.set (i:=i) (a_ (x:Nat)) rfl;exact h.aj3 hb k a f ((Aa.refl _ _).setCell _ λ_=>rfl) (by simpa [Aw,List.map_set]using this) sJ
def JW (ct:Nat->Ct)(p e1 e2:Nat):Nat->Ct:=Ah (Ah (Ah ct p ⟨[],true,true,0⟩) e1 ⟨[],false,false,p⟩) e2 ⟨[],false,false,p⟩
def Least (d:Nat->Nat)(i:Nat):Prop:=d i=0/\∀j,j<i->d j≠0
def dN (K:KS)(b:Nat)(r:PR)(at_:Nat):KS->Nat->Nat->n_->Prop:=λK' x y f=>(¬at_+2<=r.Af.length/\GY K 1 K' x y f)\/(at_+2<=r.Af.length/\DF r.fds<2/\GY K 7 K' x y f)\/(at_+2<=r.Af.length/\2<=DF r.fds/\Fq K.desc 20<2/\GY K 8 K' x y f)\/(at_+2<=r.Af.length/\∃p e1 e2 T3 i1 i2 j1 j2,(K.T p=(0,0)/\K.T e1=(0,0)/\K.T e2=(0,0)/\e1=p+1/\e2=p+2/\T3 p=(11,0)/\T3 e1=(13,0)/\T3 e2=(14,0))/\i1<20/\Least K.desc i1/\i2<20/\Least (Ah K.desc i1 1) i2/\IV r.fds j1/\IV (r.fds.set j1 (i1:Int)) j2/\K'=KS.Bj {K with T:=T3,desc:=Ah (Ah K.desc i1 1) i2 1,ef:=Ah (Ah K.ef i1 none) i2 none,tv:=Ah (Ah K.tv i1 (.iface 330 (ptr e1))) i2 (.iface 334 (ptr e2)),ct:=JW K.ct p e1 e2} b {r with fds:=(r.fds.set j1 (i1:Int)).set j2 (i2:Int),Af:=(r.Af.set at_ j1).set (at_+1) j2}/\x=0/\y=0/\f=.nilFunc)
section
variable (m:Nat)(w:o_)
theorem xC (K:KS)(h:AY K w):O_ m 199 #[] w λe w'=>∃e1 e2 p T3,e=.returned (.tuple #[.iface 330 (ptr e1),.iface 334 (ptr e2)])/\AY {K with T:=T3,ct:=JW K.ct p e1 e2} w'/\T3 e1=(13,0)/\T3 e2=(14,0)/\BQ K.T T3 w w'/\Yp (T3 p=(11,0)/\w.heap.size<=p/\e1=p+1/\e2=p+2):=by
 have a1:(w.alloc (.cells #[.slice none 0 0,.bool true,.bool true] 329)).heap[w.heap.size]?=some (N_ #[.slice none 0 0,.bool true,.bool true] 329):=Yw rfl;obtain⟨j,f⟩:=h.ae0 (Qz:=Ah K.ct w.heap.size ⟨[],true,true,0⟩) (t:=(11,0)) (w':=w.alloc (.cells #[.slice none 0 0,.bool true,.bool true] 329)) ((Aa.refl _ _).alloc _) w_ (Dt a1) sJ (EN.WI (v:=.slice none 0 0) A7 (a1.trans (by simp[Ah])) (.inl ⟨rfl,by simp[Ah]⟩)) (λk a=>ru a);have c:(w.alloc (.cells #[.slice none 0 0,.bool true,.bool true] 329)).heap.size=w.heap.size+1:=J6 _ _;have a2:((w.alloc (.cells #[.slice none 0 0,.bool true,.bool true] 329)).alloc (.cells #[Q_ w.heap.size] 333)).heap[w.heap.size+1]?=some (N_ #[Q_ w.heap.size] 333):=by
  have:=Yw (w:=w.alloc (.cells #[.slice none 0 0,.bool true,.bool true] 329)) (o:=.cells #[Q_ w.heap.size] 333) rfl
  rwa [c]at this
 obtain⟨l,g⟩:=AY.ae0 (Qz:=Ah (Ah K.ct w.heap.size ⟨[],true,true,0⟩) (w.heap.size+1) ⟨[],false,false,w.heap.size⟩) (t:=(13,0)) (w':=(w.alloc (.cells #[.slice none 0 0,.bool true,.bool true] 329)).alloc (.cells #[Q_ w.heap.size] 333)) j ((Aa.refl _ _).alloc _) (Nat.le_of_eq c) (Dt a2) sJ (EN.rend' A7 (a2.trans (by simp[Ah,ptr])) (by show Bi (Bi K.T w.heap.size (11,0)) (w.heap.size+1) (13,0) (Ah (Ah K.ct w.heap.size ⟨[],true,true,0⟩) (w.heap.size+1) ⟨[],false,false,w.heap.size⟩ (w.heap.size+1)).n=(11,0);rw[show Ah (Ah K.ct w.heap.size ⟨[],true,true,0⟩) (w.heap.size+1) ⟨[],false,false,w.heap.size⟩ (w.heap.size+1)=⟨[],false,false,w.heap.size⟩from rW rfl];show Bi (Bi K.T w.heap.size (11,0)) (w.heap.size+1) (13,0) w.heap.size=(11,0);exact(AV wB).trans A7)) (λk a=>ru a);have d:((w.alloc (.cells #[.slice none 0 0,.bool true,.bool true] 329)).alloc (.cells #[Q_ w.heap.size] 333)).heap.size=w.heap.size+2:=by rw[J6,J6]
 have b:(((w.alloc (.cells #[.slice none 0 0,.bool true,.bool true] 329)).alloc (.cells #[Q_ w.heap.size] 333)).alloc (.cells #[Q_ w.heap.size] 335)).heap[w.heap.size+2]?=some (N_ #[Q_ w.heap.size] 335):=by
  have:=Yw (w:=(w.alloc (.cells #[.slice none 0 0,.bool true,.bool true] 329)).alloc (.cells #[Q_ w.heap.size] 333)) (o:=.cells #[Q_ w.heap.size] 335) rfl
  rwa [d]at this
 obtain⟨q,i⟩:=AY.ae0 (Qz:=JW K.ct w.heap.size (w.heap.size+1) (w.heap.size+2)) (t:=(14,0)) (w':=((w.alloc (.cells #[.slice none 0 0,.bool true,.bool true] 329)).alloc (.cells #[Q_ w.heap.size] 333)).alloc (.cells #[Q_ w.heap.size] 335)) l ((Aa.refl _ _).alloc _) (Nat.le_of_eq d) (Dt b) sJ (EN.cg5 A7 (b.trans (by simp[JW,Ah,ptr])) (by show Bi (Bi (Bi K.T w.heap.size (11,0)) (w.heap.size+1) (13,0)) (w.heap.size+2) (14,0) (JW K.ct w.heap.size (w.heap.size+1) (w.heap.size+2) (w.heap.size+2)).n=(11,0);rw[show JW K.ct w.heap.size (w.heap.size+1) (w.heap.size+2) (w.heap.size+2)=⟨[],false,false,w.heap.size⟩from rW rfl];show Bi (Bi (Bi K.T w.heap.size (11,0)) (w.heap.size+1) (13,0)) (w.heap.size+2) (14,0) w.heap.size=(11,0);exact(AV wB).trans ((AV wB).trans A7))) (λk a=>ru a);gi_enter func199,ntmps199;gi_wp2;go_ret2;refine⟨w.heap.size+1,w.heap.size+2,by first|rfl|simp[ptr],w.heap.size,Bi (Bi (Bi K.T w.heap.size (11,0)) (w.heap.size+1) (13,0)) (w.heap.size+2) (14,0),q,(AV wB).trans A7,A7,(f.trans g).trans i,(AV wB).trans ((AV wB).trans A7),w_,rfl,rfl⟩
theorem Ϻ (K:KS)(NC NS b at_:Nat)(r:PR)(h:AY K w)(hO:DU NC NS K)(hm:b∈K.Ar)(hb:K.ps b=some r)(hn:r.en=false)(hat:at_<65536):
  O_ m 145 #[Q_ K.kb,Q_ b,a_ (at_:Nat)] w (FX (dN K b r at_) NC NS b K w):=by
 have o:=hO.pr b r hb;have hlen:r.fds.length<=6:=by rw[o.fds hn];omega
 have hL:=(hO.co.pl b r hb).1;obtain⟨K0,rb,Cm⟩:=IE w;have h0:=h.no K0;have Hl:K.T w.heap.size=(0,0):=h.lt _ w_;obtain⟨R,ci,q8,hRi,yK,F⟩:=h0.lh hb hn;have WE:=hRi.le;have ct:=λm w1 (hK:Aa No (w.alloc V_) w1)=>Zo m w1 K b 2 r (h0.no hK) hb hn wB
 have two:((2:Nat):Int)=2:=rfl;simp only[two]at ct;by_cases L:at_+2<=r.Af.length
 .have cw:=λm=>Gq b R ci r.Af.length 2 at_ m (w.alloc V_) q8 wB hat hL WE L
  gi_enter func145,ntmps145;gi_wp2_with (first|(gi_at_call 138;refine(cw _).mono ?_;rintro e w1 ⟨rfl,I⟩;have I:=I.symm;subst I)|(gi_at_call 198;refine(ct _ _ (Aa.refl No _)).mono ?_;rintro e w2 ⟨⟨rfl,hs1,hs2⟩|⟨xx,rfl,hxx,cb9,hxe⟩,K2⟩<;>generalize hw0:w.alloc V_=w0 at *))
  .have h2:=h0.no K2;have cp:=λm=>xC m w2 K h2
   gi_wp2_with (gi_at_call 199;refine(cp _).mono ?_;rintro e w3 ⟨e1,e2,C,T3,rfl,h3,te1,te2,M3,p⟩;simp only[ptr]);have ca:=λm=>iY m w3 {K with T:=T3,ct:=JW K.ct C e1 e2} (.iface 330 (ptr e1)) none h3 ⟨e1,.inr (.inl ⟨rfl,te1,rfl⟩)⟩ (Wi (by show 1<=Fq K.desc 20;omega))
   simp only[ptr]at ca;gi_wp2_with (gi_at_call 201;refine(ca _).mono ?_;rintro e w4 ⟨g,t,⟨E,hl1⟩,rfl,h4,M4⟩);have chd:=λm=>UY m w4 {K with T:=T3,desc:=Ah K.desc g 1,ef:=Ah K.ef g none,tv:=Ah K.tv g (.iface 330 (ptr e1)),ct:=JW K.ct C e1 e2} b (g:Int) r h4 hb hn wB wB
   gi_wp2_with (gi_at_call 200;refine(chd _).mono ?_;rintro e w5 ⟨l,W,rfl,h5,M5⟩;have G:=W.1;have dg8:=(Oc.1 G).1;have dh0:l<6:=wB;obtain⟨g5,c5,_,S,tg5,cy8⟩:=h5.lh Ag hn;have D:R=g5/\ci=c5:=(by have:=F.symm.trans cy8;simpa using this);obtain⟨rfl,rfl⟩:=D;have z5:=S.fz at_;have q5:=S.cell (i:=at_) (by show at_<r.Af.length*1;omega);obtain⟨x5,hx5⟩:∃v,(Aw r.Af)[at_]?=some v:=⟨_,JM (by simp[Aw];omega)⟩;have q5:=q5.trans hx5);have s6:=h5.XZ (i:=at_) (x:=l) Ag hn F;rw[Vf]at s6;obtain⟨h6,M6⟩:=s6;have cb:=λm=>iY m _ _ (.iface 334 (ptr e2)) none h6 ⟨e2,.inr (.inr ⟨rfl,te2,rfl⟩)⟩ (Ϫ (d:=K.desc) hs2)
   simp only[ptr]at cb;gi_wp2_with (gi_at_call 201;refine(cb _).mono ?_;rintro e w7 ⟨j,u,⟨q,hl2⟩,rfl,h7,M7⟩);have Z:1<=DF (r.fds.set l (g:Int)):=by
    have:=Qa (m:=(g:Int)) (a:=-1) G
    rw[kC]at hs1 ⊢
    rw[rW rfl,ru wB]at this
    omega
   have che:=λm=>UY m w7 _ b (j:Int) _ h7 Ag hn (by show(r.fds.set l (g:Int)).length<=1000;simp;omega) Z
   gi_wp2_with (gi_at_call 200;refine(che _).mono ?_;rintro e w8' ⟨n,X,rfl,h8,M8⟩;have Y:=X.1;have dg7:=(Oc.1 Y).1;have dg9:n<6:=(by have:(r.fds.set l (g:Int)).length<=6:=(by simp;omega);omega);obtain⟨g8,c8,_,U,tg8,Q⟩:=h8.lh Ag hn;have D:R=g8/\ci=c8:=(by have:=F.symm.trans Q;simpa using this);obtain⟨rfl,rfl⟩:=D;have z8:=U.fz (at_+1);have q8:=U.cell (i:=at_+1) (by show at_+1<(r.Af.set at_ l).length*1;simp;omega);obtain⟨x8,hx8⟩:∃v,(Aw (r.Af.set at_ l))[at_+1]?=some v:=⟨_,JM (by simp[Aw];omega)⟩;have q8:=q8.trans hx8);have s9:=h8.XZ (i:=at_+1) (x:=n) Ag hn Q;rw[Vf]at s9;obtain⟨h9,M9⟩:=s9;have eK:KS.Bj { ({K with T:=T3,desc:=Ah K.desc g 1,ef:=Ah K.ef g none,tv:=Ah K.tv g (.iface 330 (ptr e1)),ct:=JW K.ct C e1 e2}:KS).Bj b {r with fds:=r.fds.set l (g:Int),Af:=r.Af.set at_ l} with desc:=Ah (Ah K.desc g 1) j 1,ef:=Ah (Ah K.ef g none) j none,tv:=Ah (Ah K.tv g (.iface 330 (ptr e1))) j (.iface 334 (ptr e2))} b {r with fds:=(r.fds.set l (g:Int)).set n (j:Int),Af:=(r.Af.set at_ l).set (at_+1) n}=KS.Bj {K with T:=T3,desc:=Ah (Ah K.desc g 1) j 1,ef:=Ah (Ah K.ef g none) j none,tv:=Ah (Ah K.tv g (.iface 330 (ptr e1))) j (.iface 334 (ptr e2)),ct:=JW K.ct C e1 e2} b {r with fds:=(r.fds.set l (g:Int)).set n (j:Int),Af:=(r.Af.set at_ l).set (at_+1) n}:=(by unfold KS.Bj;simp only[U7]);have h9:AY (KS.Bj {K with T:=T3,desc:=Ah (Ah K.desc g 1) j 1,ef:=Ah (Ah K.ef g none) j none,tv:=Ah (Ah K.tv g (.iface 330 (ptr e1))) j (.iface 334 (ptr e2)),ct:=JW K.ct C e1 e2} b {r with fds:=(r.fds.set l (g:Int)).set n (j:Int),Af:=(r.Af.set at_ l).set (at_+1) n}) (w8'.setCell (S_ R (at_+1)) (a_ (n:Nat))):=(by rw[<-eK];exact h9);have hH1:BR K.ps K.Ar g=0:=(by rw[<-hO.Ei.ho g t];exact E);have CX:j≠g:=λe=>by rw[e]at q;simp[KS.Bj,Ah]at q
   have cz6:K.desc j=0:=(by have:Ah K.desc g 1 j=0:=q;rwa [show Ah K.desc g 1 j=K.desc j from ru CX]at this);have hH2:BR K.ps K.Ar j=0:=(by rw[<-hO.Ei.ho j u];exact cz6);have ct4:=hO.Ei.add (o:=none) (nm:=K.nm) (T:=T3) (ct:=K.ct) (tv:=K.tv) t E hO.Ei.nm hO.Ei.dj;have J:=ct4.add (o:=none) (nm:=K.nm) (T:=T3) (ct:=K.ct) (tv:=K.tv) u (show Ah K.desc g 1 j=0 from q) hO.Ei.nm hO.Ei.dj;have s:((r.Af.set at_ l).set (at_+1) n).length=r.Af.length:=sJ;obtain⟨Td,IU⟩:=hO.fds (K1:={K with T:=T3,desc:=Ah (Ah K.desc g 1) j 1,ef:=Ah (Ah K.ef g none) j none,tv:=Ah (Ah K.tv g (.iface 330 (ptr e1))) j (.iface 334 (ptr e2)),ct:=JW K.ct C e1 e2}) (r':={r with fds:=(r.fds.set l (g:Int)).set n (j:Int),Af:=(r.Af.set at_ l).set (at_+1) n}) (H:=Ah (Ah (BR K.ps K.Ar) g 1) j 1) ⟨rfl⟩ hm hb rfl rfl rfl rfl s ⟨o.A,o.B,o.P,o.st,o.pid,o.par,λx hx=>by
    obtain hx|rfl:=List.mem_or_eq_of_mem_set hx
    .obtain hx|rfl:=List.mem_or_eq_of_mem_set hx
     .exact o.Af x hx
     .omega
    .omega,λe=>by simp[o.fds e],VS (VS o.fd (.inr ⟨g,rfl,t⟩)) (.inr ⟨j,rfl,u⟩),λe=>by simp only[s];exact o.len e,λe=>qx e (by simp[hn])⟩ ⟨J.ho,J.le,J.op,J.nd,J.nz,J.nm,J.dj⟩ (λk _=>by
    have a1:=Qa (m:=(g:Int)) (a:=(k:Int)) G;have a2:=Qa (m:=(j:Int)) (a:=(k:Int)) Y;rw[ru (c:=(-1:Int)=(k:Int)) wB]at a1 a2;simp only at a2 ⊢;simp only[Ah];by_cases e2:k=j
    .subst e2;rw[ru wB]at a1;rw[rW rfl]at a2 ⊢;omega
    .rw[ru wB]at a2;rw[ru e2];by_cases e1:k=g
     .subst e1;rw[rW rfl]at a1 ⊢;omega
     .rw[ru wB]at a1;rw[ru e1];omega)
   have V:BQ K.T T3 w0 _:=((((((BQ.no K2 h0.lt).trans M3).trans M4).trans M5).trans M6).trans M7).trans (M8.trans M9);gi_wp2_with (first|(gi_at_call 152;refine(Eg _ _ 0 wB).mono ?_;rintro e wz ⟨rfl,z⟩;obtain⟨w8,M,N,O⟩:=Az (x:=0) (y:=0) (f:=.nilFunc) (z.old (V.old rb Hl) id) rfl)|refine Fa M ?_);refine T_ 0 0 (by simp[results,results145,go_sem,FU O]) rfl ?_;exact BD (K':=KS.Bj {K with T:=T3,desc:=Ah (Ah K.desc g 1) j 1,ef:=Ah (Ah K.ef g none) j none,tv:=Ah (Ah K.tv g (.iface 330 (ptr e1))) j (.iface 334 (ptr e2)),ct:=JW K.ct C e1 e2} b {r with fds:=(r.fds.set l (g:Int)).set n (j:Int),Af:=(r.Af.set at_ l).set (at_+1) n}) (x:=0) (y:=0) h.lt K0 Cm ((V).then z) ((h9).no z) N wB wB (.inl rfl) (Td) (IU) Ag (λ_=>hm) (.inr (.inr (.inr ⟨L,C,e1,e2,T3,g,j,l,n,⟨h2.lt _ p.out.2.1,h2.lt _ (by have:=p.out;omega),h2.lt _ (by have:=p.out;omega),p.out.2.2.1,p.out.2.2.2,p.out.1,te1,te2⟩,t,⟨E,hl1⟩,u,⟨q,hl2⟩,W,X,rfl,rfl,rfl,rfl⟩)))
  .skip
   gi_wp2_with (first|(gi_at_call 140;refine(Oy _ _ xx).mono ?_;rintro e wz ⟨rfl,z⟩;obtain⟨w8,M,N,O⟩:=Az (x:=0) (y:=xx) (f:=.nilFunc) (z.old (K2.old rb id) id) rfl)|refine Fa M ?_);refine T_ 0 xx (by simp[results,results145,go_sem,FU O]) rfl ?_;exact Ci h hO hm hb K0 Cm (K2.then z) N sN wB (.inr (by obtain⟨a1,rfl⟩|⟨a1,a2,rfl⟩:=hxe.out;exact .inl ⟨L,a1,GY.of⟩;exact .inr (.inl ⟨L,a1,a2,GY.of⟩)))
 .have cw:=λm=>IJ b R ci r.Af.length 2 at_ m (w.alloc V_) q8 wB wB hat L
  gi_enter func145,ntmps145;gi_wp2_with (gi_at_call 138;refine(cw _).mono ?_;rintro e w1 ⟨rfl,I⟩;have I:=I.symm;subst I;generalize hw0:w.alloc V_=w0 at *);gi_wp2_with (first|(gi_at_call 140;refine(Uy 1 rb _).mono ?_;rintro e wz ⟨rfl,z,w8,M,N,O⟩)|refine Fa M ?_);refine T_ 0 1 (by simp[results,results145,go_sem,FU O]) rfl ?_;exact Ci h hO hm hb K0 Cm z N sN sN (.inl ⟨L,GY.of⟩)
end
def KS.parent (K:KS)(pid:Nat):Prop:=∃b r,b∈K.Ar/\K.ps b=some r/\r.par=pid
def ad8 (K:KS)(b:Nat):Int:=match K.ps b with|some r=>r.par|none=>0
section
variable (m:Nat)(w:o_)
theorem bw7 (cb c pb:Nat)(x y:Int)(d:w.cell? (S_ cb 1)=some (b_ x))(f:w.cell? (R_ c)=some (Q_ pb))(g:w.cell? (R_ pb)=some (b_ y)):
  O_ m 230 #[Q_ cb,Q_ c] w λe w'=>Aa No w w'/\∃z,e=.returned (.bool z)/\Yp (z=true ↔ x=y):=by
 gi_enter func230,ntmps230;gi_wp2;refine Cc 8 13 ?_;gi_wp2;refine Ee ?_ ?_
 .intro W a;have d1:=a.has (w:=w.drew) d;have d2:=a.has (w:=w.drew) f;have d3:=a.has (w:=w.drew) g
  repeat' (refine AA ?_ ?_)
  all_goals first|exact dE|gi_wp2
 .intro W a;have KW:Aa No w W:=(Aa.refl No w).drew.then a;gi_wp2
  all_goals go_ret
  all_goals exact⟨KW,_,rfl,by unfold Yp;simp⟩
theorem aa6 (g cap v pb:Nat)(l:List Nat)(y:Int)(u:Nat->Int)(hR:Rw 119 1 w g l.length cap (Ce l))(C:∀b∈l,w.cell? (S_ b 1)=some (b_ (u b)))(A:w.cell? (R_ v)=some (Q_ pb))(B:w.cell? (R_ pb)=some (b_ y))(D:l.length<=100000):
  O_ m 238 #[P_ g l.length cap,.func (.func 230) #[] #[Q_ v]] w λe w'=>Aa No w w'/\∃j:Int,e=.returned (b_ j)/\Yp ((0<=j/\∃b∈l,u b=y)\/(j=-1/\∀b∈l,u b≠y)):=by
 gi_enter func238,ntmps238;gi_wp2;gi_loopw [8] (λi wr=>∃k:Nat,k<=l.length/\i=b_ k/\Aa No w wr/\Yp (∀(j c:Nat),j<k->l[j]?=some c->u c≠y)) (λi _=>l.length-(intOf i).toNat)
 case atStart=>exact⟨0,wB,rfl,Aa.refl _ _,λj c h=>qx h wB⟩
 case round=>
  obtain⟨k,t,rfl,KK,o⟩:=hrel
  by_cases p:k<l.length
  .have d:l[k]?=some l[k]:=JM p;generalize l[k]=b at d;have r:wr.cell? (S_ g k)=some (Q_ b):=(by rw[Rw.cell (hR.keep KK id) wB];simp[Ce,d,ptr]);have q:=C b (t_ d);have c:=λm=>bw7 m wr b v pb (u b) y (KK.has q) (KK.has A) (KK.has B)
   gi_wp2_with (gi_at_call 230;refine(c _).mono ?_;rintro e w1 ⟨f,z,rfl,n⟩;cases z)
   .go_roundw
    case rel=>exact⟨k+1,wB,by go_num,KK.then f,λj c s a=>by
     by_cases e:j=k
     .subst e;rw[d]at a;cases a;exact λh=>by have:=n.out.2 h;simp at this
     .exact o.out j c wB a⟩
    case measure=>simp[intOf];omega
   .go_ret;exact⟨KK.then f,_,rfl,.inl ⟨wB,b,t_ d,n.out.1 sJ⟩⟩
  .obtain rfl:k=l.length:=wB;gi_wp2;go_ret;exact⟨KK,_,rfl,.inr ⟨rfl,λb hb=>by
    obtain⟨i,hi⟩:=List.getElem?_of_mem hb
    exact o.out i b (Oc.1 hi).1 hi⟩⟩
theorem qH (K:KS)(pb:Nat)(p:PR)(h:AY K w)(hT:K.ED)(t:K.ps pb=some p)(u:K.Ar.length<=100):
  O_ m 194 #[Q_ K.kb,Q_ pb] w λe w'=>Aa No w w'/\∃z,e=.returned (.bool z)/\Yp (z=true ↔ K.parent p.pid):=by
 have k:Aa No w (w.alloc (.cells #[Q_ pb] 119)):=(Aa.refl _ _).alloc _;have g:=h.no k;have s:=g.kc2;have n:=g.Iu t 0;simp[PR.arr]at n;have q:(w.alloc (.cells #[Q_ pb] 119)).heap[w.heap.size]?=some (N_ #[Q_ pb] 119):=Yw rfl;have c:=λm=>aa6 m (w.alloc (.cells #[Q_ pb] 119)) K.pg K.pc w.heap.size pb K.Ar p.pid (ad8 K) g.pr (λb hb=>by
  obtain⟨r,d⟩:=hT b hb
  rw[g.Iu d];simp[PR.arr,ad8,d]) ((Ai q 0).trans rfl) n wB
 gi_enter func194,ntmps194;gi_wp2_with (first|(gi_at_call 238;refine(c _).mono ?_;rintro e w1 ⟨o,j,rfl,l⟩)|(gi_at_call 229;gi_in))
 all_goals go_ret
 have i:(∃b∈K.Ar,ad8 K b=(p.pid:Int)) ↔ K.parent p.pid:=by
  constructor
  .rintro⟨b,f,a⟩;obtain⟨r,d⟩:=hT b f;exact⟨b,r,f,d,by simp[ad8,d]at a;omega⟩
  .rintro⟨b,r,f,d,a⟩;exact⟨b,f,by simp[ad8,d,a]⟩
 refine⟨k.then o,_,rfl,?_⟩;unfold Yp at l ⊢;rw[<-i];obtain⟨f,a⟩|⟨rfl,a⟩:=l
 .simp[f];simpa using a
 .simp;exact λb hb=>a b hb
end
end Go.Fxa
