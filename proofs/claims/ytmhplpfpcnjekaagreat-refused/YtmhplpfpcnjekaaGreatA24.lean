/- A file is opened -/
import Derived.Test.YtmhplpfpcnjekaaGreatA22
namespace Go.Fxa
open Conc Proofs RowKit Proofs.Tryz
set_option maxRecDepth 1000000
set_option maxHeartbeats 0
def cp9 (K:KS)(i fl:Nat)(nm:Nat->d_ Nat)(T:Tag)(ct:Nat->Ct):Prop:=(K.nm i=some fl/\nm=K.nm/\T=K.T/\ct=K.ct)\/(K.nm i=none/\K.T fl=(0,0)/\nm=Ah K.nm i (some fl)/\T=Bi K.T fl (10,0)/\ct=Ah K.ct fl Ct.nil)
def Tn (K:KS)(b:Nat)(r:PR)(i num:Nat):KS->Nat->Nat->n_->Prop:=λK' x y f=>(16<=i/\GY K 13 K' x y f)\/(i<16/\((K.nm i=none/\num=0/\GY K 6 K' x y f)\/(¬(K.nm i=none/\num=0)/\((DF r.fds<1/\GY K 7 K' x y f)\/(1<=DF r.fds/\Fq K.desc 20<1/\GY K 8 K' x y f)\/∃fl pb nm T ct i0 j,cp9 K i fl nm T ct/\T pb=(0,0)/\i0<20/\(K.desc i0=0/\∀j,j<i0->K.desc j≠0)/\IV r.fds j/\K'=KS.Bj {K with nm:=nm,op:=Ah K.op fl (K.op fl+1),T:=Bi T pb (12,fl),desc:=Ah K.desc i0 1,ef:=Ah K.ef i0 (some fl),tv:=Ah K.tv i0 (.iface 337 (ptr pb)),ct:=Ah ct pb Ct.nil} b {r with fds:=r.fds.set j (i0:Int)}/\x=j/\y=0/\f=.nilFunc))))
theorem Tn.many {K:KS}{b i num x:Nat}{r:PR}(hi:i<16)(d:¬(K.nm i=none/\num=0))(h:(DF r.fds<1/\x=7)\/(1<=DF r.fds/\Fq K.desc 20<1/\x=8)):Tn K b r i num K 0 x .nilFunc:=by
 obtain⟨a,rfl⟩|⟨a,c,rfl⟩:=h
 .exact .inr ⟨hi,.inr ⟨d,.inl ⟨a,GY.of⟩⟩⟩
 .exact .inr ⟨hi,.inr ⟨d,.inr (.inl ⟨a,c,GY.of⟩)⟩⟩
section
variable (m:Nat)(w:o_)
theorem qw (K:KS)(NC NS b name number:Nat)(r:PR)(h:AY K w)(hO:DU NC NS K)(hm:b∈K.Ar)(hb:K.ps b=some r)(hn:r.en=false)(hname:name<65536):
  O_ m 150 #[Q_ K.kb,Q_ b,a_ (name:Nat),a_ (number:Nat)] w (FX (Tn K b r name number) NC NS b K w):=by
 have o:=hO.pr b r hb;have hlen:r.fds.length<=6:=by rw[o.fds hn];omega
 obtain⟨U,rb,Cm⟩:=IE w;have h0:=h.no U;have Hl:K.T w.heap.size=(0,0):=h.lt _ w_;have cn:=λm=>Rf m _ K name h0 hname
 have ct:=λm w1 (hK:Aa No (w.alloc V_) w1)=>Zo m w1 K b 1 r (h0.no hK) hb hn wB
 simp only[Int.natCast_one]at ct;have g0:Yp ((number=0/\((number:Int) !=0)=false)\/(¬number=0/\((number:Int) !=0)=true)):=by
  by_cases h:number=0
  .exact .inl ⟨h,by simp[h]⟩
  .exact .inr ⟨h,by simp;omega⟩
 gi_enter func150,ntmps150;gi_wp2_with (gi_at_call 205;refine(cn _).mono ?_;rintro e w1 ⟨K1,x,rfl,hx⟩;obtain⟨rfl,F,f,sS⟩|⟨⟨rfl,F,sS⟩,⟨Q,g1⟩|⟨Q,g1⟩⟩|⟨rfl,F⟩:=hx.imp id (Or.imp (λa=>And.intro a g0.out) id))
 .gi_wp2_with (gi_at_call 198;refine(ct _ _ K1).mono ?_;rintro e w2 ⟨⟨rfl,hs1,hs2⟩|⟨xx,rfl,hxx,cb9,hxe⟩,K2⟩<;>generalize hw0:w.alloc V_=w0 at *)
  .have KK:=K1.then K2;have p:1<=DF r.fds:=hs1;have B:1<=Fq K.desc 20:=hs2;have h3:=h0.no KK;have h3d:AY {K with nm:=K.nm,T:=K.T} w2.drew:=AY.no h3 (Aa.refl No w2).drew;have V:=λm=>zZ m w2.drew {K with nm:=K.nm,T:=K.T} name f h3d F (sS) (by have D:=hO.Ei.op (f);have C:=Un K.desc K.ef (f);show K.op (f)<=1000;omega)
   refine Dx (P:=prog) _ rfl rfl sU 11 56 [0,1,2,3,4,5,6,7,8] [9,10] sU (by rfl)
    (iJ (On (K.T) λt=>t≠(0,0)) w2.drew 9 10 (λv W=>∃d,v=.iface 337 (ptr d)/\AY {K with nm:=K.nm,op:=Ah K.op f (K.op f+1),T:=Bi (K.T) d (12,f),ct:=Ah K.ct d Ct.nil} W/\BQ (K.T) (Bi (K.T) d (12,f)) w2.drew W/\Yp ((K.T) d=(0,0))) (λ_ v W=>∃d g,v=b_ (g:Nat)/\g<20/\K.desc g=0/\AY {K with nm:=K.nm,op:=Ah K.op f (K.op f+1),T:=Bi (K.T) d (12,f),desc:=Ah K.desc g 1,ef:=Ah K.ef g (some f),tv:=Ah K.tv g (.iface 337 (ptr d)),ct:=Ah K.ct d Ct.nil} W/\BQ (K.T) (Bi (K.T) d (12,f)) w2.drew W/\Yp ((K.T) d=(0,0)/\∀j,j<g->K.desc j≠0))) (YS sJ sJ) _ _ rfl rfl ?_;gi_wp2;refine⟨rfl,sU,Uf,?_,?_,?_⟩
   .intro L' u W hI
    repeat' (refine AA ?_ ?_)
    all_goals first|exact dE|gi_wp2
   .intro q hq L' u W hI z hu;obtain rfl|rfl:=(by simpa using hq:q=9\/q=10)
    .obtain⟨rfl,_⟩:=hI.2.1 z;refine BI rfl λKK Ol=>?_
     show wpListIn NF m prog _ _ _ (Act.put (Act.put _ (some 52) (u 9)) (some 53) (u 10)) _;gi_wp2_with (gi_at_call 206;refine(V _).mono ?_;rintro e w4 ⟨d,rfl,h4,I,tp⟩);exact⟨_,rfl,YR hI sN z I.keep ⟨d,rfl,h4,I,tp⟩⟩
    .have h9:=hu 9 sJ sN;obtain⟨d,Z,h4,I,tp⟩:=hI.2.2.1 h9 z;refine BI rfl λKK Ol=>?_
     show wpListIn NF m prog _ _ _ (Act.put (Act.put _ (some 52) (u 9)) (some 53) (u 10)) _;have ca:=λm=>iY m W _ (.iface 337 (ptr d)) (some (f)) h4 ⟨d,.inl ⟨rfl,f,A7,rfl⟩⟩ (Wi B)
     simp only[ptr]at ca Z;rw[Z];gi_wp2_with (gi_at_call 201;refine(ca _).mono ?_;rintro e w5 ⟨g,l,⟨n,A⟩,rfl,h5,O⟩;replace A:Yp _:=A);rw[<-Z];exact⟨_,rfl,YQ sN h9 (I.trans O).keep ⟨d,g,rfl,l,n,h5,I.trans O,tp.out,A.out⟩⟩
   .intro L' u W hI hL;obtain⟨d,g,Y,l,n,h5,O,L⟩:=hI.2.2.2 (hL 10 sJ);show wpListIn NF m prog _ _ _ (Act.put (Act.put _ (some 52) (u 9)) (some 53) (u 10)) _;rw[Y];have X:=λm=>UY m W _ b (g:Int) r h5 hb hn wB p
    gi_wp2_with (gi_at_call 200;refine(X _).mono ?_;rintro e w6 ⟨j,M,rfl,h6,M6⟩);have R:=M.1;have hjl:=(Oc.1 R).1;have hH0:BR K.ps K.Ar g=0:=(by rw[<-hO.Ei.ho g l];exact n);obtain⟨Td,IU⟩:=hO.fds (K1:={K with nm:=K.nm,op:=Ah K.op f (K.op f+1),T:=Bi (K.T) d (12,f),desc:=Ah K.desc g 1,ef:=Ah K.ef g (some f),tv:=Ah K.tv g (.iface 337 (ptr d)),ct:=Ah K.ct d Ct.nil}) (r':={r with fds:=r.fds.set j (g:Int)}) (H:=Ah (BR K.ps K.Ar) g 1) ⟨rfl⟩ hm hb rfl rfl rfl rfl rfl (iO o (λe=>by simp[o.fds e]) (VS o.fd (.inr ⟨g,rfl,l⟩)) hn) (hO.Ei.add (o:=some (f)) (nm:=K.nm) l n hO.Ei.nm hO.Ei.dj) (λk _=>by
     have:=Qa (m:=(g:Int)) (a:=(k:Int)) R
     rw[ru (c:=(-1:Int)=(k:Int)) wB]at this
     simp only[Ah]
     split
     .rename_i e;subst e;rw[rW rfl]at this;omega
     .rename_i e;rw[ru wB]at this;omega)
    have yN:BQ K.T (Bi (K.T) d (12,f)) w0 w6:=((((BQ.no KK h0.lt)).then (Aa.refl No w2).drew).trans O).trans M6;gi_wp2_with (first|(gi_at_call 152;refine(Eg _ _ j wB).mono ?_;rintro e wz ⟨rfl,s⟩;obtain⟨w8,E,G,J⟩:=Az (x:=j) (y:=0) (f:=.nilFunc) (s.old (yN.old rb Hl) id) rfl)|refine Fa E ?_);refine T_ j 0 (by simp[results,results150,go_sem,FU J]) rfl ?_;exact BD (K':=KS.Bj {K with nm:=K.nm,op:=Ah K.op f (K.op f+1),T:=Bi (K.T) d (12,f),desc:=Ah K.desc g 1,ef:=Ah K.ef g (some f),tv:=Ah K.tv g (.iface 337 (ptr d)),ct:=Ah K.ct d Ct.nil} b {r with fds:=r.fds.set j (g:Int)}) (x:=j) (y:=0) h.lt U Cm ((yN).then s) ((h6).no s) G wB wB (.inl rfl) (Td) (IU) Ag (λ_=>hm) (.inr ⟨F,.inr ⟨(by rw[sS];simp),.inr (.inr ⟨f,d,_,_,_,g,j,.inl ⟨sS,rfl,rfl,rfl⟩,L.out.1,l,⟨n,L.out.2⟩,M,rfl,rfl,rfl,rfl⟩)⟩⟩)
  .have KK:=K1.then K2;gi_wp2_with (first|(gi_at_call 140;refine(Oy _ _ xx).mono ?_;rintro e wz ⟨rfl,s⟩;obtain⟨w8,E,G,J⟩:=Az (x:=0) (y:=xx) (f:=.nilFunc) (s.old (KK.old rb id) id) rfl)|refine Fa E ?_);refine T_ 0 xx (by simp[results,results150,go_sem,FU J]) rfl ?_;exact Ci h hO hm hb U Cm (KK.then s) G sN wB (Tn.many F (by rw[sS];simp) hxe.out)
 .generalize hw0:w.alloc V_=w0 at*;gi_wp2_with (first|(gi_at_call 140;refine(Uy 6 (K1.old rb id) _).mono ?_;rintro e wz ⟨rfl,s,w8,E,G,J⟩)|refine Fa E ?_);refine T_ 0 6 (by simp[results,results150,go_sem,FU J]) rfl ?_;exact Ci h hO hm hb U Cm (K1.then s) G sN sN (.inr ⟨F,.inl ⟨sS,Q,GY.of⟩⟩)
 .gi_wp2_with (gi_at_call 198;refine(ct _ _ K1).mono ?_;rintro e w2 ⟨⟨rfl,hs1,hs2⟩|⟨xx,rfl,hxx,cb9,hxe⟩,K2⟩<;>generalize hw0:w.alloc V_=w0 at *)
  .have KK:=K1.then K2;have p:1<=DF r.fds:=hs1;have B:1<=Fq K.desc 20:=hs2;have C:=h0.no KK;have S:=bv4 C hO.Ei w_;have cmk:=λm=>bw4 m w2 K name C F S
   clear S;gi_wp2_with (gi_at_call 44;refine(cmk _).mono ?_;rintro e w3 ⟨rfl,h3,M3⟩);have N:K.T w2.heap.size=(0,0):=C.lt _ w_;have hnn:∀i,i<16->K.nm i≠some w2.heap.size:=λi hi e=>by
    have:=(C.nmc hi).2 _ e
    rw[N]at this;simp at this
   have cy4:∀i j f,i<16->j<16->Ah K.nm name (some w2.heap.size) i=some f->Ah K.nm name (some w2.heap.size) j=some f->i=j:=λi j f hi R D C=>by
    simp only[Ah]at D C
    split at D<;>split at C
    .omega
    .rename_i e1 e2;rw[<-D]at C;exact qx C (hnn j R)
    .rename_i e1 e2;rw[<-C]at D;exact qx D (hnn i hi)
    .exact hO.Ei.nm i j f hi R D C
   have cz5:∀i f,i<16->Ah K.nm name (some w2.heap.size) i=some f->f ∉ K.nl:=λi f hi D hf=>by
    simp only[Ah]at D
    split at D
    .obtain rfl:w2.heap.size=f:=(by simpa using D);obtain⟨ks,_,hc⟩:=C.k;obtain⟨_,_,_,hbN⟩:=hc.nl;have:=hbN _ hf;rw[N]at this;simp at this
    .exact hO.Ei.dj i f hi D hf
   have h3d:AY {K with nm:=Ah K.nm name (some w2.heap.size),T:=Bi K.T w2.heap.size (10,0),ct:=Ah K.ct w2.heap.size Ct.nil} w3.drew:=AY.no h3 (Aa.refl No w3).drew;have V:=λm=>zZ m w3.drew {K with nm:=Ah K.nm name (some w2.heap.size),T:=Bi K.T w2.heap.size (10,0),ct:=Ah K.ct w2.heap.size Ct.nil} name w2.heap.size h3d F (by simp[Ah]) (by have D:=hO.Ei.op (w2.heap.size);have C:=Un K.desc K.ef (w2.heap.size);show K.op (w2.heap.size)<=1000;omega)
   refine Dx (P:=prog) _ rfl rfl sU 11 56 [0,1,2,3,4,5,6,7,8] [9,10] sU (by rfl)
    (iJ (On (Bi K.T w2.heap.size (10,0)) λt=>t≠(0,0)) w3.drew 9 10 (λv W=>∃d,v=.iface 337 (ptr d)/\AY {K with nm:=Ah K.nm name (some w2.heap.size),op:=Ah K.op w2.heap.size (K.op w2.heap.size+1),T:=Bi (Bi K.T w2.heap.size (10,0)) d (12,w2.heap.size),ct:=Ah (Ah K.ct w2.heap.size Ct.nil) d Ct.nil} W/\BQ (Bi K.T w2.heap.size (10,0)) (Bi (Bi K.T w2.heap.size (10,0)) d (12,w2.heap.size)) w3.drew W/\Yp ((Bi K.T w2.heap.size (10,0)) d=(0,0))) (λ_ v W=>∃d g,v=b_ (g:Nat)/\g<20/\K.desc g=0/\AY {K with nm:=Ah K.nm name (some w2.heap.size),op:=Ah K.op w2.heap.size (K.op w2.heap.size+1),T:=Bi (Bi K.T w2.heap.size (10,0)) d (12,w2.heap.size),desc:=Ah K.desc g 1,ef:=Ah K.ef g (some w2.heap.size),tv:=Ah K.tv g (.iface 337 (ptr d)),ct:=Ah (Ah K.ct w2.heap.size Ct.nil) d Ct.nil} W/\BQ (Bi K.T w2.heap.size (10,0)) (Bi (Bi K.T w2.heap.size (10,0)) d (12,w2.heap.size)) w3.drew W/\Yp ((Bi K.T w2.heap.size (10,0)) d=(0,0)/\∀j,j<g->K.desc j≠0))) (YS sJ sJ) _ _ rfl rfl ?_;gi_wp2;refine⟨rfl,sU,Uf,?_,?_,?_⟩
   .intro L' u W hI
    repeat' (refine AA ?_ ?_)
    all_goals first|exact dE|gi_wp2
   .intro q hq L' u W hI z hu;obtain rfl|rfl:=(by simpa using hq:q=9\/q=10)
    .obtain⟨rfl,_⟩:=hI.2.1 z;refine BI rfl λKK Ol=>?_
     show wpListIn NF m prog _ _ _ (Act.put (Act.put _ (some 52) (u 9)) (some 53) (u 10)) _;gi_wp2_with (gi_at_call 206;refine(V _).mono ?_;rintro e w4 ⟨d,rfl,h4,I,tp⟩);exact⟨_,rfl,YR hI sN z I.keep ⟨d,rfl,h4,I,tp⟩⟩
    .have h9:=hu 9 sJ sN;obtain⟨d,Z,h4,I,tp⟩:=hI.2.2.1 h9 z;refine BI rfl λKK Ol=>?_
     show wpListIn NF m prog _ _ _ (Act.put (Act.put _ (some 52) (u 9)) (some 53) (u 10)) _;have ca:=λm=>iY m W _ (.iface 337 (ptr d)) (some (w2.heap.size)) h4 ⟨d,.inl ⟨rfl,w2.heap.size,A7,rfl⟩⟩ (Wi B)
     simp only[ptr]at ca Z;rw[Z];gi_wp2_with (gi_at_call 201;refine(ca _).mono ?_;rintro e w5 ⟨g,l,⟨n,A⟩,rfl,h5,O⟩;replace A:Yp _:=A);rw[<-Z];exact⟨_,rfl,YQ sN h9 (I.trans O).keep ⟨d,g,rfl,l,n,h5,I.trans O,tp.out,A.out⟩⟩
   .intro L' u W hI hL;obtain⟨d,g,Y,l,n,h5,O,L⟩:=hI.2.2.2 (hL 10 sJ);show wpListIn NF m prog _ _ _ (Act.put (Act.put _ (some 52) (u 9)) (some 53) (u 10)) _;rw[Y];have X:=λm=>UY m W _ b (g:Int) r h5 hb hn wB p
    gi_wp2_with (gi_at_call 200;refine(X _).mono ?_;rintro e w6 ⟨j,M,rfl,h6,M6⟩);have R:=M.1;have hjl:=(Oc.1 R).1;have hH0:BR K.ps K.Ar g=0:=(by rw[<-hO.Ei.ho g l];exact n);obtain⟨Td,IU⟩:=hO.fds (K1:={K with nm:=Ah K.nm name (some w2.heap.size),op:=Ah K.op w2.heap.size (K.op w2.heap.size+1),T:=Bi (Bi K.T w2.heap.size (10,0)) d (12,w2.heap.size),desc:=Ah K.desc g 1,ef:=Ah K.ef g (some w2.heap.size),tv:=Ah K.tv g (.iface 337 (ptr d)),ct:=Ah (Ah K.ct w2.heap.size Ct.nil) d Ct.nil}) (r':={r with fds:=r.fds.set j (g:Int)}) (H:=Ah (BR K.ps K.Ar) g 1) ⟨rfl⟩ hm hb rfl rfl rfl rfl rfl (iO o (λe=>by simp[o.fds e]) (VS o.fd (.inr ⟨g,rfl,l⟩)) hn) (hO.Ei.add (o:=some (w2.heap.size)) (nm:=Ah K.nm name (some w2.heap.size)) l n cy4 cz5) (λk _=>by
     have:=Qa (m:=(g:Int)) (a:=(k:Int)) R
     rw[ru (c:=(-1:Int)=(k:Int)) wB]at this
     simp only[Ah]
     split
     .rename_i e;subst e;rw[rW rfl]at this;omega
     .rename_i e;rw[ru wB]at this;omega)
    have yN:BQ K.T (Bi (Bi K.T w2.heap.size (10,0)) d (12,w2.heap.size)) w0 w6:=((((BQ.no KK h0.lt).trans M3).then (Aa.refl No w3).drew).trans O).trans M6;gi_wp2_with (first|(gi_at_call 152;refine(Eg _ _ j wB).mono ?_;rintro e wz ⟨rfl,s⟩;obtain⟨w8,E,G,J⟩:=Az (x:=j) (y:=0) (f:=.nilFunc) (s.old (yN.old rb Hl) id) rfl)|refine Fa E ?_);refine T_ j 0 (by simp[results,results150,go_sem,FU J]) rfl ?_;exact BD (K':=KS.Bj {K with nm:=Ah K.nm name (some w2.heap.size),op:=Ah K.op w2.heap.size (K.op w2.heap.size+1),T:=Bi (Bi K.T w2.heap.size (10,0)) d (12,w2.heap.size),desc:=Ah K.desc g 1,ef:=Ah K.ef g (some w2.heap.size),tv:=Ah K.tv g (.iface 337 (ptr d)),ct:=Ah (Ah K.ct w2.heap.size Ct.nil) d Ct.nil} b {r with fds:=r.fds.set j (g:Int)}) (x:=j) (y:=0) h.lt U Cm ((yN).then s) ((h6).no s) G wB wB (.inl rfl) (Td) (IU) Ag (λ_=>hm) (.inr ⟨F,.inr ⟨(λhh=>Q hh.2),.inr (.inr ⟨w2.heap.size,d,_,_,_,g,j,.inr ⟨sS,N,rfl,rfl,rfl⟩,L.out.1,l,⟨n,L.out.2⟩,M,rfl,rfl,rfl,rfl⟩)⟩⟩)
  .have KK:=K1.then K2;gi_wp2_with (first|(gi_at_call 140;refine(Oy _ _ xx).mono ?_;rintro e wz ⟨rfl,s⟩;obtain⟨w8,E,G,J⟩:=Az (x:=0) (y:=xx) (f:=.nilFunc) (s.old (KK.old rb id) id) rfl)|refine Fa E ?_);refine T_ 0 xx (by simp[results,results150,go_sem,FU J]) rfl ?_;exact Ci h hO hm hb U Cm (KK.then s) G sN wB (Tn.many F (λhh=>Q hh.2) hxe.out)
 .generalize hw0:w.alloc V_=w0 at*;gi_wp2_with (first|(gi_at_call 140;refine(Uy 13 (K1.old rb id) _).mono ?_;rintro e wz ⟨rfl,s,w8,E,G,J⟩)|refine Fa E ?_);refine T_ 0 13 (by simp[results,results150,go_sem,FU J]) rfl ?_;exact Ci h hO hm hb U Cm (K1.then s) G sN sN (.inl ⟨F,GY.of⟩)
end
end Go.Fxa
