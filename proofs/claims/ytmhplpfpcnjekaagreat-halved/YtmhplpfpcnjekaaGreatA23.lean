/- A pipe is made. -/
import Derived.Test.YtmhplpfpcnjekaaGreatA17
import Derived.Test.YtmhplpfpcnjekaaGreatA22
namespace Go.Fxa
open Conc Proofs RowKit Proofs.Tryz
set_option maxRecDepth 1000000
set_option maxHeartbeats 0
variable {b g c x NC NS y p:Nat}{r r':PR}{w w':o_}{o:d_ Nat}
theorem J6 (w:o_)(o:Obj):(w.alloc o).heap.size=w.heap.size+1:=sJ
theorem U7 {f:Nat->d_ PR}:CY (CY f b r) b r'=CY f b r':=by funext k;unfold CY;split<;>rfl
theorem Vf {K:KS}:(K.Bj b r).Bj b r'=K.Bj b r':=by
 unfold KS.Bj;have e:CY (CY K.ps b r) b r'=CY K.ps b r':=by funext k;unfold CY;split<;>rfl
 simp only[e]
theorem kC (l:List Int):DF l=l.count (-1):=by
 unfold DF TL;rw[List.count,List.countP_eq_length_filter]
theorem Ϫ {d:Nat->Nat}{j:Nat}(h:2<=Fq d 20):∃i,i<20/\Ah d j 1 i=0:=by
 refine Classical.byContradiction λc=>?_
 have f:∀x∈(List.range 20).filter (λi=>d i==0),x∈[j]:=λx g=>by
  obtain⟨a,b⟩:=List.mem_filter.1 g
  refine List.mem_singleton.2 (Classical.byContradiction λe=>c ⟨x,List.mem_range.1 a,?_⟩)
  simp only[Ah,ru e];simpa using b
 have:=Wn (List.Pairwise.filter _ List.nodup_range) f;unfold Fq at h;simp at this;omega
theorem AY.XZ {K:KS}{i:Nat}(h:AY K w)(hb:K.ps b=some r)(k:r.en=false)(j:r.im=P_ g r.Af.length c):AY (K.Bj b {r with Af:=r.Af.set i x}) (w.setCell (S_ g i) (a_ (x:Nat)))/\BQ K.T K.T w (w.setCell (S_ g i) (a_ (x:Nat))):=by
 obtain⟨e,d,_,hR,f,a⟩:=h.lh hb k;obtain⟨rfl,rfl⟩:g=e/\c=d:=by rw[a]at j;simp at j;exact⟨j.1.symm,j.2.symm⟩
 have:=hR.set (i:=i) (a_ (x:Nat)) rfl;exact h.aj3 hb k a f ((Aa.refl _ _).setCell _ λ_=>rfl) (by simpa [Aw,List.map_set]using this) sJ
def JW (ct:Nat->Ct)(p e1 e2:Nat):Nat->Ct:=Ah (Ah (Ah ct p ⟨[],true,true,0⟩) e1 ⟨[],false,false,p⟩) e2 ⟨[],false,false,p⟩
def Least (d:Nat->Nat)(i:Nat):Prop:=d i=0/\∀j,j<i->d j≠0
def dN (K:KS)(b:Nat)(r:PR)(at_:Nat):KS->Nat->Nat->n_->Prop:=λK' x y f=>(¬at_+2<=r.Af.length/\GY K 1 K' x y f)\/(at_+2<=r.Af.length/\DF r.fds<2/\GY K 7 K' x y f)\/(at_+2<=r.Af.length/\2<=DF r.fds/\Fq K.desc 20<2/\GY K 8 K' x y f)\/(at_+2<=r.Af.length/\∃p e1 e2 T3 i1 i2 j1 j2,(K.T p=(0,0)/\K.T e1=(0,0)/\K.T e2=(0,0)/\e1=p+1/\e2=p+2/\T3 p=(11,0)/\T3 e1=(13,0)/\T3 e2=(14,0))/\i1<20/\Least K.desc i1/\i2<20/\Least (Ah K.desc i1 1) i2/\IV r.fds j1/\IV (r.fds.set j1 (i1:Int)) j2/\K'=KS.Bj {K with T:=T3,desc:=Ah (Ah K.desc i1 1) i2 1,ef:=Ah (Ah K.ef i1 none) i2 none,tv:=Ah (Ah K.tv i1 (.iface 330 (ptr e1))) i2 (.iface 334 (ptr e2)),ct:=JW K.ct p e1 e2} b {r with fds:=(r.fds.set j1 (i1:Int)).set j2 (i2:Int),Af:=(r.Af.set at_ j1).set (at_+1) j2}/\x=0/\y=0/\f=.nilFunc)
section
variable (m:Nat)(w:o_)
theorem xC (K:KS)(h:AY K w):O_ m 199 #[] w λe w'=>∃e1 e2 p T3,e=.returned (.tuple #[.iface 330 (ptr e1),.iface 334 (ptr e2)])/\AY {K with T:=T3,ct:=JW K.ct p e1 e2} w'/\T3 e1=(13,0)/\T3 e2=(14,0)/\BQ K.T T3 w w'/\Yp (T3 p=(11,0)/\w.heap.size<=p/\e1=p+1/\e2=p+2):=by
 have a1:(w.alloc (.cells #[.slice none 0 0,.bool true,.bool true] 329)).heap[w.heap.size]?=some (N_ #[.slice none 0 0,.bool true,.bool true] 329):=Yw rfl;obtain⟨j,f⟩:=h.ae0 (Qz:=Ah K.ct w.heap.size ⟨[],true,true,0⟩) (t:=(11,0)) (w':=w.alloc (.cells #[.slice none 0 0,.bool true,.bool true] 329)) ((Aa.refl _ _).alloc _) w_ (Dt a1) sJ (EN.WI (v:=.slice none 0 0) A7 (a1.trans (by simp[Ah])) (.inl ⟨rfl,by simp[Ah]⟩)) (λk a=>ru a);have c:(w.alloc (.cells #[.slice none 0 0,.bool true,.bool true] 329)).heap.size=w.heap.size+1:=J6 _ _;have a2:((w.alloc (.cells #[.slice none 0 0,.bool true,.bool true] 329)).alloc (.cells #[Q_ w.heap.size] 333)).heap[w.heap.size+1]?=some (N_ #[Q_ w.heap.size] 333):=by
  have:=Yw (w:=w.alloc (.cells #[.slice none 0 0,.bool true,.bool true] 329)) (o:=.cells #[Q_ w.heap.size] 333) rfl
  rwa [c]at this
 obtain⟨l,g⟩:=AY.ae0 (Qz:=Ah (Ah K.ct w.heap.size ⟨[],true,true,0⟩) (w.heap.size+1) ⟨[],false,false,w.heap.size⟩) (t:=(13,0)) (w':=(w.alloc (.cells #[.slice none 0 0,.bool true,.bool true] 329)).alloc (.cells #[Q_ w.heap.size] 333)) j ((Aa.refl _ _).alloc _) (Nat.le_of_eq c) (Dt a2) sJ (EN.rend' A7 (a2.trans (by simp[Ah,ptr])) (by show Bi (Bi K.T w.heap.size (11,0)) (w.heap.size+1) (13,0) (Ah (Ah K.ct w.heap.size ⟨[],true,true,0⟩) (w.heap.size+1) ⟨[],false,false,w.heap.size⟩ (w.heap.size+1)).n=(11,0);rw[show Ah (Ah K.ct w.heap.size ⟨[],true,true,0⟩) (w.heap.size+1) ⟨[],false,false,w.heap.size⟩ (w.heap.size+1)=⟨[],false,false,w.heap.size⟩from rW rfl];show Bi (Bi K.T w.heap.size (11,0)) (w.heap.size+1) (13,0) w.heap.size=(11,0);exact(AV wB).trans A7)) (λk a=>ru a);have d:((w.alloc (.cells #[.slice none 0 0,.bool true,.bool true] 329)).alloc (.cells #[Q_ w.heap.size] 333)).heap.size=w.heap.size+2:=by rw[J6,J6]
 have b:(((w.alloc (.cells #[.slice none 0 0,.bool true,.bool true] 329)).alloc (.cells #[Q_ w.heap.size] 333)).alloc (.cells #[Q_ w.heap.size] 335)).heap[w.heap.size+2]?=some (N_ #[Q_ w.heap.size] 335):=by
  have:=Yw (w:=(w.alloc (.cells #[.slice none 0 0,.bool true,.bool true] 329)).alloc (.cells #[Q_ w.heap.size] 333)) (o:=.cells #[Q_ w.heap.size] 335) rfl
  rwa [d]at this
 obtain⟨q,i⟩:=AY.ae0 (Qz:=JW K.ct w.heap.size (w.heap.size+1) (w.heap.size+2)) (t:=(14,0)) (w':=((w.alloc (.cells #[.slice none 0 0,.bool true,.bool true] 329)).alloc (.cells #[Q_ w.heap.size] 333)).alloc (.cells #[Q_ w.heap.size] 335)) l ((Aa.refl _ _).alloc _) (Nat.le_of_eq d) (Dt b) sJ (EN.cg5 A7 (b.trans (by simp[JW,Ah,ptr])) (by show Bi (Bi (Bi K.T w.heap.size (11,0)) (w.heap.size+1) (13,0)) (w.heap.size+2) (14,0) (JW K.ct w.heap.size (w.heap.size+1) (w.heap.size+2) (w.heap.size+2)).n=(11,0);rw[show JW K.ct w.heap.size (w.heap.size+1) (w.heap.size+2) (w.heap.size+2)=⟨[],false,false,w.heap.size⟩from rW rfl];show Bi (Bi (Bi K.T w.heap.size (11,0)) (w.heap.size+1) (13,0)) (w.heap.size+2) (14,0) w.heap.size=(11,0);exact(AV wB).trans ((AV wB).trans A7))) (λk a=>ru a);gi_enter func199,ntmps199;gi_wp2;go_ret2;refine⟨w.heap.size+1,w.heap.size+2,by first|rfl|simp[ptr],w.heap.size,Bi (Bi (Bi K.T w.heap.size (11,0)) (w.heap.size+1) (13,0)) (w.heap.size+2) (14,0),q,(AV wB).trans A7,A7,(f.trans g).trans i,(AV wB).trans ((AV wB).trans A7),w_,rfl,rfl⟩
theorem Ϻ (K:KS)(NC NS b at_:Nat)(r:PR)(h:AY K w)(hO:DU NC NS K)(hm:b∈K.Ar)(hb:K.ps b=some r)(hn:r.en=false)(hat:at_<65536):
  O_ m 145 #[Q_ K.kb,Q_ b,a_ (at_:Nat)] w (FX (dN K b r at_) NC NS b K w):=by
 have o:=hO.pr b r hb;have hlen:r.fds.length<=6:=by rw[o.fds hn];omega
 have hL:=(hO.co.pl b r hb).1;obtain⟨K0,rb,Cm⟩:=IE w;have h0:=h.no K0;have Hl:K.T w.heap.size=(0,0):=h.lt _ w_;obtain⟨R,ci,q8,hRi,yK,F⟩:=h0.lh hb hn;have WE:=hRi.le;have ct:=λm w1 (hK:Aa No (w.alloc V_) w1)=>Zo m w1 K b 2 r (h0.no hK) hb hn wB
 have two:((2:Nat):Int)=2:=rfl;simp only[two]at ct;by_cases L:at_+2<=r.Af.length
 .have cw:=λm=>Gq b R ci r.Af.length 2 at_ m (w.alloc V_) q8 wB hat hL WE L
  gi_enter func145,ntmps145;gi_wp2_with (first|(gi_at_call 138;refine(cw _).mono ?_;rintro e w1 ⟨rfl,I⟩;have I:=I.symm;subst I)|(gi_at_call 198;refine(ct _ _ (Aa.refl No _)).mono ?_;rintro e w2 ⟨⟨rfl,hs1,hs2⟩|⟨xx,rfl,hxx,cb9,hxe⟩,K2⟩<;>generalize hw0:w.alloc V_=w0 at *))
  .have h2:=h0.no K2;have cp:=λm=>xC m w2 K h2
   gi_wp2_with (gi_at_call 199;refine(cp _).mono ?_;rintro e w3 ⟨e1,e2,C,T3,rfl,h3,te1,te2,M3,p⟩;simp only[ptr]);have ca:=λm=>iY m w3 {K with T:=T3,ct:=JW K.ct C e1 e2} (.iface 330 (ptr e1)) none h3 ⟨e1,.inr (.inl ⟨rfl,te1,rfl⟩)⟩ (Wi (by show 1<=Fq K.desc 20;omega))
   simp only[ptr]at ca;gi_wp2_with (gi_at_call 201;refine(ca _).mono ?_;rintro e w4 ⟨g,t,⟨E,hl1⟩,rfl,h4,M4⟩);have chd:=λm=>UY m w4 {K with T:=T3,desc:=Ah K.desc g 1,ef:=Ah K.ef g none,tv:=Ah K.tv g (.iface 330 (ptr e1)),ct:=JW K.ct C e1 e2} b (g:Int) r h4 hb hn wB wB
   gi_wp2_with (gi_at_call 200;refine(chd _).mono ?_;rintro e w5 ⟨l,W,rfl,h5,M5⟩;have G:=W.1;have dg8:=(Oc.1 G).1;have dh0:l<6:=wB;obtain⟨g5,c5,_,S,tg5,cy8⟩:=h5.lh Ag hn;have D:R=g5/\ci=c5:=(by have:=F.symm.trans cy8;simpa using this);obtain⟨rfl,rfl⟩:=D;have z5:=S.fz at_;have q5:=S.cell (i:=at_) (by show at_<r.Af.length*1;omega);obtain⟨x5,hx5⟩:∃v,(Aw r.Af)[at_]?=some v:=⟨_,JM (by simp[Aw];omega)⟩;have q5:=q5.trans hx5);have s6:=h5.XZ (i:=at_) (x:=l) Ag hn F;rw[Vf]at s6;obtain⟨h6,M6⟩:=s6;have cb:=λm=>iY m _ _ (.iface 334 (ptr e2)) none h6 ⟨e2,.inr (.inr ⟨rfl,te2,rfl⟩)⟩ (Ϫ (d:=K.desc) hs2)
   simp only[ptr]at cb;gi_wp2_with (gi_at_call 201;refine(cb _).mono ?_;rintro e w7 ⟨j,u,⟨q,hl2⟩,rfl,h7,M7⟩);have Z:1<=DF (r.fds.set l (g:Int)):=by
    have:=Qa (m:=(g:Int)) (a:=-1) G
    rw[kC]at hs1 ⊢
    rw[rW rfl,ru wB]at this
    omega
   have che:=λm=>UY m w7 _ b (j:Int) _ h7 Ag hn (by show(r.fds.set l (g:Int)).length<=1000;simp;omega) Z
   gi_wp2_with (gi_at_call 200;refine(che _).mono ?_;rintro e w8' ⟨n,X,rfl,h8,M8⟩;have Y:=X.1;have dg7:=(Oc.1 Y).1;have dg9:n<6:=(by have:(r.fds.set l (g:Int)).length<=6:=(by simp;omega);omega);obtain⟨g8,c8,_,U,tg8,Q⟩:=h8.lh Ag hn;have D:R=g8/\ci=c8:=(by have:=F.symm.trans Q;simpa using this);obtain⟨rfl,rfl⟩:=D;have z8:=U.fz (at_+1);have q8:=U.cell (i:=at_+1) (by show at_+1<(r.Af.set at_ l).length*1;simp;omega);obtain⟨x8,hx8⟩:∃v,(Aw (r.Af.set at_ l))[at_+1]?=some v:=⟨_,JM (by simp[Aw];omega)⟩;have q8:=q8.trans hx8);have s9:=h8.XZ (i:=at_+1) (x:=n) Ag hn Q;rw[Vf]at s9;obtain⟨h9,M9⟩:=s9;have eK:KS.Bj { ({K with T:=T3,desc:=Ah K.desc g 1,ef:=Ah K.ef g none,tv:=Ah K.tv g (.iface 330 (ptr e1)),ct:=JW K.ct C e1 e2}:KS).Bj b {r with fds:=r.fds.set l (g:Int),Af:=r.Af.set at_ l} with desc:=Ah (Ah K.desc g 1) j 1,ef:=Ah (Ah K.ef g none) j none,tv:=Ah (Ah K.tv g (.iface 330 (ptr e1))) j (.iface 334 (ptr e2))} b {r with fds:=(r.fds.set l (g:Int)).set n (j:Int),Af:=(r.Af.set at_ l).set (at_+1) n}=KS.Bj {K with T:=T3,desc:=Ah (Ah K.desc g 1) j 1,ef:=Ah (Ah K.ef g none) j none,tv:=Ah (Ah K.tv g (.iface 330 (ptr e1))) j (.iface 334 (ptr e2)),ct:=JW K.ct C e1 e2} b {r with fds:=(r.fds.set l (g:Int)).set n (j:Int),Af:=(r.Af.set at_ l).set (at_+1) n}:=(by unfold KS.Bj;simp only[U7]);have h9:AY (KS.Bj {K with T:=T3,desc:=Ah (Ah K.desc g 1) j 1,ef:=Ah (Ah K.ef g none) j none,tv:=Ah (Ah K.tv g (.iface 330 (ptr e1))) j (.iface 334 (ptr e2)),ct:=JW K.ct C e1 e2} b {r with fds:=(r.fds.set l (g:Int)).set n (j:Int),Af:=(r.Af.set at_ l).set (at_+1) n}) (w8'.setCell (S_ R (at_+1)) (a_ (n:Nat))):=(by rw[<-eK];exact h9);have hH1:BR K.ps K.Ar g=0:=(by rw[<-hO.Ei.ho g t];exact E);have CX:j≠g:=λe=>by rw[e]at q;simp[KS.Bj,Ah]at q
   have cz6:K.desc j=0:=(by have:Ah K.desc g 1 j=0:=q;rwa [show Ah K.desc g 1 j=K.desc j from ru CX]at this);have hH2:BR K.ps K.Ar j=0:=(by rw[<-hO.Ei.ho j u];exact cz6);have ct4:=hO.Ei.add (o:=none) (nm:=K.nm) (T:=T3) (ct:=K.ct) (tv:=K.tv) t E hO.Ei.nm hO.Ei.dj;have J:=ct4.add (o:=none) (nm:=K.nm) (T:=T3) (ct:=K.ct) (tv:=K.tv) u (show Ah K.desc g 1 j=0 from q) hO.Ei.nm hO.Ei.dj;have s:((r.Af.set at_ l).set (at_+1) n).length=r.Af.length:=sJ;obtain⟨Td,IU⟩:=hO.fds (K1:={K with T:=T3,desc:=Ah (Ah K.desc g 1) j 1,ef:=Ah (Ah K.ef g none) j none,tv:=Ah (Ah K.tv g (.iface 330 (ptr e1))) j (.iface 334 (ptr e2)),ct:=JW K.ct C e1 e2}) (r':={r with fds:=(r.fds.set l (g:Int)).set n (j:Int),Af:=(r.Af.set at_ l).set (at_+1) n}) (H:=Ah (Ah (BR K.ps K.Ar) g 1) j 1) ⟨rfl⟩ hm hb rfl rfl rfl rfl s ⟨o.A,o.B,o.P,o.st,o.pid,o.par,λx hx=>by
    obtain hx|rfl:=List.mem_or_eq_of_mem_set hx
    .obtain hx|rfl:=List.mem_or_eq_of_mem_set hx
     .exact o.Af x hx
     .omega
    .omega,λe=>by simp[o.fds e],VS (VS o.fd (.inr ⟨g,rfl,t⟩)) (.inr ⟨j,rfl,u⟩),λe=>by simp only[s];exact o.len e,λe=>qx e (by simp[hn])⟩ ⟨J.ho,J.le,J.op,J.nd,J.nz,J.nm,J.dj⟩ (λk _=>by
    have a1:=Qa (m:=(g:Int)) (a:=(k:Int)) G;have a2:=Qa (m:=(j:Int)) (a:=(k:Int)) Y;rw[ru (c:=(-1:Int)=(k:Int)) wB]at a1 a2;simp only at a2 ⊢;simp only[Ah];by_cases e2:k=j
    .subst e2;rw[ru wB]at a1;rw[rW rfl]at a2 ⊢;omega
    .rw[ru wB]at a2;rw[ru e2];by_cases e1:k=g
     .subst e1;rw[rW rfl]at a1 ⊢;omega
     .rw[ru wB]at a1;rw[ru e1];omega)
   have V:BQ K.T T3 w0 _:=((((((BQ.no K2 h0.lt).trans M3).trans M4).trans M5).trans M6).trans M7).trans (M8.trans M9);gi_wp2_with (first|(gi_at_call 152;refine(Eg _ _ 0 wB).mono ?_;rintro e wz ⟨rfl,z⟩;obtain⟨w8,M,N,O⟩:=Az (x:=0) (y:=0) (f:=.nilFunc) (z.old (V.old rb Hl) id) rfl)|refine Fa M ?_);refine T_ 0 0 (by simp[results,results145,go_sem,FU O]) rfl ?_;exact BD (K':=KS.Bj {K with T:=T3,desc:=Ah (Ah K.desc g 1) j 1,ef:=Ah (Ah K.ef g none) j none,tv:=Ah (Ah K.tv g (.iface 330 (ptr e1))) j (.iface 334 (ptr e2)),ct:=JW K.ct C e1 e2} b {r with fds:=(r.fds.set l (g:Int)).set n (j:Int),Af:=(r.Af.set at_ l).set (at_+1) n}) (x:=0) (y:=0) h.lt K0 Cm ((V).then z) ((h9).no z) N wB wB (.inl rfl) (Td) (IU) Ag (λ_=>hm) (.inr (.inr (.inr ⟨L,C,e1,e2,T3,g,j,l,n,⟨h2.lt _ p.out.2.1,h2.lt _ (by have:=p.out;omega),h2.lt _ (by have:=p.out;omega),p.out.2.2.1,p.out.2.2.2,p.out.1,te1,te2⟩,t,⟨E,hl1⟩,u,⟨q,hl2⟩,W,X,rfl,rfl,rfl,rfl⟩)))
  .skip
   gi_wp2_with (first|(gi_at_call 140;refine(Oy _ _ xx).mono ?_;rintro e wz ⟨rfl,z⟩;obtain⟨w8,M,N,O⟩:=Az (x:=0) (y:=xx) (f:=.nilFunc) (z.old (K2.old rb id) id) rfl)|refine Fa M ?_);refine T_ 0 xx (by simp[results,results145,go_sem,FU O]) rfl ?_;exact Ci h hO hm hb K0 Cm (K2.then z) N sN wB (.inr (by obtain⟨a1,rfl⟩|⟨a1,a2,rfl⟩:=hxe.out;exact .inl ⟨L,a1,GY.of⟩;exact .inr (.inl ⟨L,a1,a2,GY.of⟩)))
 .have cw:=λm=>IJ b R ci r.Af.length 2 at_ m (w.alloc V_) q8 wB wB hat L
  gi_enter func145,ntmps145;gi_wp2_with (gi_at_call 138;refine(cw _).mono ?_;rintro e w1 ⟨rfl,I⟩;have I:=I.symm;subst I;generalize hw0:w.alloc V_=w0 at *);gi_wp2_with (first|(gi_at_call 140;refine(Uy 1 rb _).mono ?_;rintro e wz ⟨rfl,z,w8,M,N,O⟩)|refine Fa M ?_);refine T_ 0 1 (by simp[results,results145,go_sem,FU O]) rfl ?_;exact Ci h hO hm hb K0 Cm z N sN sN (.inl ⟨L,GY.of⟩)
end
def KS.parent (K:KS)(pid:Nat):Prop:=∃b r,b∈K.Ar/\K.ps b=some r/\r.par=pid
def ad8 (K:KS)(b:Nat):Int:=match K.ps b with|some r=>r.par|none=>0
section
variable (m:Nat)(w:o_)
theorem bw7 (cb d pb:Nat)(x y:Int)(f:w.cell? (S_ cb 1)=some (b_ x))(h:w.cell? (R_ d)=some (Q_ pb))(i:w.cell? (R_ pb)=some (b_ y)):
  O_ m 230 #[Q_ cb,Q_ d] w λe w'=>Aa No w w'/\∃z,e=.returned (.bool z)/\Yp (z=true ↔ x=y):=by
 gi_enter func230,ntmps230;gi_wp2;refine Cc 8 13 ?_;gi_wp2;refine Ee ?_ ?_
 .intro W a;have d1:=a.has (w:=w.drew) f;have d2:=a.has (w:=w.drew) h;have d3:=a.has (w:=w.drew) i
  repeat' (refine AA ?_ ?_)
  all_goals first|exact dE|gi_wp2
 .intro W a;have KW:Aa No w W:=(Aa.refl No w).drew.then a;gi_wp2
  all_goals go_ret
  all_goals exact⟨KW,_,rfl,by unfold Yp;simp⟩
theorem aa6 (g cap v pb:Nat)(l:List Nat)(y:Int)(u:Nat->Int)(hR:Rw 119 1 w g l.length cap (Ce l))(C:∀b∈l,w.cell? (S_ b 1)=some (b_ (u b)))(A:w.cell? (R_ v)=some (Q_ pb))(B:w.cell? (R_ pb)=some (b_ y))(D:l.length<=100000):
  O_ m 238 #[P_ g l.length cap,.func (.func 230) #[] #[Q_ v]] w λe w'=>Aa No w w'/\∃j:Int,e=.returned (b_ j)/\Yp ((0<=j/\∃b∈l,u b=y)\/(j=-1/\∀b∈l,u b≠y)):=by
 gi_enter func238,ntmps238;gi_wp2;gi_loopw [8] (λi wr=>∃k:Nat,k<=l.length/\i=b_ k/\Aa No w wr/\Yp (∀(j c:Nat),j<k->l[j]?=some c->u c≠y)) (λi _=>l.length-(intOf i).toNat)
 case atStart=>exact⟨0,wB,rfl,Aa.refl _ _,λj c h=>qx h wB⟩
 case round=>
  obtain⟨k,t,rfl,KK,o⟩:=hrel
  by_cases p:k<l.length
  .have d:l[k]?=some l[k]:=JM p;generalize l[k]=b at d;have r:wr.cell? (S_ g k)=some (Q_ b):=(by rw[Rw.cell (hR.keep KK id) wB];simp[Ce,d,ptr]);have q:=C b (t_ d);have c:=λm=>bw7 m wr b v pb (u b) y (KK.has q) (KK.has A) (KK.has B)
   gi_wp2_with (gi_at_call 230;refine(c _).mono ?_;rintro e w1 ⟨f,z,rfl,n⟩;cases z)
   .go_roundw
    case rel=>exact⟨k+1,wB,by go_num,KK.then f,λj c s a=>by
     by_cases e:j=k
     .subst e;rw[d]at a;cases a;exact λh=>by have:=n.out.2 h;simp at this
     .exact o.out j c wB a⟩
    case measure=>simp[intOf];omega
   .go_ret;exact⟨KK.then f,_,rfl,.inl ⟨wB,b,t_ d,n.out.1 sJ⟩⟩
  .obtain rfl:k=l.length:=wB;gi_wp2;go_ret;exact⟨KK,_,rfl,.inr ⟨rfl,λb hb=>by
    obtain⟨i,hi⟩:=List.getElem?_of_mem hb
    exact o.out i b (Oc.1 hi).1 hi⟩⟩
theorem qH (K:KS)(pb:Nat)(p:PR)(h:AY K w)(hT:K.ED)(t:K.ps pb=some p)(u:K.Ar.length<=100):
  O_ m 194 #[Q_ K.kb,Q_ pb] w λe w'=>Aa No w w'/\∃z,e=.returned (.bool z)/\Yp (z=true ↔ K.parent p.pid):=by
 have k:Aa No w (w.alloc (.cells #[Q_ pb] 119)):=(Aa.refl _ _).alloc _;have g:=h.no k;have s:=g.kc2;have n:=g.Iu t 0;simp[PR.arr]at n;have q:(w.alloc (.cells #[Q_ pb] 119)).heap[w.heap.size]?=some (N_ #[Q_ pb] 119):=Yw rfl;have c:=λm=>aa6 m (w.alloc (.cells #[Q_ pb] 119)) K.pg K.pc w.heap.size pb K.Ar p.pid (ad8 K) g.pr (λb hb=>by
  obtain⟨r,d⟩:=hT b hb
  rw[g.Iu d];simp[PR.arr,ad8,d]) ((Ai q 0).trans rfl) n wB
 gi_enter func194,ntmps194;gi_wp2_with (first|(gi_at_call 238;refine(c _).mono ?_;rintro e w1 ⟨o,j,rfl,l⟩)|(gi_at_call 229;gi_in))
 all_goals go_ret
 have i:(∃b∈K.Ar,ad8 K b=(p.pid:Int)) ↔ K.parent p.pid:=by
  constructor
  .rintro⟨b,f,a⟩;obtain⟨r,d⟩:=hT b f;exact⟨b,r,f,d,by simp[ad8,d]at a;omega⟩
  .rintro⟨b,r,f,d,a⟩;exact⟨b,f,by simp[ad8,d,a]⟩
 refine⟨k.then o,_,rfl,?_⟩;unfold Yp at l ⊢;rw[<-i];obtain⟨f,a⟩|⟨rfl,a⟩:=l
 .simp[f];simpa using a
 .simp;exact λb hb=>a b hb
end
theorem Wh {X:KS->Nat->Nat->n_->Prop}{rb:Nat}{K K':KS}{w0 h j:o_}{f:n_}(l:∀k,w.heap.size<=k->K.T k=(0,0))(s:Aa No w w0)(d:w.heap.size<=rb)(n:rb<w0.heap.size)(m:BQ K.T K'.T w0 h)(u:AY K' h)(i:Aa (At rb) h j)(B:x<65536)(C:y<65536)(z:MC K'.T h K'.kb b f)(v:DU NC NS K')(hR:Rel b K K')(A:K'.ps b=some r')(q:r'.en=false->b∈K'.Ar)(hX:X K' x y f):FX X NC NS b K w (.returned (.agg #[a_ x,a_ y,f])) j:=by
 have a:K'.T rb=(0,0):=(CG.fresh m _ n).trans (l _ d);have c:Aa (On K'.T λt=>t=(0,0)) h j:=i.on λk _ e=>by rw[show k=rb from e];exact a
 exact⟨K',x,y,f,rfl,B,C,z.keep c sJ,u.own i a,v,hR,((BQ.no s l).trans m).own i (λk e=>by rw[show k=rb from e];exact d),⟨r',A,q⟩,hX⟩
theorem AY.boxes {K:KS}(h:AY K w)(hb:K.ps b=some r)(l:Aa No w w')(m:w.heap.size<=x)(n:x<y)(q:y<w'.heap.size)(j:w'.heap[x]?=some (N_ #[ptr K.kb] 33))(i:w'.heap[y]?=some (N_ #[ptr b] 119)):AY {K with T:=Bi (Bi K.T x (9,b)) y (9,b)} w'/\BQ K.T (Bi (Bi K.T x (9,b)) y (9,b)) w w'/\MC (Bi (Bi K.T x (9,b)) y (9,b)) w' K.kb b (.func (.func 196) #[] #[ptr x,ptr y]):=by
 have c:CG K.T (Bi K.T x (9,b)) (λt=>t=(6,b)\/t=(7,b)\/t=(8,b)\/t=(9,b)) (λt=>t=(6,b)\/t=(7,b)\/t=(8,b)\/t=(9,b)) w w':=CG.row l.no h.lt (.inr m) wB (.inr (.inr (.inr rfl)));have d:CG (Bi K.T x (9,b)) (Bi (Bi K.T x (9,b)) y (9,b)) (λt=>t=(6,b)\/t=(7,b)\/t=(8,b)\/t=(9,b)) (λt=>t=(6,b)\/t=(7,b)\/t=(8,b)\/t=(9,b)) w w':=⟨l.no,λk a=>by
   by_cases e:k=y
   .subst e;exact qx (by rw[AV wB];exact h.lt _ wB) a
   .exact AV e,λk j i=>by
   by_cases e:k=y
   .subst e;rw[A7];exact .inr (.inr (.inr rfl))
   .rw[AV e]at i;exact qx j i,λk a=>by rw[AV wB];exact c.lt k a,λk a=>AV wB⟩
 have M:CG K.T (Bi (Bi K.T x (9,b)) y (9,b)) (λt=>t=(6,b)\/t=(7,b)\/t=(8,b)\/t=(9,b)) (λt=>t=(6,b)\/t=(7,b)\/t=(8,b)\/t=(9,b)) w w':=⟨l.no,λk a=>(d.old k (by rw[c.old k a];exact a)).trans (c.old k a),λk j i=>by
   by_cases e:Bi K.T x (9,b) k=(0,0)
   .exact d.new k e i
   .rw[d.old k e];exact c.new k j e,d.lt,λk a=>(d.fresh k a).trans (c.fresh k a)⟩
 have f:CG K.T (Bi (Bi K.T x (9,b)) y (9,b)) (λ_=>False) (λt=>t=(6,b)\/t=(7,b)\/t=(8,b)\/t=(9,b)) w w':=⟨l.no,M.old,M.new,M.lt,M.fresh⟩;have s:=h.lL M ((h.ps b r hb).I7 f id id id id);have e:CY K.ps b r=K.ps:=by funext k;unfold CY;split;rename_i e;rw[e,hb];rfl
 rw[e]at s;exact⟨s,M.Xu (by rintro t (rfl|rfl|rfl|rfl)<;>simp),.inr (.inl ⟨x,y,rfl,j,i,(AV wB).trans A7,A7⟩)⟩
theorem bw1 (h:Value.pointer none=VJ o):o=none:=by cases o<;>simp[VJ,ptr]at h ⊢
theorem bg0 (h:ptr b=VJ o):o=some b:=by
 cases o<;>simp[VJ,ptr]at h ⊢;exact h.symm
def dJ (K:KS)(b:Nat)(r:PR)(at_:Nat):KS->Nat->Nat->n_->Prop:=λK' x y f=>(¬at_+1<=r.Af.length/\GY K 1 K' x y f)\/(at_+1<=r.Af.length/\((¬K.parent r.pid/\GY K 3 K' x y f)\/(K.parent r.pid/\((K.PS r.pid=none/\x=0/\y=0/\(∃g h,f=.func (.func 196) #[] #[ptr g,ptr h])/\∃T,K'={K with T:=T})\/∃c rc,K.PS r.pid=some c/\K.ps c=some rc/\x=rc.pid/\y=0/\f=.nilFunc/\K'=((K.Bj b {r with Af:=r.Af.set at_ rc.st}).Bj c {rc with par:=0}).PV))))
section
variable (m:Nat)(w:o_)
theorem az1 (K:KS)(NC NS b at_:Nat)(r:PR)(h:AY K w)(hO:DU NC NS K)(hm:b∈K.Ar)(hb:K.ps b=some r)(hn:r.en=false)(hat:at_<65536):
  O_ m 143 #[Q_ K.kb,Q_ b,a_ (at_:Nat)] w (FX (dJ K b r at_) NC NS b K w):=by
 have o:=hO.pr b r hb;have hL:=(hO.co.pl b r hb).1;have hl12:=hO.len;have N:Aa No w (((w.alloc (.cells #[Q_ K.kb] 33)).alloc (.cells #[Q_ b] 119)).alloc V_):=(((Aa.refl _ _).alloc _).alloc _).alloc _;have s1:=J6 w (.cells #[Q_ K.kb] 33);have s2:((w.alloc (.cells #[Q_ K.kb] 33)).alloc (.cells #[Q_ b] 119)).heap.size=w.heap.size+2:=by rw[J6,J6]
 have rb:(((w.alloc (.cells #[Q_ K.kb] 33)).alloc (.cells #[Q_ b] 119)).alloc V_).heap[w.heap.size+2]?=some (N_ #[a_ 0,a_ 0,.nilFunc] 206):=by
  have:=Yw (w:=(w.alloc (.cells #[Q_ K.kb] 33)).alloc (.cells #[Q_ b] 119)) (o:=V_) rfl
  rwa [s2]at this
 have bx:(((w.alloc (.cells #[Q_ K.kb] 33)).alloc (.cells #[Q_ b] 119)).alloc V_).heap[w.heap.size]?=some (N_ #[Q_ K.kb] 33):=(((Aa.refl No _).alloc _).alloc _).old (Yw (w:=w) (o:=(.cells #[Q_ K.kb] 33)) rfl) id;have O:(((w.alloc (.cells #[Q_ K.kb] 33)).alloc (.cells #[Q_ b] 119)).alloc V_).heap[w.heap.size+1]?=some (N_ #[Q_ b] 119):=by
  have:=Yw (w:=w.alloc (.cells #[Q_ K.kb] 33)) (o:=(.cells #[Q_ b] 119)) rfl
  rw[s1]at this
  exact((Aa.refl No _).alloc _).old this id
 have cx:(((w.alloc (.cells #[Q_ K.kb] 33)).alloc (.cells #[Q_ b] 119)).alloc V_).cell? (R_ w.heap.size)=some (Q_ K.kb):=(Ai bx 0).trans rfl;have cy:(((w.alloc (.cells #[Q_ K.kb] 33)).alloc (.cells #[Q_ b] 119)).alloc V_).cell? (R_ (w.heap.size+1))=some (Q_ b):=(Ai O 0).trans rfl;have W:w.heap.size+2<(((w.alloc (.cells #[Q_ K.kb] 33)).alloc (.cells #[Q_ b] 119)).alloc V_).heap.size:=Dt rb;have l:=h.no N;have Hl:K.T (w.heap.size+2)=(0,0):=h.lt _ wB;obtain⟨D,ci,q8,hRi,V,R⟩:=l.lh hb hn;have WE:=hRi.le;have cp:=λm w1 (hK:Aa No (((w.alloc (.cells #[Q_ K.kb] 33)).alloc (.cells #[Q_ b] 119)).alloc V_) w1)=>qH m w1 K b r (l.no hK) hO.th hb wB
 have ce:=λm w1 (hK:Aa No (((w.alloc (.cells #[Q_ K.kb] 33)).alloc (.cells #[Q_ b] 119)).alloc V_) w1)=>oG m w1 K b r (l.no hK) hO.th hb wB
 clear s1 s2;by_cases L:at_+1<=r.Af.length
 .have Y:=λm=>Gq b D ci r.Af.length 1 at_ m (((w.alloc (.cells #[Q_ K.kb] 33)).alloc (.cells #[Q_ b] 119)).alloc V_) q8 wB hat hL WE L
  gi_enter func143,ntmps143;gi_wp2_with (first|(gi_at_call 138;refine(Y _).mono ?_;rintro e w1 ⟨rfl,G⟩;have G:=G.symm;subst G)|(gi_at_call 194;refine(cp _ _ (Aa.refl No _)).mono ?_;rintro e w2 ⟨u,z,rfl,hz⟩;have Z:=u.has cx;have cy2:=u.has cy;cases z))
  .generalize I:((w.alloc (.cells #[Q_ K.kb] 33)).alloc (.cells #[Q_ b] 119)).alloc V_=S at*;gi_wp2_with (first|(gi_at_call 140;refine(Uy 3 (u.old rb id) _).mono ?_;rintro e wz ⟨rfl,g,U,p,d,s⟩)|refine Fa p ?_);refine T_ 0 3 (by simp[results,results143,go_sem,FU s]) rfl ?_;exact Wh (K':=K) (x:=0) (y:=3) h.lt N (Nat.le_add_right _ 2) W (((BQ.no u l.lt)).then g) ((l.no u).no g) d wB wB (.inl rfl) (hO) (Rel.refl b K) hb (λ_=>hm) (.inr ⟨L,.inl ⟨λhh=>by have:=hz.out.2 hh;simp at this,GY.of⟩⟩)
  .gi_wp2_with (first|(gi_at_call 195;refine(ce _ _ u).mono ?_;rintro e w3 ⟨K3,v,rfl,hv,n⟩;replace n:Yp _:=n;have KK:=u.then K3;have E:=l.no KK;obtain⟨U,p,d,s⟩:=Az (x:=0) (y:=0) (f:=.func (.func 196) #[] #[Q_ w.heap.size,Q_ (w.heap.size+1)]) (KK.old rb id) rfl;obtain rfl|⟨c,rc,rfl,hcm,a,Q⟩:=hv)|refine Fa p ?_)
   .generalize I:((w.alloc (.cells #[Q_ K.kb] 33)).alloc (.cells #[Q_ b] 119)).alloc V_=S at*;have n9:w.heap.size<w3.heap.size:=(by have:=KK.size;omega);obtain⟨hB,MB,PQ⟩:=h.boxes (x:=w.heap.size) (y:=w.heap.size+1) hb (N.then KK) w_ wB (by have:=KK.size;omega) (KK.old bx id) (KK.old O id);have tg:(Bi (Bi K.T w.heap.size (9,b)) (w.heap.size+1) (9,b)) (w.heap.size+2)=(0,0):=(by rw[AV wB,AV wB];exact Hl);obtain⟨Td,IU⟩:=hO.fds (K1:={K with T:=Bi (Bi K.T w.heap.size (9,b)) (w.heap.size+1) (9,b)}) (r':=r) (H:=BR K.ps K.Ar) ⟨rfl⟩ hm hb rfl rfl rfl rfl rfl o ⟨hO.Ei.ho,hO.Ei.le,hO.Ei.op,hO.Ei.nd,hO.Ei.nz,hO.Ei.nm,hO.Ei.dj⟩ λi _=>rfl
    rw[FD (K:={K with T:=Bi (Bi K.T w.heap.size (9,b)) (w.heap.size+1) (9,b)}) hb]at Td IU;refine bodyPost_ret (v:=.agg #[a_ 0,a_ 0,.func (.func 196) #[] #[Q_ w.heap.size,Q_ (w.heap.size+1)]]) (by simp[results,results143,go_sem,FU s]) rfl ?_;have K9:Aa (On (Bi (Bi K.T w.heap.size (9,b)) (w.heap.size+1) (9,b)) λt=>t=(0,0)) w3 U:=d.on λk _ e=>by rw[show k=w.heap.size+2 from e];exact tg
    exact⟨{K with T:=Bi (Bi K.T w.heap.size (9,b)) (w.heap.size+1) (9,b)},0,0,_,rfl,wB,wB,PQ.keep K9 sJ,hB.own d tg,Td,IU,MB.own d (λk e=>by rw[show k=w.heap.size+2 from e];omega),⟨r,hb,λ_=>hm⟩,.inr ⟨L,.inr ⟨hz.out.1 sJ,.inl ⟨bw1 n.out,rfl,rfl,⟨_,_,rfl⟩,_,rfl⟩⟩⟩⟩
   .clear p d s;have e3:=E.Iu a 3;have e1:=E.Iu a 1;have e0:=E.Iu a 0;simp[PR.arr]at e3 e1 e0;have z1:=E.lF a 1;obtain⟨g3,c3,_,iw,tg3,cy9⟩:=E.lh hb hn;have egi:D=g3/\ci=c3:=(by have:=R.symm.trans cy9;simpa using this);obtain⟨rfl,rfl⟩:=egi;have zi:=iw.fz at_;have qi:=iw.cell (i:=at_) wB;obtain⟨xi,hxi⟩:∃v,(Aw r.Af)[at_]?=some v:=⟨_,JM (by simp[Aw];omega)⟩;have qi:=qi.trans hxi;have cx3:=K3.has Z;have J:=(E.ps c rc a).t;have n1:¬D=c:=(λe=>by rw[e,J]at V;simp at V);have n1':¬c=D:=(λe=>n1 e.symm);have n2:¬D=w.heap.size:=(λe=>by rw[e,h.lt _ w_]at V;simp at V);have n2':¬w.heap.size=D:=(λe=>n2 e.symm);have n3:¬c=w.heap.size:=(λe=>by rw[e,h.lt _ w_]at J;simp at J);have n3':¬w.heap.size=c:=(λe=>n3 e.symm);have C:c≠b:=(λe=>by rw[e,hb]at a;cases a;rw[hn]at Q;cases Q);obtain⟨h4,M4⟩:=E.XZ (i:=at_) (x:=rc.st) hb hn R;have j:(K.Bj b {r with Af:=r.Af.set at_ rc.st}).ps c=some rc:=(BB C).trans a;have h5:=h4.GR (r':={rc with par:=0}) (i:=1) (v:=b_ 0) j ⟨rfl,rfl,rfl,rfl,rfl⟩ rfl (h4.ps c rc j).bl;have M5:=h4.EG j (i:=1) (v:=b_ 0);obtain⟨hO4,hR4⟩:=hO.fds (r':={r with Af:=r.Af.set at_ rc.st}) (dQ.refl K) hm hb rfl rfl rfl rfl sJ ⟨o.A,o.B,o.P,o.st,o.pid,o.par,(λx hx=>by obtain hx|rfl:=List.mem_or_eq_of_mem_set hx;exact o.Af x hx;exact(hO.pr c rc a).st),o.fds,o.fd,(λe=>by simp only[List.length_set];exact o.len e),(λe=>qx e (by simp[hn]))⟩ hO.Ei (λi _=>rfl);have hF:=Nz.set j 0;have F:=hO4.ax9 hF (λk q M=>by
     have M:CY _ c _ k=some q:=M
     by_cases e:k=c
     .subst e;rw[Ag]at M;cases M;exact .inr sJ
     .rw[BB e]at M;exact .inl M)
    have X:=λm=>Ω m _ _ h5 F.th (lN F.len wB)
    have dh2:rc.pid<=60000:=(hO.pr c rc a).pid;simp only[ptr];generalize I:((w.alloc (.cells #[Q_ K.kb] 33)).alloc (.cells #[Q_ b] 119)).alloc V_=S at*;gi_wp2_with (gi_at_call 158;refine(X _).mono ?_;rintro e w6 ⟨rfl,h6,M6⟩;have e06:=h6.Iu (b:=c) (r:={rc with par:=0}) Ag 0;simp[PR.arr]at e06);have yN:BQ K.T K.T S w6:=(((BQ.no KK l.lt).trans M4).trans M5).trans M6;have hbB:((K.Bj b {r with Af:=r.Af.set at_ rc.st}).Bj c {rc with par:=0}).PV.ps b=some {r with Af:=r.Af.set at_ rc.st}:=(BB C.symm).trans Ag;gi_wp2_with (first|(gi_at_call 152;refine(Eg _ _ rc.pid wB).mono ?_;rintro e wz ⟨rfl,g⟩;obtain⟨U,p,d,s⟩:=Az (x:=rc.pid) (y:=0) (f:=.nilFunc) (g.old (yN.old rb Hl) id) rfl)|refine Fa p ?_);refine T_ rc.pid 0 (by simp[results,results143,go_sem,FU s]) rfl ?_;exact Wh (K':=((K.Bj b {r with Af:=r.Af.set at_ rc.st}).Bj c {rc with par:=0}).PV) (x:=rc.pid) (y:=0) h.lt N (Nat.le_add_right _ 2) W ((yN).then g) ((h6).no g) d wB wB (.inl rfl) (F.PV) ((hR4.trans (hF.rel b) (by rw[hb];simp) hO.th).trans (nM _ b) (by rw[hb];simp) hO.th) hbB (λ_=>List.mem_filter.2 ⟨hm,by simp[QH,KS.Bj,BB C.symm,Ag,hn]⟩) (.inr ⟨L,.inr ⟨hz.out.1 sJ,.inr ⟨c,rc,bg0 n.out,a,rfl,rfl,rfl,rfl⟩⟩⟩)
 .have Y:=λm=>IJ b D ci r.Af.length 1 at_ m (((w.alloc (.cells #[Q_ K.kb] 33)).alloc (.cells #[Q_ b] 119)).alloc V_) q8 wB wB hat L
  gi_enter func143,ntmps143;gi_wp2_with (gi_at_call 138;refine(Y _).mono ?_;rintro e w1 ⟨rfl,G⟩;have G:=G.symm;subst G);generalize I:((w.alloc (.cells #[Q_ K.kb] 33)).alloc (.cells #[Q_ b] 119)).alloc V_=S at*;gi_wp2_with (first|(gi_at_call 140;refine(Uy 1 rb _).mono ?_;rintro e wz ⟨rfl,g,U,p,d,s⟩)|refine Fa p ?_);refine T_ 0 1 (by simp[results,results143,go_sem,FU s]) rfl ?_;exact Wh (K':=K) (x:=0) (y:=1) h.lt N (Nat.le_add_right _ 2) W (((BQ.no (Aa.refl No _) l.lt)).then g) ((l).no g) d wB wB (.inl rfl) (hO) (Rel.refl b K) hb (λ_=>hm) (.inl ⟨L,GY.of⟩)
end
def Ti (T:Tag)(p gi gf:Nat):Tag:=Bi (Bi (Bi T p (6,p)) gi (7,p)) gf (8,p)
theorem AY.cw1 {K:KS}{gi gf ci cf:Nat}(h:AY K w)(v:Aa No w w')(F:w.heap.size<=p)(E:w.heap.size<=gi)(lf:w.heap.size<=gf)(u:p≠gi)(s:p≠gf)(q:gi≠gf)(A:w'.heap[p]?=some r.obj)(D:r.en=false)(B:r.bl=.nilFunc)(hi:r.im=P_ gi r.Af.length ci)(C:r.fd=P_ gf r.fds.length cf)(n:Rw 123 1 w' gi r.Af.length ci (Aw r.Af))(m:Rw 3 1 w' gf r.fds.length cf (FW r.fds)):AY {K with ps:=CY K.ps p r,T:=Ti K.T p gi gf} w'/\BQ K.T (Ti K.T p gi gf) w w':=by
 have val:∀k,Ti K.T p gi gf k=if k=gf then(8,p)else if k=gi then(7,p)else if k=p then(6,p)else K.T k:=λk=>rfl
 have i:=Dt A;have j:=n.lt;have l:=m.lt;have z:∀k,w.heap.size<=k->K.T k=(0,0):=h.lt;have M:CG K.T (Ti K.T p gi gf) (λt=>t=(6,p)\/t=(7,p)\/t=(8,p)\/t=(9,p)) (λt=>t=(6,p)\/t=(7,p)\/t=(8,p)\/t=(9,p)) w w':=by
  refine⟨v.no,λk d=>?_,λk g f=>?_,λk d=>?_,λk d=>?_⟩
  .rw[val,ru (by rintro rfl;exact d (z _ lf)),ru (by rintro rfl;exact d (z _ E)),ru (by rintro rfl;exact d (z _ F))]
  .rw[val]at f ⊢;split
   .exact .inr (.inr (.inl rfl))
   .split
    .exact .inr (.inl rfl)
    .split
     .exact .inl rfl
     .rename_i a b c;rw[ru a,ru b,ru c]at f;exact qx g f
  .rw[val,ru wB,ru wB,ru wB];exact z k (lN v.size d)
  .rw[val,ru wB,ru wB,ru wB]
 refine⟨h.lL M ⟨?_,A,λ_=>⟨gi,ci,hi,n,?_⟩,λ_=>⟨gf,cf,C,m,?_⟩,by rw[B];exact .inl rfl,λe=>qx e (by simp[D])⟩,M.Xu (by rintro t (rfl|rfl|rfl|rfl)<;>simp)⟩
 .rw[val,ru s,ru u,rW rfl]
 .rw[val,ru q,rW rfl]
 .rw[val,rW rfl]
theorem AY.bj9 {K:KS}(h:AY {K with ps:=CY K.ps p r} w)(m:K.ps p=none):AY K w:=by
 obtain⟨⟨d,k1,k2⟩,f,g,pr,ps,c,j,i,l,k,lt,a⟩:=h;refine⟨⟨d,k1,k2.ps K.ps⟩,f,g,pr,λb q e=>ps b q ?_,c,j,i,l,k,lt,a⟩;show CY K.ps p r b=some q;rw[BB (by rintro rfl;rw[m]at e;cases e)];exact e
theorem co1 {T:Tag}{n z c2:Nat}{l:List Nat}{ty:j_}(hR:Rw 119 1 w g n c (Ce l))(D:n=l.length)(hb:w.cell? (R_ z)=some (ptr b))(C:n<=1000)(B:T g=(4,0)):∃g' A W,(Builtin.append_ #[100,100] ty #[P_ g n c,P_ z 1 c2]).run prog w=.ok (P_ g' (n+1) A) W/\Rw 119 1 W g' (n+1) A (Ce (l++[b]))/\(T g'=(4,0)\/w.heap.size<=g')/\Aa (On T λt=>t=(4,0)) w W:=by
 have s:∀j u,(Ce [b])[j]?=some u->w.cell? (((R_ z):f_).add j)=some u:=λj u a=>by
  match j,a with
  |0,a=>
   simp[Ce]at a;subst a
   have o:((R_ z):f_).add 0=(R_ z):=by unfold Addr.add;split<;>simp_all
   rw[o];exact hb
 have q:∀u∈Ce [b],u.oneCell'=true:=λu h=>by simp[Ce]at h;subst h;rfl
 have p:Ce (l++[b])=Ce l++Ce [b]:=by simp[Ce]
 obtain⟨g',i,v,r,k,f⟩:=yX (ty:=ty) (sCap:=c2) (m:=1) bp3 hR (ys:=Ce [b]) rfl s q wB wB;refine⟨g',i,v,r,by rw[p];exact k,?_,?_⟩
 .obtain⟨rfl,_⟩|⟨rfl,_⟩:=f
  .exact .inl B
  .exact .inr w_
 .obtain⟨rfl,d⟩|⟨rfl,d⟩:=f
  .exact d.on λx _ e=>by subst e;exact B
  .exact d.no
def ν (K:KS)(p:Nat)(r:PR)(w:o_)(e:Ending)(w':o_):Prop:=(e=.returned (.bool false)/\AY K w'/\BQ K.T K.T w w'/\(Aq K.swap (Aj r.Af.length)).1=none)\/∃a g c T',e=.returned (.bool true)/\(Aq K.swap (Aj r.Af.length)).1=some a/\AY {K with swap:=(Aq K.swap (Aj r.Af.length)).2,BG:=K.BG+1,Ar:=K.Ar++[p],pg:=g,pc:=c,ps:=CY K.ps p {r with pid:=K.BG+1,sw:=a,co:=-1},T:=T' } w'/\BQ K.T T' w w'
def bp9 (K:KS)(n:Nat)(w1:o_)(v:n_)(W:o_):Prop:=v=.tuple #[tA (Aq K.swap n).1,tB (Aq K.swap n).1]/\AY {K with swap:=(Aq K.swap n).2} W/\BQ K.T K.T w1 W
section
variable (m:Nat)(w:o_)
theorem bn0 (K:KS)(p NS:Nat)(r:PR)(h:AY K w)(hp:K.ps p=some r)(hL:r.Af.length<=128)(hF:Fit NS K.swap)(hNS:NS<=1000)(zg:K.BG<=100000)(hl:K.Ar.length<=100):
  O_ m 46 #[Q_ K.kb,Q_ p] w (ν K p r w):=by
 obtain⟨a8,c8,q8⟩:=h.im8 hp;have h0:AY K w.drew:=h.no (Aa.refl No w).drew;have bk:p≠K.kb:=λe=>by have:=(h.ps p r hp).t;rw[e,h.tk]at this;simp at this
 have bc:p≠K.sg:=λe=>by have:=(h.ps p r hp).t;rw[e,h.ts]at this;simp at this
 gi_enter func46,ntmps46;gi_wp2;refine Dx (P:=prog) _ rfl rfl sU 10 49 [0,1,2,3,4] [5,6,7,8,9] sU (by rfl)
  (Oi (yQ K.kb K.sg) w.drew 5 (bp9 K (Aj r.Af.length) w.drew) [(6,.tuple #[tA (Aq K.swap (Aj r.Af.length)).1,tB (Aq K.swap (Aj r.Af.length)).1]),(7,tA (Aq K.swap (Aj r.Af.length)).1),(8,tB (Aq K.swap (Aj r.Af.length)).1),(9,tA (Aq K.swap (Aj r.Af.length)).1)]) (Gj sJ sJ) _ _ rfl rfl ?_;gi_wp2_with (gi_at_call 58;refine(Fe _ w.drew p _ _ _ q8 wB).mono ?_;rintro e w1 ⟨rfl,rfl⟩);refine⟨rfl,sU,Et,?_,?_,?_⟩
 .intro L' u W hI;have d8:=(hI.1.cell (w:=w.drew) (p:=(S_ p 8)) (h.plt hp) (by rintro(h|h)<;>contradiction)).trans q8
  repeat' (refine AA ?_ ?_)
  all_goals first|exact dE|gi_wp2_with (gi_at_call 58;refine(Fe _ W p _ _ _ d8 wB).mono ?_;rintro e w1 ⟨rfl,rfl⟩)
 .intro i hi L' u W hI X R;obtain rfl|rfl|rfl|rfl|rfl:=(by simpa using hi:i=5\/i=6\/i=7\/i=8\/i=9)
  .obtain rfl:=hI.2.1 X;refine BI rfl λKK Ol=>?_
   show wpListIn NF m prog _ _ _ (Act.put (Act.put (Act.put (Act.put (Act.put _ (some 13) (u 5)) (some 7) (u 6)) (some 14) (u 7)) (some 15) (u 8)) (some 5) (u 9)) _;gi_wp2_with fail;refine(aj1 _ w.drew K (Aj r.Af.length) NS h0 hF wB (by unfold Aj;omega)).mono ?_;rintro e w1 ⟨rfl,b,J,K1⟩;rw[U9];gi_wp2;exact⟨_,rfl,Gl hI sJ K1 ⟨rfl,b,J⟩⟩
  .have M:=(hI.2.2.1 (R 5 sJ sN)).1;exact mg rfl rfl rfl ⟨_,rfl,FY hI sN M sJ⟩
  .have y:=hI.2.2.2 (6,.tuple #[tA (Aq K.swap (Aj r.Af.length)).1,tB (Aq K.swap (Aj r.Af.length)).1]) sJ (R 6 sJ sN);exact Tj rfl rfl rfl y rfl ⟨_,rfl,Gs hI sN sJ⟩
  .have y:=hI.2.2.2 (6,.tuple #[tA (Aq K.swap (Aj r.Af.length)).1,tB (Aq K.swap (Aj r.Af.length)).1]) sJ (R 6 sJ sN);exact Tj rfl rfl rfl y rfl ⟨_,rfl,Gs hI sN sJ⟩
  .have D:=hI.2.2.2 (7,tA (Aq K.swap (Aj r.Af.length)).1) sJ (R 7 sJ sN);exact mi rfl rfl rfl ⟨_,rfl,FY hI sN D sJ⟩
 .intro L' u W hI d;obtain⟨M,b,J⟩:=hI.2.2.1 (d 5 sJ);have U:=hI.2.2.2 (8,tB (Aq K.swap (Aj r.Af.length)).1) sJ (d 8 sJ);have V:=hI.2.2.2 (9,tA (Aq K.swap (Aj r.Af.length)).1) sJ (d 9 sJ);have y:=hI.2.2.2 (6,.tuple #[tA (Aq K.swap (Aj r.Af.length)).1,tB (Aq K.swap (Aj r.Af.length)).1]) sJ (d 6 sJ);have D:=hI.2.2.2 (7,tA (Aq K.swap (Aj r.Af.length)).1) sJ (d 7 sJ);simp only at y D U V;show wpListIn NF m prog _ _ _ (Act.put (Act.put (Act.put (Act.put (Act.put _ (some 13) (u 5)) (some 7) (u 6)) (some 14) (u 7)) (some 15) (u 8)) (some 5) (u 9)) _;rw[M,y,D,U,V];have MW:BQ K.T K.T w W:=(BQ.no (Aa.refl No w).drew h.lt).trans J;have f:(Aq K.swap (Aj r.Af.length)).1=none->(Aq K.swap (Aj r.Af.length)).2=K.swap:=by
   intro e
   unfold Aq at e ⊢
   split
   .rfl
   .rename_i hh;rw[ru hh]at e;cases hx:K.swap.findIdx? (λr_1=>decide (Aj r.Af.length<=r_1.2))with
    |none=>rfl
    |some i=>rw[hx]at e;simp only at e ⊢;cases hy:K.swap[i]? with
     |none=>rfl
     |some q=>rw[hy]at e;simp at e
  clear hI M y D U V d J;generalize hsw:(Aq K.swap (Aj r.Af.length)).2=l' at*;cases ho:(Aq K.swap (Aj r.Af.length)).1 with
  |none=>
   have hl':=f ho
   simp only[tA,tB,Option.getD_none,Option.isSome_none]
   gi_wp2
   go_ret
   rw[hl']at b
   exact .inl ⟨sJ,b,MW,ho⟩
  |some a=>
   clear f
   simp only[tA,tB,Option.getD_some,Option.isSome_some]
   obtain⟨ks,Q,hC⟩:=b.k
   have c3:=(Ai Q 3).trans hC.c3
   have z3:=Cf Q 3
   have S:CG K.T K.T (λt=>t=(1,0)\/t=(4,0)) (λt=>t=(4,0)) W (W.setCell (S_ K.kb 3) (b_ ((K.BG+1:Nat):Int))):=CG.of ((Aa.refl _ _).setCell _ λ_=>.inl b.tk) b.lt
   have Kk3:Aa (At K.kb) W (W.setCell (S_ K.kb 3) (b_ ((K.BG+1:Nat):Int))):=(Aa.refl _ _).setCell _ λ_=>rfl
   have hpg:K.kb≠K.pg:=λe=>by have:=b.tk;simp only at this;rw[e]at this;rw[show K.T K.pg=(4,0)from b.tp]at this;simp at this
   have j:AY {K with swap:=l',BG:=K.BG+1} _:=b.Y0 (BG:=K.BG+1) (g:=K.pg) (c:=K.pc) (l:=K.Ar) S hC (Ap Q _) (QW (by rw[HY wB];exact hC.c2)).symm (Rw.keep b.pr Kk3 (λe=>hpg e.symm)) b.tp
   push_cast at j S
   have p2:({K with swap:=l',BG:=K.BG+1}:KS).ps p=some r:=hp
   have N:=j.GR (r':={r with pid:=K.BG+1}) (i:=0) (v:=b_ ((K.BG:Int)+1)) p2 ⟨rfl,rfl,rfl,rfl,rfl⟩ rfl (j.ps p r p2).bl
   have N3:=j.EG p2 (i:=0) (v:=b_ ((K.BG:Int)+1))
   have O:=N.GR (r':={r with pid:=K.BG+1,sw:=a}) (i:=10) (v:=b_ (a:Nat)) Ag ⟨rfl,rfl,rfl,rfl,rfl⟩ rfl (N.ps p _ Ag).bl
   have N4:=N.EG Ag (i:=10) (v:=b_ (a:Nat))
   have A:=O.GR (r':={r with pid:=K.BG+1,sw:=a,co:=-1}) (i:=11) (v:=b_ (-1)) Ag ⟨rfl,rfl,rfl,rfl,rfl⟩ rfl (O.ps p _ Ag).bl
   have N5:=O.EG Ag (i:=11) (v:=b_ (-1))
   simp only[U7]at N O A
   have q0:=j.Iu p2 0
   have q10:=j.Iu p2 10
   have q11:=j.Iu p2 11
   simp[PR.arr]at q0 q10 q11
   have y0:=j.lF p2 0
   have y10:=j.lF p2 10
   have y11:=j.lF p2 11
   have I:((((W.setCell (S_ K.kb 3) (b_ ((K.BG:Int)+1))).setCell (R_ p) (b_ ((K.BG:Int)+1))).setCell (S_ p 10) (b_ (a:Nat))).setCell (S_ p 11) (b_ (-1))).heap.size=W.heap.size:=sJ
   obtain⟨ks5,H,n⟩:=A.k
   have d2:=(Ai H 2).trans n.c2
   have hN:BQ K.T K.T W ((((W.setCell (S_ K.kb 3) (b_ ((K.BG:Int)+1))).setCell (R_ p) (b_ ((K.BG:Int)+1))).setCell (S_ p 10) (b_ (a:Nat))).setCell (S_ p 11) (b_ (-1))):=(((S.Xu (by rintro t (rfl|rfl)<;>simp)).trans N3).trans N4).trans N5
   have B:Aa No ((((W.setCell (S_ K.kb 3) (b_ ((K.BG:Int)+1))).setCell (R_ p) (b_ ((K.BG:Int)+1))).setCell (S_ p 10) (b_ (a:Nat))).setCell (S_ p 11) (b_ (-1))) (((((W.setCell (S_ K.kb 3) (b_ ((K.BG:Int)+1))).setCell (R_ p) (b_ ((K.BG:Int)+1))).setCell (S_ p 10) (b_ (a:Nat))).setCell (S_ p 11) (b_ (-1))).alloc (.cells #[Q_ p] 119)):=(Aa.refl _ _).alloc _
   have bv:(((((W.setCell (S_ K.kb 3) (b_ ((K.BG:Int)+1))).setCell (R_ p) (b_ ((K.BG:Int)+1))).setCell (S_ p 10) (b_ (a:Nat))).setCell (S_ p 11) (b_ (-1))).alloc (.cells #[Q_ p] 119)).cell? (R_ W.heap.size)=some (ptr p):=by
    have:=Yw (w:=(((W.setCell (S_ K.kb 3) (b_ ((K.BG:Int)+1))).setCell (R_ p) (b_ ((K.BG:Int)+1))).setCell (S_ p 10) (b_ (a:Nat))).setCell (S_ p 11) (b_ (-1))) (o:=.cells #[Q_ p] 119) rfl
    rw[I]at this
    exact(Ai this 0).trans rfl
   obtain⟨s,C,L,Jm,hRa,G,E⟩:=co1 (T:=K.T) (ty:=100) (c2:=1) (l:=K.Ar) (Rw.keep A.pr B id) rfl bv (by show K.Ar.length<=1000;omega) A.tp
   have z:=E.old (B.old H id) (by unfold On;rw[show K.T K.kb=(1,0)from b.tk];simp)
   have ca:=(Ai z 2).trans n.c2
   have za:=Cf z 2
   gi_wp2_with (refine Dl rfl (.tmp 43) (.tmp 45) _ rfl rfl rfl Jm ?_)
   go_ret
   have Z:s≠K.kb:=λe=>by
    obtain Y|Y:=G
    .rw[e,show K.T K.kb=(1,0)from b.tk]at Y;simp at Y
    .have:=Dt Q;have:=B.size;rw[I]at this;omega
   have KF:Aa (On K.T λt=>t=(1,0)\/t=(4,0)) ((((W.setCell (S_ K.kb 3) (b_ ((K.BG:Int)+1))).setCell (R_ p) (b_ ((K.BG:Int)+1))).setCell (S_ p 10) (b_ (a:Nat))).setCell (S_ p 11) (b_ (-1))) (L.setCell (S_ K.kb 2) (P_ s (K.Ar.length+1) C)):=(B.no.then (E.on λk _ e=>.inr e)).setCell _ λ_=>.inl b.tk
   have F:Aa (At K.kb) L (L.setCell (S_ K.kb 2) (P_ s (K.Ar.length+1) C)):=(Aa.refl _ _).setCell _ λ_=>rfl
   have MF:CG K.T (Bi K.T s (4,0)) (λt=>t=(1,0)\/t=(4,0)) (λt=>t=(4,0)) _ (L.setCell (S_ K.kb 2) (P_ s (K.Ar.length+1) C)):=CG.row KF A.lt (G.imp id λx=>lN B.size x) (Nat.lt_of_lt_of_le hRa.lt F.size) rfl;have el:(K.Ar++[p]).length=K.Ar.length+1:=sJ;have h9:=A.Y0 (BG:=K.BG+1) (g:=s) (c:=C) (l:=K.Ar++[p]) MF n (Ap z _) (by rw[QW n.c3,el]) (by rw[el];exact hRa.keep F Z) A7;exact .inr ⟨a,s,C,Bi K.T s (4,0),sJ,ho,by rw[hsw];exact h9,(MW.trans hN).trans (MF.Xu (by rintro t (rfl|rfl)<;>simp))⟩
end
theorem an6 {f:Nat->Nat}:BP f [b]=f b:=by simp[BP]
theorem DU.born {K K1:KS}{q:PR}(h:DU NC NS K)(N:K.ps p=none)(U:K.Ar.length<12)(S:K.BG<60000)(Q:q.Ok)(P:q.pid=K.BG+1)(O:q.co=-1)(hL:q.Af.length<=128)(M:(Aq K.swap (Aj q.Af.length)).1=some q.sw)(R:EP (λi=>BR K.ps K.Ar i+q.fds.count (i:Int)) K1)(L:K1={K with swap:=(Aq K.swap (Aj q.Af.length)).2,BG:=K.BG+1,Ar:=K.Ar++[p],ps:=CY K.ps p q,pg:=K1.pg,pc:=K1.pc,T:=K1.T,desc:=K1.desc}):DU NC NS K1/\Rel b K K1:=by
 have e1:K1.ps=CY K.ps p q:=by rw[L]
 have e2:K1.Ar=K.Ar++[p]:=by rw[L]
 have e3:K1.swap=(Aq K.swap (Aj q.Af.length)).2:=by rw[L]
 have e4:K1.BG=K.BG+1:=by rw[L]
 have w:K1.core=K.core:=by rw[L]
 have x:K1.kb=K.kb:=by rw[L]
 have o:p ∉ K.Ar:=λB=>by obtain⟨r,j⟩:=h.th p B;rw[N]at j;cases j
 have s:∀k∈K.Ar,k≠p:=λk c e=>o (e ▸ c)
 have m:∀k r,K.ps k=some r->K1.ps k=some r:=λk r c=>by rw[e1,BB (by rintro rfl;rw[N]at c;cases c)];exact c
 have new:K1.ps p=some q:=by rw[e1];exact Ag
 have d:∀k r,K1.ps k=some r->(k=p/\r=q)\/(k≠p/\K.ps k=some r):=λk r c=>by
  rw[e1]at c
  by_cases e:k=p
  .subst e;rw[Ag]at c;cases c;exact .inl ⟨rfl,rfl⟩
  .rw[BB e]at c;exact .inr ⟨e,c⟩
 have l:∀f g:Nat->Nat,(∀k,k≠p->f k=g k)->BP f K1.Ar=BP g K.Ar+f p:=λf g A=>by
  rw[e2,QV,an6,BU λk c=>A k (s k c)]
 obtain⟨E,_,F⟩:=Jk (n:=Aj q.Af.length) h.sw.so;obtain⟨I,D,J⟩:=F _ M;have v:K1.ED:=λk c=>by
  rw[e2]at c
  obtain c|c:=eF.1 c
  .obtain⟨r,j⟩:=h.th k c;exact⟨r,m k r j⟩
  .obtain rfl:k=p:=(by simpa using c);exact⟨q,new⟩
 refine⟨⟨v,?_,by rw[e2];simp;omega,h.co.same w (λi=>?_) λk r c=>?_,⟨h.sw.le,by rw[e3];exact E,by rw[e3];exact YW h.sw.srt,Nat.zero_le _,λi hi=>?_,λk r c=>?_⟩,λk r c=>?_,λk r c=>?_,?_,by rw[e4];omega,R.congr λi _=>?_⟩,⟨λk r y z _=>.inl ⟨by rw[e2];simp[y],r,m k r z,.refl r⟩,λk c=>?_,λk c=>?_,λr j=>⟨r,m b r j,rfl⟩,by rw[e4];omega,x,λ_=>v⟩⟩
 .rw[e2,List.nodup_append];exact⟨h.nd,sJ,λa M b hb=>by obtain rfl:b=p:=(by simpa using hb);exact s a M⟩
 .rw[l (Gf i K1.ps) (Gf i K.ps) (λk c=>by unfold Gf;rw[e1,BB c]),Es new,rW O];rfl
 .obtain⟨rfl,rfl⟩|⟨_,c⟩:=d k r c
  .exact⟨hL,.inl O⟩
  .exact h.co.pl k r c
 .rw[l (Nw i K1.ps) (Nw i K.ps) (λk c=>by unfold Nw;rw[e1,BB c]),Jh new,e3];have G:=h.sw.cnt i hi;have c2:=RQ M i;omega
 .obtain⟨rfl,rfl⟩|⟨_,c⟩:=d k r c
  .exact D
  .exact h.sw.pl k r c
 .obtain⟨rfl,rfl⟩|⟨_,c⟩:=d k r c
  .exact Q
  .exact h.pr k r c
 .obtain⟨rfl,rfl⟩|⟨_,c⟩:=d k r c
  .rw[P,e4];omega
  .have:=h.pid k r c;rw[e4];omega
 .rw[e2,List.pairwise_append];refine⟨WR.imp h.asc λk r c j=>?_,sJ,λk c C t r H j u=>?_⟩
  .obtain⟨rfl,rfl⟩|⟨_,j⟩:=d k r j
   .exact qx c o
   .exact⟨r,j,rfl⟩
  .obtain rfl:C=p:=(by simpa using t);rw[new]at u;cases u;obtain⟨rfl,rfl⟩|⟨_,j⟩:=d k r j
   .exact qx c o
   .have:=(h.pid k r j).2;omega
 .show BP (Jr K1.ps i) K1.Ar=BP (Jr K.ps i) K.Ar+_;rw[l (Jr K1.ps i) (Jr K.ps i) (λk c=>by unfold Jr;rw[e1,BB c]),Ht new]
 .rw[e2]at c;obtain c|c:=eF.1 c
  .exact .inl c
  .obtain rfl:k=p:=(by simpa using c);refine .inr ⟨N,λr j=>?_⟩;rw[new]at j;cases j;omega
 .cases hx:K.ps k with
  |none=>exact qx hx c
  |some r=>rw[m k r hx];simp
end Go.Fxa
