/- A pipe is made. -/
import Derived.Test.YtmhplpfpcnjekaaGreatA29
namespace Go.Fxa
open Conc Proofs RowKit Proofs.Tryz
set_option maxRecDepth 1000000
set_option maxHeartbeats 0
variable {b x y:Nat} {r r':PR} {w:o_} {o:d_ Nat}
theorem JW (w:o_) (o:Obj):(w.alloc o).heap.size=w.heap.size+1:=zF
theorem Ut {f:Nat->d_ PR}:C9 (C9 f b r) b r'=C9 f b r':=by funext k;unfold C9;split<;>rfl
theorem UC {K:KS}:(K.Bi b r).Bi b r'=K.Bi b r':=by
 unfold KS.Bi;have e:C9 (C9 K.ps b r) b r'=C9 K.ps b r':=by funext k;unfold C9;split<;>rfl
 simp only[e]
theorem iR (l:List Int):DC l=l.count (-1):=by
 unfold DC SN;rw[List.count,List.countP_eq_length_filter]
theorem ε {d:Nat->Nat} {j:Nat} (h:2<=Ff d 20):∃i,i<20/\Ag d j 1 i=0:=by
 refine Classical.byContradiction λc=>?_
 have f:∀x∈(List.range 20).filter (λi=>d i==0),x∈[j]:=λx g=>by
  obtain⟨a,b⟩:=List.mem_filter.1 g
  refine List.mem_singleton.2 (Classical.byContradiction λe=>c ⟨x,List.mem_range.1 a,?_⟩)
  simp only[Ag,ru e];simpa using b
 have:=VC (List.Pairwise.filter _ List.nodup_range) f;unfold Ff at h;simp at this;omega
theorem AV.Xh {K:KS} {g c i:Nat} (h:AV K w) (l:K.ps b=some r) (m:r.en=false) (k:r.im=P_ g r.Af.length c):AV (K.Bi b { r with Af:=r.Af.set i x }) (w.setCell (S_ g i) (a_ (x:Nat)))/\BN K.T K.T w (w.setCell (S_ g i) (a_ (x:Nat))):=by
 obtain⟨e,d,_,f,j,a⟩:=h.jm l m;obtain⟨rfl,rfl⟩:g=e/\c=d:=by rw[a]at k;simp at k;exact⟨k.1.symm,k.2.symm⟩
 have:=f.set (i:=i) (a_ (x:Nat)) rfl;exact h.ag0 l m a j ((Ac.refl _ _).setCell _ λ_=>rfl) (by simpa [Az,List.map_set]using this) zF
def JM (ct:Nat->Ct) (p e1 e2:Nat):Nat->Ct:=Ag (Ag (Ag ct p ⟨[],true,true,0⟩) e1 ⟨[],false,false,p⟩) e2 ⟨[],false,false,p⟩
def Least (d:Nat->Nat) (i:Nat):Prop:=d i=0/\∀j,j<i->d j≠0
def aG (K:KS) (b:Nat) (r:PR) (at_:Nat):KS->Nat->Nat->n_->Prop:=λK' x y f=>(¬at_+2<=r.Af.length/\GU K 1 K' x y f)\/(at_+2<=r.Af.length/\DC r.fds<2/\GU K 7 K' x y f)\/(at_+2<=r.Af.length/\2<=DC r.fds/\Ff K.desc 20<2/\GU K 8 K' x y f)\/(at_+2<=r.Af.length/\∃p e1 e2 T3 i1 i2 j1 j2,(K.T p=(0,0)/\K.T e1=(0,0)/\K.T e2=(0,0)/\e1=p+1/\e2=p+2/\T3 p=(11,0)/\T3 e1=(13,0)/\T3 e2=(14,0))/\i1<20/\Least K.desc i1/\i2<20/\Least (Ag K.desc i1 1) i2/\IK r.fds j1/\IK (r.fds.set j1 (i1:Int)) j2/\K'=KS.Bi { K with T:=T3,desc:=Ag (Ag K.desc i1 1) i2 1,ef:=Ag (Ag K.ef i1 none) i2 none,tv:=Ag (Ag K.tv i1 (.iface 330 (ptr e1))) i2 (.iface 334 (ptr e2)),ct:=JM K.ct p e1 e2 } b { r with fds:=(r.fds.set j1 (i1:Int)).set j2 (i2:Int),Af:=(r.Af.set at_ j1).set (at_+1) j2 }/\x=0/\y=0/\f=.nilFunc)
section
variable (m:Nat) (w:o_)
theorem vC (K:KS) (h:AV K w):O_ m 199 #[] w λe w'=>∃e1 e2 p T3,e=.returned (.tuple #[.iface 330 (ptr e1),.iface 334 (ptr e2)])/\AV { K with T:=T3,ct:=JM K.ct p e1 e2 } w'/\T3 e1=(13,0)/\T3 e2=(14,0)/\BN K.T T3 w w'/\ag (T3 p=(11,0)/\w.heap.size<=p/\e1=p+1/\e2=p+2):=by
 have a1:(w.alloc (.cells #[.slice none 0 0,.bool true,.bool true] 329)).heap[w.heap.size]?=some (N_ #[.slice none 0 0,.bool true,.bool true] 329):=Y7 rfl;obtain⟨j,f⟩:=h.aa5 (Qe:=Ag K.ct w.heap.size ⟨[],true,true,0⟩) (t:=(11,0)) (w':=w.alloc (.cells #[.slice none 0 0,.bool true,.bool true] 329)) ((Ac.refl _ _).alloc _) (w_ _) (Dt a1) zF (EI.VR (v:=.slice none 0 0) AY (a1.trans (by simp[Ag])) (.inl ⟨rfl,by simp[Ag]⟩)) (λk a=>ru a);have c:(w.alloc (.cells #[.slice none 0 0,.bool true,.bool true] 329)).heap.size=w.heap.size+1:=JW _ _;have a2:((w.alloc (.cells #[.slice none 0 0,.bool true,.bool true] 329)).alloc (.cells #[Q_ w.heap.size] 333)).heap[w.heap.size+1]?=some (N_ #[Q_ w.heap.size] 333):=by
  have:=Y7 (w:=w.alloc (.cells #[.slice none 0 0,.bool true,.bool true] 329)) (o:=.cells #[Q_ w.heap.size] 333) rfl
  rwa [c]at this
 obtain⟨l,g⟩:=AV.aa5 (Qe:=Ag (Ag K.ct w.heap.size ⟨[],true,true,0⟩) (w.heap.size+1) ⟨[],false,false,w.heap.size⟩) (t:=(13,0)) (w':=(w.alloc (.cells #[.slice none 0 0,.bool true,.bool true] 329)).alloc (.cells #[Q_ w.heap.size] 333)) j ((Ac.refl _ _).alloc _) (Nat.le_of_eq c) (Dt a2) zF (EI.rend' AY (a2.trans (by simp[Ag,ptr])) (by show Bg (Bg K.T w.heap.size (11,0)) (w.heap.size+1) (13,0) (Ag (Ag K.ct w.heap.size ⟨[],true,true,0⟩) (w.heap.size+1) ⟨[],false,false,w.heap.size⟩ (w.heap.size+1)).n=(11,0);rw[show Ag (Ag K.ct w.heap.size ⟨[],true,true,0⟩) (w.heap.size+1) ⟨[],false,false,w.heap.size⟩ (w.heap.size+1)=⟨[],false,false,w.heap.size⟩from rC rfl];show Bg (Bg K.T w.heap.size (11,0)) (w.heap.size+1) (13,0) w.heap.size=(11,0);exact(AP zD).trans AY)) (λk a=>ru a);have d:((w.alloc (.cells #[.slice none 0 0,.bool true,.bool true] 329)).alloc (.cells #[Q_ w.heap.size] 333)).heap.size=w.heap.size+2:=by rw[JW,JW]
 have b:(((w.alloc (.cells #[.slice none 0 0,.bool true,.bool true] 329)).alloc (.cells #[Q_ w.heap.size] 333)).alloc (.cells #[Q_ w.heap.size] 335)).heap[w.heap.size+2]?=some (N_ #[Q_ w.heap.size] 335):=by
  have:=Y7 (w:=(w.alloc (.cells #[.slice none 0 0,.bool true,.bool true] 329)).alloc (.cells #[Q_ w.heap.size] 333)) (o:=.cells #[Q_ w.heap.size] 335) rfl
  rwa [d]at this
 obtain⟨q,i⟩:=AV.aa5 (Qe:=JM K.ct w.heap.size (w.heap.size+1) (w.heap.size+2)) (t:=(14,0)) (w':=((w.alloc (.cells #[.slice none 0 0,.bool true,.bool true] 329)).alloc (.cells #[Q_ w.heap.size] 333)).alloc (.cells #[Q_ w.heap.size] 335)) l ((Ac.refl _ _).alloc _) (Nat.le_of_eq d) (Dt b) zF (EI.bx5 AY (b.trans (by simp[JM,Ag,ptr])) (by show Bg (Bg (Bg K.T w.heap.size (11,0)) (w.heap.size+1) (13,0)) (w.heap.size+2) (14,0) (JM K.ct w.heap.size (w.heap.size+1) (w.heap.size+2) (w.heap.size+2)).n=(11,0);rw[show JM K.ct w.heap.size (w.heap.size+1) (w.heap.size+2) (w.heap.size+2)=⟨[],false,false,w.heap.size⟩from rC rfl];show Bg (Bg (Bg K.T w.heap.size (11,0)) (w.heap.size+1) (13,0)) (w.heap.size+2) (14,0) w.heap.size=(11,0);exact(AP zD).trans ((AP zD).trans AY))) (λk a=>ru a);gi_enter func199,ntmps199;gi_wp2;go_ret2;refine⟨w.heap.size+1,w.heap.size+2,by first|rfl|simp[ptr],w.heap.size,Bg (Bg (Bg K.T w.heap.size (11,0)) (w.heap.size+1) (13,0)) (w.heap.size+2) (14,0),q,(AP zD).trans AY,AY,(f.trans g).trans i,(AP zD).trans ((AP zD).trans AY),w_ _,rfl,rfl⟩
theorem ψ (K:KS) (NC NS b at_:Nat) (r:PR) (h:AV K w) (hO:Eo NC NS K) (hm:b∈K.Aw) (hb:K.ps b=some r) (hn:r.en=false) (hat:at_<65536):
  O_ m 145 #[Q_ K.kb,Q_ b,a_ (at_:Nat)] w (FO (aG K b r at_) NC NS b K w):=by
 have o:=hO.pr b r hb;have hlen:r.fds.length<=6:=by rw[o.fds hn];omega
 have hL:=(hO.co.pl b r hb).1;obtain⟨K0,rb,Cb⟩:=Iw w;have h0:=h.no K0;have GV:K.T w.heap.size=(0,0):=h.lt _ (w_ _);obtain⟨R,ci,q8,hRi,xn,F⟩:=h0.jm hb hn;have VN:=hRi.le;have ct:=λm w1 (hK:Ac No (w.alloc V_) w1)=>YF m w1 K b 2 r (h0.no hK) hb hn zD
 have two:((2:Nat):Int)=2:=rfl;simp only[two]at ct;by_cases L:at_+2<=r.Af.length
 .have cw:=λm=>Gh b R ci r.Af.length 2 at_ m (w.alloc V_) q8 zD hat hL VN L
  gi_enter func145,ntmps145;gi_wp2_with (first|(gi_at_call 138;refine(cw _).mono ?_;rintro e w1 ⟨rfl,I⟩;have I:=I.symm;subst I)|(gi_at_call 198;refine(ct _ _ (Ac.refl No _)).mono ?_;rintro e w2 ⟨⟨rfl,hs1,hs2⟩|⟨xx,rfl,hxx,bt4,hxe⟩,K2⟩<;>generalize hw0:w.alloc V_=w0 at *))
  .have h2:=h0.no K2;have cp:=λm=>vC m w2 K h2
   gi_wp2_with (gi_at_call 199;refine(cp _).mono ?_;rintro e w3 ⟨e1,e2,C,T3,rfl,h3,te1,te2,M3,p⟩;simp only[ptr]);have ca:=λm=>fE m w3 { K with T:=T3,ct:=JM K.ct C e1 e2 } (.iface 330 (ptr e1)) none h3 ⟨e1,.inr (.inl ⟨rfl,te1,rfl⟩)⟩ (Vy (by show 1<=Ff K.desc 20;omega))
   simp only[ptr]at ca;gi_wp2_with (gi_at_call 201;refine(ca _).mono ?_;rintro e w4 ⟨g,t,⟨E,hl1⟩,rfl,h4,M4⟩);have chd:=λm=>Ul m w4 { K with T:=T3,desc:=Ag K.desc g 1,ef:=Ag K.ef g none,tv:=Ag K.tv g (.iface 330 (ptr e1)),ct:=JM K.ct C e1 e2 } b (g:Int) r h4 hb hn zD zD
   gi_wp2_with (gi_at_call 200;refine(chd _).mono ?_;rintro e w5 ⟨l,W,rfl,h5,M5⟩;have G:=W.1;have cv0:=(KT.1 G).1;have cv2:l<6:=zD;obtain⟨g5,c5,_,S,tg5,cl6⟩:=h5.jm Aj hn;have D:R=g5/\ci=c5:=(by have:=F.symm.trans cl6;simpa using this);obtain⟨rfl,rfl⟩:=D;have z5:=S.fz at_;have q5:=S.cell (i:=at_) (by show at_<r.Af.length*1;omega);obtain⟨x5,hx5⟩:∃v,(Az r.Af)[at_]?=some v:=⟨_,IG (by simp[Az];omega)⟩;have q5:=q5.trans hx5);have s6:=h5.Xh (i:=at_) (x:=l) Aj hn F;rw[UC]at s6;obtain⟨h6,M6⟩:=s6;have cb:=λm=>fE m _ _ (.iface 334 (ptr e2)) none h6 ⟨e2,.inr (.inr ⟨rfl,te2,rfl⟩)⟩ (ε (d:=K.desc) hs2)
   simp only[ptr]at cb;gi_wp2_with (gi_at_call 201;refine(cb _).mono ?_;rintro e w7 ⟨j,u,⟨q,hl2⟩,rfl,h7,M7⟩);have Z:1<=DC (r.fds.set l (g:Int)):=by
    have:=PK (m:=(g:Int)) (a:=-1) G
    rw[iR]at hs1 ⊢
    rw[rC rfl,ru zD]at this
    omega
   have che:=λm=>Ul m w7 _ b (j:Int) _ h7 Aj hn (by show(r.fds.set l (g:Int)).length<=1000;simp;omega) Z
   gi_wp2_with (gi_at_call 200;refine(che _).mono ?_;rintro e w8' ⟨n,X,rfl,h8,M8⟩;have Y:=X.1;have cu9:=(KT.1 Y).1;have cv1:n<6:=(by have:(r.fds.set l (g:Int)).length<=6:=(by simp;omega);omega);obtain⟨g8,c8,_,U,tg8,Q⟩:=h8.jm Aj hn;have D:R=g8/\ci=c8:=(by have:=F.symm.trans Q;simpa using this);obtain⟨rfl,rfl⟩:=D;have z8:=U.fz (at_+1);have q8:=U.cell (i:=at_+1) (by show at_+1<(r.Af.set at_ l).length*1;simp;omega);obtain⟨x8,hx8⟩:∃v,(Az (r.Af.set at_ l))[at_+1]?=some v:=⟨_,IG (by simp[Az];omega)⟩;have q8:=q8.trans hx8);have s9:=h8.Xh (i:=at_+1) (x:=n) Aj hn Q;rw[UC]at s9;obtain⟨h9,M9⟩:=s9;have eK:KS.Bi { ({ K with T:=T3,desc:=Ag K.desc g 1,ef:=Ag K.ef g none,tv:=Ag K.tv g (.iface 330 (ptr e1)),ct:=JM K.ct C e1 e2 }:KS).Bi b { r with fds:=r.fds.set l (g:Int),Af:=r.Af.set at_ l } with desc:=Ag (Ag K.desc g 1) j 1,ef:=Ag (Ag K.ef g none) j none,tv:=Ag (Ag K.tv g (.iface 330 (ptr e1))) j (.iface 334 (ptr e2)) } b { r with fds:=(r.fds.set l (g:Int)).set n (j:Int),Af:=(r.Af.set at_ l).set (at_+1) n }=KS.Bi { K with T:=T3,desc:=Ag (Ag K.desc g 1) j 1,ef:=Ag (Ag K.ef g none) j none,tv:=Ag (Ag K.tv g (.iface 330 (ptr e1))) j (.iface 334 (ptr e2)),ct:=JM K.ct C e1 e2 } b { r with fds:=(r.fds.set l (g:Int)).set n (j:Int),Af:=(r.Af.set at_ l).set (at_+1) n }:=(by unfold KS.Bi;simp only[Ut]);have h9:AV (KS.Bi { K with T:=T3,desc:=Ag (Ag K.desc g 1) j 1,ef:=Ag (Ag K.ef g none) j none,tv:=Ag (Ag K.tv g (.iface 330 (ptr e1))) j (.iface 334 (ptr e2)),ct:=JM K.ct C e1 e2 } b { r with fds:=(r.fds.set l (g:Int)).set n (j:Int),Af:=(r.Af.set at_ l).set (at_+1) n }) (w8'.setCell (S_ R (at_+1)) (a_ (n:Nat))):=(by rw[<-eK];exact h9);have hH1:BM K.ps K.Aw g=0:=(by rw[<-hO.Ef.ho g t];exact E);have Cm:j≠g:=λe=>by rw[e]at q;simp[KS.Bi,Ag]at q
   have cm4:K.desc j=0:=(by have:Ag K.desc g 1 j=0:=q;rwa [show Ag K.desc g 1 j=K.desc j from ru Cm]at this);have hH2:BM K.ps K.Aw j=0:=(by rw[<-hO.Ef.ho j u];exact cm4);have cg8:=hO.Ef.add (o:=none) (nm:=K.nm) (T:=T3) (ct:=K.ct) (tv:=K.tv) t E hO.Ef.nm hO.Ef.dj;have J:=cg8.add (o:=none) (nm:=K.nm) (T:=T3) (ct:=K.ct) (tv:=K.tv) u (show Ag K.desc g 1 j=0 from q) hO.Ef.nm hO.Ef.dj;have s:((r.Af.set at_ l).set (at_+1) n).length=r.Af.length:=zF;obtain⟨RS,Ir⟩:=hO.fds (K1:={ K with T:=T3,desc:=Ag (Ag K.desc g 1) j 1,ef:=Ag (Ag K.ef g none) j none,tv:=Ag (Ag K.tv g (.iface 330 (ptr e1))) j (.iface 334 (ptr e2)),ct:=JM K.ct C e1 e2 }) (r':={ r with fds:=(r.fds.set l (g:Int)).set n (j:Int),Af:=(r.Af.set at_ l).set (at_+1) n }) (H:=Ag (Ag (BM K.ps K.Aw) g 1) j 1) ⟨rfl⟩ hm hb rfl rfl rfl rfl s ⟨o.A,o.B,o.P,o.st,o.pid,o.par,λx hx=>by
    obtain hx|rfl:=List.mem_or_eq_of_mem_set hx
    .obtain hx|rfl:=List.mem_or_eq_of_mem_set hx
     .exact o.Af x hx
     .omega
    .omega,λe=>by simp[o.fds e],Vg (Vg o.fd (.inr ⟨g,rfl,t⟩)) (.inr ⟨j,rfl,u⟩),λe=>by simp only[s];exact o.len e,λe=>ql e (by simp[hn])⟩ ⟨J.ho,J.le,J.op,J.nd,J.nz,J.nm,J.dj⟩ (λk _=>by
    have a1:=PK (m:=(g:Int)) (a:=(k:Int)) G;have a2:=PK (m:=(j:Int)) (a:=(k:Int)) Y;rw[ru (c:=(-1:Int)=(k:Int)) zD]at a1 a2;simp only at a2 ⊢;simp only[Ag];by_cases e2:k=j
    .subst e2;rw[ru zD]at a1;rw[rC rfl]at a2 ⊢;omega
    .rw[ru zD]at a2;rw[ru e2];by_cases e1:k=g
     .subst e1;rw[rC rfl]at a1 ⊢;omega
     .rw[ru zD]at a1;rw[ru e1];omega)
   have V:BN K.T T3 w0 _:=((((((BN.no K2 h0.lt).trans M3).trans M4).trans M5).trans M6).trans M7).trans (M8.trans M9);gi_wp2_with (first|(gi_at_call 152;refine(Ed _ _ 0 zD).mono ?_;rintro e wz ⟨rfl,z⟩;obtain⟨w8,M,N,O⟩:=AA (x:=0) (y:=0) (f:=.nilFunc) (z.old (V.old rb GV) id) rfl)|refine EX M ?_);refine T_ 0 0 (by simp[results,results145,go_sem,FI O]) rfl ?_;exact BB (K':=KS.Bi { K with T:=T3,desc:=Ag (Ag K.desc g 1) j 1,ef:=Ag (Ag K.ef g none) j none,tv:=Ag (Ag K.tv g (.iface 330 (ptr e1))) j (.iface 334 (ptr e2)),ct:=JM K.ct C e1 e2 } b { r with fds:=(r.fds.set l (g:Int)).set n (j:Int),Af:=(r.Af.set at_ l).set (at_+1) n }) (x:=0) (y:=0) h.lt K0 Cb ((V).then z) ((h9).no z) N zD zD (.inl rfl) (RS) (Ir) Aj (λ_=>hm) (.inr (.inr (.inr ⟨L,C,e1,e2,T3,g,j,l,n,⟨h2.lt _ p.out.2.1,h2.lt _ (by have:=p.out;omega),h2.lt _ (by have:=p.out;omega),p.out.2.2.1,p.out.2.2.2,p.out.1,te1,te2⟩,t,⟨E,hl1⟩,u,⟨q,hl2⟩,W,X,rfl,rfl,rfl,rfl⟩)))
  .skip
   gi_wp2_with (first|(gi_at_call 140;refine(Om _ _ xx).mono ?_;rintro e wz ⟨rfl,z⟩;obtain⟨w8,M,N,O⟩:=AA (x:=0) (y:=xx) (f:=.nilFunc) (z.old (K2.old rb id) id) rfl)|refine EX M ?_);refine T_ 0 xx (by simp[results,results145,go_sem,FI O]) rfl ?_;exact BV h hO hm hb K0 Cb (K2.then z) N wB zD (.inr (by obtain⟨a1,rfl⟩|⟨a1,a2,rfl⟩:=hxe.out;exact .inl ⟨L,a1,GU.of⟩;exact .inr (.inl ⟨L,a1,a2,GU.of⟩)))
 .have cw:=λm=>IA b R ci r.Af.length 2 at_ m (w.alloc V_) q8 zD zD hat L
  gi_enter func145,ntmps145;gi_wp2_with (gi_at_call 138;refine(cw _).mono ?_;rintro e w1 ⟨rfl,I⟩;have I:=I.symm;subst I;generalize hw0:w.alloc V_=w0 at *);gi_wp2_with (first|(gi_at_call 140;refine(TI 1 rb _).mono ?_;rintro e wz ⟨rfl,z,w8,M,N,O⟩)|refine EX M ?_);refine T_ 0 1 (by simp[results,results145,go_sem,FI O]) rfl ?_;exact BV h hO hm hb K0 Cb z N wB wB (.inl ⟨L,GU.of⟩)
end
def KS.parent (K:KS) (pid:Nat):Prop:=∃b r,b∈K.Aw/\K.ps b=some r/\r.par=pid
def aa3 (K:KS) (b:Nat):Int:=match K.ps b with|some r=>r.par|none=>0
section
variable (m:Nat) (w:o_)
theorem bq2 (cb c pb:Nat) (x y:Int) (d:w.cell? (S_ cb 1)=some (b_ x)) (f:w.cell? (R_ c)=some (Q_ pb)) (g:w.cell? (R_ pb)=some (b_ y)):
  O_ m 230 #[Q_ cb,Q_ c] w λe w'=>Ac No w w'/\∃z,e=.returned (.bool z)/\ag (z=true ↔ x=y):=by
 gi_enter func230,ntmps230;gi_wp2;refine BP 8 13 ?_;gi_wp2;refine Eb ?_ ?_
 .intro W a;have d1:=a.has (w:=w.drew) d;have d2:=a.has (w:=w.drew) f;have d3:=a.has (w:=w.drew) g
  repeat' (refine Au ?_ ?_)
  all_goals first|exact eu|gi_wp2
 .intro W a;have KW:Ac No w W:=(Ac.refl No w).drew.then a;gi_wp2
  all_goals go_ret
  all_goals exact⟨KW,_,rfl,by unfold ag;simp⟩
theorem Ϗ (g cap B pb:Nat) (l:List Nat) (y:Int) (A:Nat->Int) (E:Rw 119 1 w g l.length cap (Bj l)) (F:∀b∈l,w.cell? (S_ b 1)=some (b_ (A b))) (C:w.cell? (R_ B)=some (Q_ pb)) (D:w.cell? (R_ pb)=some (b_ y)) (G:l.length<=100000):
  O_ m 238 #[P_ g l.length cap,.func (.func 230) #[] #[Q_ B]] w λe w'=>Ac No w w'/\∃j:Int,e=.returned (b_ j)/\ag ((0<=j/\∃b∈l,A b=y)\/(j=-1/\∀b∈l,A b≠y)):=by
 gi_enter func238,ntmps238;gi_wp2;gi_loopw [8] (λi wr=>∃k:Nat,k<=l.length/\i=b_ k/\Ac No w wr/\ag (∀(j c:Nat),j<k->l[j]?=some c->A c≠y)) (λi _=>l.length-(intOf i).toNat)
 case atStart=>exact⟨0,zD,rfl,Ac.refl _ _,λj c h=>ql h zD⟩
 case round=>
  obtain⟨k,v,rfl,KK,p⟩:=hrel
  by_cases q:k<l.length
  .have d:l[k]?=some l[k]:=IG q;generalize l[k]=b at d;have t:wr.cell? (S_ g k)=some (Q_ b):=(by rw[Rw.cell (E.keep KK id) zD];simp[Bj,d,ptr]);have s:=F b (t_ d);have c:=λm=>bq2 m wr b B pb (A b) y (KK.has s) (KK.has C) (KK.has D)
   gi_wp2_with (gi_at_call 230;refine(c _).mono ?_;rintro e w1 ⟨f,z,rfl,o⟩;cases z)
   .go_roundw
    case rel=>exact⟨k+1,zD,by go_num,KK.then f,λj c u a=>by
     by_cases e:j=k
     .subst e;rw[d]at a;cases a;exact λh=>by have:=o.out.2 h;simp at this
     .exact p.out j c zD a⟩
    case measure=>simp[intOf];omega
   .go_ret;exact⟨KK.then f,_,rfl,.inl ⟨zD,b,t_ d,o.out.1 zF⟩⟩
  .obtain rfl:k=l.length:=zD;gi_wp2;go_ret;exact⟨KK,_,rfl,.inr ⟨rfl,λb r=>by
    obtain⟨i,n⟩:=List.getElem?_of_mem r
    exact p.out i b (KT.1 n).1 n⟩⟩
theorem oC (K:KS) (pb:Nat) (p:PR) (h:AV K w) (u:K.EJ) (v:K.ps pb=some p) (A:K.Aw.length<=100):
  O_ m 194 #[Q_ K.kb,Q_ pb] w λe w'=>Ac No w w'/\∃z,e=.returned (.bool z)/\ag (z=true ↔ K.parent p.pid):=by
 have l:Ac No w (w.alloc (.cells #[Q_ pb] 119)):=(Ac.refl _ _).alloc _;have g:=h.no l;have t:=g.kc2;have o:=g.Il v 0;simp[PR.arr]at o;have s:(w.alloc (.cells #[Q_ pb] 119)).heap[w.heap.size]?=some (N_ #[Q_ pb] 119):=Y7 rfl;have c:=λm=>Ϗ m (w.alloc (.cells #[Q_ pb] 119)) K.pg K.pc w.heap.size pb K.Aw p.pid (aa3 K) g.pr (λb i=>by
  obtain⟨r,d⟩:=u b i
  rw[g.Il d];simp[PR.arr,aa3,d]) ((Ah s 0).trans rfl) o zD
 gi_enter func194,ntmps194;gi_wp2_with (first|(gi_at_call 238;refine(c _).mono ?_;rintro e w1 ⟨q,j,rfl,n⟩)|(gi_at_call 229;gi_in))
 all_goals go_ret
 have k:(∃b∈K.Aw,aa3 K b=(p.pid:Int)) ↔ K.parent p.pid:=by
  constructor
  .rintro⟨b,f,a⟩;obtain⟨r,d⟩:=u b f;exact⟨b,r,f,d,by simp[aa3,d]at a;omega⟩
  .rintro⟨b,r,f,d,a⟩;exact⟨b,f,by simp[aa3,d,a]⟩
 refine⟨l.then q,_,rfl,?_⟩;unfold ag at n ⊢;rw[<-k];obtain⟨f,a⟩|⟨rfl,a⟩:=n
 .simp[f];simpa using a
 .simp;exact λb i=>a b i
end
theorem Vx {X:KS->Nat->Nat->n_->Prop} {NC NS rb:Nat} {K K':KS} {w0 g i:o_} {f:n_} (j:∀k,w.heap.size<=k->K.T k=(0,0)) (p:Ac No w w0) (d:w.heap.size<=rb) (m:rb<w0.heap.size) (l:BN K.T K'.T w0 g) (q:AV K' g) (h:Ac (At rb) g i) (B:x<65536) (C:y<65536) (z:LW K'.T g K'.kb b f) (s:Eo NC NS K') (u:Rel b K K') (A:K'.ps b=some r') (n:r'.en=false->b∈K'.Aw) (v:X K' x y f):FO X NC NS b K w (.returned (.agg #[a_ x,a_ y,f])) i:=by
 have a:K'.T rb=(0,0):=(Dh.fresh l _ m).trans (j _ d);have c:Ac (On K'.T λt=>t=(0,0)) g i:=h.on λk _ e=>by rw[show k=rb from e];exact a
 exact⟨K',x,y,f,rfl,B,C,z.keep c zF,q.own h a,s,u,((BN.no p j).trans l).own h (λk e=>by rw[show k=rb from e];exact d),⟨r',A,n⟩,v⟩
theorem AV.boxes {K:KS} {w':o_} (h:AV K w) (l:K.ps b=some r) (j:Ac No w w') (m:w.heap.size<=x) (n:x<y) (p:y<w'.heap.size) (i:w'.heap[x]?=some (N_ #[ptr K.kb] 33)) (g:w'.heap[y]?=some (N_ #[ptr b] 119)):AV { K with T:=Bg (Bg K.T x (9,b)) y (9,b) } w'/\BN K.T (Bg (Bg K.T x (9,b)) y (9,b)) w w'/\LW (Bg (Bg K.T x (9,b)) y (9,b)) w' K.kb b (.func (.func 196) #[] #[ptr x,ptr y]):=by
 have c:Dh K.T (Bg K.T x (9,b)) (λt=>t=(6,b)\/t=(7,b)\/t=(8,b)\/t=(9,b)) (λt=>t=(6,b)\/t=(7,b)\/t=(8,b)\/t=(9,b)) w w':=Dh.row j.no h.lt (.inr m) zD (.inr (.inr (.inr rfl)));have d:Dh (Bg K.T x (9,b)) (Bg (Bg K.T x (9,b)) y (9,b)) (λt=>t=(6,b)\/t=(7,b)\/t=(8,b)\/t=(9,b)) (λt=>t=(6,b)\/t=(7,b)\/t=(8,b)\/t=(9,b)) w w':=⟨j.no,λk a=>by
   by_cases e:k=y
   .subst e;exact ql (by rw[AP zD];exact h.lt _ zD) a
   .exact AP e,λk i g=>by
   by_cases e:k=y
   .subst e;rw[AY];exact .inr (.inr (.inr rfl))
   .rw[AP e]at g;exact ql i g,λk a=>by rw[AP zD];exact c.lt k a,λk a=>AP zD⟩
 have M:Dh K.T (Bg (Bg K.T x (9,b)) y (9,b)) (λt=>t=(6,b)\/t=(7,b)\/t=(8,b)\/t=(9,b)) (λt=>t=(6,b)\/t=(7,b)\/t=(8,b)\/t=(9,b)) w w':=⟨j.no,λk a=>(d.old k (by rw[c.old k a];exact a)).trans (c.old k a),λk i g=>by
   by_cases e:Bg K.T x (9,b) k=(0,0)
   .exact d.new k e g
   .rw[d.old k e];exact c.new k i e,d.lt,λk a=>(d.fresh k a).trans (c.fresh k a)⟩
 have f:Dh K.T (Bg (Bg K.T x (9,b)) y (9,b)) (λ_=>False) (λt=>t=(6,b)\/t=(7,b)\/t=(8,b)\/t=(9,b)) w w':=⟨j.no,M.old,M.new,M.lt,M.fresh⟩;have s:=h.jF M ((h.ps b r l).IX f id id id id);have e:C9 K.ps b r=K.ps:=by funext k;unfold C9;split;rename_i e;rw[e,l];rfl
 rw[e]at s;exact⟨s,M.WB (by rintro t (rfl|rfl|rfl|rfl)<;>simp),.inr (.inl ⟨x,y,rfl,i,g,(AP zD).trans AY,AY⟩)⟩
theorem bp8 (h:Value.pointer none=U8 o):o=none:=by cases o<;>simp[U8,ptr]at h ⊢
theorem ba3 (h:ptr b=U8 o):o=some b:=by
 cases o<;>simp[U8,ptr]at h ⊢;exact h.symm
def az (K:KS) (b:Nat) (r:PR) (at_:Nat):KS->Nat->Nat->n_->Prop:=λK' x y f=>(¬at_+1<=r.Af.length/\GU K 1 K' x y f)\/(at_+1<=r.Af.length/\((¬K.parent r.pid/\GU K 3 K' x y f)\/(K.parent r.pid/\((K.RI r.pid=none/\x=0/\y=0/\(∃g h,f=.func (.func 196) #[] #[ptr g,ptr h])/\∃T,K'={ K with T:=T })\/∃c rc,K.RI r.pid=some c/\K.ps c=some rc/\x=rc.pid/\y=0/\f=.nilFunc/\K'=((K.Bi b { r with Af:=r.Af.set at_ rc.st }).Bi c { rc with par:=0 }).Qg))))
section
variable (m:Nat) (w:o_)
theorem av4 (K:KS) (NC NS b at_:Nat) (r:PR) (h:AV K w) (hO:Eo NC NS K) (hm:b∈K.Aw) (hb:K.ps b=some r) (hn:r.en=false) (hat:at_<65536):
  O_ m 143 #[Q_ K.kb,Q_ b,a_ (at_:Nat)] w (FO (az K b r at_) NC NS b K w):=by
 have o:=hO.pr b r hb;have hL:=(hO.co.pl b r hb).1;have hl12:=hO.len;have N:Ac No w (((w.alloc (.cells #[Q_ K.kb] 33)).alloc (.cells #[Q_ b] 119)).alloc V_):=(((Ac.refl _ _).alloc _).alloc _).alloc _;have s1:=JW w (.cells #[Q_ K.kb] 33);have s2:((w.alloc (.cells #[Q_ K.kb] 33)).alloc (.cells #[Q_ b] 119)).heap.size=w.heap.size+2:=by rw[JW,JW]
 have S:(((w.alloc (.cells #[Q_ K.kb] 33)).alloc (.cells #[Q_ b] 119)).alloc V_).heap[w.heap.size+2]?=some (N_ #[a_ 0,a_ 0,.nilFunc] 206):=by
  have:=Y7 (w:=(w.alloc (.cells #[Q_ K.kb] 33)).alloc (.cells #[Q_ b] 119)) (o:=V_) rfl
  rwa [s2]at this
 have bx:(((w.alloc (.cells #[Q_ K.kb] 33)).alloc (.cells #[Q_ b] 119)).alloc V_).heap[w.heap.size]?=some (N_ #[Q_ K.kb] 33):=(((Ac.refl No _).alloc _).alloc _).old (Y7 (w:=w) (o:=(.cells #[Q_ K.kb] 33)) rfl) id;have O:(((w.alloc (.cells #[Q_ K.kb] 33)).alloc (.cells #[Q_ b] 119)).alloc V_).heap[w.heap.size+1]?=some (N_ #[Q_ b] 119):=by
  have:=Y7 (w:=w.alloc (.cells #[Q_ K.kb] 33)) (o:=(.cells #[Q_ b] 119)) rfl
  rw[s1]at this
  exact((Ac.refl No _).alloc _).old this id
 have cx:(((w.alloc (.cells #[Q_ K.kb] 33)).alloc (.cells #[Q_ b] 119)).alloc V_).cell? (R_ w.heap.size)=some (Q_ K.kb):=(Ah bx 0).trans rfl;have cy:(((w.alloc (.cells #[Q_ K.kb] 33)).alloc (.cells #[Q_ b] 119)).alloc V_).cell? (R_ (w.heap.size+1))=some (Q_ b):=(Ah O 0).trans rfl;have X:w.heap.size+2<(((w.alloc (.cells #[Q_ K.kb] 33)).alloc (.cells #[Q_ b] 119)).alloc V_).heap.size:=Dt S;have l:=h.no N;have GV:K.T (w.heap.size+2)=(0,0):=h.lt _ zD;obtain⟨D,ci,q8,hRi,W,R⟩:=l.jm hb hn;have VN:=hRi.le;have cp:=λm w1 (hK:Ac No (((w.alloc (.cells #[Q_ K.kb] 33)).alloc (.cells #[Q_ b] 119)).alloc V_) w1)=>oC m w1 K b r (l.no hK) hO.th hb zD
 have ce:=λm w1 (hK:Ac No (((w.alloc (.cells #[Q_ K.kb] 33)).alloc (.cells #[Q_ b] 119)).alloc V_) w1)=>lW m w1 K b r (l.no hK) hO.th hb zD
 clear s1 s2;by_cases L:at_+1<=r.Af.length
 .have cw:=λm=>Gh b D ci r.Af.length 1 at_ m (((w.alloc (.cells #[Q_ K.kb] 33)).alloc (.cells #[Q_ b] 119)).alloc V_) q8 zD hat hL VN L
  gi_enter func143,ntmps143;gi_wp2_with (first|(gi_at_call 138;refine(cw _).mono ?_;rintro e w1 ⟨rfl,G⟩;have G:=G.symm;subst G)|(gi_at_call 194;refine(cp _ _ (Ac.refl No _)).mono ?_;rintro e w2 ⟨u,z,rfl,hz⟩;have cx2:=u.has cx;have cy2:=u.has cy;cases z))
  .generalize I:((w.alloc (.cells #[Q_ K.kb] 33)).alloc (.cells #[Q_ b] 119)).alloc V_=U at*;gi_wp2_with (first|(gi_at_call 140;refine(TI 3 (u.old S id) _).mono ?_;rintro e wz ⟨rfl,g,V,p,d,s⟩)|refine EX p ?_);refine T_ 0 3 (by simp[results,results143,go_sem,FI s]) rfl ?_;exact Vx (K':=K) (x:=0) (y:=3) h.lt N (Nat.le_add_right _ 2) X (((BN.no u l.lt)).then g) ((l.no u).no g) d zD zD (.inl rfl) (hO) (Rel.refl b K) hb (λ_=>hm) (.inr ⟨L,.inl ⟨λhh=>by have:=hz.out.2 hh;simp at this,GU.of⟩⟩)
  .gi_wp2_with (first|(gi_at_call 195;refine(ce _ _ u).mono ?_;rintro e w3 ⟨K3,v,rfl,hv,n⟩;replace n:ag _:=n;have KK:=u.then K3;have E:=l.no KK;obtain⟨V,p,d,s⟩:=AA (x:=0) (y:=0) (f:=.func (.func 196) #[] #[Q_ w.heap.size,Q_ (w.heap.size+1)]) (KK.old S id) rfl;obtain rfl|⟨c,rc,rfl,hcm,a,Q⟩:=hv)|refine EX p ?_)
   .generalize I:((w.alloc (.cells #[Q_ K.kb] 33)).alloc (.cells #[Q_ b] 119)).alloc V_=U at*;have n9:w.heap.size<w3.heap.size:=(by have:=KK.size;omega);obtain⟨hB,MB,Pv⟩:=h.boxes (x:=w.heap.size) (y:=w.heap.size+1) hb (N.then KK) (w_ _) zD (by have:=KK.size;omega) (KK.old bx id) (KK.old O id);have tg:(Bg (Bg K.T w.heap.size (9,b)) (w.heap.size+1) (9,b)) (w.heap.size+2)=(0,0):=(by rw[AP zD,AP zD];exact GV);obtain⟨RS,Ir⟩:=hO.fds (K1:={ K with T:=Bg (Bg K.T w.heap.size (9,b)) (w.heap.size+1) (9,b) }) (r':=r) (H:=BM K.ps K.Aw) ⟨rfl⟩ hm hb rfl rfl rfl rfl rfl o ⟨hO.Ef.ho,hO.Ef.le,hO.Ef.op,hO.Ef.nd,hO.Ef.nz,hO.Ef.nm,hO.Ef.dj⟩ λi _=>rfl
    rw[Fj (K:={ K with T:=Bg (Bg K.T w.heap.size (9,b)) (w.heap.size+1) (9,b) }) hb]at RS Ir;refine bodyPost_ret (v:=.agg #[a_ 0,a_ 0,.func (.func 196) #[] #[Q_ w.heap.size,Q_ (w.heap.size+1)]]) (by simp[results,results143,go_sem,FI s]) rfl ?_;have K9:Ac (On (Bg (Bg K.T w.heap.size (9,b)) (w.heap.size+1) (9,b)) λt=>t=(0,0)) w3 V:=d.on λk _ e=>by rw[show k=w.heap.size+2 from e];exact tg
    exact⟨{ K with T:=Bg (Bg K.T w.heap.size (9,b)) (w.heap.size+1) (9,b) },0,0,_,rfl,zD,zD,Pv.keep K9 zF,hB.own d tg,RS,Ir,MB.own d (λk e=>by rw[show k=w.heap.size+2 from e];omega),⟨r,hb,λ_=>hm⟩,.inr ⟨L,.inr ⟨hz.out.1 zF,.inl ⟨bp8 n.out,rfl,rfl,⟨_,_,rfl⟩,_,rfl⟩⟩⟩⟩
   .clear p d s;have e3:=E.Il a 3;have e1:=E.Il a 1;have e0:=E.Il a 0;simp[PR.arr]at e3 e1 e0;have z1:=E.jy a 1;obtain⟨g3,c3,_,WW,tg3,Z⟩:=E.jm hb hn;have egi:D=g3/\ci=c3:=(by have:=R.symm.trans Z;simpa using this);obtain⟨rfl,rfl⟩:=egi;have zi:=WW.fz at_;have qi:=WW.cell (i:=at_) zD;obtain⟨xi,hxi⟩:∃v,(Az r.Af)[at_]?=some v:=⟨_,IG (by simp[Az];omega)⟩;have qi:=qi.trans hxi;have cx3:=K3.has cx2;have J:=(E.ps c rc a).t;have n1:¬D=c:=(λe=>by rw[e,J]at W;simp at W);have n1':¬c=D:=(λe=>n1 e.symm);have n2:¬D=w.heap.size:=(λe=>by rw[e,h.lt _ (w_ _)]at W;simp at W);have n2':¬w.heap.size=D:=(λe=>n2 e.symm);have n3:¬c=w.heap.size:=(λe=>by rw[e,h.lt _ (w_ _)]at J;simp at J);have n3':¬w.heap.size=c:=(λe=>n3 e.symm);have C:c≠b:=(λe=>by rw[e,hb]at a;cases a;rw[hn]at Q;cases Q);obtain⟨h4,M4⟩:=E.Xh (i:=at_) (x:=rc.st) hb hn R;have j:(K.Bi b { r with Af:=r.Af.set at_ rc.st }).ps c=some rc:=(BH C).trans a;have h5:=h4.GH (r':={ rc with par:=0 }) (i:=1) (v:=b_ 0) j ⟨rfl,rfl,rfl,rfl,rfl⟩ rfl (h4.ps c rc j).bl;have M5:=h4.Ez j (i:=1) (v:=b_ 0);obtain⟨hO4,Ϸ⟩:=hO.fds (r':={ r with Af:=r.Af.set at_ rc.st }) (aI.refl K) hm hb rfl rfl rfl rfl zF ⟨o.A,o.B,o.P,o.st,o.pid,o.par,(λx hx=>by obtain hx|rfl:=List.mem_or_eq_of_mem_set hx;exact o.Af x hx;exact(hO.pr c rc a).st),o.fds,o.fd,(λe=>by simp only[List.length_set];exact o.len e),(λe=>ql e (by simp[hn]))⟩ hO.Ef (λi _=>rfl);have hF:=Nu.set j 0;have F:=hO4.au1 hF (λk q M=>by
     have M:C9 _ c _ k=some q:=M
     by_cases e:k=c
     .subst e;rw[Aj]at M;cases M;exact .inr zF
     .rw[BH e]at M;exact .inl M)
    have Y:=λm=>zx m _ _ h5 F.th (pV F.len zD)
    have cv4:rc.pid<=60000:=(hO.pr c rc a).pid;simp only[ptr];generalize I:((w.alloc (.cells #[Q_ K.kb] 33)).alloc (.cells #[Q_ b] 119)).alloc V_=U at*;gi_wp2_with (gi_at_call 158;refine(Y _).mono ?_;rintro e w6 ⟨rfl,h6,M6⟩;have e06:=h6.Il (b:=c) (r:={ rc with par:=0 }) Aj 0;simp[PR.arr]at e06);have xw:BN K.T K.T U w6:=(((BN.no KK l.lt).trans M4).trans M5).trans M6;have hbB:((K.Bi b { r with Af:=r.Af.set at_ rc.st }).Bi c { rc with par:=0 }).Qg.ps b=some { r with Af:=r.Af.set at_ rc.st }:=(BH C.symm).trans Aj;gi_wp2_with (first|(gi_at_call 152;refine(Ed _ _ rc.pid zD).mono ?_;rintro e wz ⟨rfl,g⟩;obtain⟨V,p,d,s⟩:=AA (x:=rc.pid) (y:=0) (f:=.nilFunc) (g.old (xw.old S GV) id) rfl)|refine EX p ?_);refine T_ rc.pid 0 (by simp[results,results143,go_sem,FI s]) rfl ?_;exact Vx (K':=((K.Bi b { r with Af:=r.Af.set at_ rc.st }).Bi c { rc with par:=0 }).Qg) (x:=rc.pid) (y:=0) h.lt N (Nat.le_add_right _ 2) X ((xw).then g) ((h6).no g) d zD zD (.inl rfl) (F.Qg) ((Ϸ.trans (hF.rel b) (by rw[hb];simp) hO.th).trans (kU _ b) (by rw[hb];simp) hO.th) hbB (λ_=>List.mem_filter.2 ⟨hm,by simp[Ua,KS.Bi,BH C.symm,Aj,hn]⟩) (.inr ⟨L,.inr ⟨hz.out.1 zF,.inr ⟨c,rc,ba3 n.out,a,rfl,rfl,rfl,rfl⟩⟩⟩)
 .have cw:=λm=>IA b D ci r.Af.length 1 at_ m (((w.alloc (.cells #[Q_ K.kb] 33)).alloc (.cells #[Q_ b] 119)).alloc V_) q8 zD zD hat L
  gi_enter func143,ntmps143;gi_wp2_with (gi_at_call 138;refine(cw _).mono ?_;rintro e w1 ⟨rfl,G⟩;have G:=G.symm;subst G);generalize I:((w.alloc (.cells #[Q_ K.kb] 33)).alloc (.cells #[Q_ b] 119)).alloc V_=U at*;gi_wp2_with (first|(gi_at_call 140;refine(TI 1 S _).mono ?_;rintro e wz ⟨rfl,g,V,p,d,s⟩)|refine EX p ?_);refine T_ 0 1 (by simp[results,results143,go_sem,FI s]) rfl ?_;exact Vx (K':=K) (x:=0) (y:=1) h.lt N (Nat.le_add_right _ 2) X (((BN.no (Ac.refl No _) l.lt)).then g) ((l).no g) d zD zD (.inl rfl) (hO) (Rel.refl b K) hb (λ_=>hm) (.inl ⟨L,GU.of⟩)
end
end Go.Fxa
