/- A process waits for a child. -/
import Derived.Test.YtmhplpfpcnjekaaGreatA29
namespace Go.Fxa
open Conc Proofs RowKit Proofs.Tryz
set_option maxRecDepth 1000000
set_option maxHeartbeats 0
variable {NC NS b x y p:Nat}{K:KS}{w w':o_}{r:PR}{o:d_ Nat}
theorem Wh {X:KS->Nat->Nat->n_->Prop}{rb:Nat}{K':KS}{w0 g i:o_}{f:n_}{r':PR}(j:∀k,w.heap.size<=k->K.T k=(0,0))(q:Aa No w w0)(d:w.heap.size<=rb)(m:rb<w0.heap.size)(l:BQ K.T K'.T w0 g)(s:AY K' g)(h:Aa (At rb) g i)(A:x<65536)(B:y<65536)(v:MC K'.T g K'.kb b f)(u:DU NC NS K')(hR:Rel b K K')(z:K'.ps b=some r')(n:r'.en=false->b∈K'.Ar)(hX:X K' x y f):FX X NC NS b K w (.returned (.agg #[a_ x,a_ y,f])) i:=by
 have a:K'.T rb=(0,0):=(CG.fresh l _ m).trans (j _ d);have c:Aa (On K'.T λt=>t=(0,0)) g i:=h.on λk _ e=>by rw[show k=rb from e];exact a
 exact⟨K',x,y,f,rfl,A,B,v.keep c sJ,s.own h a,u,hR,((BQ.no q j).trans l).own h (λk e=>by rw[show k=rb from e];exact d),⟨r',z,n⟩,hX⟩
theorem AY.boxes (h:AY K w)(hb:K.ps b=some r)(j:Aa No w w')(l:w.heap.size<=x)(m:x<y)(n:y<w'.heap.size)(i:w'.heap[x]?=some (N_ #[ptr K.kb] 33))(g:w'.heap[y]?=some (N_ #[ptr b] 119)):AY {K with T:=Bi (Bi K.T x (9,b)) y (9,b)} w'/\BQ K.T (Bi (Bi K.T x (9,b)) y (9,b)) w w'/\MC (Bi (Bi K.T x (9,b)) y (9,b)) w' K.kb b (.func (.func 196) #[] #[ptr x,ptr y]):=by
 have c:CG K.T (Bi K.T x (9,b)) (λt=>t=(6,b)\/t=(7,b)\/t=(8,b)\/t=(9,b)) (λt=>t=(6,b)\/t=(7,b)\/t=(8,b)\/t=(9,b)) w w':=CG.row j.no h.lt (.inr l) wB (.inr (.inr (.inr rfl)));have d:CG (Bi K.T x (9,b)) (Bi (Bi K.T x (9,b)) y (9,b)) (λt=>t=(6,b)\/t=(7,b)\/t=(8,b)\/t=(9,b)) (λt=>t=(6,b)\/t=(7,b)\/t=(8,b)\/t=(9,b)) w w':=⟨j.no,λk a=>by
   by_cases e:k=y
   .subst e;exact qx (by rw[AV wB];exact h.lt _ wB) a
   .exact AV e,λk i g=>by
   by_cases e:k=y
   .subst e;rw[A7];exact .inr (.inr (.inr rfl))
   .rw[AV e]at g;exact qx i g,λk a=>by rw[AV wB];exact c.lt k a,λk a=>AV wB⟩
 have M:CG K.T (Bi (Bi K.T x (9,b)) y (9,b)) (λt=>t=(6,b)\/t=(7,b)\/t=(8,b)\/t=(9,b)) (λt=>t=(6,b)\/t=(7,b)\/t=(8,b)\/t=(9,b)) w w':=⟨j.no,λk a=>(d.old k (by rw[c.old k a];exact a)).trans (c.old k a),λk i g=>by
   by_cases e:Bi K.T x (9,b) k=(0,0)
   .exact d.new k e g
   .rw[d.old k e];exact c.new k i e,d.lt,λk a=>(d.fresh k a).trans (c.fresh k a)⟩
 have f:CG K.T (Bi (Bi K.T x (9,b)) y (9,b)) (λ_=>False) (λt=>t=(6,b)\/t=(7,b)\/t=(8,b)\/t=(9,b)) w w':=⟨j.no,M.old,M.new,M.lt,M.fresh⟩;have s:=h.lL M ((h.ps b r hb).I7 f id id id id);have e:CY K.ps b r=K.ps:=by funext k;unfold CY;split;rename_i e;rw[e,hb];rfl
 rw[e]at s;exact⟨s,M.Xu (by rintro t (rfl|rfl|rfl|rfl)<;>simp),.inr (.inl ⟨x,y,rfl,i,g,(AV wB).trans A7,A7⟩)⟩
theorem bw1 (h:Value.pointer none=VJ o):o=none:=by cases o<;>simp[VJ,ptr]at h ⊢
theorem bg0 (h:ptr b=VJ o):o=some b:=by
 cases o<;>simp[VJ,ptr]at h ⊢;exact h.symm
def dJ (K:KS)(b:Nat)(r:PR)(at_:Nat):KS->Nat->Nat->n_->Prop:=λK' x y f=>(¬at_+1<=r.Af.length/\GY K 1 K' x y f)\/(at_+1<=r.Af.length/\((¬K.parent r.pid/\GY K 3 K' x y f)\/(K.parent r.pid/\((K.PS r.pid=none/\x=0/\y=0/\(∃g h,f=.func (.func 196) #[] #[ptr g,ptr h])/\∃T,K'={K with T:=T})\/∃c rc,K.PS r.pid=some c/\K.ps c=some rc/\x=rc.pid/\y=0/\f=.nilFunc/\K'=((K.Bj b {r with Af:=r.Af.set at_ rc.st}).Bj c {rc with par:=0}).PV))))
section
variable (m:Nat)(w:o_)
theorem az1 (K:KS)(NC NS b at_:Nat)(r:PR)(h:AY K w)(hO:DU NC NS K)(hm:b∈K.Ar)(hb:K.ps b=some r)(hn:r.en=false)(hat:at_<65536):
  O_ m 143 #[Q_ K.kb,Q_ b,a_ (at_:Nat)] w (FX (dJ K b r at_) NC NS b K w):=by
 have o:=hO.pr b r hb;have hL:=(hO.co.pl b r hb).1;have hl12:=hO.len;have N:Aa No w (((w.alloc (.cells #[Q_ K.kb] 33)).alloc (.cells #[Q_ b] 119)).alloc V_):=(((Aa.refl _ _).alloc _).alloc _).alloc _;have s1:=J6 w (.cells #[Q_ K.kb] 33);have s2:((w.alloc (.cells #[Q_ K.kb] 33)).alloc (.cells #[Q_ b] 119)).heap.size=w.heap.size+2:=by rw[J6,J6]
 have rb:(((w.alloc (.cells #[Q_ K.kb] 33)).alloc (.cells #[Q_ b] 119)).alloc V_).heap[w.heap.size+2]?=some (N_ #[a_ 0,a_ 0,.nilFunc] 206):=by
  have:=Yw (w:=(w.alloc (.cells #[Q_ K.kb] 33)).alloc (.cells #[Q_ b] 119)) (o:=V_) rfl
  rwa [s2]at this
 have bx:(((w.alloc (.cells #[Q_ K.kb] 33)).alloc (.cells #[Q_ b] 119)).alloc V_).heap[w.heap.size]?=some (N_ #[Q_ K.kb] 33):=(((Aa.refl No _).alloc _).alloc _).old (Yw (w:=w) (o:=(.cells #[Q_ K.kb] 33)) rfl) id;have O:(((w.alloc (.cells #[Q_ K.kb] 33)).alloc (.cells #[Q_ b] 119)).alloc V_).heap[w.heap.size+1]?=some (N_ #[Q_ b] 119):=by
  have:=Yw (w:=w.alloc (.cells #[Q_ K.kb] 33)) (o:=(.cells #[Q_ b] 119)) rfl
  rw[s1]at this
  exact((Aa.refl No _).alloc _).old this id
 have cx:(((w.alloc (.cells #[Q_ K.kb] 33)).alloc (.cells #[Q_ b] 119)).alloc V_).cell? (R_ w.heap.size)=some (Q_ K.kb):=(Ai bx 0).trans rfl;have cy:(((w.alloc (.cells #[Q_ K.kb] 33)).alloc (.cells #[Q_ b] 119)).alloc V_).cell? (R_ (w.heap.size+1))=some (Q_ b):=(Ai O 0).trans rfl;have W:w.heap.size+2<(((w.alloc (.cells #[Q_ K.kb] 33)).alloc (.cells #[Q_ b] 119)).alloc V_).heap.size:=Dt rb;have l:=h.no N;have Hl:K.T (w.heap.size+2)=(0,0):=h.lt _ wB;obtain⟨D,ci,q8,hRi,V,R⟩:=l.lh hb hn;have WE:=hRi.le;have cp:=λm w1 (hK:Aa No (((w.alloc (.cells #[Q_ K.kb] 33)).alloc (.cells #[Q_ b] 119)).alloc V_) w1)=>qH m w1 K b r (l.no hK) hO.th hb wB
 have ce:=λm w1 (hK:Aa No (((w.alloc (.cells #[Q_ K.kb] 33)).alloc (.cells #[Q_ b] 119)).alloc V_) w1)=>oG m w1 K b r (l.no hK) hO.th hb wB
 clear s1 s2;by_cases L:at_+1<=r.Af.length
 .have Y:=λm=>Gq b D ci r.Af.length 1 at_ m (((w.alloc (.cells #[Q_ K.kb] 33)).alloc (.cells #[Q_ b] 119)).alloc V_) q8 wB hat hL WE L
  gi_enter func143,ntmps143;gi_wp2_with (first|(gi_at_call 138;refine(Y _).mono ?_;rintro e w1 ⟨rfl,G⟩;have G:=G.symm;subst G)|(gi_at_call 194;refine(cp _ _ (Aa.refl No _)).mono ?_;rintro e w2 ⟨u,z,rfl,hz⟩;have Z:=u.has cx;have cy2:=u.has cy;cases z))
  .generalize I:((w.alloc (.cells #[Q_ K.kb] 33)).alloc (.cells #[Q_ b] 119)).alloc V_=S at*;gi_wp2_with (first|(gi_at_call 140;refine(Uy 3 (u.old rb id) _).mono ?_;rintro e wz ⟨rfl,g,U,p,d,s⟩)|refine Fa p ?_);refine T_ 0 3 (by simp[results,results143,go_sem,FU s]) rfl ?_;exact Wh (K':=K) (x:=0) (y:=3) h.lt N (Nat.le_add_right _ 2) W (((BQ.no u l.lt)).then g) ((l.no u).no g) d wB wB (.inl rfl) (hO) (Rel.refl b K) hb (λ_=>hm) (.inr ⟨L,.inl ⟨λhh=>by have:=hz.out.2 hh;simp at this,GY.of⟩⟩)
  .gi_wp2_with (first|(gi_at_call 195;refine(ce _ _ u).mono ?_;rintro e w3 ⟨K3,v,rfl,hv,n⟩;replace n:Yp _:=n;have KK:=u.then K3;have E:=l.no KK;obtain⟨U,p,d,s⟩:=Az (x:=0) (y:=0) (f:=.func (.func 196) #[] #[Q_ w.heap.size,Q_ (w.heap.size+1)]) (KK.old rb id) rfl;obtain rfl|⟨c,rc,rfl,hcm,a,Q⟩:=hv)|refine Fa p ?_)
   .generalize I:((w.alloc (.cells #[Q_ K.kb] 33)).alloc (.cells #[Q_ b] 119)).alloc V_=S at*;have n9:w.heap.size<w3.heap.size:=(by have:=KK.size;omega);obtain⟨hB,MB,PQ⟩:=h.boxes (x:=w.heap.size) (y:=w.heap.size+1) hb (N.then KK) w_ wB (by have:=KK.size;omega) (KK.old bx id) (KK.old O id);have tg:(Bi (Bi K.T w.heap.size (9,b)) (w.heap.size+1) (9,b)) (w.heap.size+2)=(0,0):=(by rw[AV wB,AV wB];exact Hl);obtain⟨Td,IU⟩:=hO.fds (K1:={K with T:=Bi (Bi K.T w.heap.size (9,b)) (w.heap.size+1) (9,b)}) (r':=r) (H:=BR K.ps K.Ar) ⟨rfl⟩ hm hb rfl rfl rfl rfl rfl o ⟨hO.Ei.ho,hO.Ei.le,hO.Ei.op,hO.Ei.nd,hO.Ei.nz,hO.Ei.nm,hO.Ei.dj⟩ λi _=>rfl
    rw[FD (K:={K with T:=Bi (Bi K.T w.heap.size (9,b)) (w.heap.size+1) (9,b)}) hb]at Td IU;refine bodyPost_ret (v:=.agg #[a_ 0,a_ 0,.func (.func 196) #[] #[Q_ w.heap.size,Q_ (w.heap.size+1)]]) (by simp[results,results143,go_sem,FU s]) rfl ?_;have K9:Aa (On (Bi (Bi K.T w.heap.size (9,b)) (w.heap.size+1) (9,b)) λt=>t=(0,0)) w3 U:=d.on λk _ e=>by rw[show k=w.heap.size+2 from e];exact tg
    exact⟨{K with T:=Bi (Bi K.T w.heap.size (9,b)) (w.heap.size+1) (9,b)},0,0,_,rfl,wB,wB,PQ.keep K9 sJ,hB.own d tg,Td,IU,MB.own d (λk e=>by rw[show k=w.heap.size+2 from e];omega),⟨r,hb,λ_=>hm⟩,.inr ⟨L,.inr ⟨hz.out.1 sJ,.inl ⟨bw1 n.out,rfl,rfl,⟨_,_,rfl⟩,_,rfl⟩⟩⟩⟩
   .clear p d s;have e3:=E.Iu a 3;have e1:=E.Iu a 1;have e0:=E.Iu a 0;simp[PR.arr]at e3 e1 e0;have z1:=E.lF a 1;obtain⟨g3,c3,_,iw,tg3,cy9⟩:=E.lh hb hn;have egi:D=g3/\ci=c3:=(by have:=R.symm.trans cy9;simpa using this);obtain⟨rfl,rfl⟩:=egi;have zi:=iw.fz at_;have qi:=iw.cell (i:=at_) wB;obtain⟨xi,hxi⟩:∃v,(Aw r.Af)[at_]?=some v:=⟨_,JM (by simp[Aw];omega)⟩;have qi:=qi.trans hxi;have cx3:=K3.has Z;have J:=(E.ps c rc a).t;have n1:¬D=c:=(λe=>by rw[e,J]at V;simp at V);have n1':¬c=D:=(λe=>n1 e.symm);have n2:¬D=w.heap.size:=(λe=>by rw[e,h.lt _ w_]at V;simp at V);have n2':¬w.heap.size=D:=(λe=>n2 e.symm);have n3:¬c=w.heap.size:=(λe=>by rw[e,h.lt _ w_]at J;simp at J);have n3':¬w.heap.size=c:=(λe=>n3 e.symm);have C:c≠b:=(λe=>by rw[e,hb]at a;cases a;rw[hn]at Q;cases Q);obtain⟨h4,M4⟩:=E.XZ (i:=at_) (x:=rc.st) hb hn R;have j:(K.Bj b {r with Af:=r.Af.set at_ rc.st}).ps c=some rc:=(BB C).trans a;have h5:=h4.GR (r':={rc with par:=0}) (i:=1) (v:=b_ 0) j ⟨rfl,rfl,rfl,rfl,rfl⟩ rfl (h4.ps c rc j).bl;have M5:=h4.EG j (i:=1) (v:=b_ 0);obtain⟨hO4,hR4⟩:=hO.fds (r':={r with Af:=r.Af.set at_ rc.st}) (dQ.refl K) hm hb rfl rfl rfl rfl sJ ⟨o.A,o.B,o.P,o.st,o.pid,o.par,(λx hx=>by obtain hx|rfl:=List.mem_or_eq_of_mem_set hx;exact o.Af x hx;exact(hO.pr c rc a).st),o.fds,o.fd,(λe=>by simp only[List.length_set];exact o.len e),(λe=>qx e (by simp[hn]))⟩ hO.Ei (λi _=>rfl);have hF:=Nz.set j 0;have F:=hO4.ax9 hF (λk q M=>by
     have M:CY _ c _ k=some q:=M
     by_cases e:k=c
     .subst e;rw[Ag]at M;cases M;exact .inr sJ
     .rw[BB e]at M;exact .inl M)
    have X:=λm=>Ω m _ _ h5 F.th (lN F.len wB)
    have dh2:rc.pid<=60000:=(hO.pr c rc a).pid;simp only[ptr];generalize I:((w.alloc (.cells #[Q_ K.kb] 33)).alloc (.cells #[Q_ b] 119)).alloc V_=S at*;gi_wp2_with (gi_at_call 158;refine(X _).mono ?_;rintro e w6 ⟨rfl,h6,M6⟩;have e06:=h6.Iu (b:=c) (r:={rc with par:=0}) Ag 0;simp[PR.arr]at e06);have yN:BQ K.T K.T S w6:=(((BQ.no KK l.lt).trans M4).trans M5).trans M6;have hbB:((K.Bj b {r with Af:=r.Af.set at_ rc.st}).Bj c {rc with par:=0}).PV.ps b=some {r with Af:=r.Af.set at_ rc.st}:=(BB C.symm).trans Ag;gi_wp2_with (first|(gi_at_call 152;refine(Eg _ _ rc.pid wB).mono ?_;rintro e wz ⟨rfl,g⟩;obtain⟨U,p,d,s⟩:=Az (x:=rc.pid) (y:=0) (f:=.nilFunc) (g.old (yN.old rb Hl) id) rfl)|refine Fa p ?_);refine T_ rc.pid 0 (by simp[results,results143,go_sem,FU s]) rfl ?_;exact Wh (K':=((K.Bj b {r with Af:=r.Af.set at_ rc.st}).Bj c {rc with par:=0}).PV) (x:=rc.pid) (y:=0) h.lt N (Nat.le_add_right _ 2) W ((yN).then g) ((h6).no g) d wB wB (.inl rfl) (F.PV) ((hR4.trans (hF.rel b) (by rw[hb];simp) hO.th).trans (nM _ b) (by rw[hb];simp) hO.th) hbB (λ_=>List.mem_filter.2 ⟨hm,by simp[QH,KS.Bj,BB C.symm,Ag,hn]⟩) (.inr ⟨L,.inr ⟨hz.out.1 sJ,.inr ⟨c,rc,bg0 n.out,a,rfl,rfl,rfl,rfl⟩⟩⟩)
 .have Y:=λm=>IJ b D ci r.Af.length 1 at_ m (((w.alloc (.cells #[Q_ K.kb] 33)).alloc (.cells #[Q_ b] 119)).alloc V_) q8 wB wB hat L
  gi_enter func143,ntmps143;gi_wp2_with (gi_at_call 138;refine(Y _).mono ?_;rintro e w1 ⟨rfl,G⟩;have G:=G.symm;subst G);generalize I:((w.alloc (.cells #[Q_ K.kb] 33)).alloc (.cells #[Q_ b] 119)).alloc V_=S at*;gi_wp2_with (first|(gi_at_call 140;refine(Uy 1 rb _).mono ?_;rintro e wz ⟨rfl,g,U,p,d,s⟩)|refine Fa p ?_);refine T_ 0 1 (by simp[results,results143,go_sem,FU s]) rfl ?_;exact Wh (K':=K) (x:=0) (y:=1) h.lt N (Nat.le_add_right _ 2) W (((BQ.no (Aa.refl No _) l.lt)).then g) ((l).no g) d wB wB (.inl rfl) (hO) (Rel.refl b K) hb (λ_=>hm) (.inl ⟨L,GY.of⟩)
end
def Ti (T:Tag)(p gi gf:Nat):Tag:=Bi (Bi (Bi T p (6,p)) gi (7,p)) gf (8,p)
theorem AY.cw1 {gi gf ci cf:Nat}(h:AY K w)(v:Aa No w w')(F:w.heap.size<=p)(E:w.heap.size<=gi)(lf:w.heap.size<=gf)(u:p≠gi)(s:p≠gf)(q:gi≠gf)(A:w'.heap[p]?=some r.obj)(D:r.en=false)(B:r.bl=.nilFunc)(hi:r.im=P_ gi r.Af.length ci)(C:r.fd=P_ gf r.fds.length cf)(n:Rw 123 1 w' gi r.Af.length ci (Aw r.Af))(m:Rw 3 1 w' gf r.fds.length cf (FW r.fds)):AY {K with ps:=CY K.ps p r,T:=Ti K.T p gi gf} w'/\BQ K.T (Ti K.T p gi gf) w w':=by
 have val:∀k,Ti K.T p gi gf k=if k=gf then(8,p)else if k=gi then(7,p)else if k=p then(6,p)else K.T k:=λk=>rfl
 have i:=Dt A;have j:=n.lt;have l:=m.lt;have z:∀k,w.heap.size<=k->K.T k=(0,0):=h.lt;have M:CG K.T (Ti K.T p gi gf) (λt=>t=(6,p)\/t=(7,p)\/t=(8,p)\/t=(9,p)) (λt=>t=(6,p)\/t=(7,p)\/t=(8,p)\/t=(9,p)) w w':=by
  refine⟨v.no,λk d=>?_,λk g f=>?_,λk d=>?_,λk d=>?_⟩
  .rw[val,ru (by rintro rfl;exact d (z _ lf)),ru (by rintro rfl;exact d (z _ E)),ru (by rintro rfl;exact d (z _ F))]
  .rw[val]at f ⊢;split
   .exact .inr (.inr (.inl rfl))
   .split
    .exact .inr (.inl rfl)
    .split
     .exact .inl rfl
     .rename_i a b c;rw[ru a,ru b,ru c]at f;exact qx g f
  .rw[val,ru wB,ru wB,ru wB];exact z k (lN v.size d)
  .rw[val,ru wB,ru wB,ru wB]
 refine⟨h.lL M ⟨?_,A,λ_=>⟨gi,ci,hi,n,?_⟩,λ_=>⟨gf,cf,C,m,?_⟩,by rw[B];exact .inl rfl,λe=>qx e (by simp[D])⟩,M.Xu (by rintro t (rfl|rfl|rfl|rfl)<;>simp)⟩
 .rw[val,ru s,ru u,rW rfl]
 .rw[val,ru q,rW rfl]
 .rw[val,rW rfl]
theorem AY.bj9 (h:AY {K with ps:=CY K.ps p r} w)(m:K.ps p=none):AY K w:=by
 obtain⟨⟨d,k1,k2⟩,f,g,pr,ps,c,j,i,l,k,lt,a⟩:=h;refine⟨⟨d,k1,k2.ps K.ps⟩,f,g,pr,λb q e=>ps b q ?_,c,j,i,l,k,lt,a⟩;show CY K.ps p r b=some q;rw[BB (by rintro rfl;rw[m]at e;cases e)];exact e
theorem co1 {T:Tag}{g c n z c2:Nat}{l:List Nat}{ty:j_}(hR:Rw 119 1 w g n c (Ce l))(D:n=l.length)(hb:w.cell? (R_ z)=some (ptr b))(C:n<=1000)(B:T g=(4,0)):∃g' A W,(Builtin.append_ #[100,100] ty #[P_ g n c,P_ z 1 c2]).run prog w=.ok (P_ g' (n+1) A) W/\Rw 119 1 W g' (n+1) A (Ce (l++[b]))/\(T g'=(4,0)\/w.heap.size<=g')/\Aa (On T λt=>t=(4,0)) w W:=by
 have s:∀j u,(Ce [b])[j]?=some u->w.cell? (((R_ z):f_).add j)=some u:=λj u a=>by
  match j,a with
  |0,a=>
   simp[Ce]at a;subst a
   have o:((R_ z):f_).add 0=(R_ z):=by unfold Addr.add;split<;>simp_all
   rw[o];exact hb
 have q:∀u∈Ce [b],u.oneCell'=true:=λu h=>by simp[Ce]at h;subst h;rfl
 have p:Ce (l++[b])=Ce l++Ce [b]:=by simp[Ce]
 obtain⟨g',i,v,r,k,f⟩:=yX (ty:=ty) (sCap:=c2) (m:=1) bp3 hR (ys:=Ce [b]) rfl s q wB wB;refine⟨g',i,v,r,by rw[p];exact k,?_,?_⟩
 .obtain⟨rfl,_⟩|⟨rfl,_⟩:=f
  .exact .inl B
  .exact .inr w_
 .obtain⟨rfl,d⟩|⟨rfl,d⟩:=f
  .exact d.on λx _ e=>by subst e;exact B
  .exact d.no
def ν (K:KS)(p:Nat)(r:PR)(w:o_)(e:Ending)(w':o_):Prop:=(e=.returned (.bool false)/\AY K w'/\BQ K.T K.T w w'/\(Aq K.swap (Aj r.Af.length)).1=none)\/∃a g c T',e=.returned (.bool true)/\(Aq K.swap (Aj r.Af.length)).1=some a/\AY {K with swap:=(Aq K.swap (Aj r.Af.length)).2,BG:=K.BG+1,Ar:=K.Ar++[p],pg:=g,pc:=c,ps:=CY K.ps p {r with pid:=K.BG+1,sw:=a,co:=-1},T:=T' } w'/\BQ K.T T' w w'
def bp9 (K:KS)(n:Nat)(w1:o_)(v:n_)(W:o_):Prop:=v=.tuple #[tA (Aq K.swap n).1,tB (Aq K.swap n).1]/\AY {K with swap:=(Aq K.swap n).2} W/\BQ K.T K.T w1 W
section
variable (m:Nat)(w:o_)
theorem bn0 (K:KS)(p NS:Nat)(r:PR)(h:AY K w)(hp:K.ps p=some r)(hL:r.Af.length<=128)(hF:Fit NS K.swap)(hNS:NS<=1000)(zg:K.BG<=100000)(hl:K.Ar.length<=100):
  O_ m 46 #[Q_ K.kb,Q_ p] w (ν K p r w):=by
 obtain⟨a8,c8,q8⟩:=h.im8 hp;have h0:AY K w.drew:=h.no (Aa.refl No w).drew;have bk:p≠K.kb:=λe=>by have:=(h.ps p r hp).t;rw[e,h.tk]at this;simp at this
 have bc:p≠K.sg:=λe=>by have:=(h.ps p r hp).t;rw[e,h.ts]at this;simp at this
 gi_enter func46,ntmps46;gi_wp2;refine Dx (P:=prog) _ rfl rfl sU 10 49 [0,1,2,3,4] [5,6,7,8,9] sU (by rfl)
  (Oi (yQ K.kb K.sg) w.drew 5 (bp9 K (Aj r.Af.length) w.drew) [(6,.tuple #[tA (Aq K.swap (Aj r.Af.length)).1,tB (Aq K.swap (Aj r.Af.length)).1]),(7,tA (Aq K.swap (Aj r.Af.length)).1),(8,tB (Aq K.swap (Aj r.Af.length)).1),(9,tA (Aq K.swap (Aj r.Af.length)).1)]) (Gj sJ sJ) _ _ rfl rfl ?_;gi_wp2_with (gi_at_call 58;refine(Fe _ w.drew p _ _ _ q8 wB).mono ?_;rintro e w1 ⟨rfl,rfl⟩);refine⟨rfl,sU,Et,?_,?_,?_⟩
 .intro L' u W hI;have d8:=(hI.1.cell (w:=w.drew) (p:=(S_ p 8)) (h.plt hp) (by rintro(h|h)<;>contradiction)).trans q8
  repeat' (refine AA ?_ ?_)
  all_goals first|exact dE|gi_wp2_with (gi_at_call 58;refine(Fe _ W p _ _ _ d8 wB).mono ?_;rintro e w1 ⟨rfl,rfl⟩)
 .intro i hi L' u W hI X R;obtain rfl|rfl|rfl|rfl|rfl:=(by simpa using hi:i=5\/i=6\/i=7\/i=8\/i=9)
  .obtain rfl:=hI.2.1 X;refine BI rfl λKK Ol=>?_
   show wpListIn NF m prog _ _ _ (Act.put (Act.put (Act.put (Act.put (Act.put _ (some 13) (u 5)) (some 7) (u 6)) (some 14) (u 7)) (some 15) (u 8)) (some 5) (u 9)) _;gi_wp2_with fail;refine(aj1 _ w.drew K (Aj r.Af.length) NS h0 hF wB (by unfold Aj;omega)).mono ?_;rintro e w1 ⟨rfl,b,J,K1⟩;rw[U9];gi_wp2;exact⟨_,rfl,Gl hI sJ K1 ⟨rfl,b,J⟩⟩
  .have M:=(hI.2.2.1 (R 5 sJ sN)).1;exact mg rfl rfl rfl ⟨_,rfl,FY hI sN M sJ⟩
  .have y:=hI.2.2.2 (6,.tuple #[tA (Aq K.swap (Aj r.Af.length)).1,tB (Aq K.swap (Aj r.Af.length)).1]) sJ (R 6 sJ sN);exact Tj rfl rfl rfl y rfl ⟨_,rfl,Gs hI sN sJ⟩
  .have y:=hI.2.2.2 (6,.tuple #[tA (Aq K.swap (Aj r.Af.length)).1,tB (Aq K.swap (Aj r.Af.length)).1]) sJ (R 6 sJ sN);exact Tj rfl rfl rfl y rfl ⟨_,rfl,Gs hI sN sJ⟩
  .have D:=hI.2.2.2 (7,tA (Aq K.swap (Aj r.Af.length)).1) sJ (R 7 sJ sN);exact mi rfl rfl rfl ⟨_,rfl,FY hI sN D sJ⟩
 .intro L' u W hI d;obtain⟨M,b,J⟩:=hI.2.2.1 (d 5 sJ);have U:=hI.2.2.2 (8,tB (Aq K.swap (Aj r.Af.length)).1) sJ (d 8 sJ);have V:=hI.2.2.2 (9,tA (Aq K.swap (Aj r.Af.length)).1) sJ (d 9 sJ);have y:=hI.2.2.2 (6,.tuple #[tA (Aq K.swap (Aj r.Af.length)).1,tB (Aq K.swap (Aj r.Af.length)).1]) sJ (d 6 sJ);have D:=hI.2.2.2 (7,tA (Aq K.swap (Aj r.Af.length)).1) sJ (d 7 sJ);simp only at y D U V;show wpListIn NF m prog _ _ _ (Act.put (Act.put (Act.put (Act.put (Act.put _ (some 13) (u 5)) (some 7) (u 6)) (some 14) (u 7)) (some 15) (u 8)) (some 5) (u 9)) _;rw[M,y,D,U,V];have MW:BQ K.T K.T w W:=(BQ.no (Aa.refl No w).drew h.lt).trans J;have f:(Aq K.swap (Aj r.Af.length)).1=none->(Aq K.swap (Aj r.Af.length)).2=K.swap:=by
   intro e
   unfold Aq at e ⊢
   split
   .rfl
   .rename_i hh;rw[ru hh]at e;cases hx:K.swap.findIdx? (λr_1=>decide (Aj r.Af.length<=r_1.2))with
    |none=>rfl
    |some i=>rw[hx]at e;simp only at e ⊢;cases hy:K.swap[i]? with
     |none=>rfl
     |some q=>rw[hy]at e;simp at e
  clear hI M y D U V d J;generalize hsw:(Aq K.swap (Aj r.Af.length)).2=l' at*;cases ho:(Aq K.swap (Aj r.Af.length)).1 with
  |none=>
   have hl':=f ho
   simp only[tA,tB,Option.getD_none,Option.isSome_none]
   gi_wp2
   go_ret
   rw[hl']at b
   exact .inl ⟨sJ,b,MW,ho⟩
  |some a=>
   clear f
   simp only[tA,tB,Option.getD_some,Option.isSome_some]
   obtain⟨ks,Q,hC⟩:=b.k
   have c3:=(Ai Q 3).trans hC.c3
   have z3:=Cf Q 3
   have S:CG K.T K.T (λt=>t=(1,0)\/t=(4,0)) (λt=>t=(4,0)) W (W.setCell (S_ K.kb 3) (b_ ((K.BG+1:Nat):Int))):=CG.of ((Aa.refl _ _).setCell _ λ_=>.inl b.tk) b.lt
   have Kk3:Aa (At K.kb) W (W.setCell (S_ K.kb 3) (b_ ((K.BG+1:Nat):Int))):=(Aa.refl _ _).setCell _ λ_=>rfl
   have hpg:K.kb≠K.pg:=λe=>by have:=b.tk;simp only at this;rw[e]at this;rw[show K.T K.pg=(4,0)from b.tp]at this;simp at this
   have j:AY {K with swap:=l',BG:=K.BG+1} _:=b.Y0 (BG:=K.BG+1) (g:=K.pg) (c:=K.pc) (l:=K.Ar) S hC (Ap Q _) (QW (by rw[HY wB];exact hC.c2)).symm (Rw.keep b.pr Kk3 (λe=>hpg e.symm)) b.tp
   push_cast at j S
   have p2:({K with swap:=l',BG:=K.BG+1}:KS).ps p=some r:=hp
   have N:=j.GR (r':={r with pid:=K.BG+1}) (i:=0) (v:=b_ ((K.BG:Int)+1)) p2 ⟨rfl,rfl,rfl,rfl,rfl⟩ rfl (j.ps p r p2).bl
   have N3:=j.EG p2 (i:=0) (v:=b_ ((K.BG:Int)+1))
   have O:=N.GR (r':={r with pid:=K.BG+1,sw:=a}) (i:=10) (v:=b_ (a:Nat)) Ag ⟨rfl,rfl,rfl,rfl,rfl⟩ rfl (N.ps p _ Ag).bl
   have N4:=N.EG Ag (i:=10) (v:=b_ (a:Nat))
   have A:=O.GR (r':={r with pid:=K.BG+1,sw:=a,co:=-1}) (i:=11) (v:=b_ (-1)) Ag ⟨rfl,rfl,rfl,rfl,rfl⟩ rfl (O.ps p _ Ag).bl
   have N5:=O.EG Ag (i:=11) (v:=b_ (-1))
   simp only[U7]at N O A
   have q0:=j.Iu p2 0
   have q10:=j.Iu p2 10
   have q11:=j.Iu p2 11
   simp[PR.arr]at q0 q10 q11
   have y0:=j.lF p2 0
   have y10:=j.lF p2 10
   have y11:=j.lF p2 11
   have I:((((W.setCell (S_ K.kb 3) (b_ ((K.BG:Int)+1))).setCell (R_ p) (b_ ((K.BG:Int)+1))).setCell (S_ p 10) (b_ (a:Nat))).setCell (S_ p 11) (b_ (-1))).heap.size=W.heap.size:=sJ
   obtain⟨ks5,H,n⟩:=A.k
   have d2:=(Ai H 2).trans n.c2
   have hN:BQ K.T K.T W ((((W.setCell (S_ K.kb 3) (b_ ((K.BG:Int)+1))).setCell (R_ p) (b_ ((K.BG:Int)+1))).setCell (S_ p 10) (b_ (a:Nat))).setCell (S_ p 11) (b_ (-1))):=(((S.Xu (by rintro t (rfl|rfl)<;>simp)).trans N3).trans N4).trans N5
   have B:Aa No ((((W.setCell (S_ K.kb 3) (b_ ((K.BG:Int)+1))).setCell (R_ p) (b_ ((K.BG:Int)+1))).setCell (S_ p 10) (b_ (a:Nat))).setCell (S_ p 11) (b_ (-1))) (((((W.setCell (S_ K.kb 3) (b_ ((K.BG:Int)+1))).setCell (R_ p) (b_ ((K.BG:Int)+1))).setCell (S_ p 10) (b_ (a:Nat))).setCell (S_ p 11) (b_ (-1))).alloc (.cells #[Q_ p] 119)):=(Aa.refl _ _).alloc _
   have bv:(((((W.setCell (S_ K.kb 3) (b_ ((K.BG:Int)+1))).setCell (R_ p) (b_ ((K.BG:Int)+1))).setCell (S_ p 10) (b_ (a:Nat))).setCell (S_ p 11) (b_ (-1))).alloc (.cells #[Q_ p] 119)).cell? (R_ W.heap.size)=some (ptr p):=by
    have:=Yw (w:=(((W.setCell (S_ K.kb 3) (b_ ((K.BG:Int)+1))).setCell (R_ p) (b_ ((K.BG:Int)+1))).setCell (S_ p 10) (b_ (a:Nat))).setCell (S_ p 11) (b_ (-1))) (o:=.cells #[Q_ p] 119) rfl
    rw[I]at this
    exact(Ai this 0).trans rfl
   obtain⟨s,C,L,Jm,hRa,G,E⟩:=co1 (T:=K.T) (ty:=100) (c2:=1) (l:=K.Ar) (Rw.keep A.pr B id) rfl bv (by show K.Ar.length<=1000;omega) A.tp
   have z:=E.old (B.old H id) (by unfold On;rw[show K.T K.kb=(1,0)from b.tk];simp)
   have ca:=(Ai z 2).trans n.c2
   have za:=Cf z 2
   gi_wp2_with (refine Dl rfl (.tmp 43) (.tmp 45) _ rfl rfl rfl Jm ?_)
   go_ret
   have Z:s≠K.kb:=λe=>by
    obtain Y|Y:=G
    .rw[e,show K.T K.kb=(1,0)from b.tk]at Y;simp at Y
    .have:=Dt Q;have:=B.size;rw[I]at this;omega
   have KF:Aa (On K.T λt=>t=(1,0)\/t=(4,0)) ((((W.setCell (S_ K.kb 3) (b_ ((K.BG:Int)+1))).setCell (R_ p) (b_ ((K.BG:Int)+1))).setCell (S_ p 10) (b_ (a:Nat))).setCell (S_ p 11) (b_ (-1))) (L.setCell (S_ K.kb 2) (P_ s (K.Ar.length+1) C)):=(B.no.then (E.on λk _ e=>.inr e)).setCell _ λ_=>.inl b.tk
   have F:Aa (At K.kb) L (L.setCell (S_ K.kb 2) (P_ s (K.Ar.length+1) C)):=(Aa.refl _ _).setCell _ λ_=>rfl
   have MF:CG K.T (Bi K.T s (4,0)) (λt=>t=(1,0)\/t=(4,0)) (λt=>t=(4,0)) _ (L.setCell (S_ K.kb 2) (P_ s (K.Ar.length+1) C)):=CG.row KF A.lt (G.imp id λx=>lN B.size x) (Nat.lt_of_lt_of_le hRa.lt F.size) rfl;have el:(K.Ar++[p]).length=K.Ar.length+1:=sJ;have h9:=A.Y0 (BG:=K.BG+1) (g:=s) (c:=C) (l:=K.Ar++[p]) MF n (Ap z _) (by rw[QW n.c3,el]) (by rw[el];exact hRa.keep F Z) A7;exact .inr ⟨a,s,C,Bi K.T s (4,0),sJ,ho,by rw[hsw];exact h9,(MW.trans hN).trans (MF.Xu (by rintro t (rfl|rfl)<;>simp))⟩
end
theorem an6 {f:Nat->Nat}:BP f [b]=f b:=by simp[BP]
theorem DU.born {K1:KS}{q:PR}(h:DU NC NS K)(N:K.ps p=none)(U:K.Ar.length<12)(S:K.BG<60000)(Q:q.Ok)(P:q.pid=K.BG+1)(O:q.co=-1)(hL:q.Af.length<=128)(M:(Aq K.swap (Aj q.Af.length)).1=some q.sw)(R:EP (λi=>BR K.ps K.Ar i+q.fds.count (i:Int)) K1)(L:K1={K with swap:=(Aq K.swap (Aj q.Af.length)).2,BG:=K.BG+1,Ar:=K.Ar++[p],ps:=CY K.ps p q,pg:=K1.pg,pc:=K1.pc,T:=K1.T,desc:=K1.desc}):DU NC NS K1/\Rel b K K1:=by
 have e1:K1.ps=CY K.ps p q:=by rw[L]
 have e2:K1.Ar=K.Ar++[p]:=by rw[L]
 have e3:K1.swap=(Aq K.swap (Aj q.Af.length)).2:=by rw[L]
 have e4:K1.BG=K.BG+1:=by rw[L]
 have w:K1.core=K.core:=by rw[L]
 have x:K1.kb=K.kb:=by rw[L]
 have o:p ∉ K.Ar:=λB=>by obtain⟨r,j⟩:=h.th p B;rw[N]at j;cases j
 have s:∀k∈K.Ar,k≠p:=λk c e=>o (e ▸ c)
 have m:∀k r,K.ps k=some r->K1.ps k=some r:=λk r c=>by rw[e1,BB (by rintro rfl;rw[N]at c;cases c)];exact c
 have new:K1.ps p=some q:=by rw[e1];exact Ag
 have d:∀k r,K1.ps k=some r->(k=p/\r=q)\/(k≠p/\K.ps k=some r):=λk r c=>by
  rw[e1]at c
  by_cases e:k=p
  .subst e;rw[Ag]at c;cases c;exact .inl ⟨rfl,rfl⟩
  .rw[BB e]at c;exact .inr ⟨e,c⟩
 have l:∀f g:Nat->Nat,(∀k,k≠p->f k=g k)->BP f K1.Ar=BP g K.Ar+f p:=λf g A=>by
  rw[e2,QV,an6,BU λk c=>A k (s k c)]
 obtain⟨E,_,F⟩:=Jk (n:=Aj q.Af.length) h.sw.so;obtain⟨I,D,J⟩:=F _ M;have v:K1.ED:=λk c=>by
  rw[e2]at c
  obtain c|c:=eF.1 c
  .obtain⟨r,j⟩:=h.th k c;exact⟨r,m k r j⟩
  .obtain rfl:k=p:=(by simpa using c);exact⟨q,new⟩
 refine⟨⟨v,?_,by rw[e2];simp;omega,h.co.same w (λi=>?_) λk r c=>?_,⟨h.sw.le,by rw[e3];exact E,by rw[e3];exact YW h.sw.srt,Nat.zero_le _,λi hi=>?_,λk r c=>?_⟩,λk r c=>?_,λk r c=>?_,?_,by rw[e4];omega,R.congr λi _=>?_⟩,⟨λk r y z _=>.inl ⟨by rw[e2];simp[y],r,m k r z,.refl r⟩,λk c=>?_,λk c=>?_,λr j=>⟨r,m b r j,rfl⟩,by rw[e4];omega,x,λ_=>v⟩⟩
 .rw[e2,List.nodup_append];exact⟨h.nd,sJ,λa M b hb=>by obtain rfl:b=p:=(by simpa using hb);exact s a M⟩
 .rw[l (Gf i K1.ps) (Gf i K.ps) (λk c=>by unfold Gf;rw[e1,BB c]),Es new,rW O];rfl
 .obtain⟨rfl,rfl⟩|⟨_,c⟩:=d k r c
  .exact⟨hL,.inl O⟩
  .exact h.co.pl k r c
 .rw[l (Nw i K1.ps) (Nw i K.ps) (λk c=>by unfold Nw;rw[e1,BB c]),Jh new,e3];have G:=h.sw.cnt i hi;have c2:=RQ M i;omega
 .obtain⟨rfl,rfl⟩|⟨_,c⟩:=d k r c
  .exact D
  .exact h.sw.pl k r c
 .obtain⟨rfl,rfl⟩|⟨_,c⟩:=d k r c
  .exact Q
  .exact h.pr k r c
 .obtain⟨rfl,rfl⟩|⟨_,c⟩:=d k r c
  .rw[P,e4];omega
  .have:=h.pid k r c;rw[e4];omega
 .rw[e2,List.pairwise_append];refine⟨WR.imp h.asc λk r c j=>?_,sJ,λk c C t r H j u=>?_⟩
  .obtain⟨rfl,rfl⟩|⟨_,j⟩:=d k r j
   .exact qx c o
   .exact⟨r,j,rfl⟩
  .obtain rfl:C=p:=(by simpa using t);rw[new]at u;cases u;obtain⟨rfl,rfl⟩|⟨_,j⟩:=d k r j
   .exact qx c o
   .have:=(h.pid k r j).2;omega
 .show BP (Jr K1.ps i) K1.Ar=BP (Jr K.ps i) K.Ar+_;rw[l (Jr K1.ps i) (Jr K.ps i) (λk c=>by unfold Jr;rw[e1,BB c]),Ht new]
 .rw[e2]at c;obtain c|c:=eF.1 c
  .exact .inl c
  .obtain rfl:k=p:=(by simpa using c);refine .inr ⟨N,λr j=>?_⟩;rw[new]at j;cases j;omega
 .cases hx:K.ps k with
  |none=>exact qx hx c
  |some r=>rw[m k r hx];simp
end Go.Fxa
