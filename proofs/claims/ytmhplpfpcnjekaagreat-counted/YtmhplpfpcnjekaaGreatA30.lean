/- A process waits for a child. -/
import Derived.Test.YtmhplpfpcnjekaaGreatA29
namespace Go.Fxa
open Conc Proofs RowKit Proofs.Tryz
set_option maxRecDepth 1000000
set_option maxHeartbeats 0
theorem UH {NC NS b x y rb:Nat} {K K':KS} {w w0 w7 w8:o_} {f:n_} {r':PR} (BI:∀k,w.heap.size<=k->K.T k=(0,0)) (K0:Keep No w w0) (hrb:w.heap.size<=rb) (BN:rb<w0.heap.size) (hV:BM K.T K'.T w0 w7) (h7:AV K' w7) (K8:Keep (At rb) w7 w8) (hx:x<65536) (hy:y<65536) (hf:KG K'.T w7 K'.kb b f) (hO:Ez NC NS K') (hR:Rel b K K') (hr:K'.ps b=some r') (G7:r'.en=false->b∈K'.AP):FQ NC NS b K w (.returned (.agg #[a_ x,a_ y,f])) w8:=by
 have a:K'.T rb=(0,0):=(Dv.fresh hV _ BN).trans (BI _ hrb);have c:Keep (On K'.T λt=>t=(0,0)) w7 w8:=K8.on λk _ e=>by rw[show k=rb from e];exact a
 exact⟨K',x,y,f,rfl,hx,hy,hf.keep c (by simp),h7.own K8 a,hO,hR,((BM.no K0 BI).trans hV).own K8 (λk e=>by rw[show k=rb from e];exact hrb),r',hr,G7⟩
theorem AV.boxes {K:KS} {w w':o_} {b x y:Nat} {r:PR} (h:AV K w) (hb:K.ps b=some r) (hK:Keep No w w') (hx:w.heap.size<=x) (hxy:x<y) (hy:y<w'.heap.size) (h1:w'.heap[x]?=some (O_ #[ptr K.kb] 33)) (h2:w'.heap[y]?=some (O_ #[ptr b] 119)):AV { K with T:=BA (BA K.T x (9,b)) y (9,b) } w'/\BM K.T (BA (BA K.T x (9,b)) y (9,b)) w w'/\KG (BA (BA K.T x (9,b)) y (9,b)) w' K.kb b (.func (.func 196) #[] #[ptr x,ptr y]):=by
 have c:Dv K.T (BA K.T x (9,b)) (λt=>t=(6,b)\/t=(7,b)\/t=(8,b)\/t=(9,b)) (λt=>t=(6,b)\/t=(7,b)\/t=(8,b)\/t=(9,b)) w w':=Dv.row hK.no h.lt (.inr hx) (by omega) (.inr (.inr (.inr rfl)));have d:Dv (BA K.T x (9,b)) (BA (BA K.T x (9,b)) y (9,b)) (λt=>t=(6,b)\/t=(7,b)\/t=(8,b)\/t=(9,b)) (λt=>t=(6,b)\/t=(7,b)\/t=(8,b)\/t=(9,b)) w w':=⟨hK.no,λk a=>by
   by_cases e:k=y
   .subst e;exact absurd (by rw[Bf (by omega)];exact h.lt _ (by omega)) a
   .exact Bf e,λk h1 h2=>by
   by_cases e:k=y
   .subst e;rw[BH];exact .inr (.inr (.inr rfl))
   .rw[Bf e]at h2;exact absurd h1 h2,λk a=>by rw[Bf (by omega)];exact c.lt k a,λk a=>Bf (by omega)⟩
 have M:Dv K.T (BA (BA K.T x (9,b)) y (9,b)) (λt=>t=(6,b)\/t=(7,b)\/t=(8,b)\/t=(9,b)) (λt=>t=(6,b)\/t=(7,b)\/t=(8,b)\/t=(9,b)) w w':=⟨hK.no,λk a=>(d.old k (by rw[c.old k a];exact a)).trans (c.old k a),λk h1 h2=>by
   by_cases e:BA K.T x (9,b) k=(0,0)
   .exact d.new k e h2
   .rw[d.old k e];exact c.new k h1 e,d.lt,λk a=>(d.fresh k a).trans (c.fresh k a)⟩
 have f:Dv K.T (BA (BA K.T x (9,b)) y (9,b)) (λ_=>False) (λt=>t=(6,b)\/t=(7,b)\/t=(8,b)\/t=(9,b)) w w':=⟨hK.no,M.old,M.new,M.lt,M.fresh⟩;have s:=h.cO M ((h.ps b r hb).IE f id id id id);have e:Dz K.ps b r=K.ps:=by funext k;unfold Dz;split;rename_i e;rw[e,hb];rfl
 rw[e]at s;exact⟨s,M.Vt (by rintro t (rfl|rfl|rfl|rfl)<;>simp),.inr (.inl ⟨x,y,rfl,h1,h2,(Bf (by omega)).trans BH,BH⟩)⟩
section
variable (m:Nat) (w:o_)
theorem ad7 (K:KS) (NC NS b at_:Nat) (r:PR) (h:AV K w) (hO:Ez NC NS K) (hm:b∈K.AP) (hb:K.ps b=some r) (hn:r.en=false) (hat:at_<65536):
  P_ m 143 #[R_ K.kb,R_ b,a_ (at_:Nat)] w (FQ NC NS b K w):=by
 have o:=hO.pr b r hb;have hL:=(hO.co.pl b r hb).1;have hl12:=hO.len;have L:Keep No w (((w.alloc (.cells #[R_ K.kb] 33)).alloc (.cells #[R_ b] 119)).alloc V_):=(((p_ _ _).alloc _).alloc _).alloc _;have s1:=JA w (.cells #[R_ K.kb] 33);have s2:((w.alloc (.cells #[R_ K.kb] 33)).alloc (.cells #[R_ b] 119)).heap.size=w.heap.size+2:=by rw[JA,JA]
 have Q:(((w.alloc (.cells #[R_ K.kb] 33)).alloc (.cells #[R_ b] 119)).alloc V_).heap[w.heap.size+2]?=some (O_ #[a_ 0,a_ 0,.nilFunc] 206):=by
  have:=heap_alloc_new (w:=(w.alloc (.cells #[R_ K.kb] 33)).alloc (.cells #[R_ b] 119)) (o:=V_) rfl
  rwa [s2]at this
 have bx:(((w.alloc (.cells #[R_ K.kb] 33)).alloc (.cells #[R_ b] 119)).alloc V_).heap[w.heap.size]?=some (O_ #[R_ K.kb] 33):=(((p_ No _).alloc _).alloc _).old (heap_alloc_new (w:=w) (o:=(.cells #[R_ K.kb] 33)) rfl) id;have M:(((w.alloc (.cells #[R_ K.kb] 33)).alloc (.cells #[R_ b] 119)).alloc V_).heap[w.heap.size+1]?=some (O_ #[R_ b] 119):=by
  have:=heap_alloc_new (w:=w.alloc (.cells #[R_ K.kb] 33)) (o:=(.cells #[R_ b] 119)) rfl
  rw[s1]at this
  exact((p_ No _).alloc _).old this id
 have cx:(((w.alloc (.cells #[R_ K.kb] 33)).alloc (.cells #[R_ b] 119)).alloc V_).cell? (S_ w.heap.size)=some (R_ K.kb):=(Af bx 0).trans rfl;have cy:(((w.alloc (.cells #[R_ K.kb] 33)).alloc (.cells #[R_ b] 119)).alloc V_).cell? (S_ (w.heap.size+1))=some (R_ b):=(Af M 0).trans rfl;have V:w.heap.size+2<(((w.alloc (.cells #[R_ K.kb] 33)).alloc (.cells #[R_ b] 119)).alloc V_).heap.size:=BQ Q;have l:=h.no L;have Gp:K.T (w.heap.size+2)=(0,0):=h.lt _ (by omega);obtain⟨C,ci,q8,hRi,R,O⟩:=l.YF hb hn;have XY:=hRi.le;have cp:=λm w1 (hK:Keep No (((w.alloc (.cells #[R_ K.kb] 33)).alloc (.cells #[R_ b] 119)).alloc V_) w1)=>jS m w1 K b r (l.no hK) hO.th hb (by omega)
 have ce:=λm w1 (hK:Keep No (((w.alloc (.cells #[R_ K.kb] 33)).alloc (.cells #[R_ b] 119)).alloc V_) w1)=>iL m w1 K b r (l.no hK) hO.th hb (by omega)
 clear s1 s2;by_cases Eo:at_+1<=r.Ag.length
 .have Y:=λm=>EM b C ci r.Ag.length 1 at_ m (((w.alloc (.cells #[R_ K.kb] 33)).alloc (.cells #[R_ b] 119)).alloc V_) q8 (by omega) hat hL XY Eo
  gi_enter func143,ntmps143;gi_wp2_with (first|(gi_at_call 138;refine(Y _).mono ?_;rintro e w1 ⟨rfl,F⟩;have F:=F.symm;subst F)|(gi_at_call 194;refine(cp _ _ (p_ No _)).mono ?_;rintro e w2 ⟨s,z,rfl⟩;have Z:=s.has cx;have cy2:=s.has cy;cases z))
  .generalize G:((w.alloc (.cells #[R_ K.kb] 33)).alloc (.cells #[R_ b] 119)).alloc V_=S at*;gi_wp2_with (first|(gi_at_call 140;refine(wr8 3 (s.old Q id) _).mono ?_;rintro e wz ⟨rfl,g,U,n,d,p⟩)|refine En n ?_);refine TR 0 3 (by simp[results,results143,go_sem,EF p]) rfl ?_;exact UH (K':=K) (x:=0) (y:=3) h.lt L (Nat.le_add_right _ 2) V (((BM.no s l.lt)).then g) ((l.no s).no g) d (by omega) (by omega) (.inl rfl) (hO) (Rel.refl b K) hb (λ_=>hm)
  .gi_wp2_with (first|(gi_at_call 195;refine(ce _ _ s).mono ?_;rintro e w3 ⟨K3,v,rfl,hv⟩;have KK:=s.then K3;have D:=l.no KK;obtain⟨U,n,d,p⟩:=Ap (x:=0) (y:=0) (f:=.func (.func 196) #[] #[R_ w.heap.size,R_ (w.heap.size+1)]) (KK.old Q id) rfl;obtain rfl|⟨c,rc,rfl,hcm,a,N⟩:=hv)|refine En n ?_)
   .generalize G:((w.alloc (.cells #[R_ K.kb] 33)).alloc (.cells #[R_ b] 119)).alloc V_=S at*;have n9:w.heap.size<w3.heap.size:=(by have:=KK.size;omega);obtain⟨hB,MB,KN⟩:=h.boxes (x:=w.heap.size) (y:=w.heap.size+1) hb (L.then KK) (w_ _) (by omega) (by have:=KK.size;omega) (KK.old bx id) (KK.old M id);have tg:(BA (BA K.T w.heap.size (9,b)) (w.heap.size+1) (9,b)) (w.heap.size+2)=(0,0):=(by rw[Bf (by omega),Bf (by omega)];exact Gp);obtain⟨NJ,Gt⟩:=hO.fds (K1:={ K with T:=BA (BA K.T w.heap.size (9,b)) (w.heap.size+1) (9,b) }) (r':=r) (H:=BF K.ps K.AP) ⟨rfl⟩ hm hb rfl rfl rfl rfl rfl o ⟨hO.DV.ho,hO.DV.le,hO.DV.op,hO.DV.nd,hO.DV.nz,hO.DV.nm,hO.DV.dj⟩ λi _=>rfl
    rw[FY (K:={ K with T:=BA (BA K.T w.heap.size (9,b)) (w.heap.size+1) (9,b) }) hb]at NJ Gt;refine bodyPost_ret (v:=.agg #[a_ 0,a_ 0,.func (.func 196) #[] #[R_ w.heap.size,R_ (w.heap.size+1)]]) (by simp[results,results143,go_sem,EF p]) rfl ?_;have K9:Keep (On (BA (BA K.T w.heap.size (9,b)) (w.heap.size+1) (9,b)) λt=>t=(0,0)) w3 U:=d.on λk _ e=>by rw[show k=w.heap.size+2 from e];exact tg
    exact⟨{ K with T:=BA (BA K.T w.heap.size (9,b)) (w.heap.size+1) (9,b) },0,0,_,rfl,by omega,by omega,KN.keep K9 (by simp),hB.own d tg,NJ,Gt,MB.own d (λk e=>by rw[show k=w.heap.size+2 from e];omega),r,hb,λ_=>hm⟩
   .clear n d p;have e3:=D.GG a 3;have e1:=D.GG a 1;have e0:=D.GG a 0;simp[PR.arr]at e3 e1 e0;have z1:=D.bU a 1;obtain⟨g3,c3,_,VH,tg3,W⟩:=D.YF hb hn;have egi:C=g3/\ci=c3:=(by have:=O.symm.trans W;simpa using this);obtain⟨rfl,rfl⟩:=egi;have zi:=VH.fz at_;have qi:=VH.cell (i:=at_) (by omega);obtain⟨xi,hxi⟩:∃v,(Az r.Ag)[at_]?=some v:=⟨_,Ii (by simp[Az];omega)⟩;have qi:=qi.trans hxi;have cx3:=K3.has Z;have I:=(D.ps c rc a).t;have n1:¬C=c:=(λe=>by rw[e,I]at R;simp at R);have n1':¬c=C:=(λe=>n1 e.symm);have n2:¬C=w.heap.size:=(λe=>by rw[e,h.lt _ (w_ _)]at R;simp at R);have n2':¬w.heap.size=C:=(λe=>n2 e.symm);have n3:¬c=w.heap.size:=(λe=>by rw[e,h.lt _ (w_ _)]at I;simp at I);have n3':¬w.heap.size=c:=(λe=>n3 e.symm);have u:c≠b:=(λe=>by rw[e,hb]at a;cases a;rw[hn]at N;cases N);obtain⟨h4,M4⟩:=D.VM (i:=at_) (x:=rc.st) hb hn O;have j:(K.Di b { r with Ag:=r.Ag.set at_ rc.st }).ps c=some rc:=(BZ u).trans a;have h5:=h4.like (r':={ rc with par:=0 }) (i:=1) (v:=b_ 0) j ⟨rfl,rfl,rfl,rfl,rfl⟩ rfl (h4.ps c rc j).bl;have M5:=h4.Ee j (i:=1) (v:=b_ 0);obtain⟨hO4,yB⟩:=hO.fds (r':={ r with Ag:=r.Ag.set at_ rc.st }) (Q4.refl K) hm hb rfl rfl rfl rfl (by simp) ⟨o.A,o.B,o.P,o.st,o.pid,o.par,(λx hx=>by obtain hx|rfl:=List.mem_or_eq_of_mem_set hx;exact o.Ag x hx;exact(hO.pr c rc a).st),o.fds,o.fd,(λe=>by simp only[List.length_set];exact o.len e),(λe=>absurd e (by simp[hn]))⟩ hO.DV (λi _=>rfl);have hF:=NH.set j 0;have E:=hO4.bf2 hF (λk q J=>by
     have J:Dz _ c _ k=some q:=J
     by_cases e:k=c
     .subst e;rw[Am]at J;cases J;exact .inr (by simp)
     .rw[BZ e]at J;exact .inl J)
    have X:=λm=>uD m _ _ h5 E.th (Nat.le_trans E.len (by omega))
    have ce8:rc.pid<=60000:=(hO.pr c rc a).pid;simp only[ptr];generalize G:((w.alloc (.cells #[R_ K.kb] 33)).alloc (.cells #[R_ b] 119)).alloc V_=S at*;gi_wp2_with (gi_at_call 158;refine(X _).mono ?_;rintro e w6 ⟨rfl,h6,M6⟩;have e06:=h6.GG (b:=c) (r:={ rc with par:=0 }) Am 0;simp[PR.arr]at e06);have bW:BM K.T K.T S w6:=(((BM.no KK l.lt).trans M4).trans M5).trans M6;have hbB:((K.Di b { r with Ag:=r.Ag.set at_ rc.st }).Di c { rc with par:=0 }).VX.ps b=some { r with Ag:=r.Ag.set at_ rc.st }:=(BZ u.symm).trans Am;gi_wp2_with (first|(gi_at_call 152;refine(Dx _ _ rc.pid (by omega)).mono ?_;rintro e wz ⟨rfl,g⟩;obtain⟨U,n,d,p⟩:=Ap (x:=rc.pid) (y:=0) (f:=.nilFunc) (g.old (bW.old Q Gp) id) rfl)|refine En n ?_);refine TR rc.pid 0 (by simp[results,results143,go_sem,EF p]) rfl ?_;exact UH (K':=((K.Di b { r with Ag:=r.Ag.set at_ rc.st }).Di c { rc with par:=0 }).VX) (x:=rc.pid) (y:=0) h.lt L (Nat.le_add_right _ 2) V ((bW).then g) ((h6).no g) d (by omega) (by omega) (.inl rfl) (E.VX) ((yB.trans (hF.rel b) (by rw[hb];simp) hO.th).trans (fQ _ b) (by rw[hb];simp) hO.th) hbB (λ_=>List.mem_filter.2 ⟨hm,by simp[YN,KS.Di,BZ u.symm,Am,hn]⟩)
 .have Y:=λm=>Il b C ci r.Ag.length 1 at_ m (((w.alloc (.cells #[R_ K.kb] 33)).alloc (.cells #[R_ b] 119)).alloc V_) q8 (by omega) (by omega) hat Eo
  gi_enter func143,ntmps143;gi_wp2_with (gi_at_call 138;refine(Y _).mono ?_;rintro e w1 ⟨rfl,F⟩;have F:=F.symm;subst F);generalize G:((w.alloc (.cells #[R_ K.kb] 33)).alloc (.cells #[R_ b] 119)).alloc V_=S at*;gi_wp2_with (first|(gi_at_call 140;refine(wr8 1 Q _).mono ?_;rintro e wz ⟨rfl,g,U,n,d,p⟩)|refine En n ?_);refine TR 0 1 (by simp[results,results143,go_sem,EF p]) rfl ?_;exact UH (K':=K) (x:=0) (y:=1) h.lt L (Nat.le_add_right _ 2) V (((BM.no (p_ No _) l.lt)).then g) ((l).no g) d (by omega) (by omega) (.inl rfl) (hO) (Rel.refl b K) hb (λ_=>hm)
end
def QZ (T:Tag) (p gi gf:Nat):Tag:=BA (BA (BA T p (6,p)) gi (7,p)) gf (8,p)
theorem AV.bs8 {K:KS} {w w':o_} {p gi gf ci cf:Nat} {r:PR} (h:AV K w) (hK:Keep No w w') (lp:w.heap.size<=p) (li:w.heap.size<=gi) (lf:w.heap.size<=gf) (hpi:p≠gi) (hpf:p≠gf) (hif:gi≠gf) (ho:w'.heap[p]?=some r.obj) (hn:r.en=false) (KN:r.bl=.nilFunc) (hi:r.im=Q_ gi r.Ag.length ci) (hf:r.fd=Q_ gf r.fds.length cf) (hRi:Rw 123 1 w' gi r.Ag.length ci (Az r.Ag)) (hRf:Rw 3 1 w' gf r.fds.length cf (Fp r.fds)):AV { K with ps:=Dz K.ps p r,T:=QZ K.T p gi gf } w'/\BM K.T (QZ K.T p gi gf) w w':=by
 have val:∀k,QZ K.T p gi gf k=if k=gf then(8,p)else if k=gi then(7,p)else if k=p then(6,p)else K.T k:=λk=>rfl
 have i:=BQ ho;have j:=hRi.lt;have l:=hRf.lt;have z:∀k,w.heap.size<=k->K.T k=(0,0):=h.lt;have M:Dv K.T (QZ K.T p gi gf) (λt=>t=(6,p)\/t=(7,p)\/t=(8,p)\/t=(9,p)) (λt=>t=(6,p)\/t=(7,p)\/t=(8,p)\/t=(9,p)) w w':=by
  refine⟨hK.no,λk d=>?_,λk g f=>?_,λk d=>?_,λk d=>?_⟩
  .rw[val,if_neg (by rintro rfl;exact d (z _ lf)),if_neg (by rintro rfl;exact d (z _ li)),if_neg (by rintro rfl;exact d (z _ lp))]
  .rw[val]at f ⊢;split
   .exact .inr (.inr (.inl rfl))
   .split
    .exact .inr (.inl rfl)
    .split
     .exact .inl rfl
     .rename_i a b c;rw[if_neg a,if_neg b,if_neg c]at f;exact absurd g f
  .rw[val,if_neg (by omega),if_neg (by omega),if_neg (by omega)];exact z k (Nat.le_trans hK.size d)
  .rw[val,if_neg (by omega),if_neg (by omega),if_neg (by omega)]
 refine⟨h.cO M ⟨?_,ho,λ_=>⟨gi,ci,hi,hRi,?_⟩,λ_=>⟨gf,cf,hf,hRf,?_⟩,by rw[KN];exact .inl rfl,λe=>absurd e (by simp[hn])⟩,M.Vt (by rintro t (rfl|rfl|rfl|rfl)<;>simp)⟩
 .rw[val,if_neg hpf,if_neg hpi,if_pos rfl]
 .rw[val,if_neg hif,if_pos rfl]
 .rw[val,if_pos rfl]
theorem AV.aj6 {K:KS} {w:o_} {p:Nat} {r:PR} (h:AV { K with ps:=Dz K.ps p r } w) (hp:K.ps p=none):AV K w:=by
 obtain⟨⟨d,k1,k2⟩,f,g,pr,ps,c,j,i,l,k,lt,a⟩:=h;refine⟨⟨d,k1,k2.ps K.ps⟩,f,g,pr,λb q e=>ps b q ?_,c,j,i,l,k,lt,a⟩;show Dz K.ps p r b=some q;rw[BZ (by rintro rfl;rw[hp]at e;cases e)];exact e
theorem bo1 {T:Tag} {w:o_} {g c n b vb c2:Nat} {l:List Nat} {ty:j_} (hR:Rw 119 1 w g n c (Bj l)) (hn:n=l.length) (hb:w.cell? (S_ vb)=some (ptr b)) (hl:n<=1000) (tg:T g=(4,0)):∃g' c' W,(Builtin.append_ #[100,100] ty #[Q_ g n c,Q_ vb 1 c2]).run prog w=.ok (Q_ g' (n+1) c') W/\Rw 119 1 W g' (n+1) c' (Bj (l++[b]))/\(T g'=(4,0)\/w.heap.size<=g')/\Keep (On T λt=>t=(4,0)) w W:=by
 have s:∀j u,(Bj [b])[j]?=some u->w.cell? (((S_ vb):f_).add j)=some u:=λj u a=>by
  match j,a with
  |0,a=>
   simp[Bj]at a;subst a
   have o:((S_ vb):f_).add 0=(S_ vb):=by unfold Addr.add;split<;>simp_all
   rw[o];exact hb
 have q:∀u∈Bj [b],u.oneCell'=true:=λu h=>by simp[Bj]at h;subst h;rfl
 have p:Bj (l++[b])=Bj l++Bj [b]:=by simp[Bj]
 obtain⟨g',i,v,r,k,f⟩:=dN (ty:=ty) (sCap:=c2) (m:=1) ap2 hR (ys:=Bj [b]) rfl s q (by omega) (by omega);refine⟨g',i,v,r,by rw[p];exact k,?_,?_⟩
 .obtain⟨rfl,_⟩|⟨rfl,_⟩:=f
  .exact .inl tg
  .exact .inr (w_ _)
 .obtain⟨rfl,d⟩|⟨rfl,d⟩:=f
  .exact d.on λx _ e=>by subst e;exact tg
  .exact d.no
def uI (K:KS) (p:Nat) (r:PR) (w:o_) (e:Ending) (w':o_):Prop:=(e=.returned (.bool false)/\AV K w'/\BM K.T K.T w w')\/∃a g c T',e=.returned (.bool true)/\(Aw K.swap (Aj r.Ag.length)).1=some a/\AV { K with swap:=(Aw K.swap (Aj r.Ag.length)).2,Cj:=K.Cj+1,AP:=K.AP++[p],pg:=g,pc:=c,ps:=Dz K.ps p { r with pid:=K.Cj+1,sw:=a,co:=-1 },T:=T' } w'/\BM K.T T' w w'
def ap8 (K:KS) (n:Nat) (w1:o_) (v:n_) (W:o_):Prop:=v=.tuple #[tA (Aw K.swap n).1,tB (Aw K.swap n).1]/\AV { K with swap:=(Aw K.swap n).2 } W/\BM K.T K.T w1 W
section
variable (m:Nat) (w:o_)
theorem am5 (K:KS) (p NS:Nat) (r:PR) (h:AV K w) (hp:K.ps p=some r) (hL:r.Ag.length<=128) (hF:Fit NS K.swap) (hNS:NS<=1000) (rP:K.Cj<=100000) (hl:K.AP.length<=100):
  P_ m 46 #[R_ K.kb,R_ p] w (uI K p r w):=by
 obtain⟨a8,c8,q8⟩:=h.im8 hp;have h0:AV K w.drew:=h.no (p_ No w).drew;have bk:p≠K.kb:=λe=>by have:=(h.ps p r hp).t;rw[e,h.tk]at this;simp at this
 have bc:p≠K.sg:=λe=>by have:=(h.ps p r hp).t;rw[e,h.ts]at this;simp at this
 gi_enter func46,ntmps46;gi_wp2;refine CV (P:=prog) _ rfl rfl (by kernel_rfl) 10 49 [0,1,2,3,4] [5,6,7,8,9] (by kernel_rfl) (by rfl)
  (NG (At2 K.kb K.sg) w.drew 5 (ap8 K (Aj r.Ag.length) w.drew) [(6,.tuple #[tA (Aw K.swap (Aj r.Ag.length)).1,tB (Aw K.swap (Aj r.Ag.length)).1]),(7,tA (Aw K.swap (Aj r.Ag.length)).1),(8,tB (Aw K.swap (Aj r.Ag.length)).1),(9,tA (Aw K.swap (Aj r.Ag.length)).1)]) (FU (by simp) (by simp)) _ _ rfl rfl ?_;gi_wp2_with (gi_at_call 58;refine(ER _ w.drew p _ _ _ q8 (by omega)).mono ?_;rintro e w1 ⟨rfl,rfl⟩);refine⟨rfl,by kernel_rfl,Ef,?_,?_,?_⟩
 .intro L' u W b;have d8:=(b.1.cell (w:=w.drew) (p:=(T_ p 8)) (h.plt hp) (by rintro(h|h)<;>contradiction)).trans q8
  repeat' (refine Ae ?_ ?_)
  all_goals first|exact trivial|gi_wp2_with (gi_at_call 58;refine(ER _ W p _ _ _ d8 (by omega)).mono ?_;rintro e w1 ⟨rfl,rfl⟩)
 .intro i hi L' u W b hLi U;obtain rfl|rfl|rfl|rfl|rfl:=(by simpa using hi:i=5\/i=6\/i=7\/i=8\/i=9)
  .obtain rfl:=b.2.1 hLi;refine Bh rfl λKK Lh=>?_
   show wpListIn NF m prog _ _ _ (Act.put (Act.put (Act.put (Act.put (Act.put _ (some 13) (u 5)) (some 7) (u 6)) (some 14) (u 7)) (some 15) (u 8)) (some 5) (u 9)) _;gi_wp2_with fail;refine(Θ _ w.drew K (Aj r.Ag.length) NS h0 hF (by omega) (by unfold Aj;omega)).mono ?_;rintro e w1 ⟨rfl,d,M,K1⟩;rw[Tz];gi_wp2;exact⟨_,rfl,FV b (by simp) K1 ⟨rfl,d,M⟩⟩
  .have O:=(b.2.2.1 (U 5 (by simp) (by decide))).1;exact dV rfl rfl rfl ⟨_,rfl,Fv b (by decide) O (by simp)⟩
  .have z:=b.2.2.2 (6,.tuple #[tA (Aw K.swap (Aj r.Ag.length)).1,tB (Aw K.swap (Aj r.Ag.length)).1]) (by simp) (U 6 (by simp) (by decide));exact Q3 rfl rfl rfl z rfl ⟨_,rfl,FZ b (by decide) (by simp)⟩
  .have z:=b.2.2.2 (6,.tuple #[tA (Aw K.swap (Aj r.Ag.length)).1,tB (Aw K.swap (Aj r.Ag.length)).1]) (by simp) (U 6 (by simp) (by decide));exact Q3 rfl rfl rfl z rfl ⟨_,rfl,FZ b (by decide) (by simp)⟩
  .have E:=b.2.2.2 (7,tA (Aw K.swap (Aj r.Ag.length)).1) (by simp) (U 7 (by simp) (by decide));exact dW rfl rfl rfl ⟨_,rfl,Fv b (by decide) E (by simp)⟩
 .intro L' u W b f;obtain⟨O,d,M⟩:=b.2.2.1 (f 5 (by simp));have X:=b.2.2.2 (8,tB (Aw K.swap (Aj r.Ag.length)).1) (by simp) (f 8 (by simp));have Y:=b.2.2.2 (9,tA (Aw K.swap (Aj r.Ag.length)).1) (by simp) (f 9 (by simp));have z:=b.2.2.2 (6,.tuple #[tA (Aw K.swap (Aj r.Ag.length)).1,tB (Aw K.swap (Aj r.Ag.length)).1]) (by simp) (f 6 (by simp));have E:=b.2.2.2 (7,tA (Aw K.swap (Aj r.Ag.length)).1) (by simp) (f 7 (by simp));simp only at z E X Y;show wpListIn NF m prog _ _ _ (Act.put (Act.put (Act.put (Act.put (Act.put _ (some 13) (u 5)) (some 7) (u 6)) (some 14) (u 7)) (some 15) (u 8)) (some 5) (u 9)) _;rw[O,z,E,X,Y];have MW:BM K.T K.T w W:=(BM.no (p_ No w).drew h.lt).trans M;have j:(Aw K.swap (Aj r.Ag.length)).1=none->(Aw K.swap (Aj r.Ag.length)).2=K.swap:=by
   intro e
   unfold Aw at e ⊢
   split
   .rfl
   .rename_i hh;rw[if_neg hh]at e;cases hx:K.swap.findIdx? (λr_1=>decide (Aj r.Ag.length<=r_1.2))with
    |none=>rfl
    |some i=>rw[hx]at e;simp only at e ⊢;cases hy:K.swap[i]? with
     |none=>rfl
     |some q=>rw[hy]at e;simp at e
  clear b O z E X Y f M;generalize hsw:(Aw K.swap (Aj r.Ag.length)).2=l' at*;cases ho:(Aw K.swap (Aj r.Ag.length)).1 with
  |none=>
   have hl':=j ho
   simp only[tA,tB,Option.getD_none,Option.isSome_none]
   gi_wp2
   go_ret
   rw[hl']at d
   exact .inl ⟨by simp,d,MW⟩
  |some a=>
   clear j
   simp only[tA,tB,Option.getD_some,Option.isSome_some]
   obtain⟨ks,S,Z⟩:=d.k
   have c3:=(Af S 3).trans Z.c3
   have z3:=BO S 3
   have V:Dv K.T K.T (λt=>t=(1,0)\/t=(4,0)) (λt=>t=(4,0)) W (W.setCell (T_ K.kb 3) (b_ ((K.Cj+1:Nat):Int))):=Dv.of ((p_ _ _).setCell _ λ_=>.inl d.tk) d.lt
   have Kk3:Keep (At K.kb) W (W.setCell (T_ K.kb 3) (b_ ((K.Cj+1:Nat):Int))):=(p_ _ _).setCell _ λ_=>rfl
   have hpg:K.kb≠K.pg:=λe=>by have:=d.tk;simp only at this;rw[e]at this;rw[show K.T K.pg=(4,0)from d.tp]at this;simp at this
   have n:AV { K with swap:=l',Cj:=K.Cj+1 } _:=d.WJ (Cj:=K.Cj+1) (g:=K.pg) (c:=K.pc) (l:=K.AP) V Z (Ah S _) (Qa (by rw[G6 (by omega)];exact Z.c2)).symm (Rw.keep d.pr Kk3 (λe=>hpg e.symm)) d.tp
   push_cast at n V
   have p2:({ K with swap:=l',Cj:=K.Cj+1 }:KS).ps p=some r:=hp
   have Q:=n.like (r':={ r with pid:=K.Cj+1 }) (i:=0) (v:=b_ ((K.Cj:Int)+1)) p2 ⟨rfl,rfl,rfl,rfl,rfl⟩ rfl (n.ps p r p2).bl
   have N3:=n.Ee p2 (i:=0) (v:=b_ ((K.Cj:Int)+1))
   have R:=Q.like (r':={ r with pid:=K.Cj+1,sw:=a }) (i:=10) (v:=b_ (a:Nat)) Am ⟨rfl,rfl,rfl,rfl,rfl⟩ rfl (Q.ps p _ Am).bl
   have N4:=Q.Ee Am (i:=10) (v:=b_ (a:Nat))
   have B:=R.like (r':={ r with pid:=K.Cj+1,sw:=a,co:=-1 }) (i:=11) (v:=b_ (-1)) Am ⟨rfl,rfl,rfl,rfl,rfl⟩ rfl (R.ps p _ Am).bl
   have N5:=R.Ee Am (i:=11) (v:=b_ (-1))
   simp only[Tn]at Q R B
   have q0:=n.GG p2 0
   have q10:=n.GG p2 10
   have q11:=n.GG p2 11
   simp[PR.arr]at q0 q10 q11
   have y0:=n.bU p2 0
   have y10:=n.bU p2 10
   have y11:=n.bU p2 11
   have L:((((W.setCell (T_ K.kb 3) (b_ ((K.Cj:Int)+1))).setCell (S_ p) (b_ ((K.Cj:Int)+1))).setCell (T_ p 10) (b_ (a:Nat))).setCell (T_ p 11) (b_ (-1))).heap.size=W.heap.size:=by simp
   obtain⟨ks5,J,s⟩:=B.k
   have d2:=(Af J 2).trans s.c2
   have hN:BM K.T K.T W ((((W.setCell (T_ K.kb 3) (b_ ((K.Cj:Int)+1))).setCell (S_ p) (b_ ((K.Cj:Int)+1))).setCell (T_ p 10) (b_ (a:Nat))).setCell (T_ p 11) (b_ (-1))):=(((V.Vt (by rintro t (rfl|rfl)<;>simp)).trans N3).trans N4).trans N5
   have C:Keep No ((((W.setCell (T_ K.kb 3) (b_ ((K.Cj:Int)+1))).setCell (S_ p) (b_ ((K.Cj:Int)+1))).setCell (T_ p 10) (b_ (a:Nat))).setCell (T_ p 11) (b_ (-1))) (((((W.setCell (T_ K.kb 3) (b_ ((K.Cj:Int)+1))).setCell (S_ p) (b_ ((K.Cj:Int)+1))).setCell (T_ p 10) (b_ (a:Nat))).setCell (T_ p 11) (b_ (-1))).alloc (.cells #[R_ p] 119)):=(p_ _ _).alloc _
   have bv:(((((W.setCell (T_ K.kb 3) (b_ ((K.Cj:Int)+1))).setCell (S_ p) (b_ ((K.Cj:Int)+1))).setCell (T_ p 10) (b_ (a:Nat))).setCell (T_ p 11) (b_ (-1))).alloc (.cells #[R_ p] 119)).cell? (S_ W.heap.size)=some (ptr p):=by
    have:=heap_alloc_new (w:=(((W.setCell (T_ K.kb 3) (b_ ((K.Cj:Int)+1))).setCell (S_ p) (b_ ((K.Cj:Int)+1))).setCell (T_ p 10) (b_ (a:Nat))).setCell (T_ p 11) (b_ (-1))) (o:=.cells #[R_ p] 119) rfl
    rw[L]at this
    exact(Af this 0).trans rfl
   obtain⟨y,D,N,GH,H,I,F⟩:=bo1 (T:=K.T) (ty:=100) (c2:=1) (l:=K.AP) (Rw.keep B.pr C id) rfl bv (by show K.AP.length<=1000;omega) B.tp
   have A:=F.old (C.old J id) (by unfold On;rw[show K.T K.kb=(1,0)from d.tk];simp)
   have ca:=(Af A 2).trans s.c2
   have za:=BO A 2
   gi_wp2_with (refine Ci rfl (.tmp 43) (.tmp 45) _ rfl rfl rfl GH ?_)
   go_ret
   have hgk:y≠K.kb:=λe=>by
    obtain hg|hg:=I
    .rw[e,show K.T K.kb=(1,0)from d.tk]at hg;simp at hg
    .have:=BQ S;have:=C.size;rw[L]at this;omega
   have KF:Keep (On K.T λt=>t=(1,0)\/t=(4,0)) ((((W.setCell (T_ K.kb 3) (b_ ((K.Cj:Int)+1))).setCell (S_ p) (b_ ((K.Cj:Int)+1))).setCell (T_ p 10) (b_ (a:Nat))).setCell (T_ p 11) (b_ (-1))) (N.setCell (T_ K.kb 2) (Q_ y (K.AP.length+1) D)):=(C.no.then (F.on λk _ e=>.inr e)).setCell _ λ_=>.inl d.tk
   have G:Keep (At K.kb) N (N.setCell (T_ K.kb 2) (Q_ y (K.AP.length+1) D)):=(p_ _ _).setCell _ λ_=>rfl
   have MF:Dv K.T (BA K.T y (4,0)) (λt=>t=(1,0)\/t=(4,0)) (λt=>t=(4,0)) _ (N.setCell (T_ K.kb 2) (Q_ y (K.AP.length+1) D)):=Dv.row KF B.lt (I.imp id λx=>Nat.le_trans C.size x) (Nat.lt_of_lt_of_le H.lt G.size) rfl;have el:(K.AP++[p]).length=K.AP.length+1:=(by simp);have h9:=B.WJ (Cj:=K.Cj+1) (g:=y) (c:=D) (l:=K.AP++[p]) MF s (Ah A _) (by rw[Qa s.c3,el]) (by rw[el];exact H.keep G hgk) BH;exact .inr ⟨a,y,D,BA K.T y (4,0),by simp,ho,by rw[hsw];exact h9,(MW.trans hN).trans (MF.Vt (by rintro t (rfl|rfl)<;>simp))⟩
end
theorem ϗ {f:Nat->Nat} {b:Nat}:BD f [b]=f b:=by simp[BD]
theorem Ez.born {NC NS b p:Nat} {K K1:KS} {q:PR} (h:Ez NC NS K) (hp:K.ps p=none) (hl:K.AP.length<12) (hc:K.Cj<60000) (ho:q.Ok) (Su:q.pid=K.Cj+1) (Gz:q.co=-1) (hL:q.Ag.length<=128) (ha:(Aw K.swap (Aj q.Ag.length)).1=some q.sw) (ht:ED (λi=>BF K.ps K.AP i+q.fds.count (i:Int)) K1) (hK:K1={ K with swap:=(Aw K.swap (Aj q.Ag.length)).2,Cj:=K.Cj+1,AP:=K.AP++[p],ps:=Dz K.ps p q,pg:=K1.pg,pc:=K1.pc,T:=K1.T,desc:=K1.desc }):Ez NC NS K1/\Rel b K K1:=by
 have e1:K1.ps=Dz K.ps p q:=by rw[hK]
 have e2:K1.AP=K.AP++[p]:=by rw[hK]
 have e3:K1.swap=(Aw K.swap (Aj q.Ag.length)).2:=by rw[hK]
 have e4:K1.Cj=K.Cj+1:=by rw[hK]
 have w:K1.core=K.core:=by rw[hK]
 have x:K1.kb=K.kb:=by rw[hK]
 have o:p ∉ K.AP:=λD=>by obtain⟨r,j⟩:=h.th p D;rw[hp]at j;cases j
 have s:∀k∈K.AP,k≠p:=λk c e=>o (e ▸ c)
 have m:∀k r,K.ps k=some r->K1.ps k=some r:=λk r c=>by rw[e1,BZ (by rintro rfl;rw[hp]at c;cases c)];exact c
 have new:K1.ps p=some q:=by rw[e1];exact Am
 have d:∀k r,K1.ps k=some r->(k=p/\r=q)\/(k≠p/\K.ps k=some r):=λk r c=>by
  rw[e1]at c
  by_cases e:k=p
  .subst e;rw[Am]at c;cases c;exact .inl ⟨rfl,rfl⟩
  .rw[BZ e]at c;exact .inr ⟨e,c⟩
 have l:∀f g:Nat->Nat,(∀k,k≠p->f k=g k)->BD f K1.AP=BD g K.AP+f p:=λf g B=>by
  rw[e2,OA,ϗ,BV λk c=>B k (s k c)]
 obtain⟨G,_,H⟩:=IV (n:=Aj q.Ag.length) h.sw.so;obtain⟨L,F,M⟩:=H _ ha;have v:K1.EC:=λk c=>by
  rw[e2]at c
  obtain c|c:=List.mem_append.1 c
  .obtain⟨r,j⟩:=h.th k c;exact⟨r,m k r j⟩
  .obtain rfl:k=p:=(by simpa using c);exact⟨q,new⟩
 refine⟨⟨v,?_,by rw[e2];simp;omega,h.co.same w (λi=>?_) λk r c=>?_,⟨h.sw.le,by rw[e3];exact G,by rw[e3];exact WE h.sw.uM,Nat.zero_le _,λi C=>?_,λk r c=>?_⟩,λk r c=>?_,λk r c=>?_,?_,by rw[e4];omega,ht.congr λi _=>?_⟩,⟨λk r y z _=>.inl ⟨by rw[e2];simp[y],r,m k r z,.refl r⟩,λk c=>?_,λk c=>?_,λr j=>⟨r,m b r j,rfl⟩,by rw[e4];omega,x,λ_=>v⟩⟩
 .rw[e2,List.nodup_append];exact⟨h.nd,by simp,λa ha b A=>by obtain rfl:b=p:=(by simpa using A);exact s a ha⟩
 .rw[l (EX i K1.ps) (EX i K.ps) (λk c=>by unfold EX;rw[e1,BZ c]),DX new,if_pos Gz];rfl
 .obtain⟨rfl,rfl⟩|⟨_,c⟩:=d k r c
  .exact⟨hL,.inl Gz⟩
  .exact h.co.pl k r c
 .rw[l (JR i K1.ps) (JR i K.ps) (λk c=>by unfold JR;rw[e1,BZ c]),F5 new,e3];have I:=h.sw.cnt i C;have c2:=QE ha i;omega
 .obtain⟨rfl,rfl⟩|⟨_,c⟩:=d k r c
  .exact F
  .exact h.sw.pl k r c
 .obtain⟨rfl,rfl⟩|⟨_,c⟩:=d k r c
  .exact ho
  .exact h.pr k r c
 .obtain⟨rfl,rfl⟩|⟨_,c⟩:=d k r c
  .rw[Su,e4];omega
  .have:=h.pid k r c;rw[e4];omega
 .rw[e2,List.pairwise_append];refine⟨U8.imp h.asc λk r c j=>?_,by simp,λk c E t r J j u=>?_⟩
  .obtain⟨rfl,rfl⟩|⟨_,j⟩:=d k r j
   .exact absurd c o
   .exact⟨r,j,rfl⟩
  .obtain rfl:E=p:=(by simpa using t);rw[new]at u;cases u;obtain⟨rfl,rfl⟩|⟨_,j⟩:=d k r j
   .exact absurd c o
   .have:=(h.pid k r j).2;omega
 .show BD (I8 K1.ps i) K1.AP=BD (I8 K.ps i) K.AP+_;rw[l (I8 K1.ps i) (I8 K.ps i) (λk c=>by unfold I8;rw[e1,BZ c]),GU new]
 .rw[e2]at c;obtain c|c:=List.mem_append.1 c
  .exact .inl c
  .obtain rfl:k=p:=(by simpa using c);refine .inr ⟨hp,λr j=>?_⟩;rw[new]at j;cases j;omega
 .cases hx:K.ps k with
  |none=>exact absurd hx c
  |some r=>rw[m k r hx];simp
theorem Qw {w:o_} {base n:Nat} {e:j_} {v:n_} {xs:U_} (h:w.ownsRow base e 1 v n xs) (hn:0<n) (ho:∀x∈xs,x.oneCell'=true):∃g c,v=Q_ g n c/\Rw e 1 w g n c xs/\base<=g:=by
 obtain⟨l,⟨_,m⟩|⟨g,cap,j,a,b,c,d,k,f,i⟩⟩:=h
 .omega
 .exact⟨g,cap,a,⟨⟨j,c,f,i⟩,d,k,l,ho⟩,b⟩
theorem XA (l:List Int):∀x∈Fp l,x.oneCell'=true:=by
 intro x a;simp only[Fp,List.mem_map]at a;obtain⟨n,_,rfl⟩:=a
 rfl
def PQ (r:PR) (base:Nat) (i:Nat) (v:n_) (W:o_):Prop:=
 if i=14 then ∃g c,v=Q_ g r.Ag.length c/\Rw 123 1 W g r.Ag.length c (Az r.Ag)/\base<=g
 else if i=15 then ∃g c,v=.agg #[a_ 0,a_ 0,a_ r.P,Q_ g r.Ag.length c]/\Rw 123 1 W g r.Ag.length c (Az r.Ag)/\base<=g
 else ∃g c,v=Q_ g r.fds.length c/\Rw 3 1 W g r.fds.length c (Fp r.fds)/\base<=g
theorem PQ.mono {r:PR} {base i:Nat} {v:n_} {W W':o_} (h:PQ r base i v W) (hK:Keep No W W'):PQ r base i v W':=by
 unfold PQ at h ⊢;split
 .rename_i e;rw[if_pos e]at h;obtain⟨g,c,a,b,d⟩:=h;exact⟨g,c,a,b.keep hK id,d⟩
 .rename_i e;rw[if_neg e]at h;split
  .rename_i e;rw[if_pos e]at h;obtain⟨g,c,a,b,d⟩:=h;exact⟨g,c,a,b.keep hK id,d⟩
  .rename_i e;rw[if_neg e]at h;obtain⟨g,c,a,b,d⟩:=h;exact⟨g,c,a,b.keep hK id,d⟩
structure Child (K K6:KS) (p:Nat) (r q:PR):Prop where
 ps:K6.ps p=some q
 en:q.en=false
 fds:q.fds=r.fds
 ok:q.Ok
 pid:q.pid=K.Cj+1
 co:q.co=-1
 Ag:q.Ag=r.Ag
 sw:(Aw K.swap (Aj q.Ag.length)).1=some q.sw
 eq:K6={ K with swap:=(Aw K.swap (Aj q.Ag.length)).2,Cj:=K.Cj+1,AP:=K.AP++[p],ps:=Dz K.ps p q,pg:=K6.pg,pc:=K6.pc,T:=K6.T }
def ac0 (K:KS) (p:Nat) (r:PR) (T:Tag) (w:o_) (e:Ending) (w':o_):Prop:=(e=.returned (.bool false)/\AV { K with T:=T } w'/\BM T T w w')\/∃q K6 g c,e=.returned (.bool true)/\Child K K6 p r q/\AV K6 w'/\BM T K6.T w w'/\w'.cell? (T_ p 9)=some (Q_ g r.fds.length c)/\q.fd=Q_ g r.fds.length c
theorem aa3 {K:KS} {p:Nat} {r rc:PR} {T:Tag} {w w':o_} {e:Ending} (o:r.Ok) (hc:K.Cj<60000) (dC:rc.par=r.pid) (hen:rc.en=false) (hrn:r.en=false) (yY:rc.fds=r.fds) (as3:rc.Ag=r.Ag) (hA:rc.A=0) (hB:rc.B=0) (hP:rc.P=r.P) (BX:rc.st=0) (hp:K.ps p=none) (h:uI { K with ps:=Dz K.ps p rc,T:=T } p rc w e w'):ac0 K p r T w e w':=by
 obtain⟨rfl,f,d⟩|⟨a,g,c,s,rfl,f,d,m⟩:=h
 .exact .inl ⟨rfl,AV.aj6 (K:={ K with T:=T }) f hp,d⟩
 .simp only[Tn]at d;obtain⟨l,j,q,_,_,i⟩:=d.bY (b:=p) (r:={ rc with pid:=K.Cj+1,sw:=a,co:=-1 }) Am hen;refine .inr ⟨{ rc with pid:=K.Cj+1,sw:=a,co:=-1 },_,l,j,rfl,⟨Am,hen,yY,?_,rfl,rfl,as3,f,rfl⟩,d,m,by rw[<-yY];exact q,by rw[<-yY];exact i⟩;refine⟨by rw[hA];omega,by rw[hB];omega,by rw[hP];exact o.P,by rw[BX];omega,by show K.Cj+1<=60000;omega,by show rc.par<=60000;rw[dC];exact o.pid,by show ∀x∈rc.Ag,_;rw[as3];exact o.Ag,λ_=>by show rc.fds.length=6;rw[yY];exact o.fds hrn,by show ∀n∈rc.fds,_;rw[yY];exact o.fd,λ_=>by show ∃k,rc.Ag.length=_/\_;rw[as3];exact o.len hrn,λe=>?_⟩;have e:rc.en=true:=e;rw[hen]at e;cases e
def ba7 (K K6:KS) (T:Tag) (w:o_) (fds:List Int) (k:Nat) (wr:o_):Prop:=∃d,AV { K6 with desc:=d } wr/\BM T K6.T w wr/\ED (λi=>BF K.ps K.AP i+(fds.take k).count (i:Int)) { K6 with desc:=d }
section
variable (m:Nat) (w:o_)
theorem aj3 (K:KS) (NC NS b:Nat) (r:PR) (h:AV K w) (hO:Ez NC NS K) (hm:b∈K.AP) (hb:K.ps b=some r) (hn:r.en=false):
  P_ m 142 #[R_ K.kb,R_ b] w (FQ NC NS b K w):=by
 have o:=hO.pr b r hb;have hlen:r.fds.length<=6:=by rw[o.fds hn];omega
 have Z:0<r.fds.length:=by rw[o.fds hn];omega
 have hL:=(hO.co.pl b r hb).1;have hL0:0<r.Ag.length:=by obtain⟨k,h1,h2,_⟩:=o.len hn;omega
 have hl12:=hO.len;have hc6:=hO.Cj;obtain⟨K0,rb,BN⟩:=HY w;have I:=h.no K0;have Gp:K.T w.heap.size=(0,0):=h.lt _ (w_ _);have q2:=I.kc2;have q3:(w.alloc V_).cell? (T_ K.kb 3)=some (b_ K.Cj):=let ⟨_,a,c⟩:=I.k;(Af a 3).trans c.c3
 obtain⟨gi0,ci0,q8,bd8,cd7,ce7⟩:=I.YF hb hn;obtain⟨gf0,cf0,q9,be0,cd8,hfd0⟩:=I.bY hb hn;have p0:=I.GG hb 0;have p7:=I.GG hb 7;simp[PR.arr]at p0 p7;by_cases A:K.AP.length=12\/K.Cj=60000
 .obtain A|A:=A
  .have f1:(12:Int)<=(K.AP.length:Int):=(by omega);gi_enter func142,ntmps142;gi_wp2_with (first|(gi_at_call 140;refine(wr8 4 rb _).mono ?_;rintro e wz ⟨rfl,F,w8,J,L,M⟩)|refine En J ?_);refine TR 0 4 (by simp[results,results142,go_sem,EF M]) rfl ?_;exact BJ h hO hm hb K0 BN F L (by decide) (by decide)
  .have f2:(60000:Int)<=(K.Cj:Int):=(by omega);by_cases f1:(12:Int)<=(K.AP.length:Int)
   .gi_enter func142,ntmps142;gi_wp2_with (first|(gi_at_call 140;refine(wr8 4 rb _).mono ?_;rintro e wz ⟨rfl,F,w8,J,L,M⟩)|refine En J ?_);refine TR 0 4 (by simp[results,results142,go_sem,EF M]) rfl ?_;exact BJ h hO hm hb K0 BN F L (by decide) (by decide)
   .gi_enter func142,ntmps142;gi_wp2_with (first|(gi_at_call 140;refine(wr8 4 rb _).mono ?_;rintro e wz ⟨rfl,F,w8,J,L,M⟩)|refine En J ?_);refine TR 0 4 (by simp[results,results142,go_sem,EF M]) rfl ?_;exact BJ h hO hm hb K0 BN F L (by decide) (by decide)
 .have f1:¬(12:Int)<=(K.AP.length:Int):=by omega
  have f2:¬(60000:Int)<=(K.Cj:Int):=by omega
  gi_enter func142,ntmps142;gi_wp2;generalize hw0:w.alloc V_=C at*;refine Cf (P:=prog) No _ rfl rfl (by kernel_rfl) 21 72 [0,1,2,3,4,5,6,7,8,9,10,11,12,13,16,17,18,19] [14,15,20] (by kernel_rfl) (by rfl) (PQ r C.heap.size) (λ_ _ _ _ _ h G=>h.mono G) _ _ rfl rfl ?_;gi_wp2;refine⟨rfl,by kernel_rfl,?_,?_,?_⟩
  .intro W G;have d0:=G.has (w:=C.drew) p0;have d7:=G.has (w:=C.drew) p7;have d8:=G.has (w:=C.drew) q8;have d9:=G.has (w:=C.drew) q9
   repeat' (refine Ae ?_ ?_)
   all_goals first|exact trivial|gi_wp2
  .intro i hi u W G hu;have KW:Keep No C W:=(p_ No C).drew.then G;obtain rfl|rfl|rfl:=(by simpa using hi:i=14\/i=15\/i=20)
   .refine Bh rfl λKK Lh=>?_
    show wpListIn NF m prog _ _ _ (Act.put (Act.put (Act.put _ (some 36) (u 14)) (some 37) (u 15)) (some 42) (u 20)) _;have cc:=λm=>Kq m W (S_ gi0) r.Ag.length ci0 (Az r.Ag) (by simp[Az]) (bd8.keep KW id).cells (Et _) (by omega)
    gi_wp2_with (gi_at_call 141;refine(cc _).mono ?_;rintro e w1 ⟨K1,v,rfl,Es⟩);obtain⟨g,c,rfl,hR,E⟩:=Qw Es hL0 (Et _);exact⟨_,rfl,K1,by unfold PQ;rw[if_pos rfl];exact⟨g,c,rfl,hR,Nat.le_trans KW.size E⟩⟩
   .obtain⟨g,c,S,hR,E⟩:∃g c,u 14=Q_ g r.Ag.length c/\Rw 123 1 W g r.Ag.length c (Az r.Ag)/\C.heap.size<=g:=by
     have:=hu 14 (by simp) (by decide)
     unfold PQ at this;rwa [if_pos rfl]at this
    refine Bh rfl λKK Lh=>?_
    show wpListIn NF m prog _ _ _ (Act.put (Act.put (Act.put _ (some 36) (u 14)) (some 37) (u 15)) (some 42) (u 20)) _;rw[S];gi_wp2;rw[<-S];exact⟨_,rfl,p_ _ _,by unfold PQ;rw[if_neg (by decide),if_pos rfl];exact⟨g,c,by rw[S],hR,E⟩⟩
   .refine Bh rfl λKK Lh=>?_
    show wpListIn NF m prog _ _ _ (Act.put (Act.put (Act.put _ (some 36) (u 14)) (some 37) (u 15)) (some 42) (u 20)) _;have cc:=λm=>XK m W (S_ gf0) r.fds.length cf0 (Fp r.fds) (by simp[Fp]) (be0.keep KW id).cells (XA _) (by omega)
    gi_wp2_with (gi_at_call 102;refine(cc _).mono ?_;rintro e w1 ⟨K1,v,rfl,Es⟩);obtain⟨g,c,rfl,hR,E⟩:=Qw Es Z (XA _);exact⟨_,rfl,K1,by unfold PQ;rw[if_neg (by decide),if_neg (by decide)];exact⟨g,c,rfl,hR,Nat.le_trans KW.size E⟩⟩
  .intro u W G hu;have KW:Keep No C W:=(p_ No C).drew.then G;obtain⟨gi,ci,e15,O,hgi⟩:∃g c,u 15=.agg #[a_ 0,a_ 0,a_ r.P,Q_ g r.Ag.length c]/\Rw 123 1 W g r.Ag.length c (Az r.Ag)/\C.heap.size<=g:=by
    have:=hu 15 (by simp)
    unfold PQ at this;rwa [if_neg (by decide),if_pos rfl]at this
   obtain⟨gf,cf,e20,N,hgf⟩:∃g c,u 20=Q_ g r.fds.length c/\Rw 3 1 W g r.fds.length c (Fp r.fds)/\C.heap.size<=g:=by
    have:=hu 20 (by simp)
    unfold PQ at this;rwa [if_neg (by decide),if_neg (by decide)]at this
   show wpListIn NF m prog _ _ _ (Act.put (Act.put (Act.put _ (some 36) (u 14)) (some 37) (u 15)) (some 42) (u 20)) _;rw[e15,e20];generalize u 14=v14;have hif:gi≠gf:=by
    obtain⟨c1,a1,_⟩:=O.blk
    obtain⟨c2,a2,_⟩:=N.blk
    exact BU a1 a2 (by decide)
   obtain⟨rc,l⟩:∃rc:PR,rc=⟨0,r.pid,0,0,0,r.P,0,false,0,.nilFunc,Q_ gi r.Ag.length ci,Q_ gf r.fds.length cf,r.Ag,r.fds⟩:=⟨_,rfl⟩;have oal:W.alloc (.cells #[b_ 0,b_ r.pid,.bool false,a_ 0,.nilFunc,a_ 0,a_ 0,a_ r.P,Q_ gi r.Ag.length ci,Q_ gf r.fds.length cf,b_ 0,b_ 0] 128)=W.alloc rc.obj:=(by rw[l];rfl);have hal:(W.alloc rc.obj).heap[W.heap.size]?=some rc.obj:=heap_alloc_new rfl;have Kal:Keep No W (W.alloc rc.obj):=(p_ _ _).alloc _;have bd9:=O.keep Kal id;have be1:=N.keep Kal id;have rQ:rc.Ag=r.Ag:=(by rw[l]);have zK:rc.fds=r.fds:=(by rw[l]);have R:rc.en=false:=(by rw[l]);have bf7:rc.bl=.nilFunc:=(by rw[l]);have bf5:rc.im=Q_ gi rc.Ag.length ci:=(by rw[l]);have bf6:rc.fd=Q_ gf rc.fds.length cf:=(by rw[l]);have lgi:=O.lt;have lgf:=N.lt;obtain⟨h5,M5⟩:=I.bs8 (r:=rc) (p:=W.heap.size) (gi:=gi) (gf:=gf) (ci:=ci) (cf:=cf) (KW.then Kal) KW.size hgi hgf (by omega) (by omega) hif hal R bf7 bf5 bf6 (by rw[rQ];exact bd9) (by rw[zK];exact be1);have hpn:K.ps W.heap.size=none:=by
    cases hx:K.ps W.heap.size with
    |none=>rfl
    |some q=>
     have:=(I.ps _ q hx).t
     rw[I.lt _ KW.size]at this;simp at this
   have ca:=λm=>am5 m (W.alloc rc.obj) { K with ps:=Dz K.ps W.heap.size rc,T:=QZ K.T W.heap.size gi gf } W.heap.size NS rc h5 Am (by rw[rQ];exact hL) hO.sw.fit hO.sw.le (by show K.Cj<=100000;omega) (by show K.AP.length<=100;omega)
   have ca2:=λm=>(ca m).mono λe w' x=>aa3 (r:=r) o (by omega) (by rw[l]) R hn zK rQ (by rw[l]) (by rw[l]) (by rw[l]) (by rw[l]) hpn x
   clear ca;clear l rQ zK R bf7 bf5 bf6;have rb5:(W.alloc rc.obj).heap[w.heap.size]?=some (O_ #[a_ 0,a_ 0,.nilFunc] 206):=(KW.then Kal).old rb id;have V5:BM K.T (QZ K.T W.heap.size gi gf) C (W.alloc rc.obj):=M5;have tr5:QZ K.T W.heap.size gi gf w.heap.size=(0,0):=(Dv.fresh V5 _ BN).trans Gp;clear I M5 KW Kal O N bd9 be1 q8 q9 bd8 be0 G hu p0 p7 q2 q3 hgi hgf hal e15 e20;gi_wp2_with (gi_at_call 46;refine(ca2 _).mono ?_;rintro e w6 (⟨rfl,h6,M6⟩|⟨q,D,g6,c6,rfl,z,h6,M6,q9,efd⟩))
   .obtain⟨NJ,Gt⟩:=hO.fds (K1:={ K with T:=QZ K.T W.heap.size gi gf }) (r':=r) (H:=BF K.ps K.AP) ⟨rfl⟩ hm hb rfl rfl rfl rfl rfl o ⟨hO.DV.ho,hO.DV.le,hO.DV.op,hO.DV.nd,hO.DV.nz,hO.DV.nm,hO.DV.dj⟩ λi _=>rfl
    rw[FY (K:={ K with T:=QZ K.T W.heap.size gi gf }) hb]at NJ Gt;have V6:=V5.trans M6;have rb6:=M6.old rb5 tr5;gi_wp2_with (first|(gi_at_call 140;refine(wr8 5 rb6 _).mono ?_;rintro e wz ⟨rfl,F,w8,J,L,M⟩)|refine En J ?_);refine TR 0 5 (by simp[results,results142,go_sem,EF M]) rfl ?_;exact A7 (K':={ K with T:=QZ K.T W.heap.size gi gf }) (x:=0) (y:=5) h.lt K0 BN ((V6).then F) ((h6).no F) L (by omega) (by omega) (.inl rfl) (NJ) (Gt) hb (λ_=>hm)
   .have V6:=V5.trans M6;have rb6:=M6.old rb5 tr5;have yG:D.kb=K.kb:=(by rw[z.eq]);have t6:ED (λi=>BF K.ps K.AP i+(r.fds.take 0).count (i:Int)) D:=by
     have t:=hO.DV
     refine ED.congr (H:=BF K.ps K.AP) ?_ λi _=>by simp
     rw[z.eq]
     exact⟨t.ho,t.le,t.op,t.nd,t.nz,t.nm,t.dj⟩
    generalize W.heap.size=p at*;clear oal h5 V5 rb5 tr5 lgi lgf ca2 M6;gi_loopw [55] (λi wr=>∃k:Nat,k<=r.fds.length/\i=b_ k/\ba7 K D K.T C r.fds k wr) (λi _=>r.fds.length-(intOf i).toNat)
    case atStart=>exact⟨0,by omega,rfl,D.desc,h6,V6,t6⟩
    case round=>
     obtain⟨k,hk,rfl,d1,h1,Q,B⟩:=hrel
     have JG:({ D with desc:=d1 }:KS).ps p=some q:=z.ps
     obtain⟨g1,c1,p9,U,tg1,s⟩:=h1.bY JG z.en
     rw[z.fds]at U s p9
     obtain⟨rfl,rfl⟩:g1=g6/\c1=c6:=by rw[efd]at s;simp at s;exact⟨s.1.symm,s.2.symm⟩
     by_cases BI:k<r.fds.length
     .have X:r.fds[k]?=some r.fds[k]:=Ii BI;generalize r.fds[k]=n at X;have d:=U.MR rfl X;obtain rfl|⟨i,rfl,hi⟩:=o.fd n (t_ X)
      .gi_wp2;go_roundw
       case rel=>
        refine⟨k+1,by omega,by go_num,d1,h1,Q,B.congr λi _=>?_⟩
        rw[Jz X,if_neg (by omega)];rfl
       case measure=>simp[intOf];omega
      .have E:=RX (p:=K.ps) (i:=i) hm hb;have hcp:0<r.fds.count (i:Int):=List.count_pos_iff.2 (t_ X);have hct:=Jz (i:=i) X;rw[if_pos rfl]at hct;have Y:=λj=>hO.XB j
       have V:∀j,(r.fds.take k).count j<=6:=λj=>Nat.le_trans List.count_le_length (by simp;omega)
       have hd1:0<d1 i:=(by have:=B.ho i hi;simp only at this;omega);have hd2:d1 i<=1000:=(by have t:=B.ho i hi;simp only at t;have:=Y i;have:=V i;omega);have cs:=λm=>fO m wr { D with desc:=d1 } i h1 hi hd1 hd2
       rw[show({ D with desc:=d1 }:KS).kb=K.kb from yG]at cs;have f1:((i:Int) !=-1)=true:=(by simp);gi_wp2_with (gi_at_call 193;refine(cs _).mono ?_;rintro e w2 ⟨rfl,h2,M2⟩);go_roundw
       case rel=>
        refine⟨k+1,by omega,by go_num,Ar d1 i (d1 i+1),by rw[<-yG]at h2;exact h2,Q.trans M2,(B.share hd1 (λj hj=>?_) hi).congr λj _=>?_⟩
        .have a1:=Y j;have a2:=V j;have a3:=Y i;have a4:=V i;simp only[Ar];split<;>omega
        .unfold Ar;split
         .rename_i e;subst e;rw[hct];omega
         .rename_i e;rw[Jz X,if_neg (by omega)];rfl
       case measure=>simp[intOf];omega
     .obtain rfl:k=r.fds.length:=(by omega);rw[List.take_length]at B;rw[<-z.fds]at B;obtain⟨NJ,Gt⟩:=hO.born (b:=b) (q:=q) (K1:={ D with desc:=d1 }) hpn (by omega) (by omega) z.ok z.pid z.co (by rw[z.Ag];exact hL) z.sw B (by have:=z.eq;rw[this]);have p0:=h1.GG JG 0;simp[PR.arr]at p0;have hpq:=z.ok.pid;have hbb:({ D with desc:=d1 }:KS).ps b=some r:=(by show D.ps b=_;rw[z.eq];exact(BZ (by rintro rfl;rw[hpn]at hb;cases hb)).trans hb);have hmb:b∈({ D with desc:=d1 }:KS).AP:=(by show b∈D.AP;rw[z.eq];simp[hm]);have rb7:=Q.old rb Gp;clear p9 U yG efd s q9;gi_wp2_with (first|(gi_at_call 152;refine(Dx _ _ q.pid (by omega)).mono ?_;rintro e wz ⟨rfl,F⟩;obtain⟨w8,J,L,M⟩:=Ap (x:=q.pid) (y:=0) (f:=.nilFunc) (F.old (rb7) id) rfl)|refine En J ?_);refine TR q.pid 0 (by simp[results,results142,go_sem,EF M]) rfl ?_;exact A7 (K':={ D with desc:=d1 }) (x:=q.pid) (y:=0) h.lt K0 BN ((Q).then F) ((h1).no F) L (by omega) (by omega) (.inl rfl) (NJ) (Gt) hbb (λ_=>hmb)
end
section
variable (m:Nat) (w:o_)
theorem qQ (u:FrameMode) (K:KS) (b N:Nat) (r:PR) (h:AV K w) (hT:K.EC) (hb:K.ps b=some r) (hm:b∈K.AP) (hN:K.AP.Nodup) (hC:BR N (0,0) K) (hl:K.AP.length<=100):
  CallsDIn NF m prog 53 #[R_ K.kb,R_ b] u w λe u' w'=>u'=u/\(e=.returned (.tuple #[])/\∃K',AV K' w'/\CJ K K'/\BR N (0,0) K'/\BM K.T K'.T w w'/\UB N b r K'):=(XM m w K b N r h hT hb hm hN hC hl).2 u
end
end Go.Fxa
