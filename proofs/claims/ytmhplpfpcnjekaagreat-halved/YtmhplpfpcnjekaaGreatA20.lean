/- Words are append -/
import Derived.Test.YtmhplpfpcnjekaaGreatA19
namespace Go.Fxa
open Conc Proofs RowKit Proofs.Tryz
set_option maxRecDepth 1000000
set_option maxHeartbeats 0
variable {T T':Tag}{ct:Nat->Ct}{w W:o_}{b p i f n c M x o e0:Nat}{nm:Nat->d_ Nat}{nl ys ws:List Nat}{v:n_}{a d:d_ f_}{ty:j_}{r:PR}
theorem EN.I7 {op:Nat->Nat}{Q N:Nat×Nat->Prop}{w':o_}{kb:Nat}(h:EN T op ct w kb b)(M:CG T T' Q N w w')(g:¬Q (15,b))(j:∀t,Q t->t.1<10\/t.1=15)(hN:∀t,N t->t.1<10\/t.1=15):EN T' op ct w' kb b:=by
 have q:∀k c,10<=k->k<15->¬Q (k,c):=λk c d f e=>by have:=j _ e;simp at this;omega
 have n:∀k c,10<=k->k<15->¬N (k,c):=λk c d f e=>by have:=hN _ e;simp at this;omega
 refine⟨λe=>?_,λe=>?_,λc e=>?_,λe=>?_,λe=>?_⟩
 .have e:=M.back e sJ (n _ _ wB wB);obtain⟨x,a1,a2⟩:=h.file e;exact⟨x,M.blk a1 e (q _ _ wB wB),a2.I7 M g⟩
 .have e:=M.back e sJ (n _ _ wB wB);obtain⟨x,a1,a2⟩:=h.pipe e;exact⟨x,M.blk a1 e (q _ _ wB wB),a2.I7 M g⟩
 .have e:=M.back e sJ (n _ _ wB wB);obtain⟨a1,a2,a⟩:=h.GU c e;exact⟨M.blk a1 e (q _ _ wB wB),M.tag a2 sJ,a⟩
 .have e:=M.back e sJ (n _ _ wB wB);obtain⟨a1,a2⟩:=h.rend e;exact⟨M.blk a1 e (q _ _ wB wB),M.tag a2 sJ⟩
 .have e:=M.back e sJ (n _ _ wB wB);obtain⟨a1,a2⟩:=h.UD e;exact⟨M.blk a1 e (q _ _ wB wB),M.tag a2 sJ⟩
theorem XW.other (h:XW T nm nl w)(M:CG T T' (λt=>t=(15,p)) (λt=>t=(15,p)) w W)(g:T p≠(10,0)):XW T' nm nl (W.setCell (S_ p i) v):=
 (h.I7 M sJ sJ).to λb n e=>⟨e,λc=>c.keep ((Aa.refl (At p) W).setCell (p:=(S_ p i)) v λ_=>rfl) λa=>g (by rw[<-show b=p from a];exact M.back e sJ sJ)⟩
def KS.GI (K:KS)(f n:Nat):Prop:=Nv (λb=>(K.ct b).ws.length) K.nm K.nl+Aj n<=40+Aj (K.ct f).ws.length
def YO (K:KS)(w:o_)(f n:Nat)(x:Bool):Prop:=(x=true->∃ln:Nat->Nat,(∀b,K.T b=(10,0)->JS w b (ln b))/\Nv ln K.nm K.nl<=40/\Nv ln K.nm K.nl+Aj n<=40+Aj (ln f))/\Yp (x=true ↔ K.GI f n)
structure Uniq (nm:Nat->d_ Nat)(nl:List Nat):Prop where
 nd:nl.Nodup
 inj:∀i j f,i<16->j<16->nm i=some f->nm j=some f->i=j
 dj:∀i f,i<16->nm i=some f->f ∉ nl
theorem V8 {f g:Nat->Nat}{l:List Nat}(hN:l.Nodup)(hb:b∈l)(h:∀k,k∈l->k≠b->f k=g k):BP f l+g b=BP g l+f b:=by
 have e:=BU (f:=f) (g:=λk=>if k=b then f b else g k) (l:=l) λk a=>by
  by_cases e:k=b
  .subst e;simp
  .rw[ru e];exact h k a e
 have:=JG (f:=λk=>if k=b then f b else g k) (g:=g) hN hb λk a=>ru a
 rw[rW rfl]at this;omega
theorem ab7 {m:Nat->Nat}(q:Uniq nm nl)(s:Nv m nm nl<=40)(t:Nv m nm nl+Aj n<=40+Aj (m f)):Nv (Ah m f n) nm nl<=40:=by
 have d:∀k,k≠f->Aj (Ah m f n k)=Aj (m k):=λk c=>by unfold Ah;rw[ru c]
 have h:Aj (Ah m f n f)=Aj n:=by unfold Ah;rw[rW rfl]
 unfold Nv at*;by_cases j:∃i,i<16/\nm i=some f
 .obtain⟨i,hi,a⟩:=j;have e1:=BU (f:=λb=>Aj (Ah m f n b)) (g:=λb=>Aj (m b)) (l:=nl) λk c=>d k (by rintro rfl;exact q.dj i k hi a c)
  have e2:=V8 (f:=PO (Ah m f n) nm) (g:=PO m nm) (l:=List.range 16) (b:=i) List.nodup_range (List.mem_range.2 hi) λk c e=>by
   unfold PO
   cases hk':nm k with
   |none=>rfl
   |some g=>exact d g (by rintro rfl;exact e (q.inj k i g (List.mem_range.1 c) hi hk' a))
  have e3:PO m nm i=Aj (m f):=by unfold PO;rw[a]
  have e4:PO (Ah m f n) nm i=Aj n:=by unfold PO;rw[a];exact h
  omega
 .have e2:=BU (f:=PO (Ah m f n) nm) (g:=PO m nm) (l:=List.range 16) λk c=>by
   unfold PO
   cases hk':nm k with
   |none=>rfl
   |some g=>exact d g (by rintro rfl;exact j ⟨k,List.mem_range.1 c,hk'⟩)
  by_cases hb:f∈nl
  .have e1:=JG (f:=λb=>Aj (Ah m f n b)) (g:=λb=>Aj (m b)) q.nd hb d;simp only[h]at e1;omega
  .have e1:=BU (f:=λb=>Aj (Ah m f n b)) (g:=λb=>Aj (m b)) (l:=nl) λk c=>d k (by rintro rfl;exact hb c)
   omega
theorem XW.grow {K:KS}{w1:o_}{o v0:n_}(k:YO K w p n true)(m:Uniq K.nm K.nl)(l:Aa No w w1)(M:CG K.T T' (λt=>t=(15,p)) (λt=>t=(15,p)) w1 W)(q:W.heap[p]?=some (N_ #[v0,o] 191)):XW T' K.nm K.nl (W.setCell (R_ p) (.slice a n c)):=by
 obtain⟨d,h,i,j⟩:=k.1 rfl;refine⟨Ah d p n,λb e=>?_,ab7 m i j⟩;have g:=M.back e sJ sJ;by_cases f:b=p
 .subst f;have:Ah d b n b=n:=rW rfl;rw[this];exact⟨a,c,o,by rw[Ap q];simp⟩
 .have:Ah d p n b=d b:=ru f;rw[this];exact(((h b g).keep l id).keep M.keep (by unfold On;rw[g];simp)).keep ((Aa.refl (At p) W).setCell (p:=(R_ p)) _ λ_=>rfl) f
theorem AY.ad6 {K:KS}{Qz:Nat->Ct}(h:AY K w)(y:10<=(K.T p).1)(z:(K.T p).1<15)(M:CG K.T T' (λt=>t=(15,p)) (λt=>t=(15,p)) w W)(C:EN T' K.op Qz (W.setCell (S_ p i) v) K.kb p)(B:XW T' K.nm K.nl (W.setCell (S_ p i) v))(A:∀b,b≠p->Qz b=K.ct b):AY {K with T:=T',ct:=Qz} (W.setCell (S_ p i) v)/\BQ K.T T' w (W.setCell (S_ p i) v):=by
 obtain⟨x,s,r⟩:=h.k;have f:T' p=K.T p:=CG.old M p (by intro e;rw[e]at y;simp at y);have a:Aa (At p) W (W.setCell (S_ p i) v):=(Aa.refl _ _).setCell _ λ_=>rfl
 have o:Aa (On K.T λt=>t=(1,0)\/t=(5,0)\/10<=t.1) w (W.setCell (S_ p i) v):=(M.keep.on λk _ e=>.inr (.inr (by rw[show K.T k=(15,p)from e];simp))).trans a λk _ e=>by subst e;exact .inr (.inr y)
 have j:∀b,(W.setCell (S_ p i) v).heap.size<=b->T' b=(0,0):=λb hb=>M.lt b (lN a.size hb)
 have m:CG K.T T' (λt=>t=(1,0)\/t=(5,0)\/10<=t.1) (λt=>t=(5,0)\/10<=t.1) w (W.setCell (S_ p i) v):=⟨o,CG.old M,λb c d=>.inr (by rw[CG.new M b c d];simp),j,M.fresh⟩;have l:CG K.T T' (λt=>10<=t.1) (λt=>10<=t.1) w (W.setCell (S_ p i) v):=⟨(M.keep.on λk _ e=>by rw[show K.T k=(15,p)from e];simp).trans a λk _ e=>by subst e;exact y,CG.old M,λb c d=>by rw[CG.new M b c d];simp,j,M.fresh⟩;have u:K.kb≠p:=λe=>by rw[<-e,h.tk]at y;simp at y
 refine⟨h.aO (ks':=x) m (l.blk s h.tk sJ) (KC.bq7 (r.I7 l sJ) Qz) (cO.of λb=>?_) B,m.Xu ?_⟩
 .by_cases e:b=p
  .subst e;exact C
  .refine EN.ct (((h.fl.one b).I7 M (by simpa using e) (by rintro t rfl;simp) (by rintro t rfl;simp)).keep a e λg n q=>?_) (A b e);rw[show g=p from q,f]at n;rw[n]at z;simp at z
 .rintro t (rfl|rfl|h)<;>try simp
  rintro rfl;simp at h
def UK (T:Tag)(w:o_)(p M:Nat)(ws:List Nat)(v:n_)(W:o_):Prop:=(v=.slice none 0 0/\ws=[])\/∃g c,v=P_ g ws.length c/\Rw 123 1 W g ws.length c (Aw ws)/\ws.length<=M/\(∀x∈ws,x<65536)/\(T g=(15,p)\/w.heap.size<=g)
theorem by7 {a:f_}{m:Nat}(l:ys.length=m)(s:1<=m)(k:∀j v,(Aw ys)[j]?=some v->w.cell? (a.add j)=some v)(q:m<=1000):∃cap w',(Builtin.append_ #[116,116] ty #[.slice none 0 0,.slice (some a) m c]).run prog w=.ok (P_ w.heap.size m cap) w'/\Rw 123 1 w' w.heap.size m cap (Aw ys)/\Aa No w w':=by
 obtain⟨ii,hi,i,h,d⟩:=JR.parts;have b:(Aw ys).length=m:=by simp[Aw,l]
 have g:=run_append_nil (P:=prog) w 116 ty 123 ii (a_ 0) JR.und hi i a m c (Aw ys) (by rw[h,b];simp) k wB wB (by rw[d];omega);have f:m<=maxLen:=by simp only[maxLen];omega
 have e:=grownCap_ge w m 0 123;refine⟨_,_,g,⟨⟨_,Yw rfl,?_,?_⟩,e,grownCap_le_maxLen w m 0 123 f,by rw[b];omega,EJ ys⟩,(Aa.refl No w).drew.alloc _⟩
 .simp only[Array.size_append,List.size_toArray,size_zeroCells,JR.zs,b];omega
 .simp only[Array.toList_append];have:m*1=(Aw ys).length:=by rw[b];omega
  rw[this];exact List.take_left
theorem bp7 {c2:Nat}(h:n<=c):(Builtin.append_ #[116,116] ty #[.slice a n c,.slice d 0 c2]).run prog w=.ok (.slice a n c) w:=by
 obtain⟨ii,hi,f,e,b⟩:=JR.parts;cases a<;>cases d<;>simp[Builtin.append_,run_underlying JR.und,Builtin.lenOf,Builtin.firstCells,sizeOf,typeInfo,hi,h,storeCells,loadCells,loadCellsFrom]
theorem appW {E k cS:Nat}(F:Tf T w p M (.slice a n c) ws)(H:M<=E)(D:ys.length=k)(G:∀x∈ys,x<65536)(J:k=0\/∃ad,d=some ad/\∀j v,(Aw ys)[j]?=some v->w.cell? (ad.add j)=some v)(K:n+k<=E)(I:E<=1000):∃v W,(Builtin.append_ #[116,116] ty #[.slice a n c,.slice d k cS]).run prog w=.ok v W/\UK T w p E (ws++ys) v W/\Aa (On T λt=>t=(15,p)) w W:=by
 by_cases y:k=0
 .subst y;obtain rfl:ys=[]:=by cases ys;rfl;simp at D
  rw[List.append_nil];obtain⟨e,rfl⟩|⟨g,A,e,hR,r,l,h⟩:=F
  .cases e;exact⟨_,_,bp7 w_,.inl ⟨rfl,rfl⟩,Aa.refl _ _⟩
  .cases e;exact⟨_,_,bp7 hR.le,.inr ⟨g,c,rfl,hR,lN r H,l,.inl h⟩,Aa.refl _ _⟩
 .obtain⟨ad,rfl,u⟩:=J.resolve_left y;obtain⟨e,rfl⟩|⟨g,A,e,hR,r,l,h⟩:=F
  .cases e;rw[List.nil_append];obtain⟨cap,C,m,i,b⟩:=by7 (ty:=ty) (c:=cS) D wB u wB;exact⟨_,_,m,.inr ⟨w.heap.size,cap,by rw[D],by rw[D];exact i,wB,G,.inr w_⟩,b.no⟩
  .cases e;have o:(Aw ys).length=k*1:=(by simp[Aw,D]);obtain⟨B,z,C,m,i,s⟩:=yX (ty:=ty) (sCap:=cS) JR hR o u (EJ ys) wB wB;have q:(ws++ys).length=ws.length+k:=(by rw[g_,D]);refine⟨_,_,m,.inr ⟨B,z,by rw[q],by rw[q];simpa [Aw]using i,wB,λx f=>?_,?_⟩,?_⟩
   .obtain f|f:=eF.1 f
    .exact l x f
    .exact G x f
   .obtain⟨rfl,_⟩|⟨rfl,_⟩:=s
    .exact .inl h
    .exact .inr w_
   .obtain⟨rfl,b⟩|⟨rfl,b⟩:=s
    .exact b.on λx _ e=>by subst e;exact h
    .exact b.no
theorem UK.I7 (h:UK T w p M ws v W)(j:Aa (On T λt=>t=(15,p)) w W)(k:∀b,w.heap.size<=b->T b=(0,0)):∃T',CG T T' (λt=>t=(15,p)) (λt=>t=(15,p)) w W/\Tf T' W p M v ws:=by
 obtain⟨rfl,e⟩|⟨g,c,rfl,hR,a,d,f⟩:=h
 .exact⟨T,CG.of j k,.inl ⟨rfl,e⟩⟩
 .exact⟨Bi T g (15,p),CG.row j k f hR.lt rfl,.inr ⟨g,c,rfl,hR,a,d,A7⟩⟩
def Sz (X:(Nat->Ct)->Nat->Nat->n_->Prop)(K:KS)(b:Nat)(w:o_)(e:Ending)(w':o_):Prop:=∃(T':Tag) (ct:Nat->Ct) (x y:Nat) (f:n_),e=.returned (.agg #[a_ x,a_ y,f])/\x<65536/\y<65536/\MC T' w' K.kb b f/\AY {K with T:=T',ct:=ct} w'/\BQ K.T T' w w'/\X ct x y f
theorem Dq {X:(Nat->Ct)->Nat->Nat->n_->Prop}{y:Nat}{K:KS}{w0 g j:o_}{f:n_}(l:∀k,w.heap.size<=k->K.T k=(0,0))(s:Aa No w w0)(q:w.heap.size<w0.heap.size)(m:BQ K.T T' w0 g)(u:AY {K with T:=T',ct:=ct} g)(h:Aa (At w.heap.size) g j)(A:x<65536)(B:y<65536)(z:MC T' g K.kb b f)(hX:X ct x y f):Sz X K b w (.returned (.agg #[a_ x,a_ y,f])) j:=by
 have a:T' w.heap.size=(0,0):=(CG.fresh m _ q).trans (l _ w_);have c:Aa (On T' λt=>t=(0,0)) g j:=h.on λk _ e=>by rw[show k=w.heap.size from e];exact a
 exact⟨T',ct,x,y,f,rfl,A,B,z.keep c sJ,AY.own u h a,((BQ.no s l).trans m).own h (λk e=>by rw[show k=w.heap.size from e];exact w_),hX⟩
theorem O1.words {K:KS}(h:AY K w)(hb:K.ps b=some r)(B:r.en=false)(hI:∀z∈r.Af,z<65536)(C:O1 r (.slice d n n) o n)(k:Nat)(D:k<=n):∃ys:List Nat,ys.length=k/\(∀x∈ys,x<65536)/\(k=0\/∃ad,d=some ad/\∀j v,(Aw ys)[j]?=some v->w.cell? (ad.add j)=some v)/\Yp (ys=(r.Af.drop o).take k):=by
 obtain⟨e,y⟩|⟨g,c,a,e,s,u⟩:=C
 .cases e;obtain rfl:k=0:=wB
  exact⟨[],rfl,sJ,.inl rfl,by unfold Yp;simp⟩
 .cases e;obtain⟨p,m,_,hR,A,i⟩:=h.lh hb B;obtain⟨rfl,rfl⟩:g=p/\c=m:=by rw[i]at a;simp at a;exact⟨a.1.symm,a.2.symm⟩
  refine⟨(r.Af.drop o).take k,by simp;omega,λx t=>hI x (List.mem_of_mem_drop (List.mem_of_mem_take t)),.inr ⟨_,rfl,λj v f=>?_⟩,rfl⟩;have l:((S_ g o):f_).add j=(S_ g (o+j)):=by unfold Addr.add;split<;>simp_all
  simp only[Aw,List.map_take,List.map_drop,List.getElem?_take,List.getElem?_drop]at f;split at f
  .rename_i q;rw[l,hR.cell wB];exact f
  .cases f
section
variable (m:Nat)(w:o_)
def XWr (K:KS)(p:Nat)(r:PR)(o n:Nat):(Nat->Ct)->Nat->Nat->n_->Prop:=λct x y f=>
 ((K.ct p).x=false/\ct=K.ct/\x=0/\y=11/\f=.nilFunc)\/
 ((K.ct p).x=true/\1<=n/\(K.ct p).JE=true/\ct=K.ct/\x=0/\y=0/\f=.func (.func 265) #[ptr p] #[])\/
 ((K.ct p).x=true/\(n=0\/(K.ct p).JE=false)/\x=Nat.min n (16-(K.ct p).ws.length)/\ct=Ah K.ct p { K.ct p with ws:=(K.ct p).ws++(r.Af.drop o).take x}/\y=0/\f=.nilFunc)
theorem XWr.of {K:KS}(j:(K.ct p).x=true)(e:Yp ((K.ct p).ws=ws))(g:n=0\/(K.ct p).JE=false)(k:Yp (ys=(r.Af.drop o).take x))(h:x=Nat.min n (16-ws.length)):XWr K p r o n (Ah K.ct p { K.ct p with ws:=ws++ys}) x 0 .nilFunc:=by
 refine .inr (.inr ⟨j,g,?_,?_,rfl,rfl⟩)
 .rw[e.out];exact h
 .rw[e.out,k.out]
theorem ϛ (K:KS)(b e0 o n:Nat)(r:PR)(v:n_)(h:AY K w)(hb:K.ps b=some r)(hn:r.en=false)(hI:∀z∈r.Af,z<65536)(hL:r.Af.length<=128)(te:K.T e0=(14,0))(hv:O1 r v o n):
  O_ m 275 #[Q_ e0,v] w (Sz (XWr K (K.ct e0).n r o n) K b w):=by
 obtain⟨K0,rb,Cm⟩:=IE w;have F:=h.no K0;have Hl:K.T w.heap.size=(0,0):=h.lt _ w_;obtain⟨d0,rfl,cn0⟩:∃d,v=.slice d n n/\n<=128:=by
  obtain⟨rfl,rfl⟩|⟨g,c,_,rfl,_,_⟩:=hv
  .exact⟨none,rfl,wB⟩
  .exact⟨_,rfl,wB⟩
 obtain⟨he,A⟩:=F.fl.UD e0 te;generalize (K.ct e0).n=p at*;have d1:(w.alloc V_).cell? (R_ e0)=some (Q_ p):=(Ai he 0).trans rfl;obtain⟨u,hp,hu⟩:=F.fl.pipe p A;generalize ex:(K.ct p).x=x at hp;generalize ey:(K.ct p).y=y at hp;obtain⟨ws,Xx⟩:∃ws,Yp ((K.ct p).ws=ws):=⟨_,rfl⟩;rw[Xx.out]at hu;obtain⟨a,c',rfl,hwc,hw16,hwx,hwn,hws⟩:=hu.shape;have q0:(w.alloc V_).cell? (R_ p)=some (.slice a ws.length c'):=(Ai hp 0).trans rfl;have q1:(w.alloc V_).cell? (S_ p 1)=some (.bool x):=(Ai hp 1).trans rfl;obtain⟨B,dg6⟩:∃B:Nat,(16:Int)-(ws.length:Int)=(B:Int):=⟨16-ws.length,wB⟩;cases x with
 |false=>
  gi_enter func275,ntmps275
  gi_wp2_with fail
  gi_wp2_with (first|(gi_at_call 273;refine(fw8 11 rb _).mono ?_;rintro e wz ⟨rfl,G,w8,H,I,C⟩)|refine Fa H ?_)
  refine T_ 0 11 (by simp[results,results275,go_sem,FU C]) rfl ?_
  exact Dq (T':=K.T) (ct:=K.ct) (x:=0) (y:=11) h.lt K0 Cm (((BQ.no (Aa.refl No _) F.lt)).then G) ((F).no G) I wB wB (.inl rfl) (.inl ⟨ex,rfl,rfl,rfl,rfl⟩)
 |true=>
  have cs:=λm=>ZW m _ K p F A
  by_cases hz:n=0
  .subst hz;have l:Aa No (w.alloc V_) (w.alloc V_):=Aa.refl _ _;gi_enter func275,ntmps275;gi_wp2;have N:=d1;have q0w:=q0;generalize hw0:w.alloc V_=J at*;have k:AY K J.drew:=F.no l.drew;obtain⟨ys,Y,Z,V,X⟩:=hv.words k hb hn hI 0 (Nat.le_refl 0);obtain⟨va,Wa,Jm,σ,O⟩:=appW (ty:=116) (cS:=0) (hu.set l.drew (fun _ _=>id)) (Nat.le_refl 16) Y Z V wB wB;have e1:J.drew.cell? (R_ e0)=some (Q_ p):=N;have e2:J.drew.cell? (R_ p)=some (.slice a ws.length c'):=q0w;have iq:=l9 _ _ e1;have lp2:=l9 _ _ e2;refine Dx (P:=prog) _ rfl rfl sU 15 62 [0,1,2,3,4,5,6,7,8,9,10,11,12,13] [14] sU (by rfl)
    (Oi (On K.T λt=>t=(15,p)) J.drew 14 (UK K.T J.drew p 16 (ws++ys)) []) (Gj sJ sJ) _ _ rfl rfl ?_;gi_wp2_with (refine Dl rfl (.tmp 53) (.tmp 56) _ rfl rfl rfl Jm ?_);refine⟨rfl,sU,Et,?_,?_,?_⟩
   .intro L' u W j;have d1:=(j.1.cell (w:=J.drew) (p:=(R_ e0)) iq (by unfold On;rw[te];simp)).trans e1;have d2:=(j.1.cell (w:=J.drew) (p:=(R_ p)) lp2 (by unfold On;rw[A];simp)).trans e2
    repeat' (refine AA ?_ ?_)
    all_goals first|exact dE|gi_wp2
   .intro i hi L' u W j R hu';obtain rfl:i=14:=(by simpa using hi);obtain rfl:=j.2.1 R;refine BI rfl λKK Ol=>?_
    show wpListIn NF m prog _ _ _ (Act.put _ (some 57) (u 14)) _;gi_wp2_with (refine Dl rfl (.tmp 53) (.tmp 56) _ rfl rfl rfl Jm ?_);exact⟨_,rfl,Gl j sJ O σ⟩
   .intro L' u W j Q;have q:=j.2.2.1 (Q 14 sJ);obtain⟨M,n3,c3,D⟩:∃a n c,u 14=.slice a n c:=by
     obtain⟨e,_⟩|⟨g,c,e,_⟩:=q<;>exact⟨_,_,_,e⟩
    show wpListIn NF m prog _ _ _ (Act.put _ (some 57) (u 14)) _;rw[D];rw[D]at q;have s:=j.1.old (w:=J.drew) (l.old hp id) (by unfold On;rw[A];simp);have q3:W.cell? (R_ p)=some _:=(Ai s 0).trans rfl;have z3:=Cf s 0;gi_wp2_with fail;obtain⟨T',L,S⟩:=q.I7 j.1 k.lt;have E:T' p=(11,0):=L.tag A sJ;have s4:=k.ad6 (i:=0) (v:=.slice M n3 c3) (by rw[A];simp) (by rw[A];simp) L (EN.WI (ct:=Ah K.ct p { K.ct p with ws:=ws++ys}) (v:=.slice M n3 c3) E ((Ap s _).trans (by simp[Ah,ex,ey])) (by have:=S.set (Aa.O8 (b:=p) (o:=0) (.slice M n3 c3)) (λg hg e=>by rw[show g=p from e,E]at hg;simp at hg);simpa [Ah]using this)) (k.dk.other L (by rw[A];simp)) (λb hb=>ru hb);have LU:BQ K.T T' J _:=(BQ.no l.drew F.lt).trans s4.2;gi_wp2_with (first|(gi_at_call 272;refine(Dp _ _ 0 wB).mono ?_;rintro e wz ⟨rfl,G⟩;obtain⟨w8,H,I,C⟩:=Az (x:=0) (y:=0) (f:=.nilFunc) (G.old (LU.old rb Hl) id) rfl)|refine Fa H ?_);refine T_ 0 0 (by simp[results,results275,go_sem,FU C]) rfl ?_;exact Dq (T':=T') (x:=0) (y:=0) h.lt K0 Cm ((LU).then G) ((s4.1).no G) I wB wB (.inl rfl) (XWr.of ex Xx (.inl rfl) X sJ)
  .have f1:(0:Int)<(n:Int):=wB;by_cases hkn:n<=B
   .have f2:¬(B:Int)<(n:Int):=wB;gi_enter func275,ntmps275;gi_wp2_with (first|(gi_at_call 265;refine(cs _).mono ?_;rintro e w1 ⟨l,xb,rfl,U⟩;have N:=l.has d1;have q0w:=l.has q0;generalize hw0:w.alloc V_=J at *;obtain⟨w8,H,I,C⟩:=Az (x:=0) (y:=0) (f:=.func (.func 265) #[Q_ p] #[]) (l.old rb id) rfl;cases xb)|refine Fa H ?_)
    .clear H I C;have k:AY K w1.drew:=F.no l.drew;obtain⟨ys,Y,Z,V,X⟩:=hv.words k hb hn hI n (Nat.le_refl n);obtain⟨va,Wa,Jm,σ,O⟩:=appW (ty:=116) (cS:=n) (hu.set l.drew (fun _ _=>id)) (Nat.le_refl 16) Y Z V wB wB;have e1:w1.drew.cell? (R_ e0)=some (Q_ p):=N;have e2:w1.drew.cell? (R_ p)=some (.slice a ws.length c'):=q0w;have iq:=l9 _ _ e1;have lp2:=l9 _ _ e2;refine Dx (P:=prog) _ rfl rfl sU 15 62 [0,1,2,3,4,5,6,7,8,9,10,11,12,13] [14] sU (by rfl)
      (Oi (On K.T λt=>t=(15,p)) w1.drew 14 (UK K.T w1.drew p 16 (ws++ys)) []) (Gj sJ sJ) _ _ rfl rfl ?_;gi_wp2_with (refine Dl rfl (.tmp 53) (.tmp 56) _ rfl rfl rfl Jm ?_);refine⟨rfl,sU,Et,?_,?_,?_⟩
     .intro L' u W j;have d1:=(j.1.cell (w:=w1.drew) (p:=(R_ e0)) iq (by unfold On;rw[te];simp)).trans e1;have d2:=(j.1.cell (w:=w1.drew) (p:=(R_ p)) lp2 (by unfold On;rw[A];simp)).trans e2
      repeat' (refine AA ?_ ?_)
      all_goals first|exact dE|gi_wp2
     .intro i hi L' u W j R hu';obtain rfl:i=14:=(by simpa using hi);obtain rfl:=j.2.1 R;refine BI rfl λKK Ol=>?_
      show wpListIn NF m prog _ _ _ (Act.put _ (some 57) (u 14)) _;gi_wp2_with (refine Dl rfl (.tmp 53) (.tmp 56) _ rfl rfl rfl Jm ?_);exact⟨_,rfl,Gl j sJ O σ⟩
     .intro L' u W j Q;have q:=j.2.2.1 (Q 14 sJ);obtain⟨M,n3,c3,D⟩:∃a n c,u 14=.slice a n c:=by
       obtain⟨e,_⟩|⟨g,c,e,_⟩:=q<;>exact⟨_,_,_,e⟩
      show wpListIn NF m prog _ _ _ (Act.put _ (some 57) (u 14)) _;rw[D];rw[D]at q;have s:=j.1.old (w:=w1.drew) (l.old hp id) (by unfold On;rw[A];simp);have q3:W.cell? (R_ p)=some _:=(Ai s 0).trans rfl;have z3:=Cf s 0;gi_wp2_with fail;obtain⟨T',L,S⟩:=q.I7 j.1 k.lt;have E:T' p=(11,0):=L.tag A sJ;have s4:=k.ad6 (i:=0) (v:=.slice M n3 c3) (by rw[A];simp) (by rw[A];simp) L (EN.WI (ct:=Ah K.ct p { K.ct p with ws:=ws++ys}) (v:=.slice M n3 c3) E ((Ap s _).trans (by simp[Ah,ex,ey])) (by have:=S.set (Aa.O8 (b:=p) (o:=0) (.slice M n3 c3)) (λg hg e=>by rw[show g=p from e,E]at hg;simp at hg);simpa [Ah]using this)) (k.dk.other L (by rw[A];simp)) (λb hb=>ru hb);have LU:BQ K.T T' J _:=(BQ.no l.drew F.lt).trans s4.2;gi_wp2_with (first|(gi_at_call 272;refine(Dp _ _ n wB).mono ?_;rintro e wz ⟨rfl,G⟩;obtain⟨w8,H,I,C⟩:=Az (x:=n) (y:=0) (f:=.nilFunc) (G.old (LU.old rb Hl) id) rfl)|refine Fa H ?_);refine T_ n 0 (by simp[results,results275,go_sem,FU C]) rfl ?_;exact Dq (T':=T') (x:=n) (y:=0) h.lt K0 Cm ((LU).then G) ((s4.1).no G) I wB wB (.inl rfl) (XWr.of ex Xx (.inr U.out.symm) X (by simp only[Nat.min_def];split<;>omega))
    .have ψ:w8.cell? (R_ w.heap.size)=some (a_ 0):=bce C rfl;have χ:w8.cell? (S_ w.heap.size 1)=some (a_ 0):=bce C rfl;have φ:w8.cell? (S_ w.heap.size 2)=some (.func (.func 265) #[Q_ p] #[]):=bce C rfl;refine bodyPost_ret (v:=.agg #[a_ 0,a_ 0,.func (.func 265) #[Q_ p] #[]]) (by simp[results,results275,go_sem,ψ,χ,φ]) rfl ?_;exact Dq (T':=K.T) (ct:=K.ct) (x:=0) (y:=0) h.lt K0 Cm (BQ.no l F.lt) (F.no l) I wB wB (.inr (.inr ⟨p,.inr rfl,A⟩)) (.inr (.inl ⟨ex,wB,U.out.symm,rfl,rfl,rfl,rfl⟩))
   .have f2:(B:Int)<(n:Int):=wB;gi_enter func275,ntmps275;gi_wp2_with (first|(gi_at_call 265;refine(cs _).mono ?_;rintro e w1 ⟨l,xb,rfl,U⟩;have N:=l.has d1;have q0w:=l.has q0;generalize hw0:w.alloc V_=J at *;obtain⟨w8,H,I,C⟩:=Az (x:=0) (y:=0) (f:=.func (.func 265) #[Q_ p] #[]) (l.old rb id) rfl;cases xb)|refine Fa H ?_)
    .clear H I C;have k:AY K w1.drew:=F.no l.drew;obtain⟨ys,Y,Z,V,X⟩:=hv.words k hb hn hI B wB;obtain⟨va,Wa,Jm,σ,O⟩:=appW (ty:=116) (cS:=n) (hu.set l.drew (fun _ _=>id)) (Nat.le_refl 16) Y Z V wB wB;have e1:w1.drew.cell? (R_ e0)=some (Q_ p):=N;have e2:w1.drew.cell? (R_ p)=some (.slice a ws.length c'):=q0w;have iq:=l9 _ _ e1;have lp2:=l9 _ _ e2;refine Dx (P:=prog) _ rfl rfl sU 15 62 [0,1,2,3,4,5,6,7,8,9,10,11,12,13] [14] sU (by rfl)
      (Oi (On K.T λt=>t=(15,p)) w1.drew 14 (UK K.T w1.drew p 16 (ws++ys)) []) (Gj sJ sJ) _ _ rfl rfl ?_;gi_wp2_with (refine Dl rfl (.tmp 53) (.tmp 56) _ rfl rfl rfl Jm ?_);refine⟨rfl,sU,Et,?_,?_,?_⟩
     .intro L' u W j;have d1:=(j.1.cell (w:=w1.drew) (p:=(R_ e0)) iq (by unfold On;rw[te];simp)).trans e1;have d2:=(j.1.cell (w:=w1.drew) (p:=(R_ p)) lp2 (by unfold On;rw[A];simp)).trans e2
      repeat' (refine AA ?_ ?_)
      all_goals first|exact dE|gi_wp2
     .intro i hi L' u W j R hu';obtain rfl:i=14:=(by simpa using hi);obtain rfl:=j.2.1 R;refine BI rfl λKK Ol=>?_
      show wpListIn NF m prog _ _ _ (Act.put _ (some 57) (u 14)) _;gi_wp2_with (refine Dl rfl (.tmp 53) (.tmp 56) _ rfl rfl rfl Jm ?_);exact⟨_,rfl,Gl j sJ O σ⟩
     .intro L' u W j Q;have q:=j.2.2.1 (Q 14 sJ);obtain⟨M,n3,c3,D⟩:∃a n c,u 14=.slice a n c:=by
       obtain⟨e,_⟩|⟨g,c,e,_⟩:=q<;>exact⟨_,_,_,e⟩
      show wpListIn NF m prog _ _ _ (Act.put _ (some 57) (u 14)) _;rw[D];rw[D]at q;have s:=j.1.old (w:=w1.drew) (l.old hp id) (by unfold On;rw[A];simp);have q3:W.cell? (R_ p)=some _:=(Ai s 0).trans rfl;have z3:=Cf s 0;gi_wp2_with fail;obtain⟨T',L,S⟩:=q.I7 j.1 k.lt;have E:T' p=(11,0):=L.tag A sJ;have s4:=k.ad6 (i:=0) (v:=.slice M n3 c3) (by rw[A];simp) (by rw[A];simp) L (EN.WI (ct:=Ah K.ct p { K.ct p with ws:=ws++ys}) (v:=.slice M n3 c3) E ((Ap s _).trans (by simp[Ah,ex,ey])) (by have:=S.set (Aa.O8 (b:=p) (o:=0) (.slice M n3 c3)) (λg hg e=>by rw[show g=p from e,E]at hg;simp at hg);simpa [Ah]using this)) (k.dk.other L (by rw[A];simp)) (λb hb=>ru hb);have LU:BQ K.T T' J _:=(BQ.no l.drew F.lt).trans s4.2;gi_wp2_with (first|(gi_at_call 272;refine(Dp _ _ B wB).mono ?_;rintro e wz ⟨rfl,G⟩;obtain⟨w8,H,I,C⟩:=Az (x:=B) (y:=0) (f:=.nilFunc) (G.old (LU.old rb Hl) id) rfl)|refine Fa H ?_);refine T_ B 0 (by simp[results,results275,go_sem,FU C]) rfl ?_;exact Dq (T':=T') (x:=B) (y:=0) h.lt K0 Cm ((LU).then G) ((s4.1).no G) I wB wB (.inl rfl) (XWr.of ex Xx (.inr U.out.symm) X (by simp only[Nat.min_def];split<;>omega))
    .have ψ:w8.cell? (R_ w.heap.size)=some (a_ 0):=bce C rfl;have χ:w8.cell? (S_ w.heap.size 1)=some (a_ 0):=bce C rfl;have φ:w8.cell? (S_ w.heap.size 2)=some (.func (.func 265) #[Q_ p] #[]):=bce C rfl;refine bodyPost_ret (v:=.agg #[a_ 0,a_ 0,.func (.func 265) #[Q_ p] #[]]) (by simp[results,results275,go_sem,ψ,χ,φ]) rfl ?_;exact Dq (T':=K.T) (ct:=K.ct) (x:=0) (y:=0) h.lt K0 Cm (BQ.no l F.lt) (F.no l) I wB wB (.inr (.inr ⟨p,.inr rfl,A⟩)) (.inr (.inl ⟨ex,wB,U.out.symm,rfl,rfl,rfl,rfl⟩))
end
theorem AY.place {K:KS}(h:AY K w)(e:K.T e0=(12,f))(g:n<=64):AY {K with ct:=Ah K.ct e0 { K.ct e0 with n:=n} } (w.setCell (S_ e0 2) (b_ (n:Nat)))/\BQ K.T K.T w (w.setCell (S_ e0 2) (b_ (n:Nat))):=by
 obtain⟨a,c,_⟩:=h.fl.GU e0 f e;exact AY.ag1 (p:=e0) h ((Aa.refl _ _).setCell _ λ_=>rfl) (by rw[e];simp) (by rw[e];simp) (by rw[e];simp) (EN.zU e ((Ap a _).trans (by simp[Ah])) c (by simp[Ah];exact g)) λb hb=>ru hb
def XSk (K:KS)(e0 pl:Nat):(Nat->Ct)->Nat->Nat->n_->Prop:=λct x y f=>(64<pl/\ct=K.ct/\x=0/\y=13/\f=.nilFunc)\/(pl<=64/\ct=Ah K.ct e0 { K.ct e0 with n:=pl}/\x=0/\y=0/\f=.nilFunc)
def XRf (K:KS)(e0 f:Nat)(r:PR)(o n:Nat):List Nat->(Nat->Ct)->Nat->Nat->n_->Prop:=λAf ct x y v=>x=Nat.min ((K.ct f).ws.length-(K.ct e0).n) n/\Af=SV r.Af o (((K.ct f).ws.drop (K.ct e0).n).take x)/\ct=Ah K.ct e0 { K.ct e0 with n:=(K.ct e0).n+x}/\y=0/\v=.nilFunc
theorem XRf.of {K:KS}{L e q:Nat}{Af l:List Nat}(k:Yp ((K.ct f).ws=ws))(g:Yp ((K.ct e0).n=e))(h:Yp (x=Nat.min L n/\Af=SV r.Af o (l.take x)))(hL:L=ws.length-e)(j:l=ws.drop e)(hq:q=e+x):XRf K e0 f r o n Af (Ah K.ct e0 { K.ct e0 with n:=q}) x 0 .nilFunc:=by
 refine⟨?_,?_,?_,rfl,rfl⟩
 .rw[k.out,g.out,<-hL];exact h.out.1
 .rw[k.out,g.out,<-j];exact h.out.2
 .rw[g.out,hq]
section
variable (m:Nat)(w:o_)
theorem ap5 (K:KS)(b e0 f A:Nat)(h:AY K w)(B:K.T e0=(12,f))(C:A<65536):
  O_ m 278 #[Q_ e0,b_ (A:Nat)] w (Sz (XSk K e0 A) K b w):=by
 obtain⟨g,rb,o⟩:=IE w;have c:=h.no g;have q:K.T w.heap.size=(0,0):=h.lt _ w_;obtain⟨p,v,r⟩:=c.fl.GU e0 f B;have d2:(w.alloc V_).cell? (S_ e0 2)=some (b_ ((K.ct e0).n:Nat)):=(Ai p 2).trans rfl;have z:=Cf p 2;by_cases k:64<A
 .have s:(64:Int)<(A:Int):=wB
  gi_enter func278,ntmps278;gi_wp2_with fail;gi_wp2_with (first|(gi_at_call 273;refine(fw8 13 rb _).mono ?_;rintro e u ⟨rfl,a,t,d,i,j⟩)|refine Fa d ?_);refine T_ 0 13 (by simp[results,results278,go_sem,FU j]) rfl ?_;exact Dq (T':=K.T) (ct:=K.ct) (x:=0) (y:=13) h.lt g o (((BQ.no (Aa.refl No _) c.lt)).then a) ((c).no a) i wB wB (.inl rfl) (.inl ⟨k,rfl,rfl,rfl,rfl⟩)
 .have s:¬(64:Int)<(A:Int):=wB
  gi_enter func278,ntmps278;gi_wp2_with fail;have l:=AY.place (n:=A) c B wB;gi_wp2_with (first|(gi_at_call 272;refine(Dp _ _ 0 wB).mono ?_;rintro e u ⟨rfl,a⟩;obtain⟨t,d,i,j⟩:=Az (x:=0) (y:=0) (f:=.nilFunc) (a.old (l.2.old rb q) id) rfl)|refine Fa d ?_);refine T_ 0 0 (by simp[results,results278,go_sem,FU j]) rfl ?_;exact Dq (T':=K.T) (x:=0) (y:=0) h.lt g o ((l.2).then a) ((l.1).no a) i wB wB (.inl rfl) (.inr ⟨wB,rfl,rfl,rfl,rfl⟩)
theorem ap6 (K:KS)(b e0 f o n:Nat)(r:PR)(v:n_)(h:AY K w)(hb:K.ps b=some r)(hn:r.en=false)(hI:∀z∈r.Af,z<65536)(te:K.T e0=(12,f))(hv:O1 r v o n):
  O_ m 277 #[Q_ e0,v] w (Zk (XRf K e0 f r o n) K b r w):=by
 obtain⟨L,rb,_⟩:=IE w;have N:=h.no L;have P:K.T w.heap.size=(0,0):=h.lt _ w_;obtain⟨d0,rfl⟩:∃d,v=.slice d n n:=by
  obtain⟨rfl,rfl⟩|⟨g,c,_,rfl,_⟩:=hv
  .exact⟨none,rfl⟩
  .exact⟨_,rfl⟩
 obtain⟨I,tf,X⟩:=N.fl.GU e0 f te;obtain⟨u,hf,hu⟩:=N.fl.file f tf;obtain⟨q,O⟩:∃q,Yp ((K.ct e0).n=q):=⟨_,rfl⟩;obtain⟨ws,M⟩:∃ws,Yp ((K.ct f).ws=ws):=⟨_,rfl⟩;rw[O.out]at I X;rw[M.out]at hu;have d1:(w.alloc V_).cell? (S_ e0 1)=some (Q_ f):=(Ai I 1).trans rfl;have d2:(w.alloc V_).cell? (S_ e0 2)=some (b_ q):=(Ai I 2).trans rfl;have d3:(w.alloc V_).cell? (R_ f)=some u:=(Ai hf 0).trans rfl;obtain⟨rfl,rfl⟩|⟨g,c,rfl,hR,hw64,hwx,tg⟩:=hu
 .obtain⟨w2,k,Af,U,W,_,E,G,H,F,i,s⟩:=JX (ty:=3) (a:=none) (CZ:=0) (sCap:=0) (ws:=[]) N hb hn hI hv sJ rfl (λV e=>by cases e) (λ_=>rfl);obtain rfl:k=0:=wB
  by_cases Z:q=0
  .subst Z;simp only[Int.natCast_zero]at d2 I;have e2:w2.cell? (S_ e0 2)=some (b_ 0):=(i.cell (l9 _ _ d2) (by unfold On;rw[te];simp)).trans d2;have p:=i.old I (by unfold On;rw[te];simp);have S:=Cf p 2;have t:=AY.place (n:=0) H te wB;simp only[Int.natCast_zero]at t;gi_enter func277,ntmps277;gi_wp2_with fail;have A:BQ K.T K.T (w.alloc V_) _:=F.trans t.2;gi_wp2_with (first|(gi_at_call 272;refine(Dp _ _ 0 wB).mono ?_;rintro e R ⟨rfl,l⟩;obtain⟨Q,B,C,D⟩:=Az (x:=0) (y:=0) (f:=.nilFunc) (l.old (A.old rb P) id) rfl)|refine Fa B ?_);refine T_ 0 0 (by simp[results,results277,go_sem,FU D]) rfl ?_;exact EX (x:=0) (y:=0) h.lt L ((A).then l) ((t.1).no l) C wB wB (.inl rfl) (E) (G) (XRf.of M O s rfl rfl rfl)
  .have f1:(0:Int)<(q:Int):=wB;have e2:w2.cell? (S_ e0 2)=some (b_ q):=(i.cell (l9 _ _ d2) (by unfold On;rw[te];simp)).trans d2;have p:=i.old I (by unfold On;rw[te];simp);have S:=Cf p 2;have t:=AY.place (n:=q) H te wB;gi_enter func277,ntmps277;gi_wp2_with fail;have A:BQ K.T K.T (w.alloc V_) _:=F.trans t.2;gi_wp2_with (first|(gi_at_call 272;refine(Dp _ _ 0 wB).mono ?_;rintro e R ⟨rfl,l⟩;obtain⟨Q,B,C,D⟩:=Az (x:=0) (y:=0) (f:=.nilFunc) (l.old (A.old rb P) id) rfl)|refine Fa B ?_);refine T_ 0 0 (by simp[results,results277,go_sem,FU D]) rfl ?_;exact EX (x:=0) (y:=0) h.lt L ((A).then l) ((t.1).no l) C wB wB (.inl rfl) (E) (G) (XRf.of M O s sJ sJ rfl)
 .have hle:=hR.le;by_cases BL:q<ws.length
  .have f1:(q:Int)<(ws.length:Int):=wB;have f2:¬c=q:=wB;obtain⟨w2,k,Af,U,W,_,E,G,H,F,i,s⟩:=JX (ty:=3) (a:=some (S_ g q)) (CZ:=ws.length-q) (sCap:=c-q) (ws:=ws.drop q) N hb hn hI hv (λx hx=>hwx x (List.mem_of_mem_drop hx)) sJ (λV e j u J=>by
    cases e
    have Nu:((S_ g q):f_).add j=(S_ g (q+j)):=by unfold Addr.add;split<;>simp_all
    have Y:=(Oc.1 J).1
    simp only[Aw,List.length_map,List.length_drop]at Y
    rw[Nu,hR.cell wB]
    simpa [Aw,List.map_drop,List.getElem?_drop]using J) (λe=>by cases e);have e2:w2.cell? (S_ e0 2)=some (b_ q):=(i.cell (l9 _ _ d2) (by unfold On;rw[te];simp)).trans d2;have p:=i.old I (by unfold On;rw[te];simp);have S:=Cf p 2;have t:=AY.place (n:=q+k) H te wB;have ev:((q+k:Nat):Int)=(q:Int)+k:=wB;rw[ev]at t;gi_enter func277,ntmps277;gi_wp2_with fail;have A:BQ K.T K.T (w.alloc V_) _:=F.trans t.2;gi_wp2_with (first|(gi_at_call 272;refine(Dp _ _ k wB).mono ?_;rintro e R ⟨rfl,l⟩;obtain⟨Q,B,C,D⟩:=Az (x:=k) (y:=0) (f:=.nilFunc) (l.old (A.old rb P) id) rfl)|refine Fa B ?_);refine T_ k 0 (by simp[results,results277,go_sem,FU D]) rfl ?_;exact EX (x:=k) (y:=0) h.lt L ((A).then l) ((t.1).no l) C wB wB (.inl rfl) (E) (G) (XRf.of M O s rfl rfl rfl)
  .obtain hpe|hpl:=(by omega:q=ws.length\/ws.length<q)
   .subst hpe;by_cases hc:c=ws.length
    .obtain⟨w2,k,Af,U,W,_,E,G,H,F,i,s⟩:=JX (ty:=3) (a:=some (R_ g)) (CZ:=0) (sCap:=0) (ws:=[]) N hb hn hI hv sJ rfl (λV e j u J=>by simp[Aw]at J) (λe=>by cases e);obtain rfl:k=0:=wB;have e2:w2.cell? (S_ e0 2)=some (b_ ws.length):=(i.cell (l9 _ _ d2) (by unfold On;rw[te];simp)).trans d2;have p:=i.old I (by unfold On;rw[te];simp);have S:=Cf p 2;have t:=AY.place (n:=ws.length) H te wB;gi_enter func277,ntmps277;gi_wp2_with fail;have A:BQ K.T K.T (w.alloc V_) _:=F.trans t.2;gi_wp2_with (first|(gi_at_call 272;refine(Dp _ _ 0 wB).mono ?_;rintro e R ⟨rfl,l⟩;obtain⟨Q,B,C,D⟩:=Az (x:=0) (y:=0) (f:=.nilFunc) (l.old (A.old rb P) id) rfl)|refine Fa B ?_);refine T_ 0 0 (by simp[results,results277,go_sem,FU D]) rfl ?_;exact EX (x:=0) (y:=0) h.lt L ((A).then l) ((t.1).no l) C wB wB (.inl rfl) (E) (G) (XRf.of M O s sJ sJ rfl)
    .obtain⟨w2,k,Af,U,W,_,E,G,H,F,i,s⟩:=JX (ty:=3) (a:=some (S_ g ws.length)) (CZ:=0) (sCap:=c-ws.length) (ws:=[]) N hb hn hI hv sJ rfl (λV e j u J=>by simp[Aw]at J) (λe=>by cases e);obtain rfl:k=0:=wB;have e2:w2.cell? (S_ e0 2)=some (b_ ws.length):=(i.cell (l9 _ _ d2) (by unfold On;rw[te];simp)).trans d2;have p:=i.old I (by unfold On;rw[te];simp);have S:=Cf p 2;have t:=AY.place (n:=ws.length) H te wB;gi_enter func277,ntmps277;gi_wp2_with fail;have A:BQ K.T K.T (w.alloc V_) _:=F.trans t.2;gi_wp2_with (first|(gi_at_call 272;refine(Dp _ _ 0 wB).mono ?_;rintro e R ⟨rfl,l⟩;obtain⟨Q,B,C,D⟩:=Az (x:=0) (y:=0) (f:=.nilFunc) (l.old (A.old rb P) id) rfl)|refine Fa B ?_);refine T_ 0 0 (by simp[results,results277,go_sem,FU D]) rfl ?_;exact EX (x:=0) (y:=0) h.lt L ((A).then l) ((t.1).no l) C wB wB (.inl rfl) (E) (G) (XRf.of M O s sJ sJ rfl)
   .have f1:(ws.length:Int)<(q:Int):=wB;by_cases hc:c=ws.length
    .obtain⟨w2,k,Af,U,W,_,E,G,H,F,i,s⟩:=JX (ty:=3) (a:=some (R_ g)) (CZ:=0) (sCap:=0) (ws:=[]) N hb hn hI hv sJ rfl (λV e j u J=>by simp[Aw]at J) (λe=>by cases e);obtain rfl:k=0:=wB;have e2:w2.cell? (S_ e0 2)=some (b_ q):=(i.cell (l9 _ _ d2) (by unfold On;rw[te];simp)).trans d2;have p:=i.old I (by unfold On;rw[te];simp);have S:=Cf p 2;have t:=AY.place (n:=q) H te wB;gi_enter func277,ntmps277;gi_wp2_with fail;have A:BQ K.T K.T (w.alloc V_) _:=F.trans t.2;gi_wp2_with (first|(gi_at_call 272;refine(Dp _ _ 0 wB).mono ?_;rintro e R ⟨rfl,l⟩;obtain⟨Q,B,C,D⟩:=Az (x:=0) (y:=0) (f:=.nilFunc) (l.old (A.old rb P) id) rfl)|refine Fa B ?_);refine T_ 0 0 (by simp[results,results277,go_sem,FU D]) rfl ?_;exact EX (x:=0) (y:=0) h.lt L ((A).then l) ((t.1).no l) C wB wB (.inl rfl) (E) (G) (XRf.of M O s wB (List.drop_eq_nil_of_le wB).symm rfl)
    .obtain⟨w2,k,Af,U,W,_,E,G,H,F,i,s⟩:=JX (ty:=3) (a:=some (S_ g ws.length)) (CZ:=0) (sCap:=c-ws.length) (ws:=[]) N hb hn hI hv sJ rfl (λV e j u J=>by simp[Aw]at J) (λe=>by cases e);obtain rfl:k=0:=wB;have e2:w2.cell? (S_ e0 2)=some (b_ q):=(i.cell (l9 _ _ d2) (by unfold On;rw[te];simp)).trans d2;have p:=i.old I (by unfold On;rw[te];simp);have S:=Cf p 2;have t:=AY.place (n:=q) H te wB;gi_enter func277,ntmps277;gi_wp2_with fail;have A:BQ K.T K.T (w.alloc V_) _:=F.trans t.2;gi_wp2_with (first|(gi_at_call 272;refine(Dp _ _ 0 wB).mono ?_;rintro e R ⟨rfl,l⟩;obtain⟨Q,B,C,D⟩:=Az (x:=0) (y:=0) (f:=.nilFunc) (l.old (A.old rb P) id) rfl)|refine Fa B ?_);refine T_ 0 0 (by simp[results,results277,go_sem,FU D]) rfl ?_;exact EX (x:=0) (y:=0) h.lt L ((A).then l) ((t.1).no l) C wB wB (.inl rfl) (E) (G) (XRf.of M O s wB (List.drop_eq_nil_of_le wB).symm rfl)
end
end Go.Fxa
