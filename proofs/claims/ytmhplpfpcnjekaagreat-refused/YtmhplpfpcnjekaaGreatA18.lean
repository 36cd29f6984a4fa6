/- Files and pipes: -/
import Derived.Test.YtmhplpfpcnjekaaGreatA16
namespace Go.Fxa
open Conc Proofs RowKit Proofs.Tryz
set_option maxRecDepth 1000000
set_option maxHeartbeats 0
variable {T:Tag}{op d H:Nat->Nat}{w w':o_}{kb b f b0 n k g c i:Nat}{v:n_}{S:Nat->Prop}{ks:X_}{l:List Int}{x:Int}
structure EN (T:Tag)(op:Nat->Nat)(ct:Nat->Ct)(w:o_)(kb b:Nat):Prop where
 file:T b=(10,0)->∃v,w.heap[b]?=some (N_ #[v,b_ (op b)] 191)/\Tf T w b 64 v (ct b).ws
 pipe:T b=(11,0)->∃v,w.heap[b]?=some (N_ #[v,.bool (ct b).x,.bool (ct b).y] 329)/\Tf T w b 16 v (ct b).ws
 GU:∀f,T b=(12,f)->w.heap[b]?=some (N_ #[.pointer (some (S_ kb 4)),ptr f,b_ ((ct b).n:Nat)] 339)/\T f=(10,0)/\(ct b).n<=64
 rend:T b=(13,0)->w.heap[b]?=some (N_ #[ptr (ct b).n] 333)/\T (ct b).n=(11,0)
 UD:T b=(14,0)->w.heap[b]?=some (N_ #[ptr (ct b).n] 335)/\T (ct b).n=(11,0)
theorem EN.ct {ct Qz:Nat->Ct}(h:EN T op ct w kb b)(e:Qz b=ct b):EN T op Qz w kb b:=by
 obtain⟨a,c,d,f,g⟩:=h;rw[<-e]at a c d f g;exact⟨a,c,d,f,g⟩
theorem cO.one {ct:Nat->Ct}(h:cO T op ct w kb)(b:Nat):EN T op ct w kb b:=⟨h.file b,h.pipe b,h.GU b,h.rend b,h.UD b⟩
theorem cO.of {ct:Nat->Ct}(h:∀b,EN T op ct w kb b):cO T op ct w kb:=⟨λb=>(h b).file,λb=>(h b).pipe,λb=>(h b).GU,λb=>(h b).rend,λb=>(h b).UD⟩
section
variable {T T':Tag}{op:Nat->Nat}{ct Qz:Nat->Ct}{w w':o_}{kb p:Nat}
theorem EN.dH (j:T p=(10,0))(a:w.heap[p]?=some (N_ #[v,b_ (op p)] 191))(h:Tf T w p 64 v (ct p).ws):EN T op ct w kb p:=by
 refine⟨λ_=>⟨v,a,h⟩,λe=>?_,λd e=>?_,λe=>?_,λe=>?_⟩
 all_goals rw[j]at e;simp at e
theorem EN.WI (j:T p=(11,0))(a:w.heap[p]?=some (N_ #[v,.bool (ct p).x,.bool (ct p).y] 329))(h:Tf T w p 16 v (ct p).ws):EN T op ct w kb p:=by
 refine⟨λe=>?_,λ_=>⟨v,a,h⟩,λd e=>?_,λe=>?_,λe=>?_⟩
 all_goals rw[j]at e;simp at e
theorem EN.zU (a:T p=(12,f))(h:w.heap[p]?=some (N_ #[.pointer (some (S_ kb 4)),ptr f,b_ ((ct p).n:Nat)] 339))(j:T f=(10,0))(m:(ct p).n<=64):EN T op ct w kb p:=by
 refine⟨λe=>?_,λe=>?_,λd e=>?_,λe=>?_,λe=>?_⟩
 rotate_left 2
 .rw[a]at e;obtain rfl:f=d:=by simpa using e
  exact⟨h,j,m⟩
 all_goals rw[a]at e;simp at e
theorem EN.rend' (j:T p=(13,0))(a:w.heap[p]?=some (N_ #[ptr (ct p).n] 333))(h:T (ct p).n=(11,0)):EN T op ct w kb p:=by
 refine⟨λe=>?_,λe=>?_,λd e=>?_,λ_=>⟨a,h⟩,λe=>?_⟩
 all_goals rw[j]at e;simp at e
theorem EN.cg5 (j:T p=(14,0))(a:w.heap[p]?=some (N_ #[ptr (ct p).n] 335))(h:T (ct p).n=(11,0)):EN T op ct w kb p:=by
 refine⟨λe=>?_,λe=>?_,λd e=>?_,λe=>?_,λ_=>⟨a,h⟩⟩
 all_goals rw[j]at e;simp at e
theorem EN.no (a:(T p).1<10):EN T op ct w kb p:=by
 refine⟨λe=>?_,λe=>?_,λd e=>?_,λe=>?_,λe=>?_⟩
 all_goals rw[e]at a;simp at a
theorem EN.keep (h:EN T op ct w kb b)(j:Aa S w w')(hb:¬S b)(m:∀g,T g=(15,b)->¬S g):EN T op ct w' kb b:=by
 have d:∀{M v l},Tf T w b M v l->Tf T w' b M v l:=λh=>by
  obtain h|⟨g,c,a1,a2,f,i,a⟩:=h
  .exact .inl h
  .exact .inr ⟨g,c,a1,a2.keep j (m g a),f,i,a⟩
 refine⟨λe=>?_,λe=>?_,λc e=>?_,λe=>?_,λe=>?_⟩
 .obtain⟨x,a1,a2⟩:=h.file e;exact⟨x,j.old a1 hb,d a2⟩
 .obtain⟨x,a1,a2⟩:=h.pipe e;exact⟨x,j.old a1 hb,d a2⟩
 .obtain⟨a1,a2⟩:=h.GU c e;exact⟨j.old a1 hb,a2⟩
 .obtain⟨a1,a2⟩:=h.rend e;exact⟨j.old a1 hb,a2⟩
 .obtain⟨a1,a2⟩:=h.UD e;exact⟨j.old a1 hb,a2⟩
theorem KC.bq7 {K:KS}(h:KC K w ks)(f:Nat->Ct):KC {K with ct:=f} w ks:=⟨h.c0,h.c1,h.c2,h.c3,h.nm,h.nl,h.en⟩
theorem cO.set (h:cO T op ct w kb)(o:Aa S w w')(j:∀k,S k->(k=b0/\(T k).1≠15)\/T k=(15,b0))(s:10<=(T b0).1)(m:(T b0).1<15)(r:EN T op Qz w' kb b0)(q:∀b,b≠b0->Qz b=ct b):cO T op Qz w' kb:=cO.of λb=>by
 by_cases e:b=b0
 .subst e;exact r
 .by_cases hb:(T b).1<10\/(T b).1=15
  .obtain hb|hb:=hb
   .exact EN.no hb
   .refine⟨λe=>?_,λe=>?_,λc e=>?_,λe=>?_,λe=>?_⟩<;>rw[e]at hb<;>simp at hb
  .refine EN.ct ((h.one b).keep o (λd=>?_) (λg f d=>?_)) (q b e)
   .obtain⟨a,_⟩|a:=j b d
    .exact e a
    .exact hb (.inr (by rw[a]))
   .obtain⟨a,i⟩|a:=j g d
    .exact i (by rw[f])
    .rw[f]at a;exact e (by simpa using a)
theorem AY.lY {K:KS}(h:AY K w)(o:Aa S w w')(r:∀k,S k->(k=b0/\(K.T k).1≠15)\/K.T k=(15,b0))(u:10<=(K.T b0).1)(q:(K.T b0).1<15)(z:EN K.T K.op Qz w' K.kb b0)(y:∀b,b≠b0->Qz b=K.ct b)(s:K.T b0=(10,0)->¬S b0):AY {K with ct:=Qz} w'/\BQ K.T K.T w w':=by
 obtain⟨m,d,j⟩:=h.k;have a:∀k,S k->10<=(K.T k).1:=λk d=>by
  obtain⟨rfl,_⟩|c:=r k d
  .exact u
  .rw[c];simp
 have M:CG K.T K.T (λt=>t=(1,0)\/t=(5,0)\/10<=t.1) (λt=>t=(5,0)\/10<=t.1) w w':=CG.of (o.on λk _ e=>.inr (.inr (a k e))) h.lt;have i:CG K.T K.T (λt=>10<=t.1) (λt=>10<=t.1) w w':=CG.of (o.on λk _ e=>a k e) h.lt;have f:¬S K.kb:=λe=>by have:=a _ e;rw[h.tk]at this;simp at this
 refine⟨h.aO (ks':=m) M (o.old d f) (KC.bq7 (j.I7 i sJ) Qz) (h.fl.set o r u q z y) (h.dk.to λb n e=>⟨e,λl=>l.keep o λg=>?_⟩),M.Xu ?_⟩
 .obtain⟨rfl,_⟩|c:=r b g
  .exact s e g
  .rw[e]at c;simp at c
 rintro t (rfl|rfl|h)<;>try simp
 rintro rfl;simp at h
theorem AY.ag1 {K:KS}(h:AY K w)(o:Aa (At p) w w')(r:10<=(K.T p).1)(j:(K.T p).1<15)(a:(K.T p).1≠10)(q:EN K.T K.op Qz w' K.kb p)(m:∀b,b≠p->Qz b=K.ct b):AY {K with ct:=Qz} w'/\BQ K.T K.T w w':=
 h.lY o (λk e=>by subst e;exact .inl ⟨rfl,wB⟩) r j q m λe=>qx (by rw[e]) a
theorem Tf.set {M:Nat}{ws:List Nat}(h:Tf T w b M v ws)(j:Aa S w w')(m:∀g,T g=(15,b)->¬S g):Tf T w' b M v ws:=by
 obtain h|⟨g,c,a1,a2,d,e,a⟩:=h
 .exact .inl h
 .exact .inr ⟨g,c,a1,a2.keep j (m g a),d,e,a⟩
end
theorem KC.cb6 {K:KS}{T':Tag}{Q N:Nat×Nat->Prop}(h:KC K w ks)(M:CG K.T T' Q N w w'){l:List Nat}(j:ϊ T' w' l v):KC {K with nl:=l,T:=T' } w' (ks.setIfInBounds 20 v):=by
 obtain⟨_,a,_⟩:=h.nl;have f:20<ks.size:=(y_.1 a).1;refine⟨?_,?_,?_,?_,λi hi=>?_,⟨v,by simp[f],j⟩,λi hi=>?_⟩
 .rw[HY wB];exact h.c0
 .rw[HY wB];exact h.c1
 .rw[HY wB];exact h.c2
 .rw[HY wB];exact h.c3
 .rw[HY wB];exact⟨(h.nm i hi).1,λb e=>M.tag ((h.nm i hi).2 b e) sJ⟩
 .rw[HY wB,HY wB];exact let ⟨a,b,c,d⟩:=h.en i hi;⟨a,b,c,λe=>(d e).I7 M⟩
section
variable (m:Nat)(w:o_)
theorem ϫ (K:KS)(b:Nat)(h:AY K w)(hb:K.T b=(13,0)):O_ m 269 #[Q_ b] w λe w'=>e=.returned (.tuple #[])/\AY {K with ct:=Ah K.ct (K.ct b).n { K.ct (K.ct b).n with x:=false} } w'/\BQ K.T K.T w w':=by
 obtain⟨f,a⟩:=h.fl.rend b hb;generalize (K.ct b).n=p at*;obtain⟨v,c,i⟩:=h.fl.pipe p a;have j:w.cell? (R_ b)=some (Q_ p):=(Ai f 0).trans rfl;have d1:w.cell? (S_ p 1)=some (.bool (K.ct p).x):=(Ai c 1).trans rfl;have k:=Cf c 1;gi_enter func269,ntmps269;gi_wp2;go_end0;have:=h.ag1 (p:=p) (Qz:=Ah K.ct p { K.ct p with x:=false}) (w':=w.setCell (S_ p 1) (.bool false)) ((Aa.refl _ _).setCell _ λ_=>rfl) (by rw[a];simp) (by rw[a];simp) (by rw[a];simp) (EN.WI (v:=v) a ((Ap c _).trans (by simp[Ah])) (by have:=i.set (Aa.O8 (b:=p) (o:=1) (.bool false)) (λg d e=>by rw[show g=p from e,a]at d;simp at d);simpa [Ah]using this)) (λb hb=>ru hb);exact⟨sJ,this.1,this.2⟩
theorem Ϛ (K:KS)(b:Nat)(h:AY K w)(hb:K.T b=(14,0)):O_ m 276 #[Q_ b] w λe w'=>e=.returned (.tuple #[])/\AY {K with ct:=Ah K.ct (K.ct b).n { K.ct (K.ct b).n with y:=false} } w'/\BQ K.T K.T w w':=by
 obtain⟨f,a⟩:=h.fl.UD b hb;generalize (K.ct b).n=p at*;obtain⟨v,c,i⟩:=h.fl.pipe p a;have j:w.cell? (R_ b)=some (Q_ p):=(Ai f 0).trans rfl;have d1:w.cell? (S_ p 2)=some (.bool (K.ct p).y):=(Ai c 2).trans rfl;have k:=Cf c 2;gi_enter func276,ntmps276;gi_wp2;go_end0;have:=h.ag1 (p:=p) (Qz:=Ah K.ct p { K.ct p with y:=false}) (w':=w.setCell (S_ p 2) (.bool false)) ((Aa.refl _ _).setCell _ λ_=>rfl) (by rw[a];simp) (by rw[a];simp) (by rw[a];simp) (EN.WI (v:=v) a ((Ap c _).trans (by simp[Ah])) (by have:=i.set (Aa.O8 (b:=p) (o:=2) (.bool false)) (λg d e=>by rw[show g=p from e,a]at d;simp at d);simpa [Ah]using this)) (λb hb=>ru hb);exact⟨sJ,this.1,this.2⟩
theorem kT:O_ m 248 #[.slice none 0 0,.func (.func 246) #[] #[]] w λe w'=>e=.returned (b_ (-1))/\w'=w:=by
 gi_enter func248,ntmps248;gi_wp2;refine wpIn_loop_once ?_;gi_wp2;go_ret;exact⟨sJ,rfl⟩
theorem bW:O_ m 245 #[.slice none 0 0,.func (.func 246) #[] #[]] w λe w'=>e=.returned (.slice none 0 0)/\w'=w:=by
 have c:=λm=>kT m w
 gi_enter func245,ntmps245;gi_wp2_with (gi_at_call 248;refine(c _).mono ?_;rintro e w1 ⟨rfl,rfl⟩);go_ret;exact⟨sJ,rfl⟩
theorem gm (K:KS)(h:AY K w)(I:K.nl.length<=100000):O_ m 234 #[.pointer (some (S_ K.kb 4))] w λe w'=>e=.returned (.tuple #[])/\AY {K with nl:=K.nl.filter λb=>!(K.op b==0)} w'/\BQ K.T K.T w w':=by
 obtain⟨H,o,hC⟩:=h.k;obtain⟨v,A,hN,hb⟩:=hC.nl;have q:=(Ai o 20).trans A;have G:=Cf o 20;obtain⟨rfl,z⟩|⟨g,j,rfl,hR,n⟩:=hN
 .have c:=λm=>bW m w
  gi_enter func234,ntmps234;gi_wp2_with (gi_at_call 245;refine(c _).mono ?_;rintro e w1 ⟨rfl,rfl⟩);go_end0;have M:CG K.T K.T (λt=>t=(1,0)\/t=(5,0)\/10<=t.1) (λt=>t=(5,0)\/10<=t.1) w1 (w1.setCell (S_ K.kb 20) (.slice none 0 0)):=CG.of ((Aa.refl _ _).setCell _ λ_=>.inl h.tk) h.lt;have a:CG K.T K.T (λt=>t=(1,0)) (λt=>t=(5,0)) w1 (w1.setCell (S_ K.kb 20) (.slice none 0 0)):=CG.of ((Aa.refl _ _).setCell _ λ_=>h.tk) h.lt;exact⟨sJ,h.aO M (Ap o _) ((hC.I7 a sJ).ct5 ⟨.inl ⟨rfl,by rw[z];rfl⟩,by rw[z];simp⟩) (h.fl.I7 a (by rintro t rfl;simp) (by rintro t rfl;simp)) ((h.dk.I7 a sJ sJ).sub λE _=>Nat.add_le_add_left NW _),a.Xu (by rintro t rfl;simp)⟩
 .have D:∀b∈K.nl,mP (λb=>K.op b==0) g w b:=by
   intro b i
   have u:=hb b i
   obtain⟨x,C,_⟩:=h.fl.file b u
   refine⟨λe=>(by rw[e,n]at u;simp at u),K.op b,(Ai C 1).trans rfl,?_⟩
   rw[Bool.eq_iff_iff];simp
  have c:=λm=>gu m w true g j K.nl (λb=>K.op b==0) hR D wB
  have y:K.kb≠g:=λe=>by have:=h.tk;rw[e,n]at this;simp at this
  have d:∀b∈K.nl.filter (λb=>!(K.op b==0)),K.T b=(10,0):=λb i=>hb b (List.mem_filter.1 i).1
  have l:∀f,BP f (K.nl.filter (λb=>!(K.op b==0)))<=BP f K.nl:=λf=>NW
  generalize K.nl.filter (λb=>!(K.op b==0))=s at c d l;gi_enter func234,ntmps234;gi_wp2_with (gi_at_call 245;refine(c _).mono ?_;rintro e w1 ⟨rfl,r,B⟩;have k1:=r.old o y;have F:=Cf k1 20;have c2:=(Ai k1 20).trans A);go_end0;have M:CG K.T K.T (λt=>t=(1,0)\/t=(5,0)\/10<=t.1) (λt=>t=(5,0)\/10<=t.1) w (w1.setCell (S_ K.kb 20) (P_ g s.length j)):=CG.of ((r.on (by rintro k _ rfl;exact .inr (.inl n))).setCell _ λ_=>.inl h.tk) h.lt;have a:CG K.T K.T (λt=>t=(1,0)\/t=(5,0)) (λt=>t=(5,0)) w (w1.setCell (S_ K.kb 20) (P_ g s.length j)):=CG.of ((r.on (by rintro k _ rfl;exact .inr n)).setCell _ λ_=>.inl h.tk) h.lt;have R2:=B.keep ((Aa.refl (At K.kb) w1).setCell (p:=(S_ K.kb 20)) (P_ g s.length j) λ_=>rfl) y.symm;exact⟨sJ,h.aO M (Ap k1 _) (KC.cb6 hC a ⟨.inr ⟨g,j,rfl,R2,n⟩,d⟩) (h.fl.I7 a (by rintro t (rfl|rfl)<;>simp) (by rintro t rfl;simp)) ((h.dk.I7 a sJ sJ).sub λE _=>Nat.add_le_add_left (l _) _),a.Xu (by rintro t (rfl|rfl)<;>simp)⟩
theorem AY.bn9 {K:KS}{w:o_}(h:AY K w)(C:K.T f=(10,0)):AY {K with op:=Ah K.op f n} (w.setCell (S_ f 1) (b_ n))/\BQ K.T K.T w (w.setCell (S_ f 1) (b_ n)):=by
 obtain⟨B,A,z⟩:=h.k;have d:Aa (At f) w (w.setCell (S_ f 1) (b_ n)):=(Aa.refl _ _).setCell _ λ_=>rfl
 have M:CG K.T K.T (λt=>t=(1,0)\/t=(5,0)\/10<=t.1) (λt=>t=(5,0)\/10<=t.1) w (w.setCell (S_ f 1) (b_ n)):=CG.of (d.on λk _ e=>by subst e;exact .inr (.inr (by rw[C];simp))) h.lt;have l:CG K.T K.T (λt=>t=(10,0)) (λt=>t=(10,0)) w (w.setCell (S_ f 1) (b_ n)):=CG.of (d.on λk _ e=>by subst e;exact C) h.lt;have j:K.kb≠f:=λe=>by rw[<-e,h.tk]at C;simp at C
 refine⟨h.aO (ks':=B) M (d.old A j) ((z.I7 l sJ).op _) (cO.of λb=>?_) (h.dk.to λb m e=>⟨e,λs=>?_⟩),l.Xu (by rintro t rfl;simp)⟩
 rotate_left
 .by_cases q:b=f
  .subst q;obtain⟨a,c,o,hb⟩:=s;exact⟨a,c,b_ n,by rw[Ap hb];simp⟩
  .exact s.keep d q
 have u:=h.fl.one b;have i:∀p g,K.T g=(15,p)->¬At f g:=λp g r e=>by rw[show g=f from e,C]at r;simp at r
 by_cases e:b=f
 .subst e;obtain⟨v,x,y⟩:=u.file C;exact EN.dH C (by rw[Ap x];simp[Ah]) (y.set d (i b))
 .have hb:=u.keep d e (i b);refine⟨λt=>?_,hb.pipe,hb.GU,hb.rend,hb.UD⟩;simpa [Ah,e]using hb.file t
theorem ϳ (K:KS)(b f:Nat)(h:AY K w)(hb:K.T b=(12,f))(u:K.nl.length<=100000)(y:1<=K.op f)(t:K.op f<=100000):O_ m 280 #[Q_ b] w λe w'=>e=.returned (.tuple #[])/\AY {K with op:=Ah K.op f (K.op f-1),nl:=K.nl.filter λk=>!(Ah K.op f (K.op f-1) k==0)} w'/\BQ K.T K.T w w':=by
 obtain⟨g,d,_⟩:=h.fl.GU b f hb;obtain⟨v,i,s⟩:=h.fl.file f d;have q:w.cell? (R_ b)=some (.pointer (some (S_ K.kb 4))):=(Ai g 0).trans rfl;have d1:w.cell? (S_ b 1)=some (Q_ f):=(Ai g 1).trans rfl;have d2:w.cell? (S_ f 1)=some (b_ (K.op f)):=(Ai i 1).trans rfl;have r:=Cf i 1;have p:b≠f:=λe=>by rw[e,d]at hb;simp at hb
 have a:=h.bn9 (n:=K.op f-1) d;have l:((K.op f-1:Nat):Int)=(K.op f:Int)-1:=wB
 have c:=λm=>gm m _ _ a.1 u
 rw[l]at c a;simp only at c;gi_enter func280,ntmps280;gi_wp2_with (gi_at_call 234;refine(c _).mono ?_;rintro e w1 ⟨rfl,o,j⟩);go_end0;exact⟨sJ,o,a.2.trans j⟩
end
section
variable {K:KS}{w:o_}{i n:Nat}{v:n_}{o:d_ Nat}{ks:X_}
theorem KC.ad7 (h:KC K w ks)(hi:i<20)(j:0<K.desc i):KC {K with desc:=Ah K.desc i n} w (ks.setIfInBounds (21+i*2+1) (b_ n)):=by
 obtain⟨a,d,b,c⟩:=h.en i hi;have:=h.sO (n:=n) (v:=K.tv i) (o:=K.ef i) hi b λ_=>c j
 rw[QW a]at this;have e:∀{α:Type} (f:Nat->α),Ah f i (f i)=f:=λf=>by funext k;unfold Ah;split;subst_vars;rfl;rfl
 rw[e,e]at this;exact this
theorem AY.ad7 (h:AY K w)(hi:i<20)(j:0<K.desc i):AY {K with desc:=Ah K.desc i n} (w.setCell (S_ K.kb (21+i*2+1)) (b_ n))/\BQ K.T K.T w (w.setCell (S_ K.kb (21+i*2+1)) (b_ n)):=by
 obtain⟨f,d,c⟩:=h.k;have b:Aa (At K.kb) w (w.setCell (S_ K.kb (21+i*2+1)) (b_ n)):=(Aa.refl _ _).setCell _ λ_=>rfl
 have M:CG K.T K.T (λt=>t=(1,0)\/t=(5,0)\/10<=t.1) (λt=>t=(5,0)\/10<=t.1) w (w.setCell (S_ K.kb (21+i*2+1)) (b_ n)):=CG.of (b.on λk _ e=>by subst e;exact .inl h.tk) h.lt;have a:CG K.T K.T (λt=>t=(1,0)) (λt=>t=(1,0)) w (w.setCell (S_ K.kb (21+i*2+1)) (b_ n)):=CG.of (b.on λk _ e=>by subst e;exact h.tk) h.lt;exact⟨h.aO M (Ap d _) ((c.I7 a sJ).ad7 hi j) (h.fl.I7 a (by rintro t rfl;simp) (by rintro t rfl;simp)) (h.dk.I7 a sJ sJ),a.Xu (by rintro t rfl;simp)⟩
theorem AY.sO (h:AY K w)(hi:i<20)(p:v.oneCell'=true)(q:0<n->Pq K.T v o)(m:Aa (At K.kb) w w')(j:∀ks,w.heap[K.kb]?=some (N_ ks 114)->w'.heap[K.kb]?=some (.cells ((ks.setIfInBounds (21+i*2) v).setIfInBounds (21+i*2+1) (b_ n)) 114 (0,0))):AY {K with desc:=Ah K.desc i n,ef:=Ah K.ef i o,tv:=Ah K.tv i v} w'/\BQ K.T K.T w w':=by
 obtain⟨ks,c,b⟩:=h.k;have M:CG K.T K.T (λt=>t=(1,0)\/t=(5,0)\/10<=t.1) (λt=>t=(5,0)\/10<=t.1) w w':=CG.of (m.on λk _ e=>by subst e;exact .inl h.tk) h.lt;have a:CG K.T K.T (λt=>t=(1,0)) (λt=>t=(1,0)) w w':=CG.of (m.on λk _ e=>by subst e;exact h.tk) h.lt;exact⟨h.aO M (j ks c) ((b.I7 a sJ).sO hi p q) (h.fl.I7 a (by rintro t rfl;simp) (by rintro t rfl;simp)) (h.dk.I7 a sJ sJ),a.Xu (by rintro t rfl;simp)⟩
theorem AY.ent (h:AY K w)(hi:i<20):∃v,w.cell? (S_ K.kb (21+i*2))=some v/\w.cell? (S_ K.kb (21+i*2+1))=some (b_ (K.desc i))/\v.oneCell'=true/\(0<K.desc i->Pq K.T v (K.ef i)):=by
 obtain⟨g,a,f⟩:=h.k;obtain⟨b,c,d,e⟩:=f.en i hi;exact⟨K.tv i,(Ai a _).trans b,(Ai a _).trans c,d,e⟩
theorem AY.ay0 (h:AY K w)(hi:i<20):w.cell? (S_ K.kb (21+i*2))=some (K.tv i):=let ⟨_,hk,hc⟩:=h.k;(Ai hk _).trans (hc.en i hi).1
theorem AY.kfz (h:AY K w)(j:Nat):w.frozen? (S_ K.kb j)=false:=let ⟨_,hk,_⟩:=h.k;Cf hk j
end
theorem Pq.shape {o:d_ Nat}(h:Pq T v o):∃t b,v=.iface t (Q_ b):=by
 obtain⟨b,⟨h,_⟩|⟨h,_⟩|⟨h,_⟩⟩:=h
 all_goals exact⟨_,b,h⟩
section
variable (m:Nat)(w:o_)
theorem dd3 (K:KS)(i:Nat)(h:AY K w)(hi:i<20)(j:0<K.desc i):
  O_ m 203 #[.pointer (some (S_ K.kb 21)),b_ (i:Nat)] w λe w'=>Aa No w w'/\∃v,e=.returned v/\Pq K.T v (K.ef i):=by
 obtain⟨v,c,d,f,a⟩:=h.ent hi;have b:(i:Int)<20:=wB
 gi_enter func203,ntmps203;gi_wp2;go_ret;exact⟨Aa.refl _ _,v,sJ,a j⟩
theorem nI (K:KS)(i:Nat)(h:AY K w)(hi:i<20)(o:0<K.desc i)(p:K.desc i<=1000):
  O_ m 193 #[.pointer (some (S_ K.kb 21)),b_ (i:Nat)] w λe w'=>e=.returned (.tuple #[])/\AY {K with desc:=Ah K.desc i (K.desc i+1)} w'/\BQ K.T K.T w w':=by
 obtain⟨v,g,b,j,k⟩:=h.ent hi;have d:(i:Int)<20:=wB
 gi_enter func193,ntmps193;gi_wp2;refine Cc 10 16 ?_;gi_wp2;refine Ee ?_ ?_
 .intro W a;have d2:=a.has (w:=w.drew) b
  repeat' (refine AA ?_ ?_)
  all_goals first|exact dE|gi_wp2
 .intro W a;have KW:Aa No w W:=(Aa.refl No w).drew.then a;have c:=h.no KW;have d2:=KW.has b;have f:=c.kfz (21+i*2+1);gi_wp2;go_end0;have:=c.ad7 (n:=K.desc i+1) hi o;push_cast at this;exact⟨sJ,this.1,(BQ.no KW h.lt).trans this.2⟩
theorem iY (K:KS)(v:n_)(o:d_ Nat)(h:AY K w)(C:Pq K.T v o)(B:∃i,i<20/\K.desc i=0):
  O_ m 201 #[.pointer (some (S_ K.kb 21)),v] w λe w'=>∃i,i<20/\(K.desc i=0/\∀j,j<i->K.desc j≠0)/\e=.returned (b_ (i:Nat))/\AY {K with desc:=Ah K.desc i 1,ef:=Ah K.ef i o,tv:=Ah K.tv i v} w'/\BQ K.T K.T w w':=by
 obtain⟨z,A,c⟩:=B;obtain⟨t,b,rfl⟩:=C.shape;gi_enter func201,ntmps201;gi_wp2;gi_loopw [5] (λi wr=>∃k:Nat,k<=z/\i=b_ k/\Aa No w wr/\∀j,j<k->K.desc j≠0) (λi _=>z-(intOf i).toNat)
 case atStart=>exact⟨0,wB,rfl,Aa.refl _ _,λj h=>qx h wB⟩
 case round=>
  obtain⟨k,q,rfl,KK,d⟩:=hrel
  have B:=h.no KK
  obtain⟨u,d1,d2,d3,d4⟩:=B.ent (i:=k) wB
  have x:(k:Int)<20:=wB
  by_cases a:K.desc k=0
  .have f:¬(0:Int)<(K.desc k:Int):=wB;have g:=B.kfz (21+k*2);have l:=B.kfz (21+k*2+1);gi_wp2;go_ret;have:=B.sO (i:=k) (n:=1) (v:=.iface t (Q_ b)) (o:=o) wB rfl (λ_=>C) (w':=(wr.setCell (S_ K.kb (21+k*2)) (.iface t (Q_ b))).setCell (S_ K.kb (21+k*2+1)) (b_ 1)) (Aa.setCell (Aa.setCell (Aa.refl (At K.kb) wr) _ (p:=(S_ K.kb (21+k*2))) λ_=>rfl) _ (p:=(S_ K.kb (21+k*2+1))) λ_=>rfl) (λr s=>Ap (Ap s _) _);exact⟨k,wB,⟨a,d⟩,sJ,this.1,(BQ.no KK h.lt).trans this.2⟩
  .have f:(0:Int)<(K.desc k:Int):=wB;have:k≠z:=(by rintro rfl;exact a c);gi_wp2;go_roundw
   case rel=>exact⟨k+1,wB,by go_num,KK,λj y=>by by_cases e:j=k;exact e ▸ a;exact d j wB⟩
   case measure=>simp[intOf];omega
end
def TL (n:Int):Bool:=n==-1
def DF (l:List Int):Nat:=(l.filter TL).length
def Fq (d:Nat->Nat)(k:Nat):Nat:=((List.range k).filter λi=>d i==0).length
theorem pR {n:Int}(h:l[k]?=some n):DF (l.take (k+1))=DF (l.take k)+(if TL n then 1 else 0):=by
 unfold DF;rw[List.take_add_one,h,List.filter_append,g_];cases h':TL n<;>simp[h']
theorem ϧ (l:List Int):DF l<=l.length:=List.length_filter_le _ _
theorem ZB (h:1<=DF l):∃i:Nat,l[i]?=some (-1):=by
 unfold DF at h;obtain⟨x,c⟩:=List.exists_mem_of_length_pos (l:=l.filter TL) wB;obtain⟨b,a⟩:=List.mem_filter.1 c;obtain⟨i,hi⟩:=List.getElem?_of_mem b;exact⟨i,by rw[hi];simp[TL]at a;rw[a]⟩
theorem xg:Fq d (k+1)=Fq d k+(if d k==0 then 1 else 0):=by
 unfold Fq;rw[List.range_succ,List.filter_append,g_];cases h:d k==0<;>simp[h]
theorem Wi (h:1<=Fq d 20):∃i,i<20/\d i=0:=by
 unfold Fq at h;obtain⟨x,c⟩:=List.exists_mem_of_length_pos (l:=(List.range 20).filter λi=>d i==0) wB;obtain⟨a,b⟩:=List.mem_filter.1 c;exact⟨x,List.mem_range.1 a,by simpa using b⟩
theorem ao2 (d:Nat->Nat)(k:Nat):Fq d k<=k:=by
 unfold Fq;have:=List.length_filter_le (λi=>d i==0) (List.range k);simpa using this
theorem AY.rZ {K:KS}{r:PR}(h:AY K w)(hb:K.ps b=some r)(j:r.en=false):∃g c,w.cell? (S_ b 9)=some (P_ g r.fds.length c)/\Rw 3 1 w g r.fds.length c (FW r.fds)/\K.T g=(8,b)/\r.fd=P_ g r.fds.length c:=by
 obtain⟨g,c,a,d,e⟩:=(h.ps b r hb).fd j;exact⟨g,c,by rw[h.Iu hb];simp[PR.arr,a],d,e,a⟩
theorem Rw.Pm (h:Rw 3 1 w g n c (FW l))(a:n=l.length)(hi:l[i]?=some x):w.cell? (S_ g i)=some (b_ x):=by
 have:=(Oc.1 hi).1;rw[h.cell wB];simp[FW,hi]
theorem AY.bo0 {K:KS}{r:PR}(h:AY K w)(hb:K.ps b=some r)(u:r.en=false)(q:r.fd=P_ g r.fds.length c)(s:Rw 3 1 w g r.fds.length c (FW r.fds))(p:K.T g=(8,b)):AY (K.Bj b {r with fds:=r.fds.set i x}) (w.setCell (S_ g i) (b_ x))/\BQ K.T K.T w (w.setCell (S_ g i) (b_ x)):=by
 have d:Aa (At g) w (w.setCell (S_ g i) (b_ x)):=(Aa.refl _ _).setCell _ λ_=>rfl
 have M:CG K.T K.T (λt=>t=(6,b)\/t=(7,b)\/t=(8,b)\/t=(9,b)) (λt=>t=(6,b)\/t=(7,b)\/t=(8,b)\/t=(9,b)) w (w.setCell (S_ g i) (b_ x)):=CG.of (d.on λk _ e=>by subst e;exact .inr (.inr (.inl p))) h.lt;have a:=h.ps b r hb;have f:Aa (On K.T λt=>t=(8,b)) w (w.setCell (S_ g i) (b_ x)):=d.on λk _ e=>by subst e;exact p
 refine⟨h.lL M ⟨a.t,d.old a.o (λe=>?_),λe=>?_,λ_=>?_,a.bl.keep f sJ,λe=>qx e (by simp[u])⟩,M.Xu (by rintro t (rfl|rfl|rfl|rfl)<;>simp)⟩
 .have:=a.t;rw[show b=g from e,p]at this;simp at this
 .obtain⟨m,l,a1,a2,j⟩:=a.im e;exact⟨m,l,a1,a2.keep f (by unfold On;rw[j];simp),j⟩
 .have:=s.set (i:=i) (b_ x) rfl;refine⟨g,c,by rw[q];simp,?_,p⟩;simpa [FW,List.map_set]using this
def PR.has (r:PR)(fd:Nat):Bool:=match r.fds[fd]? with|some n=>n !=-1|none=>false
theorem au5 {r:PR}{a:Nat}{n:Int}(h:r.fds[a]?=some n):r.has a=(n !=-1):=by unfold PR.has;rw[h]
def IV (l:List Int)(i:Nat):Prop:=l[i]?=some (-1)/\∀j,j<i->l[j]?≠some (-1)
section
variable (m:Nat)(w:o_)
theorem YI (K:KS)(b o:Nat)(r:PR)(h:AY K w)(hb:K.ps b=some r)(p:r.en=false)(q:o<65536):
  O_ m 202 #[Q_ b,a_ (o:Nat)] w λe w'=>Aa No w w'/\∃x:Bool,e=.returned (.bool x)/\(x=true->∃n:Int,r.fds[o]?=some n/\n≠-1)/\Yp (x=r.has o):=by
 obtain⟨g,c,l,hR,_,_⟩:=h.rZ hb p;by_cases j:o<r.fds.length
 .have k:(o:Int)<(r.fds.length:Int):=wB
  have a:r.fds[o]?=some r.fds[o]:=JM j;generalize r.fds[o]=n at a;have d:=hR.Pm rfl a;have f:=au5 a;obtain i|i:(n !=-1)=true\/(n !=-1)=false:=by cases n !=-1<;>simp
  .gi_enter func202,ntmps202;gi_wp2;go_ret;exact⟨Aa.refl _ _,true,sJ,λ_=>⟨n,a,by simpa using i⟩,by unfold Yp;rw[f,i]⟩
  .obtain rfl:n=-1:=(by simpa using i);gi_enter func202,ntmps202;gi_wp2;go_ret;exact⟨Aa.refl _ _,false,sJ,λe=>(by cases e),by unfold Yp;rw[f];rfl⟩
 .have k:¬(o:Int)<(r.fds.length:Int):=wB
  gi_enter func202,ntmps202;gi_wp2;go_ret;have f:r.has o=false:=by unfold PR.has;rw[List.getElem?_eq_none wB]
  exact⟨Aa.refl _ _,sJ,f⟩
theorem nH (K:KS)(b:Nat)(r:PR)(h:AY K w)(hb:K.ps b=some r)(y:r.en=false)(z:r.fds.length<=1000):
  O_ m 204 #[Q_ b] w λe w'=>Aa No w w'/\e=.returned (b_ (DF r.fds)):=by
 obtain⟨g,c,v,hR,_,_⟩:=h.rZ hb y;gi_enter func204,ntmps204;gi_wp2;gi_loopw [3,11] (λa i wr=>∃k:Nat,k<=r.fds.length/\a=b_ (DF (r.fds.take k))/\i=b_ k/\Aa No w wr) (λ_ i _=>r.fds.length-(intOf i).toNat)
 case atStart=>exact⟨0,wB,rfl,rfl,Aa.refl _ _⟩
 case round=>
  obtain⟨k,u,rfl,rfl,KK⟩:=hrel
  have l:=ϧ (r.fds.take k)
  have q:(r.fds.take k).length<=k:=List.length_take_le _ _
  by_cases t:k<r.fds.length
  .have j:r.fds[k]?=some r.fds[k]:=JM t;generalize r.fds[k]=n at j;have d:=(hR.keep KK id).Pm rfl j;have f:=pR j;generalize DF (r.fds.take k)=s at f l;generalize p:DF (r.fds.take (k+1))=x at f;obtain o|o:(n==-1)=true\/(n==-1)=false:=by cases n==-1<;>simp
   .simp only[TL,o,if_true]at f;gi_wp2;go_roundw
    case rel=>exact⟨k+1,wB,by rw[p,f];go_num,by go_num,KK⟩
    case measure=>simp[intOf];omega
   .simp only[TL,o]at f;gi_wp2;go_roundw
    case rel=>exact⟨k+1,wB,by rw[p,f];go_num,by go_num,KK⟩
    case measure=>simp[intOf];omega
  .obtain rfl:k=r.fds.length:=wB;gi_wp2;go_ret;exact⟨KK,sJ⟩
theorem au0 (g c:Nat)(l:List Int)(hR:Rw 3 1 w g l.length c (FW l))(u:∃i:Nat,l[i]?=some (-1))(y:l.length<=1000):
  O_ m 232 #[P_ g l.length c,b_ (-1)] w λe w'=>Aa No w w'/\∃i:Nat,e=.returned (b_ i)/\IV l i:=by
 obtain⟨z,f⟩:=u;have r:=(Oc.1 f).1;gi_enter func232,ntmps232;gi_wp2;gi_loopw [8] (λi wr=>∃k:Nat,k<=z/\i=b_ k/\Aa No w wr/\∀j,j<k->l[j]?≠some (-1)) (λi _=>z-(intOf i).toNat)
 case atStart=>exact⟨0,wB,rfl,Aa.refl _ _,λj h=>qx h wB⟩
 case round=>
  obtain⟨k,t,rfl,KK,o⟩:=hrel
  have p:k<l.length:=wB
  have a:l[k]?=some l[k]:=JM p
  generalize l[k]=n at a
  have d:=(hR.keep KK id).Pm rfl a
  by_cases b:n=-1
  .subst b;gi_wp2;go_ret;exact⟨KK,k,sJ,a,o⟩
  .have q:(-1==n)=false:=(by simpa using(λe=>b e.symm:¬-1=n));have:k≠z:=(by rintro rfl;rw[a]at f;exact b (by simpa using f));gi_wp2;go_roundw
   case rel=>exact⟨k+1,wB,by go_num,KK,λj s=>by by_cases e:j=k;subst e;rw[a];simpa using b;exact o j wB⟩
   case measure=>simp[intOf];omega
theorem UY (K:KS)(b:Nat)(x:Int)(r:PR)(h:AY K w)(hb:K.ps b=some r)(q:r.en=false)(s:r.fds.length<=1000)(t:1<=DF r.fds):
  O_ m 200 #[Q_ b,b_ x] w λe w'=>∃i:Nat,IV r.fds i/\e=.returned (b_ i)/\AY (K.Bj b {r with fds:=r.fds.set i x}) w'/\BQ K.T K.T w w':=by
 obtain⟨g,c,k,hR,l,j⟩:=h.rZ hb q;have ci:=λm=>au0 m w g c r.fds hR (ZB t) s
 gi_enter func200,ntmps200;gi_wp2_with (gi_at_call 232;refine(ci _).mono ?_;rintro e w1 ⟨a,i,rfl,f⟩;have hi:=f.1;have k:=a.has k;have n:=(Oc.1 hi).1;have o:(i:Int)<(r.fds.length:Int):=wB;have d:=(hR.keep a id).Pm rfl hi;have p:=(hR.keep a id).fz i);go_ret;have:=(h.no a).bo0 (i:=i) (x:=x) hb q j (hR.keep a id) l;exact⟨i,f,sJ,this.1,(BQ.no a h.lt).trans this.2⟩
theorem bh2 {K:KS}{w:o_}(h:AY K w):∃es:X_,(Instr.loadAt 110 (.pointer (some (S_ K.kb 21)))).run prog w=.ok (.agg es) w/\∀i,i<20->∃v,v.oneCell'=true/\∀w,(Instr.index 110 (.agg es) (b_ (i:Nat))).run prog w=.ok (.agg #[v,b_ (K.desc i)]) w:=by
 obtain⟨a,s,d⟩:=h.k;have x:60<a.size:=by
  obtain⟨_,h,_⟩:=d.en 19 wB
  exact(y_.1 h).1
 have b:((a.toList.drop 21).take 40).length=40:=by simp;omega
 have f:=run_loadCells_list (P:=prog) w (S_ K.kb 21) ((a.toList.drop 21).take 40) (λj v c=>by
  have l:((S_ K.kb 21):f_).add j=(S_ K.kb (21+j)):=by unfold Addr.add;split<;>simp_all
  rw[l,Ai s]
  rw[List.getElem?_take]at c
  split at c
  .simpa using c
  .cases c)
 rw[b]at f;have a1:∀w,(isAgg 110).run prog w=.ok true w:=λw=>sU
 have a2:∀w,(sizeOf 110).run prog w=.ok 40 w:=λw=>sU
 have m:∀w,(isAgg 109).run prog w=.ok true w:=λw=>sU
 have n:∀w,(sizeOf 109).run prog w=.ok 2 w:=λw=>sU
 refine⟨((a.toList.drop 21).take 40).toArray,by simp[Instr.loadAt,loadVar,Instr.sureAddr,a1,a2,f],λi hi=>?_⟩;obtain⟨p,q,r,_⟩:=d.en i hi;generalize K.tv i=v at*;refine⟨v,r,λw=>?_⟩;have e:((a.toList.drop 21).take 40).toArray.extract (i*2) (i*2+2)=#[v,b_ (K.desc i)]:=by
  apply Array.ext_getElem?
  intro j
  rw[Array.getElem?_extract]
  simp only[List.size_toArray,b,List.getElem?_toArray,List.getElem?_take,List.getElem?_drop,Array.getElem?_toList]
  have t:min (i*2+2) 40-i*2=2:=wB
  rw[t]
  match j with
  |0=>simp;exact⟨wB,p⟩
  |1=>simp;exact⟨wB,q⟩
  |j+2=>rw[ru wB];simp
 have o:∀w:o_,(asIntOf (b_ (i:Nat))).run prog w=.ok (.i64,(i:Int)) w:=λ_=>rfl
 have u:∀w,(underlying 110).run prog w=.ok (.array 20 109) w:=run_underlying underlying110;generalize ((a.toList.drop 21).take 40).toArray=es at e;have g:(i:Int)<20:=wB
 simp[Instr.index,o,u,part,m,n,e,g]
theorem Ϥ {w:o_}{rb:Nat}{a b u:n_}(h:w.heap[rb]?=some (N_ #[a,b] 109))(o:v.oneCell'=true)(j:u.oneCell'=true):∃w',(Instr.storeAt 109 (Q_ rb) (.agg #[v,u])).run prog w=.ok () w'/\Aa (At rb) w w'/\w'.heap[rb]?=some (N_ #[v,u] 109):=by
 have e:(Instr.storeAt 109 (Q_ rb) (.agg #[v,u])).run prog w=(OV rb 0 [v,u] (.pure ())).run prog w:=sU
 obtain⟨w',c,d,f⟩:=Hr (P:=prog) (k:=Sem.pure ()) [v,u] 0 _ w h sJ (by simp[o,j]);refine⟨w',?_,d,?_⟩
 .rw[e,c];rfl
 .rw[f];simp[UI]
theorem bd5 (K:KS)(h:AY K w):
  O_ m 231 #[.pointer (some (S_ K.kb 21))] w λe w'=>Aa No w w'/\e=.returned (b_ (Fq K.desc 20)):=by
 obtain⟨E,j,g⟩:=bh2 h;gi_enter func231,ntmps231;gi_wp2_with (refine Ws rfl (.tmp 8) 110 rfl rfl j ?_);gi_loopw [3,10] (λa i wr=>∃k:Nat,k<=20/\a=b_ (Fq K.desc k)/\i=b_ k/\Aa No w wr) (λ_ i _=>20-(intOf i).toNat)
 case atStart=>exact⟨0,wB,rfl,rfl,Aa.refl _ _⟩
 case round=>
  obtain⟨k,F,rfl,rfl,KK⟩:=hrel
  have l:=ao2 K.desc k
  by_cases z:k<20
  .have t:(k:Int)<20:=wB;obtain⟨v,o,c⟩:=g k z;have c:=c wr;have f:(wr.alloc (.cells #[.nilIface,b_ 0] 109)).heap[wr.heap.size]?=some (N_ #[.nilIface,b_ 0] 109):=Yw rfl;obtain⟨w4,p,A,B⟩:=Ϥ (v:=v) (u:=b_ (K.desc k)) f o rfl;have r:Aa No w w4:=(KK.alloc _).trans A λx C e=>qx C (by rw[show x=wr.heap.size from e];have:=KK.size;omega)
   have D:w4.cell? (S_ wr.heap.size 1)=some (b_ (K.desc k)):=(Ai B 1).trans rfl;have b:=xg (d:=K.desc) (k:=k);generalize Fq K.desc k=s at b l;generalize q:Fq K.desc (k+1)=y at b;obtain n|n:((K.desc k:Int)==0)=true\/((K.desc k:Int)==0)=false:=by cases (K.desc k:Int)==0<;>simp
   .have b:y=s+1:=(by simpa [show K.desc k=0 by simpa using n]using b);gi_wp2_with (first|refine Ry rfl (.tmp 9) (.tmp 10) 110 rfl rfl rfl c ?_|refine BM rfl (.tmp 5) (.tmp 12) 109 rfl rfl rfl p ?_);go_roundw
    case rel=>exact⟨k+1,wB,by rw[q,b];go_num,by go_num,r⟩
    case measure=>simp[intOf];omega
   .have b:y=s:=(by simpa [show ¬K.desc k=0 by simpa using n]using b);gi_wp2_with (first|refine Ry rfl (.tmp 9) (.tmp 10) 110 rfl rfl rfl c ?_|refine BM rfl (.tmp 5) (.tmp 12) 109 rfl rfl rfl p ?_);go_roundw
    case rel=>exact⟨k+1,wB,by rw[q,b],by go_num,r⟩
    case measure=>simp[intOf];omega
  .obtain rfl:k=20:=wB;gi_wp2;go_ret;exact⟨KK,sJ⟩
end
def KS.yO (K:KS)(i:Nat):Nat->Ct:=match K.tv i with
 |.iface t (.pointer (some a))=>if t=330 then Ah K.ct (K.ct a.block).n { K.ct (K.ct a.block).n with x:=false} else if t=334 then Ah K.ct (K.ct a.block).n { K.ct (K.ct a.block).n with y:=false} else K.ct
 |_=>K.ct
theorem jJ {K:KS}(h:K.tv i=.iface 330 (ptr b)):K.yO i=Ah K.ct (K.ct b).n { K.ct (K.ct b).n with x:=false}:=by unfold KS.yO;rw[h];rfl
theorem jI {K:KS}(h:K.tv i=.iface 334 (ptr b)):K.yO i=Ah K.ct (K.ct b).n { K.ct (K.ct b).n with y:=false}:=by unfold KS.yO;rw[h];rfl
def KS.drop (K:KS)(i:Nat):KS:=
 if K.desc i=1 then match K.ef i with
  |some f=>{K with desc:=Ah K.desc i 0,ef:=Ah K.ef i none,op:=Ah K.op f (K.op f-1),nl:=K.nl.filter λk=>!(Ah K.op f (K.op f-1) k==0),tv:=Ah K.tv i .nilIface}
  |none=>{K with desc:=Ah K.desc i 0,ef:=Ah K.ef i none,tv:=Ah K.tv i .nilIface,ct:=K.yO i}
 else {K with desc:=Ah K.desc i (K.desc i-1)}
theorem YP {α:Type}{f:Nat->α}{a b:α}:Ah (Ah f i a) i b=Ah f i b:=by funext k;unfold Ah;split<;>rfl
theorem bg6 (b:Nat):∀w:World,(method 468 337 (.pointer (some ⟨b,0,none⟩)) "ferry/files.close").run prog w=.ok (280,.pointer (some ⟨b,0,none⟩)) w:=λw=>by kernel_rfl
theorem bg8 (b:Nat):∀w:World,(method 468 330 (.pointer (some ⟨b,0,none⟩)) "ferry/files.close").run prog w=.ok (269,.pointer (some ⟨b,0,none⟩)) w:=λw=>by kernel_rfl
theorem bg7 (b:Nat):∀w:World,(method 468 334 (.pointer (some ⟨b,0,none⟩)) "ferry/files.close").run prog w=.ok (276,.pointer (some ⟨b,0,none⟩)) w:=λw=>by kernel_rfl
section
variable (m:Nat)(w:o_)
theorem Ν (K:KS)(i:Nat)(h:AY K w)(hi:i<20)(N:0<K.desc i)(Q:K.desc i<=1000)(P:K.nl.length<=100000)(O:∀f,K.ef i=some f->1<=K.op f/\K.op f<=100000):
  O_ m 155 #[.pointer (some (S_ K.kb 21)),b_ (i:Nat)] w λe w'=>e=.returned (.tuple #[])/\AY (K.drop i) w'/\BQ K.T K.T w w':=by
 obtain⟨v,x,L,M,F⟩:=h.ent hi;have q:K.tv i=v:=x_ ((h.ay0 hi).symm.trans x);have G:=F N;have H:(i:Int)<20:=wB
 have J:=h.kfz (21+i*2+1);by_cases k:K.desc i=1
 .have g:=h.ad7 (n:=0) hi N;simp only[Int.natCast_zero]at g;obtain⟨b,⟨rfl,f,u,a⟩|⟨rfl,u,a⟩|⟨rfl,u,a⟩⟩:=G
  .clear q;have c:=λm=>ϳ m _ _ b f g.1 u P (O f a).1 (O f a).2
   have C:=bg6 b;simp only[ptr]at x;gi_enter func155,ntmps155;gi_wp2_with (gi_at_call 280;refine(c _).mono ?_;rintro e w2 ⟨rfl,d,r⟩;obtain⟨D,y,z,_⟩:=d.ent hi;have A:=d.kfz (21+i*2);have B:=d.kfz (21+i*2+1));go_end0;unfold KS.drop;rw[rW k,a];have j:=d.sO (i:=i) (n:=0) (v:=.nilIface) (o:=none) hi rfl (λh=>qx h wB) (w':=(w2.setCell (S_ K.kb (21+i*2)) .nilIface).setCell (S_ K.kb (21+i*2+1)) (b_ 0)) (Aa.setCell (Aa.setCell (Aa.refl (At K.kb) w2) _ (p:=(S_ K.kb (21+i*2))) λ_=>rfl) _ (p:=(S_ K.kb (21+i*2+1))) λ_=>rfl) (λs t=>Ap (Ap t _) _);rw[YP]at j;exact⟨sJ,j.1,(g.2.trans r).trans j.2⟩
  .have l:=jJ q;clear q;have c:=λm=>ϫ m _ _ b g.1 u
   have C:=bg8 b;simp only[ptr]at x;gi_enter func155,ntmps155;gi_wp2_with (gi_at_call 269;refine(c _).mono ?_;rintro e w2 ⟨rfl,d,r⟩;obtain⟨D,y,z,_⟩:=d.ent hi;have A:=d.kfz (21+i*2);have B:=d.kfz (21+i*2+1));go_end0;unfold KS.drop;rw[rW k,a,l];have j:=d.sO (i:=i) (n:=0) (v:=.nilIface) (o:=none) hi rfl (λh=>qx h wB) (w':=(w2.setCell (S_ K.kb (21+i*2)) .nilIface).setCell (S_ K.kb (21+i*2+1)) (b_ 0)) (Aa.setCell (Aa.setCell (Aa.refl (At K.kb) w2) _ (p:=(S_ K.kb (21+i*2))) λ_=>rfl) _ (p:=(S_ K.kb (21+i*2+1))) λ_=>rfl) (λs t=>Ap (Ap t _) _);rw[YP]at j;exact⟨sJ,j.1,(g.2.trans r).trans j.2⟩
  .have l:=jI q;clear q;have c:=λm=>Ϛ m _ _ b g.1 u
   have C:=bg7 b;simp only[ptr]at x;gi_enter func155,ntmps155;gi_wp2_with (gi_at_call 276;refine(c _).mono ?_;rintro e w2 ⟨rfl,d,r⟩;obtain⟨D,y,z,_⟩:=d.ent hi;have A:=d.kfz (21+i*2);have B:=d.kfz (21+i*2+1));go_end0;unfold KS.drop;rw[rW k,a,l];have j:=d.sO (i:=i) (n:=0) (v:=.nilIface) (o:=none) hi rfl (λh=>qx h wB) (w':=(w2.setCell (S_ K.kb (21+i*2)) .nilIface).setCell (S_ K.kb (21+i*2+1)) (b_ 0)) (Aa.setCell (Aa.setCell (Aa.refl (At K.kb) w2) _ (p:=(S_ K.kb (21+i*2))) λ_=>rfl) _ (p:=(S_ K.kb (21+i*2+1))) λ_=>rfl) (λs t=>Ap (Ap t _) _);rw[YP]at j;exact⟨sJ,j.1,(g.2.trans r).trans j.2⟩
 .clear q;have g:=h.ad7 (n:=K.desc i-1) hi N;have E:((K.desc i-1:Nat):Int)=(K.desc i:Int)-1:=wB
  rw[E]at g;have I:((K.desc i:Int)-1==0)=false:=by simp;omega
  gi_enter func155,ntmps155;gi_wp2;go_end0;unfold KS.drop;rw[ru k];exact⟨sJ,g.1,g.2⟩
theorem Zo (K:KS)(b n:Nat)(r:PR)(h:AY K w)(hb:K.ps b=some r)(q:r.en=false)(p:r.fds.length<=1000):
  O_ m 198 #[Q_ K.kb,Q_ b,b_ (n:Nat)] w λe w'=>((e=.returned (a_ 0)/\n<=DF r.fds/\n<=Fq K.desc 20)\/∃x:Nat,e=.returned (a_ x)/\((x:Int) !=0)=true/\x<65536/\Yp ((DF r.fds<n/\x=7)\/(n<=DF r.fds/\Fq K.desc 20<n/\x=8)))/\Aa No w w':=by
 have c:=λm=>nH m w K b r h hb q p
 have c2:=λm w1 (i:Aa No w w1)=>bd5 m w1 K (h.no i)
 generalize l:DF r.fds=s at c;generalize o:Fq K.desc 20=t at c2;gi_enter func198,ntmps198;by_cases j:s<n
 .have f:(s:Int)<n:=wB
  gi_wp2_with (gi_at_call 204;refine(c _).mono ?_;rintro e w1 ⟨a,rfl⟩);go_ret;exact⟨.inr ⟨7,sJ,sN,wB,.inl ⟨wB,rfl⟩⟩,a⟩
 .have f:¬(s:Int)<n:=wB
  by_cases k:t<n
  .have g:(t:Int)<n:=wB;gi_wp2_with (first|(gi_at_call 204;refine(c _).mono ?_;rintro e w1 ⟨a,rfl⟩)|(gi_at_call 231;refine(c2 _ _ a).mono ?_;rintro e w2 ⟨d,rfl⟩));go_ret;exact⟨.inr ⟨8,sJ,sN,wB,.inr ⟨wB,wB,rfl⟩⟩,a.then d⟩
  .have g:¬(t:Int)<n:=wB;gi_wp2_with (first|(gi_at_call 204;refine(c _).mono ?_;rintro e w1 ⟨a,rfl⟩)|(gi_at_call 231;refine(c2 _ _ a).mono ?_;rintro e w2 ⟨d,rfl⟩));go_ret;exact⟨.inl ⟨sJ,wB,wB⟩,a.then d⟩
end
def DK (d:Nat->Nat)(e:Nat->d_ Nat)(f:Nat):Nat:=BP (λi=>if 0<d i/\e i=some f then 1 else 0) (List.range 20)
theorem Zw {f:Nat->Nat}:∀{l:List Nat},(∀b∈l,f b<=1)->BP f l<=l.length
 |[],_=>by simp[BP]
 |b::l,h=>by
  have c:=h b sJ
  have d:=Zw (f:=f) (l:=l) λx a=>h x (by simp[a])
  simp only[BP,List.length_cons];omega
theorem Un (d:Nat->Nat)(e:Nat->d_ Nat)(f:Nat):DK d e f<=20:=by
 have:=Zw (f:=λi=>if 0<d i/\e i=some f then 1 else 0) (l:=List.range 20) (λb _=>by split<;>omega);simpa [DK]using this
theorem QU {f:Nat->Nat}:∀{l:List Nat},1<=BP f l->∃b∈l,1<=f b
 |[],h=>by simp[BP]at h
 |b::l,h=>by
  simp only[BP]at h
  by_cases c:1<=f b
  .exact⟨b,sJ,c⟩
  .obtain⟨x,d,a⟩:=QU (f:=f) (l:=l) wB;exact⟨x,by simp[d],a⟩
theorem Wn {α:Type} [DecidableEq α]:∀{l m:List α},l.Nodup->(∀x∈l,x∈m)->l.length<=m.length
 |[],_,_,_=>Nat.zero_le _
 |a::l,m,hN,c=>by
  obtain⟨e,f⟩:=List.nodup_cons.1 hN
  have b:a∈m:=c a sJ
  have:=Wn (l:=l) (m:=m.erase a) f λx d=>(List.mem_erase_of_ne (by rintro rfl;exact e d)).2 (c x (by simp[d]))
  rw[List.length_erase_of_mem b]at this
  have g:=List.length_pos_of_mem b
  simp only[List.length_cons];omega
structure EP (H:Nat->Nat)(K:KS):Prop where
 ho:∀i,i<20->K.desc i=H i
 le:∀i,i<20->H i<=1000
 op:∀f,K.op f=DK K.desc K.ef f
 nd:K.nl.Nodup
 nz:∀f∈K.nl,1<=K.op f
 nm:∀i j f,i<16->j<16->K.nm i=some f->K.nm j=some f->i=j
 dj:∀i f,i<16->K.nm i=some f->f ∉ K.nl
theorem EP.nl {K:KS}(h:EP H K):K.nl.length<=20:=by
 have:=Wn (l:=K.nl.map some) (m:=(List.range 20).map K.ef) (by
  have:=h.nd
  rw[List.Nodup,List.pairwise_map]
  exact this.imp (by intro a b c e;exact c (by simpa using e))) (λx n=>by
  obtain⟨f,j,rfl⟩:=List.mem_map.1 n
  have d:=h.nz f j
  rw[h.op f]at d
  obtain⟨i,hi,g⟩:=QU d
  refine List.mem_map.2 ⟨i,hi,?_⟩
  split at g
  .rename_i k;exact k.2
  .omega)
 simpa using this
theorem EP.eff {K:KS}(h:EP H K)(hi:i<20)(a:0<K.desc i)(e:K.ef i=some f):1<=K.op f/\K.op f<=100000:=by
 rw[h.op f];refine⟨?_,lN (Un _ _ _) wB⟩;have:=Oo (f:=λi=>if 0<K.desc i/\K.ef i=some f then 1 else 0) (List.mem_range.2 hi);simp only[a,e]at this;simpa [DK]using this
theorem EP.congr {a:Nat->Nat}{K:KS}(h:EP H K)(e:∀i,i<20->a i=H i):EP a K:=⟨λi hi=>(h.ho i hi).trans (e i hi).symm,λi hi=>by rw[e i hi];exact h.le i hi,h.op,h.nd,h.nz,h.nm,h.dj⟩
theorem EP.drop {K:KS}(h:EP H K)(hi:i<20)(r:0<H i):EP (Ah H i (H i-1)) (K.drop i):=by
 have hH:=h.ho i hi;have c:∀j,j<20->Ah H i (H i-1) j<=1000:=λj b=>by unfold Ah;split;have:=h.le i hi;omega;exact h.le j b
 unfold KS.drop;by_cases l:K.desc i=1
 .rw[rW l];have n:∀j,j<20->Ah K.desc i 0 j=Ah H i (H i-1) j:=λj b=>by
   unfold Ah;split
   .omega
   .exact h.ho j b
  have d:∀g,DK (Ah K.desc i 0) (Ah K.ef i none) g+(if K.ef i=some g then 1 else 0)=DK K.desc K.ef g:=λg=>by
   have:=JG (f:=λj=>if 0<Ah K.desc i 0 j/\Ah K.ef i none j=some g then 1 else 0) (g:=λj=>if 0<K.desc j/\K.ef j=some g then 1 else 0) List.nodup_range (List.mem_range.2 hi) (λk p=>by simp only[Ah,ru p])
   have o:¬(0<Ah K.desc i 0 i/\Ah K.ef i none i=some g):=by simp[Ah]
   simp only[ru o,l]at this
   simp only[DK]
   simpa using this
  cases he:K.ef i with
  |none=>
   refine⟨n,c,λf=>?_,h.nd,h.nz,h.nm,h.dj⟩
   have:=d f
   rw[he]at this
   simp only[h.op f]
   simpa using this.symm
  |some f=>
   refine⟨n,c,λg=>?_,h.nd.filter _,λg a=>?_,h.nm,λj g b a q=>h.dj j g b a (List.mem_filter.1 q).1⟩
   .have a:=d g;rw[he]at a;show Ah K.op f (K.op f-1) g=DK (Ah K.desc i 0) (Ah K.ef i none) g;by_cases e:g=f
    .subst e;rw[rW rfl]at a;simp only[Ah,if_true,h.op]at a ⊢;omega
    .rw[ru (by simpa using gJ e)]at a;have e2:Ah K.op f (K.op f-1) g=K.op g:=ru e;rw[e2,h.op g];omega
   .have:=(List.mem_filter.1 a).2;show 1<=Ah K.op f (K.op f-1) g;simp only[Bool.not_eq_true',beq_eq_false_iff_ne]at this;omega
 .rw[ru l];refine⟨λj b=>?_,c,λf=>?_,h.nd,h.nz,h.nm,h.dj⟩
  .show Ah K.desc i (K.desc i-1) j=_;unfold Ah;split
   .omega
   .exact h.ho j b
  .rw[h.op f];unfold DK;refine BU λj _=>?_
   show _=if 0<Ah K.desc i (K.desc i-1) j/\K.ef j=some f then 1 else 0
   unfold Ah;split
   .rename_i m;split
    .rename_i e;subst e;rw[rW ⟨wB,m.2⟩]
    .rfl
   .rename_i m;split
    .rename_i e;subst e;rw[ru (λh=>m ⟨wB,h.2⟩)]
    .rfl
end Go.Fxa
