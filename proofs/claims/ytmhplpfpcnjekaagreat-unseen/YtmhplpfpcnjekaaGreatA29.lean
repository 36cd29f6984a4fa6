/- A region with two operations t -/
import Derived.Test.YtmhplpfpcnjekaaGreatA28
namespace Go.Fxa
open Conc Proofs RowKit Proofs.Tryz
set_option maxRecDepth 1000000
set_option maxHeartbeats 0
variable {L:Nat->Bool} {u:Nat->n_} {W' w:o_} {v:n_} {K:KS} {i f b i0:Nat} {T:Tag} {nm:Nat->d_ Nat} {r:PR} {o:d_ Nat} {H:Nat->Nat}
def dX (S:Nat->Prop) (w1:o_) (e1 e2:Nat) (P1:n_->o_->Prop) (P2:n_->n_->o_->Prop) (L:Nat->Bool) (u:Y_) (W:o_):Prop:=
 Ac S w1 W/\(L e1=false->W=w1/\L e2=false)/\(L e1=true->L e2=false->P1 (u e1) W)/\(L e2=true->P2 (u e1) (u e2) W)
section
variable {S:Nat->Prop} {w1:o_} {e1 e2:Nat} {P1:n_->o_->Prop} {P2:n_->n_->o_->Prop} {ss:List Nat}
theorem Yd (k:e1∈ss) (l:e2∈ss):∀L g u j W,(∀i∈ss,L i=g i/\u i=j i)->dX S w1 e1 e2 P1 P2 L u W->dX S w1 e1 e2 P1 P2 g j W:=by
 rintro L g u j W h ⟨a,b,c,d⟩;obtain⟨e,p2⟩:=h e1 k;obtain⟨q1,f⟩:=h e2 l;exact⟨a,λx=>by rw[<-q1];exact b (e.trans x),λx y=>p2 ▸ c (e.trans x) (q1.trans y),λx=>p2 ▸ f ▸ d (q1.trans x)⟩
theorem Tq (u:Y_):dX S w1 e1 e2 P1 P2 (λ_=>false) u w1:=⟨Ac.refl _ _,λ_=>⟨rfl,rfl⟩,λh=>ql h zF,λh=>ql h zF⟩
theorem Yc {W:o_} (h:dX S w1 e1 e2 P1 P2 L u W) (c:e1≠e2) (e:L e1=false) (d:Ac S w1 W') (g:P1 v W'):dX S w1 e1 e2 P1 P2 (Nq L e1) (J8 u e1 v) W':=by
 obtain⟨_,b,_,_⟩:=h;have a:=(b e).2;refine⟨d,λx=>ql x (by simp[Nq]),λ_ _=>by simp only[J8,if_true];exact g,λx=>?_⟩;simp only[Nq,ru c.symm,a]at x;cases x
theorem Yb (a:e1≠e2) (d:L e1=true) (c:Ac S w1 W') (e:P2 (u e1) v W'):dX S w1 e1 e2 P1 P2 (Nq L e2) (J8 u e2 v) W':=by
 refine⟨c,λx=>?_,λ_ y=>ql y (by simp[Nq]),λ_=>?_⟩
 .simp only[Nq,ru a,d]at x;cases x
 .simp only[J8,if_true,ru a];exact e
end
section
variable (m:Nat) (w:o_)
theorem AV.ϲ {w:o_} (h:AV K w) (e:i<16):w.cell? (S_ K.kb (4+i))=some (U8 (K.nm i))/\∀b,K.nm i=some b->K.T b=(10,0):=by
 obtain⟨d,c,a⟩:=h.k;exact⟨(Ah c _).trans (a.nm i e).1,(a.nm i e).2⟩
theorem bq5 (K:KS) (i:Nat) (h:AV K w) (c:i<16):O_ m 233 #[.pointer (some (S_ K.kb 4)),b_ (i:Nat)] w λe w'=>Ac No w w'/\e=.returned (.bool (K.nm i).isSome):=by
 have q:=(h.ϲ c).1;have a:(i:Int)<16:=zD
 cases hn:K.nm i with
 |none=>
  rw[hn]at q
  simp only[U8]at q
  gi_enter func233,ntmps233
  gi_wp2
  go_ret
  exact⟨Ac.refl _ _,zF⟩
 |some f=>
  rw[hn]at q
  simp only[U8,ptr]at q
  gi_enter func233,ntmps233
  gi_wp2
  go_ret
  exact⟨Ac.refl _ _,zF⟩
def bs4 (K:KS) (i:Nat) (x:Nat):Prop:=(x=0/\i<16/\∃f,K.nm i=some f)\/(x=6/\i<16/\K.nm i=none)\/(x=13/\16<=i)
theorem QL (K:KS) (i:Nat) (h:AV K w) (g:i<65536):O_ m 205 #[Q_ K.kb,a_ (i:Nat)] w λe w'=>Ac No w w'/\∃x:Nat,e=.returned (a_ x)/\bs4 K i x:=by
 by_cases a:i<16
 .have d:¬(16:Int)<=(i:Int):=zD
  have c:=λm=>bq5 m w K i h a
  cases hn:K.nm i with
  |none=>
   rw[hn]at c
   simp only[Option.isSome_none]at c
   gi_enter func205,ntmps205
   gi_wp2_with (gi_at_call 233;refine(c _).mono ?_;rintro e w1 ⟨b,rfl⟩)
   go_ret
   exact⟨b,6,zF,.inr (.inl ⟨rfl,a,hn⟩)⟩
  |some f=>
   rw[hn]at c
   simp only[Option.isSome_some]at c
   gi_enter func205,ntmps205
   gi_wp2_with (gi_at_call 233;refine(c _).mono ?_;rintro e w1 ⟨b,rfl⟩)
   go_ret
   exact⟨b,0,zF,.inl ⟨rfl,a,f,hn⟩⟩
 .have d:(16:Int)<=(i:Int):=zD
  gi_enter func205,ntmps205;gi_wp2;go_ret;exact⟨Ac.refl _ _,13,zF,.inr (.inr ⟨rfl,zD⟩)⟩
def bk0 (T:Tag) (w:o_) (l:List Nat) (v:n_) (W:o_):Prop:=∃g c,v=P_ g l.length c/\Rw 101 1 W g l.length c (Bj l)/\(T g=(5,0)\/w.heap.size<=g)
theorem cq3 {w:o_} {l:List Nat} {I c2:Nat} {ty:j_} (J:zM T w l v) (M:w.cell? (R_ I)=some (ptr f)) (N:l.length<=1000):∃v' W,(Builtin.append_ #[103,103] ty #[v,P_ I 1 c2]).run prog w=.ok v' W/\bk0 T w (l++[f]) v' W/\Ac (On T λt=>t=(5,0)) w W:=by
 have o:∀j u,(Bj [f])[j]?=some u->w.cell? (((R_ I):f_).add j)=some u:=λj u a=>by
  match j,a with
  |0,a=>
   simp[Bj]at a;subst a
   have A:((R_ I):f_).add 0=(R_ I):=by unfold Addr.add;split<;>simp_all
   rw[A];exact M
 have n:∀u∈Bj [f],u.oneCell'=true:=λu p=>by simp[Bj]at p;subst p;rfl
 have i:(l++[f]).length=l.length+1:=zF
 have B:Bj (l++[f])=Bj l++Bj [f]:=by simp[Bj]
 obtain⟨⟨rfl,rfl⟩|⟨g,c,rfl,D,q⟩,_⟩:=J
 .obtain⟨ii,E,G,z,d⟩:=jX.parts;have s:=run_append_nil (P:=prog) w 103 ty 101 ii (.pointer none) jX.und E G (R_ I) 1 c2 (Bj [f]) (by rw[z];rfl) o zD zD (by rw[d];omega);have h:=grownCap_ge w 1 0 101;refine⟨_,_,s,⟨w.heap.size,_,rfl,⟨⟨_,Y7 rfl,?_,?_⟩,h,grownCap_le_maxLen w 1 0 101 (by simp only[maxLen];omega),rfl,n⟩,.inr (w_ _)⟩,((Ac.refl No w).drew.alloc _).no⟩
  .simp only[Array.size_append,List.size_toArray,size_zeroCells,jX.zs];show 1+_=_;omega
  .simp only[Array.toList_append];exact List.take_left (l₁:=Bj [f])
 .obtain⟨C,r,H,F,y,k⟩:=jP (ty:=ty) (sCap:=c2) (m:=1) jX D (ys:=Bj [f]) rfl o n zD zD;refine⟨_,_,F,⟨C,r,by rw[i],by rw[i,B];exact y,?_⟩,?_⟩
  .obtain⟨rfl,_⟩|⟨rfl,_⟩:=k
   .exact .inl q
   .exact .inr (w_ _)
  .obtain⟨rfl,b⟩|⟨rfl,b⟩:=k
   .exact b.on λx _ e=>by subst e;exact q
   .exact b.no
end
theorem oL {c:Nat->Nat} {nl:List Nat} (e:i<16) (d:nm i=some f):Np c (Ag nm i none) (nl++[f])<=Np c nm nl:=by
 unfold Np;have e2:=Vt (f:=Pq c (Ag nm i none)) (g:=Pq c nm) (l:=List.range 16) (b:=i) List.nodup_range (List.mem_range.2 e) λk _ a=>by unfold Pq Ag;rw[ru a]
 have e3:Pq c nm i=Ai (c f):=by unfold Pq;rw[d]
 have e4:Pq c (Ag nm i none) i=0:=by unfold Pq Ag;rw[rC rfl]
 rw[QA];simp only[BK];omega
def Q4 (K:KS) (i:Nat):KS->Nat->Nat->n_->Prop:=λK' x y f=>(i<16/\∃fl,K.nm i=some fl/\x=0/\y=0/\f=.nilFunc/\∃T,K'={ K with nl:=(K.nl++[fl]).filter (λb=>!(K.op b==0)),nm:=Ag K.nm i none,T:=T })\/(i<16/\K.nm i=none/\GU K 6 K' x y f)\/(16<=i/\GU K 13 K' x y f)
section
variable (m:Nat) (w:o_)
theorem Θ (K:KS) (i f:Nat) (h:AV K w) (hi:i<16) (hf:K.nm i=some f) (hnl:K.nl.length<=900):
  O_ m 208 #[.pointer (some (S_ K.kb 4)),b_ (i:Nat)] w λe w'=>e=.returned (.tuple #[])/\∃T',AV { K with nl:=(K.nl++[f]).filter (λb=>!(K.op b==0)),nm:=Ag K.nm i none,T:=T' } w'/\BN K.T T' w w':=by
 obtain⟨d,A⟩:∃d,Nonempty (PLift (d=K.nl++[f])):=⟨_,⟨⟨rfl⟩⟩⟩;obtain⟨ks,O,X⟩:=h.k;obtain⟨v,Z,Y⟩:=X.nl;have S:=(Ah O 20).trans Z;have D:=(h.ϲ hi).1;have tf:=(h.ϲ hi).2 f hf;rw[hf]at D;simp only[U8,ptr]at D;have f1:(i:Int)<16:=zD
 have R:=Dt O;gi_enter func208,ntmps208;gi_wp2;refine Dl (P:=prog) _ rfl rfl sJ 13 26 [0,1,2,3,4,5,6,7,8,9,10] [11,12] sJ (by rfl)
  (dX (On K.T λt=>t=(5,0)) w.drew 11 12 (λv W=>v=P_ w.heap.size 1 1/\W.cell? (R_ w.heap.size)=some (ptr f)/\Ac No w.drew W) (λ_ v W=>bk0 K.T w d v W)) (Yd zF zF) _ _ rfl rfl ?_;gi_wp2;refine⟨rfl,sJ,Tq,?_,?_,?_⟩
 .intro U u W l;have d20:=(l.1.cell (w:=w.drew) (p:=(S_ K.kb 20)) R (by unfold On;rw[h.tk];simp)).trans S;have dn:=(l.1.cell (w:=w.drew) (p:=(S_ K.kb (4+i))) R (by unfold On;rw[h.tk];simp)).trans D
  repeat' (refine Au ?_ ?_)
  all_goals first|exact eu|gi_wp2
 .intro j hj U u W l F hu;obtain rfl|rfl:=(by simpa using hj:j=11\/j=12)
  .obtain⟨rfl,_⟩:=l.2.1 F;refine BC rfl λKK Nc=>?_
   show wpListIn NF m prog _ _ _ (Act.put (Act.put _ (some 15) (u 11)) (some 16) (u 12)) _;gi_wp2;refine⟨_,rfl,Yc l wB F ((Ac.refl _ _).alloc _) ⟨zF,?_,(Ac.refl _ _).alloc _⟩⟩;have:=Y7 (w:=w.drew) (o:=.cells #[Q_ f] 101) rfl;exact(Ah this 0).trans rfl
  .have z:=hu 11 zF wB;obtain⟨y,r,KW⟩:=l.2.2.1 z F;refine BC rfl λKK Nc=>?_
   show wpListIn NF m prog _ _ _ (Act.put (Act.put _ (some 15) (u 11)) (some 16) (u 12)) _;rw[y];have KW0:Ac No w W:=(Ac.refl No w).drew.then KW;have J:zM K.T W K.nl v:=zM.keep (Q:=λt=>t=(0,0)) Y KW0.no zF;obtain⟨v',W',GY,hP,H⟩:=cq3 (ty:=103) (c2:=1) J r zD;gi_wp2_with (refine Cj rfl (.tmp 8) (.tmp 15) _ rfl rfl rfl GY ?_);rw[<-y];refine⟨_,rfl,Yb wB z ((KW.no).then H) ?_⟩;obtain⟨⟨a⟩⟩:=A;rw[a];obtain⟨g,c,e,C,n⟩:=hP;exact⟨g,c,e,C,n.imp id λx=>pV KW0.size x⟩
 .intro U u W l hL;obtain⟨g,c,G,C,n⟩:=l.2.2.2 (hL 12 zF);show wpListIn NF m prog _ _ _ (Act.put (Act.put _ (some 15) (u 11)) (some 16) (u 12)) _;rw[G];have KW:Ac (On K.T λt=>t=(5,0)) w W:=(Ac.refl _ w).drew.then l.1;have B:=KW.old O (by unfold On;rw[h.tk];simp);have z20:=BQ B 20;have zn:=BQ B (4+i);have c20:=(Ah B 20).trans Z;have cn:W.cell? (S_ K.kb (4+i))=some (Q_ f):=(KW.cell (p:=(S_ K.kb (4+i))) R (by unfold On;rw[h.tk];simp)).trans D;have N:K.kb≠g:=λe=>by
   obtain n|n:=n
   .rw[<-e,h.tk]at n;simp at n
   .omega
  have L:g<W.heap.size:=C.lt;have E:Ac (At K.kb) W ((W.setCell (S_ K.kb 20) (P_ g d.length c)).setCell (S_ K.kb (4+i)) (.pointer none)):=Ac.setCell (Ac.setCell (Ac.refl (At K.kb) W) _ (p:=(S_ K.kb 20)) λ_=>rfl) _ (p:=(S_ K.kb (4+i))) λ_=>rfl
  have K2:Ac (On K.T λt=>t=(1,0)\/t=(5,0)) w ((W.setCell (S_ K.kb 20) (P_ g d.length c)).setCell (S_ K.kb (4+i)) (.pointer none)):=(KW.on λk _ e=>.inr e).trans E λk _ e=>by rw[show k=K.kb from e];exact .inl h.tk
  have q:Dh K.T (Bg K.T g (5,0)) (λt=>t=(1,0)\/t=(5,0)) (λt=>t=(5,0)) w ((W.setCell (S_ K.kb 20) (P_ g d.length c)).setCell (S_ K.kb (4+i)) (.pointer none)):=Dh.row K2 h.lt n (Nat.lt_of_lt_of_le L E.size) rfl;have M:Dh K.T (Bg K.T g (5,0)) (λt=>t=(1,0)\/t=(5,0)\/10<=t.1) (λt=>t=(5,0)\/10<=t.1) w _:=q.Px (λt e=>by obtain e|e:=e;exact .inl e;exact .inr (.inl e)) (λt e=>.inl e);have I:zM (Bg K.T g (5,0)) ((W.setCell (S_ K.kb 20) (P_ g d.length c)).setCell (S_ K.kb (4+i)) (.pointer none)) d (P_ g d.length c):=⟨.inr ⟨g,c,rfl,C.keep E (λe=>N e.symm),AY⟩,λb s=>by
   obtain⟨⟨a⟩⟩:=A
   rw[a]at s
   obtain s|s:=gJ.1 s
   .exact q.tag (Y.2 b s) zF
   .rw[List.mem_singleton.1 s];exact q.tag tf zF⟩
  have h1:AV { K with nl:=d,nm:=Ag K.nm i none,T:=Bg K.T g (5,0) } _:=h.ZB M (Ap (Ap B _) _) ((KC.bt2 X q I).bs8 (o:=none) hi (λb e=>by cases e)) (h.fl.IX q (by rintro t (rfl|rfl)<;>simp) (by rintro t rfl;simp)) ((h.dk.IX q zF zF).sub λln _=>by obtain⟨⟨a⟩⟩:=A;rw[a];exact oL hi hf);have cf:=λm=>bW m _ _ h1 (by obtain⟨⟨a⟩⟩:=A;show d.length<=100000;rw[a];simp;omega)
  gi_wp2_with (gi_at_call 234;refine(cf _).mono ?_;rintro e w9 ⟨rfl,V,M9⟩);go_end0;obtain⟨⟨a⟩⟩:=A;rw[a]at V;exact⟨zF,_,V,(q.WB (by rintro t (rfl|rfl)<;>simp)).trans M9⟩
theorem Eo.unlink {NC NS:Nat} {T':Tag} (h:Eo NC NS K) (A:b∈K.Aw) (s:K.ps b=some r) (z:i<16) (t:K.nm i=some f):Eo NC NS { K with nl:=(K.nl++[f]).filter (λb=>!(K.op b==0)),nm:=Ag K.nm i none,T:=T' }/\Rel b K { K with nl:=(K.nl++[f]).filter (λb=>!(K.op b==0)),nm:=Ag K.nm i none,T:=T' }:=by
 have:=h.fds (K1:={ K with nl:=(K.nl++[f]).filter (λb=>!(K.op b==0)),nm:=Ag K.nm i none,T:=T' }) (r':=r) (H:=BM K.ps K.Aw) ⟨rfl⟩ A s rfl rfl rfl rfl rfl (h.pr b r s) ⟨h.Ef.ho,h.Ef.le,h.Ef.op,?_,?_,?_,?_⟩ λ_ _=>rfl
 .rwa [Fj (K:={ K with nl:=(K.nl++[f]).filter (λb=>!(K.op b==0)),nm:=Ag K.nm i none,T:=T' }) s]at this
 .refine List.Pairwise.filter _ ?_;show(K.nl++[f]).Nodup;rw[List.nodup_append];exact⟨h.Ef.nd,zF,λx p y q e=>h.Ef.dj i f z t (by rw[List.mem_singleton.1 q]at e;rw[<-e];exact p)⟩
 .intro g n;have:=(List.mem_filter.1 n).2;simp only[Bool.not_eq_true',beq_eq_false_iff_ne]at this;show 1<=K.op g;omega
 .intro j k g d o a c;simp only[Ag]at a c;split at a
  .cases a
  .split at c
   .cases c
   .exact h.Ef.nm j k g d o a c
 .intro j g d a c;simp only[Ag]at a;split at a
  .cases a
  .rename_i m;obtain l|l:=gJ.1 (List.mem_filter.1 c).1
   .exact h.Ef.dj j g d a l
   .rw[List.mem_singleton.1 l]at a;exact m (h.Ef.nm j i f d z a t)
theorem Ι (K:KS) (NC NS b name:Nat) (r:PR) (h:AV K w) (M:Eo NC NS K) (O:b∈K.Aw) (N:K.ps b=some r) (J:name<65536):
  O_ m 153 #[Q_ K.kb,a_ (name:Nat)] w (FO (Q4 K name) NC NS b K w):=by
 obtain⟨l,s,n⟩:=Iw w;have o:=h.no l;have v:K.T w.heap.size=(0,0):=h.lt _ (w_ _);have C:=λm=>QL m _ K name o J
 gi_enter func153,ntmps153;gi_wp2_with (gi_at_call 205;refine(C _).mono ?_;rintro e w1 ⟨c,x,rfl,d⟩;generalize H:w.alloc V_=I at *;obtain⟨rfl,q,f,p⟩|⟨rfl,d⟩|⟨rfl,d⟩:=d)
 .have E:=o.no c;have G:=M.Ef.nl;have D:=λm=>Θ m w1 K name f E q p zD
  gi_wp2_with (gi_at_call 208;refine(D _).mono ?_;rintro e w2 ⟨rfl,T',F,A⟩);obtain⟨B,z⟩:=M.unlink (T':=T') O N q p;have k:BN K.T T' I w2:=(BN.no c o.lt).trans A;gi_wp2_with (first|(gi_at_call 152;refine(Ed _ _ 0 zD).mono ?_;rintro e u ⟨rfl,a⟩;obtain⟨t,g,i,j⟩:=AA (x:=0) (y:=0) (f:=.nilFunc) (a.old (k.old s v) id) rfl)|refine EX g ?_);refine T_ 0 0 (by simp[results,results153,go_sem,FI j]) rfl ?_;exact BB (K':={ K with nl:=(K.nl++[f]).filter (λb=>!(K.op b==0)),nm:=Ag K.nm name none,T:=T' }) (x:=0) (y:=0) h.lt l n ((k).then a) ((F).no a) i zD zD (.inl rfl) (B) (z) N (λ_=>O) (.inl ⟨q,f,p,rfl,rfl,rfl,T',rfl⟩)
 .skip
  gi_wp2_with (first|(gi_at_call 140;refine(TI 6 (c.old s id) _).mono ?_;rintro e u ⟨rfl,a,t,g,i,j⟩)|refine EX g ?_);refine T_ 0 6 (by simp[results,results153,go_sem,FI j]) rfl ?_;exact BV h M O N l n (c.then a) i wB wB (.inr (.inl ⟨d.1,d.2,GU.of⟩))
 .skip
  gi_wp2_with (first|(gi_at_call 140;refine(TI 13 (c.old s id) _).mono ?_;rintro e u ⟨rfl,a,t,g,i,j⟩)|refine EX g ?_);refine T_ 0 13 (by simp[results,results153,go_sem,FI j]) rfl ?_;exact BV h M O N l n (c.then a) i wB wB (.inr (.inr ⟨d,GU.of⟩))
end
def ay (op:Nat->Nat):d_ Nat->Nat->Nat
 |none=>op
 |some f=>Ag op f (op f+1)
theorem mi (op:Nat->Nat) (o:d_ Nat) (g:Nat):ay op o g=op g+(if o=some g then 1 else 0):=by
 cases o with
 |none=>simp[ay]
 |some f=>
  simp only[ay,Ag]
  by_cases e:g=f
  .subst e;simp
  .rw[ru e,ru (by simpa using ik e)];rfl
theorem υ {d:Nat->Nat} {e:Nat->d_ Nat} (h:i0<20) (c:d i0=0) (g:Nat):DI (Ag d i0 1) (Ag e i0 o) g=DI d e g+(if o=some g then 1 else 0):=by
 have:=Jt (f:=λj=>if 0<Ag d i0 1 j/\Ag e i0 o j=some g then 1 else 0) (g:=λj=>if 0<d j/\e j=some g then 1 else 0) List.nodup_range (List.mem_range.2 h) (λk a=>by simp only[Ag,ru a]);have e1:(if 0<Ag d i0 1 i0/\Ag e i0 o i0=some g then 1 else 0)=(if o=some g then 1 else 0):=by simp[Ag]
 have e2:(if 0<d i0/\e i0=some g then 1 else 0)=0:=by simp[c]
 rw[e1,e2]at this;unfold DI;omega
theorem EK.add {ct:Nat->Ct} {tv:Nat->n_} (h:EK H K) (k:i0<20) (e:K.desc i0=0) (d:∀i j f,i<16->j<16->nm i=some f->nm j=some f->i=j) (c:∀i f,i<16->nm i=some f->f ∉ K.nl):EK (Ag H i0 1) { K with desc:=Ag K.desc i0 1,ef:=Ag K.ef i0 o,op:=ay K.op o,nm:=nm,T:=T,ct:=ct,tv:=tv }:=by
 refine⟨λi a=>?_,λi a=>?_,λg=>?_,h.nd,λg b=>?_,d,c⟩
 .show Ag K.desc i0 1 i=Ag H i0 1 i;unfold Ag;split
  .rfl
  .exact h.ho i a
 .unfold Ag;split
  .omega
  .exact h.le i a
 .show ay K.op o g=DI (Ag K.desc i0 1) (Ag K.ef i0 o) g;rw[υ k e,mi,h.op g]
 .have:=h.nz g b;show 1<=ay K.op o g;rw[mi];omega
theorem bp1 (h:AV K w) (q:EK H K) (p:w.heap.size<=b):K.op b=0:=by
 rw[q.op b];cases hz:DI K.desc K.ef b with
 |zero=>rfl
 |succ n=>
  exfalso
  obtain⟨i,k,g⟩:=Qz (f:=λi=>if 0<K.desc i/\K.ef i=some b then 1 else 0) (l:=List.range 20) (by unfold DI at hz;omega)
  split at g
  .rename_i c;obtain⟨v,_,_,_,j⟩:=h.ϻ (List.mem_range.1 k);obtain⟨e,⟨_,f,m,a⟩|⟨_,_,a⟩|⟨_,_,a⟩⟩:=j c.1
   .rw[c.2]at a;obtain rfl:b=f:=(by simpa using a);obtain⟨_,d,_⟩:=h.fl.GI e b m;rw[h.lt b p]at d;simp at d
   .rw[c.2]at a;cases a
   .rw[c.2]at a;cases a
  .omega
def Ct.nil:Ct:=⟨[],false,false,0⟩
theorem AV.aa5 {Qe:Nat->Ct} {w':o_} {t:Nat×Nat} (h:AV K w) (O:Ac No w w') (N:w.heap.size<=b) (P:b<w'.heap.size) (R:10<=t.1) (Q:EI (Bg K.T b t) K.op Qe w' K.kb b) (S:∀k,k≠b->Qe k=K.ct k):AV { K with T:=Bg K.T b t,ct:=Qe } w'/\BN K.T (Bg K.T b t) w w':=by
 obtain⟨H,j,u⟩:=h.k;have M:Dh K.T (Bg K.T b t) (λt=>t=(1,0)\/t=(5,0)\/10<=t.1) (λt=>t=(5,0)\/10<=t.1) w w':=Dh.row O.no h.lt (.inr N) P (.inr R);have C:Dh K.T (Bg K.T b t) (λt=>10<=t.1) (λt=>10<=t.1) w w':=Dh.row O.no h.lt (.inr N) P R;refine⟨h.ZB (ks':=H) M (O.old j id) (KC.bl0 (u.IX C zF) Qe) (ae.of λk=>?_) ?_,M.WB ?_⟩
 .by_cases e:k=b
  .subst e;exact Q
  .refine EI.ct ?_ (S k e);have o:=(h.fl.one k).keep O id (λ_ _=>id);have m:∀x,x≠b->Bg K.T b t x=K.T x:=λx G=>AP G
   have B:∀{z v l},RU K.T w' k z v l->RU (Bg K.T b t) w' k z v l:=λr=>by
    obtain r | ⟨g,c,a1,a2,p,D,q⟩:=r
    .exact .inl r
    .exact .inr ⟨g,c,a1,a2,p,D,by rw[m g (λe=>by rw[e,h.lt b N]at q;simp at q)];exact q⟩
   refine⟨λa=>?_,λa=>?_,λf a=>?_,λa=>?_,λa=>?_⟩<;>rw[m k e]at a
   .obtain⟨v,a1,a2⟩:=o.file a;exact⟨v,a1,B a2⟩
   .obtain⟨v,a1,a2⟩:=o.pipe a;exact⟨v,a1,B a2⟩
   .obtain⟨a1,a2,p⟩:=o.GI f a;exact⟨a1,by rw[m f (λe=>by rw[e,h.lt b N]at a2;simp at a2)];exact a2,p⟩
   .obtain⟨a1,a2⟩:=o.rend a;exact⟨a1,by rw[m _ (λe=>by rw[e,h.lt b N]at a2;simp at a2)];exact a2⟩
   .obtain⟨a1,a2⟩:=o.TM a;exact⟨a1,by rw[m _ (λe=>by rw[e,h.lt b N]at a2;simp at a2)];exact a2⟩
 .obtain⟨d,I,J⟩:=h.dk;have L:=h.lt b N;obtain⟨n,F⟩:∃n,t=(10,0)->JJ w' b n:=by
   by_cases e:t=(10,0)
   .obtain⟨v,a1,a2⟩:=Q.file (by rw[AY,e]);obtain⟨rfl,_⟩|⟨g,c,rfl,_⟩:=a2
    .exact⟨0,λ_=>⟨_,_,_,a1⟩⟩
    .exact⟨_,λ_=>⟨_,_,_,a1⟩⟩
   .exact⟨0,λh=>ql h e⟩
  have y:∀k,K.T k=(10,0)->Ag d b n k=d k:=λk j=>ru (by rintro rfl;rw[L]at j;simp at j)
  refine⟨Ag d b n,λk e=>?_,?_⟩
  .by_cases A:k=b
   .subst A;rw[AY]at e;have:Ag d k n k=n:=rC rfl;rw[this];exact F e
   .rw[AP A]at e;rw[y k e];exact(I k e).keep O id
  .have e1:BK (Pq (Ag d b n) K.nm) (List.range 16)=BK (Pq d K.nm) (List.range 16):=BO λi E=>by
    unfold Pq
    cases NV:K.nm i with
    |none=>rfl
    |some f=>simp only;rw[y f ((u.nm i (List.mem_range.1 E)).2 f NV)]
   obtain⟨_,_,_,s⟩:=u.nl;have e2:BK (λk=>Ai (Ag d b n k)) K.nl=BK (λk=>Ai (d k)) K.nl:=BO λk j=>by rw[y k (s k j)]
   show BK _ _+BK _ _<=40;rw[e1,e2];exact J
 .rintro t (rfl|rfl|h)<;>try simp
  rintro rfl;simp at h
theorem AV.by7 (h:AV K w) (l:i<16) (m:∀b,o=some b->K.T b=(10,0)) (j:Xd K.T (Ag K.nm i o) K.nl w):AV { K with nm:=Ag K.nm i o } (w.setCell (S_ K.kb (4+i)) (U8 o))/\BN K.T K.T w (w.setCell (S_ K.kb (4+i)) (U8 o)):=by
 obtain⟨g,f,d⟩:=h.k;have c:Ac (At K.kb) w (w.setCell (S_ K.kb (4+i)) (U8 o)):=(Ac.refl _ _).setCell _ λ_=>rfl
 have M:Dh K.T K.T (λt=>t=(1,0)\/t=(5,0)\/10<=t.1) (λt=>t=(5,0)\/10<=t.1) w (w.setCell (S_ K.kb (4+i)) (U8 o)):=Dh.of (c.on λk _ e=>by subst e;exact .inl h.tk) h.lt;have a:Dh K.T K.T (λt=>t=(1,0)) (λt=>t=(1,0)) w (w.setCell (S_ K.kb (4+i)) (U8 o)):=Dh.of (c.on λk _ e=>by subst e;exact h.tk) h.lt;exact⟨h.ZB M (Ap f _) ((d.IX a zF).bs8 l m) (h.fl.IX a (by rintro t rfl;simp) (by rintro t rfl;simp)) (j.IX a zF zF),a.WB (by rintro t rfl;simp)⟩
section
variable (m:Nat) (w:o_)
theorem bq0 (K:KS) (i:Nat) (h:AV K w) (B:i<16) (C:K.op w.heap.size=0):
  O_ m 44 #[.pointer (some (S_ K.kb 4)),b_ (i:Nat),.slice none 0 0] w λe w'=>e=.returned (.tuple #[])/\AV { K with nm:=Ag K.nm i (some w.heap.size),T:=Bg K.T w.heap.size (10,0),ct:=Ag K.ct w.heap.size Ct.nil } w'/\BN K.T (Bg K.T w.heap.size (10,0)) w w':=by
 have A:(i:Int)<16:=zD
 have u:Ac No w (w.alloc (.cells #[.slice none 0 0,b_ 0] 191)):=(Ac.refl _ _).alloc _;have a:(w.alloc (.cells #[.slice none 0 0,b_ 0] 191)).heap[w.heap.size]?=some (N_ #[.slice none 0 0,b_ 0] 191):=Y7 rfl;obtain⟨d,q⟩:=h.aa5 (Qe:=Ag K.ct w.heap.size Ct.nil) (t:=(10,0)) u (w_ _) (Dt a) zF (EI.ax (v:=.slice none 0 0) AY (by rw[a,C];rfl) (.inl ⟨rfl,by simp[Ag,Ct.nil]⟩)) (λk x=>ru x);obtain⟨p,n⟩:=AV.by7 (i:=i) (o:=some w.heap.size) d B (λb e=>by cases e;exact AY) (d.dk.sub λc y=>by
  have r:c w.heap.size=0:=(y _ AY).eq ⟨_,_,_,a⟩
  have e2:=Vt (f:=Pq c (Ag K.nm i (some w.heap.size))) (g:=Pq c K.nm) (l:=List.range 16) (b:=i) List.nodup_range (List.mem_range.2 B) λk _ j=>by unfold Pq Ag;rw[ru j]
  have e4:Pq c (Ag K.nm i (some w.heap.size)) i=0:=by unfold Pq Ag;rw[rC rfl];simp only;rw[r];rfl
  have s:BK (Pq c (Ag K.nm i (some w.heap.size))) (List.range 16)<=BK (Pq c K.nm) (List.range 16):=zD
  exact Nat.add_le_add_right s _);have z:=(d.ϲ B).1;have z1:=d.ϳ (4+i);simp only[U8,ptr]at p n;gi_enter func44,ntmps44;gi_wp2;go_end0;exact⟨zF,p,q.trans n⟩
theorem yO (K:KS) (i f:Nat) (h:AV K w) (y:i<16) (x:K.nm i=some f) (z:K.op f<=1000):
  O_ m 206 #[.pointer (some (S_ K.kb 4)),b_ (i:Nat)] w λe w'=>∃pb,e=.returned (.iface 337 (ptr pb))/\AV { K with op:=Ag K.op f (K.op f+1),T:=Bg K.T pb (12,f),ct:=Ag K.ct pb Ct.nil } w'/\BN K.T (Bg K.T pb (12,f)) w w'/\ag (K.T pb=(0,0)):=by
 have s:(i:Int)<16:=zD
 obtain⟨l,a⟩:=h.ϲ y;have a:=a f x;rw[x]at l;simp only[U8,ptr]at l;obtain⟨v,c,_⟩:=h.fl.file f a;have q1:w.cell? (S_ f 1)=some (b_ (K.op f)):=(Ah c 1).trans rfl;have z1:=BQ c 1;obtain⟨d,j⟩:=h.bi0 (n:=K.op f+1) a;push_cast at d j;have q:Ac No (w.setCell (S_ f 1) (b_ ((K.op f:Int)+1))) ((w.setCell (S_ f 1) (b_ ((K.op f:Int)+1))).alloc (.cells #[.pointer (some (S_ K.kb 4)),Q_ f,b_ 0] 339)):=(Ac.refl _ _).alloc _;have b:((w.setCell (S_ f 1) (b_ ((K.op f:Int)+1))).alloc (.cells #[.pointer (some (S_ K.kb 4)),Q_ f,b_ 0] 339)).heap[(w.setCell (S_ f 1) (b_ ((K.op f:Int)+1))).heap.size]?=some (N_ #[.pointer (some (S_ K.kb 4)),Q_ f,b_ 0] 339):=Y7 rfl;have g:f≠(w.setCell (S_ f 1) (b_ ((K.op f:Int)+1))).heap.size:=λe=>by have:=d.lt f (Nat.le_of_eq e.symm);simp only at this;rw[a]at this;simp at this
 obtain⟨p,o⟩:=AV.aa5 (Qe:=Ag K.ct (w.setCell (S_ f 1) (b_ ((K.op f:Int)+1))).heap.size Ct.nil) (t:=(12,f)) d q (w_ _) (Dt b) zF (EI.yK AY (b.trans (by simp[Ag,Ct.nil,ptr])) (by rw[AP g];exact a) (by simp[Ag,Ct.nil])) (λk r=>ru r);gi_enter func206,ntmps206;gi_wp2;go_ret;refine⟨(w.setCell (S_ f 1) (b_ ((K.op f:Int)+1))).heap.size,by simp[ptr],p,j.trans o,d.lt _ (w_ _)⟩
end
def cd6 (K:KS) (i fl:Nat) (nm:Nat->d_ Nat) (T:Tag) (ct:Nat->Ct):Prop:=(K.nm i=some fl/\nm=K.nm/\T=K.T/\ct=K.ct)\/(K.nm i=none/\K.T fl=(0,0)/\nm=Ag K.nm i (some fl)/\T=Bg K.T fl (10,0)/\ct=Ag K.ct fl Ct.nil)
def RZ (K:KS) (b:Nat) (r:PR) (i num:Nat):KS->Nat->Nat->n_->Prop:=λK' x y f=>(16<=i/\GU K 13 K' x y f)\/(i<16/\((K.nm i=none/\num=0/\GU K 6 K' x y f)\/(¬(K.nm i=none/\num=0)/\((DC r.fds<1/\GU K 7 K' x y f)\/(1<=DC r.fds/\Ff K.desc 20<1/\GU K 8 K' x y f)\/∃fl pb nm T ct i0 j,cd6 K i fl nm T ct/\T pb=(0,0)/\i0<20/\(K.desc i0=0/\∀j,j<i0->K.desc j≠0)/\IK r.fds j/\K'=KS.Bi { K with nm:=nm,op:=Ag K.op fl (K.op fl+1),T:=Bg T pb (12,fl),desc:=Ag K.desc i0 1,ef:=Ag K.ef i0 (some fl),tv:=Ag K.tv i0 (.iface 337 (ptr pb)),ct:=Ag ct pb Ct.nil } b { r with fds:=r.fds.set j (i0:Int) }/\x=j/\y=0/\f=.nilFunc))))
theorem RZ.many {num x:Nat} (e:i<16) (d:¬(K.nm i=none/\num=0)) (h:(DC r.fds<1/\x=7)\/(1<=DC r.fds/\Ff K.desc 20<1/\x=8)):RZ K b r i num K 0 x .nilFunc:=by
 obtain⟨a,rfl⟩|⟨a,c,rfl⟩:=h
 .exact .inr ⟨e,.inr ⟨d,.inl ⟨a,GU.of⟩⟩⟩
 .exact .inr ⟨e,.inr ⟨d,.inr (.inl ⟨a,c,GU.of⟩)⟩⟩
section
variable (m:Nat) (w:o_)
theorem nX (K:KS) (NC NS b name number:Nat) (r:PR) (h:AV K w) (hO:Eo NC NS K) (hm:b∈K.Aw) (hb:K.ps b=some r) (hn:r.en=false) (hname:name<65536):
  O_ m 150 #[Q_ K.kb,Q_ b,a_ (name:Nat),a_ (number:Nat)] w (FO (RZ K b r name number) NC NS b K w):=by
 have o:=hO.pr b r hb;have hlen:r.fds.length<=6:=by rw[o.fds hn];omega
 obtain⟨V,rb,Cb⟩:=Iw w;have h0:=h.no V;have GV:K.T w.heap.size=(0,0):=h.lt _ (w_ _);have cn:=λm=>QL m _ K name h0 hname
 have ct:=λm w1 (hK:Ac No (w.alloc V_) w1)=>YF m w1 K b 1 r (h0.no hK) hb hn zD
 simp only[Int.natCast_one]at ct;have g0:ag ((number=0/\((number:Int) !=0)=false)\/(¬number=0/\((number:Int) !=0)=true)):=by
  by_cases h:number=0
  .exact .inl ⟨h,by simp[h]⟩
  .exact .inr ⟨h,by simp;omega⟩
 gi_enter func150,ntmps150;gi_wp2_with (gi_at_call 205;refine(cn _).mono ?_;rintro e w1 ⟨K1,x,rfl,hx⟩;obtain⟨rfl,G,f,qp⟩|⟨⟨rfl,G,qp⟩,⟨R,g1⟩|⟨R,g1⟩⟩|⟨rfl,G⟩:=hx.imp id (Or.imp (λa=>And.intro a g0.out) id))
 .gi_wp2_with (gi_at_call 198;refine(ct _ _ K1).mono ?_;rintro e w2 ⟨⟨rfl,hs1,hs2⟩|⟨xx,rfl,hxx,bt4,hxe⟩,K2⟩<;>generalize hw0:w.alloc V_=w0 at *)
  .have KK:=K1.then K2;have p:1<=DC r.fds:=hs1;have B:1<=Ff K.desc 20:=hs2;have h3:=h0.no KK;have h3d:AV { K with nm:=K.nm,T:=K.T } w2.drew:=AV.no h3 (Ac.refl No w2).drew;have X:=λm=>yO m w2.drew { K with nm:=K.nm,T:=K.T } name f h3d G (qp) (by have D:=hO.Ef.op (f);have C:=TB K.desc K.ef (f);show K.op (f)<=1000;omega)
   refine Dl (P:=prog) _ rfl rfl sJ 11 56 [0,1,2,3,4,5,6,7,8] [9,10] sJ (by rfl)
    (dX (On (K.T) λt=>t≠(0,0)) w2.drew 9 10 (λv W=>∃d,v=.iface 337 (ptr d)/\AV { K with nm:=K.nm,op:=Ag K.op f (K.op f+1),T:=Bg (K.T) d (12,f),ct:=Ag K.ct d Ct.nil } W/\BN (K.T) (Bg (K.T) d (12,f)) w2.drew W/\ag ((K.T) d=(0,0))) (λ_ v W=>∃d g,v=b_ (g:Nat)/\g<20/\K.desc g=0/\AV { K with nm:=K.nm,op:=Ag K.op f (K.op f+1),T:=Bg (K.T) d (12,f),desc:=Ag K.desc g 1,ef:=Ag K.ef g (some f),tv:=Ag K.tv g (.iface 337 (ptr d)),ct:=Ag K.ct d Ct.nil } W/\BN (K.T) (Bg (K.T) d (12,f)) w2.drew W/\ag ((K.T) d=(0,0)/\∀j,j<g->K.desc j≠0))) (Yd zF zF) _ _ rfl rfl ?_;gi_wp2;refine⟨rfl,sJ,Tq,?_,?_,?_⟩
   .intro L' u W E
    repeat' (refine Au ?_ ?_)
    all_goals first|exact eu|gi_wp2
   .intro q hq L' u W E z hu;obtain rfl|rfl:=(by simpa using hq:q=9\/q=10)
    .obtain⟨rfl,_⟩:=E.2.1 z;refine BC rfl λKK Nc=>?_
     show wpListIn NF m prog _ _ _ (Act.put (Act.put _ (some 52) (u 9)) (some 53) (u 10)) _;gi_wp2_with (gi_at_call 206;refine(X _).mono ?_;rintro e w4 ⟨d,rfl,h4,J,tp⟩);exact⟨_,rfl,Yc E wB z J.keep ⟨d,rfl,h4,J,tp⟩⟩
    .have h9:=hu 9 zF wB;obtain⟨d,e9,h4,J,tp⟩:=E.2.2.1 h9 z;refine BC rfl λKK Nc=>?_
     show wpListIn NF m prog _ _ _ (Act.put (Act.put _ (some 52) (u 9)) (some 53) (u 10)) _;have ca:=λm=>fE m W _ (.iface 337 (ptr d)) (some (f)) h4 ⟨d,.inl ⟨rfl,f,AY,rfl⟩⟩ (Vy B)
     simp only[ptr]at ca e9;rw[e9];gi_wp2_with (gi_at_call 201;refine(ca _).mono ?_;rintro e w5 ⟨g,l,⟨n,A⟩,rfl,h5,Q⟩;replace A:ag _:=A);rw[<-e9];exact⟨_,rfl,Yb wB h9 (J.trans Q).keep ⟨d,g,rfl,l,n,h5,J.trans Q,tp.out,A.out⟩⟩
   .intro L' u W E hL;obtain⟨d,g,Z,l,n,h5,Q,M⟩:=E.2.2.2 (hL 10 zF);show wpListIn NF m prog _ _ _ (Act.put (Act.put _ (some 52) (u 9)) (some 53) (u 10)) _;rw[Z];have Y:=λm=>Ul m W _ b (g:Int) r h5 hb hn zD p
    gi_wp2_with (gi_at_call 200;refine(Y _).mono ?_;rintro e w6 ⟨j,N,rfl,h6,M6⟩);have S:=N.1;have hjl:=(KT.1 S).1;have hH0:BM K.ps K.Aw g=0:=(by rw[<-hO.Ef.ho g l];exact n);obtain⟨RS,Ir⟩:=hO.fds (K1:={ K with nm:=K.nm,op:=Ag K.op f (K.op f+1),T:=Bg (K.T) d (12,f),desc:=Ag K.desc g 1,ef:=Ag K.ef g (some f),tv:=Ag K.tv g (.iface 337 (ptr d)),ct:=Ag K.ct d Ct.nil }) (r':={ r with fds:=r.fds.set j (g:Int) }) (H:=Ag (BM K.ps K.Aw) g 1) ⟨rfl⟩ hm hb rfl rfl rfl rfl rfl (eX o (λe=>by simp[o.fds e]) (Vg o.fd (.inr ⟨g,rfl,l⟩)) hn) (hO.Ef.add (o:=some (f)) (nm:=K.nm) l n hO.Ef.nm hO.Ef.dj) (λk _=>by
     have:=PK (m:=(g:Int)) (a:=(k:Int)) S
     rw[ru (c:=(-1:Int)=(k:Int)) zD]at this
     simp only[Ag]
     split
     .rename_i e;subst e;rw[rC rfl]at this;omega
     .rename_i e;rw[ru zD]at this;omega)
    have xw:BN K.T (Bg (K.T) d (12,f)) w0 w6:=((((BN.no KK h0.lt)).then (Ac.refl No w2).drew).trans Q).trans M6;gi_wp2_with (first|(gi_at_call 152;refine(Ed _ _ j zD).mono ?_;rintro e wz ⟨rfl,s⟩;obtain⟨w8,F,I,L⟩:=AA (x:=j) (y:=0) (f:=.nilFunc) (s.old (xw.old rb GV) id) rfl)|refine EX F ?_);refine T_ j 0 (by simp[results,results150,go_sem,FI L]) rfl ?_;exact BB (K':=KS.Bi { K with nm:=K.nm,op:=Ag K.op f (K.op f+1),T:=Bg (K.T) d (12,f),desc:=Ag K.desc g 1,ef:=Ag K.ef g (some f),tv:=Ag K.tv g (.iface 337 (ptr d)),ct:=Ag K.ct d Ct.nil } b { r with fds:=r.fds.set j (g:Int) }) (x:=j) (y:=0) h.lt V Cb ((xw).then s) ((h6).no s) I zD zD (.inl rfl) (RS) (Ir) Aj (λ_=>hm) (.inr ⟨G,.inr ⟨(by rw[qp];simp),.inr (.inr ⟨f,d,_,_,_,g,j,.inl ⟨qp,rfl,rfl,rfl⟩,M.out.1,l,⟨n,M.out.2⟩,N,rfl,rfl,rfl,rfl⟩)⟩⟩)
  .have KK:=K1.then K2;gi_wp2_with (first|(gi_at_call 140;refine(Om _ _ xx).mono ?_;rintro e wz ⟨rfl,s⟩;obtain⟨w8,F,I,L⟩:=AA (x:=0) (y:=xx) (f:=.nilFunc) (s.old (KK.old rb id) id) rfl)|refine EX F ?_);refine T_ 0 xx (by simp[results,results150,go_sem,FI L]) rfl ?_;exact BV h hO hm hb V Cb (KK.then s) I wB zD (RZ.many G (by rw[qp];simp) hxe.out)
 .generalize hw0:w.alloc V_=w0 at*;gi_wp2_with (first|(gi_at_call 140;refine(TI 6 (K1.old rb id) _).mono ?_;rintro e wz ⟨rfl,s,w8,F,I,L⟩)|refine EX F ?_);refine T_ 0 6 (by simp[results,results150,go_sem,FI L]) rfl ?_;exact BV h hO hm hb V Cb (K1.then s) I wB wB (.inr ⟨G,.inl ⟨qp,R,GU.of⟩⟩)
 .gi_wp2_with (gi_at_call 198;refine(ct _ _ K1).mono ?_;rintro e w2 ⟨⟨rfl,hs1,hs2⟩|⟨xx,rfl,hxx,bt4,hxe⟩,K2⟩<;>generalize hw0:w.alloc V_=w0 at *)
  .have KK:=K1.then K2;have p:1<=DC r.fds:=hs1;have B:1<=Ff K.desc 20:=hs2;have C:=h0.no KK;have U:=bp1 C hO.Ef (w_ _);have cmk:=λm=>bq0 m w2 K name C G U
   clear U;gi_wp2_with (gi_at_call 44;refine(cmk _).mono ?_;rintro e w3 ⟨rfl,h3,M3⟩);have O:K.T w2.heap.size=(0,0):=C.lt _ (w_ _);have hnn:∀i,i<16->K.nm i≠some w2.heap.size:=λi hi e=>by
    have:=(C.ϲ hi).2 _ e
    rw[O]at this;simp at this
   have cl2:∀i j f,i<16->j<16->Ag K.nm name (some w2.heap.size) i=some f->Ag K.nm name (some w2.heap.size) j=some f->i=j:=λi j f hi S D C=>by
    simp only[Ag]at D C
    split at D<;>split at C
    .omega
    .rename_i e1 e2;rw[<-D]at C;exact ql C (hnn j S)
    .rename_i e1 e2;rw[<-C]at D;exact ql D (hnn i hi)
    .exact hO.Ef.nm i j f hi S D C
   have cm3:∀i f,i<16->Ag K.nm name (some w2.heap.size) i=some f->f ∉ K.nl:=λi f hi D hf=>by
    simp only[Ag]at D
    split at D
    .obtain rfl:w2.heap.size=f:=(by simpa using D);obtain⟨ks,_,hc⟩:=C.k;obtain⟨_,_,_,hbN⟩:=hc.nl;have:=hbN _ hf;rw[O]at this;simp at this
    .exact hO.Ef.dj i f hi D hf
   have h3d:AV { K with nm:=Ag K.nm name (some w2.heap.size),T:=Bg K.T w2.heap.size (10,0),ct:=Ag K.ct w2.heap.size Ct.nil } w3.drew:=AV.no h3 (Ac.refl No w3).drew;have X:=λm=>yO m w3.drew { K with nm:=Ag K.nm name (some w2.heap.size),T:=Bg K.T w2.heap.size (10,0),ct:=Ag K.ct w2.heap.size Ct.nil } name w2.heap.size h3d G (by simp[Ag]) (by have D:=hO.Ef.op (w2.heap.size);have C:=TB K.desc K.ef (w2.heap.size);show K.op (w2.heap.size)<=1000;omega)
   refine Dl (P:=prog) _ rfl rfl sJ 11 56 [0,1,2,3,4,5,6,7,8] [9,10] sJ (by rfl)
    (dX (On (Bg K.T w2.heap.size (10,0)) λt=>t≠(0,0)) w3.drew 9 10 (λv W=>∃d,v=.iface 337 (ptr d)/\AV { K with nm:=Ag K.nm name (some w2.heap.size),op:=Ag K.op w2.heap.size (K.op w2.heap.size+1),T:=Bg (Bg K.T w2.heap.size (10,0)) d (12,w2.heap.size),ct:=Ag (Ag K.ct w2.heap.size Ct.nil) d Ct.nil } W/\BN (Bg K.T w2.heap.size (10,0)) (Bg (Bg K.T w2.heap.size (10,0)) d (12,w2.heap.size)) w3.drew W/\ag ((Bg K.T w2.heap.size (10,0)) d=(0,0))) (λ_ v W=>∃d g,v=b_ (g:Nat)/\g<20/\K.desc g=0/\AV { K with nm:=Ag K.nm name (some w2.heap.size),op:=Ag K.op w2.heap.size (K.op w2.heap.size+1),T:=Bg (Bg K.T w2.heap.size (10,0)) d (12,w2.heap.size),desc:=Ag K.desc g 1,ef:=Ag K.ef g (some w2.heap.size),tv:=Ag K.tv g (.iface 337 (ptr d)),ct:=Ag (Ag K.ct w2.heap.size Ct.nil) d Ct.nil } W/\BN (Bg K.T w2.heap.size (10,0)) (Bg (Bg K.T w2.heap.size (10,0)) d (12,w2.heap.size)) w3.drew W/\ag ((Bg K.T w2.heap.size (10,0)) d=(0,0)/\∀j,j<g->K.desc j≠0))) (Yd zF zF) _ _ rfl rfl ?_;gi_wp2;refine⟨rfl,sJ,Tq,?_,?_,?_⟩
   .intro L' u W E
    repeat' (refine Au ?_ ?_)
    all_goals first|exact eu|gi_wp2
   .intro q hq L' u W E z hu;obtain rfl|rfl:=(by simpa using hq:q=9\/q=10)
    .obtain⟨rfl,_⟩:=E.2.1 z;refine BC rfl λKK Nc=>?_
     show wpListIn NF m prog _ _ _ (Act.put (Act.put _ (some 52) (u 9)) (some 53) (u 10)) _;gi_wp2_with (gi_at_call 206;refine(X _).mono ?_;rintro e w4 ⟨d,rfl,h4,J,tp⟩);exact⟨_,rfl,Yc E wB z J.keep ⟨d,rfl,h4,J,tp⟩⟩
    .have h9:=hu 9 zF wB;obtain⟨d,e9,h4,J,tp⟩:=E.2.2.1 h9 z;refine BC rfl λKK Nc=>?_
     show wpListIn NF m prog _ _ _ (Act.put (Act.put _ (some 52) (u 9)) (some 53) (u 10)) _;have ca:=λm=>fE m W _ (.iface 337 (ptr d)) (some (w2.heap.size)) h4 ⟨d,.inl ⟨rfl,w2.heap.size,AY,rfl⟩⟩ (Vy B)
     simp only[ptr]at ca e9;rw[e9];gi_wp2_with (gi_at_call 201;refine(ca _).mono ?_;rintro e w5 ⟨g,l,⟨n,A⟩,rfl,h5,Q⟩;replace A:ag _:=A);rw[<-e9];exact⟨_,rfl,Yb wB h9 (J.trans Q).keep ⟨d,g,rfl,l,n,h5,J.trans Q,tp.out,A.out⟩⟩
   .intro L' u W E hL;obtain⟨d,g,Z,l,n,h5,Q,M⟩:=E.2.2.2 (hL 10 zF);show wpListIn NF m prog _ _ _ (Act.put (Act.put _ (some 52) (u 9)) (some 53) (u 10)) _;rw[Z];have Y:=λm=>Ul m W _ b (g:Int) r h5 hb hn zD p
    gi_wp2_with (gi_at_call 200;refine(Y _).mono ?_;rintro e w6 ⟨j,N,rfl,h6,M6⟩);have S:=N.1;have hjl:=(KT.1 S).1;have hH0:BM K.ps K.Aw g=0:=(by rw[<-hO.Ef.ho g l];exact n);obtain⟨RS,Ir⟩:=hO.fds (K1:={ K with nm:=Ag K.nm name (some w2.heap.size),op:=Ag K.op w2.heap.size (K.op w2.heap.size+1),T:=Bg (Bg K.T w2.heap.size (10,0)) d (12,w2.heap.size),desc:=Ag K.desc g 1,ef:=Ag K.ef g (some w2.heap.size),tv:=Ag K.tv g (.iface 337 (ptr d)),ct:=Ag (Ag K.ct w2.heap.size Ct.nil) d Ct.nil }) (r':={ r with fds:=r.fds.set j (g:Int) }) (H:=Ag (BM K.ps K.Aw) g 1) ⟨rfl⟩ hm hb rfl rfl rfl rfl rfl (eX o (λe=>by simp[o.fds e]) (Vg o.fd (.inr ⟨g,rfl,l⟩)) hn) (hO.Ef.add (o:=some (w2.heap.size)) (nm:=Ag K.nm name (some w2.heap.size)) l n cl2 cm3) (λk _=>by
     have:=PK (m:=(g:Int)) (a:=(k:Int)) S
     rw[ru (c:=(-1:Int)=(k:Int)) zD]at this
     simp only[Ag]
     split
     .rename_i e;subst e;rw[rC rfl]at this;omega
     .rename_i e;rw[ru zD]at this;omega)
    have xw:BN K.T (Bg (Bg K.T w2.heap.size (10,0)) d (12,w2.heap.size)) w0 w6:=((((BN.no KK h0.lt).trans M3).then (Ac.refl No w3).drew).trans Q).trans M6;gi_wp2_with (first|(gi_at_call 152;refine(Ed _ _ j zD).mono ?_;rintro e wz ⟨rfl,s⟩;obtain⟨w8,F,I,L⟩:=AA (x:=j) (y:=0) (f:=.nilFunc) (s.old (xw.old rb GV) id) rfl)|refine EX F ?_);refine T_ j 0 (by simp[results,results150,go_sem,FI L]) rfl ?_;exact BB (K':=KS.Bi { K with nm:=Ag K.nm name (some w2.heap.size),op:=Ag K.op w2.heap.size (K.op w2.heap.size+1),T:=Bg (Bg K.T w2.heap.size (10,0)) d (12,w2.heap.size),desc:=Ag K.desc g 1,ef:=Ag K.ef g (some w2.heap.size),tv:=Ag K.tv g (.iface 337 (ptr d)),ct:=Ag (Ag K.ct w2.heap.size Ct.nil) d Ct.nil } b { r with fds:=r.fds.set j (g:Int) }) (x:=j) (y:=0) h.lt V Cb ((xw).then s) ((h6).no s) I zD zD (.inl rfl) (RS) (Ir) Aj (λ_=>hm) (.inr ⟨G,.inr ⟨(λhh=>R hh.2),.inr (.inr ⟨w2.heap.size,d,_,_,_,g,j,.inr ⟨qp,O,rfl,rfl,rfl⟩,M.out.1,l,⟨n,M.out.2⟩,N,rfl,rfl,rfl,rfl⟩)⟩⟩)
  .have KK:=K1.then K2;gi_wp2_with (first|(gi_at_call 140;refine(Om _ _ xx).mono ?_;rintro e wz ⟨rfl,s⟩;obtain⟨w8,F,I,L⟩:=AA (x:=0) (y:=xx) (f:=.nilFunc) (s.old (KK.old rb id) id) rfl)|refine EX F ?_);refine T_ 0 xx (by simp[results,results150,go_sem,FI L]) rfl ?_;exact BV h hO hm hb V Cb (KK.then s) I wB zD (RZ.many G (λhh=>R hh.2) hxe.out)
 .generalize hw0:w.alloc V_=w0 at*;gi_wp2_with (first|(gi_at_call 140;refine(TI 13 (K1.old rb id) _).mono ?_;rintro e wz ⟨rfl,s,w8,F,I,L⟩)|refine EX F ?_);refine T_ 0 13 (by simp[results,results150,go_sem,FI L]) rfl ?_;exact BV h hO hm hb V Cb (K1.then s) I wB wB (.inl ⟨G,GU.of⟩)
end
end Go.Fxa
