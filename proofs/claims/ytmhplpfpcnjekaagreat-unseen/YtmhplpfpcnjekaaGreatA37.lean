/- A new kernel: how it stands. -/
import Derived.Test.YtmhplpfpcnjekaaGreatA36
namespace Go.Fxa
open Conc Proofs RowKit Proofs.Tryz
set_option maxRecDepth 1000000
set_option maxHeartbeats 0
variable {w w':o_} {b n kb base k:Nat} {L Af:Nat->Nat} {G:Nat->List Nat} {ks zG:X_} {T:Tag} {nm:Nat->d_ Nat} {ct:Nat->Ct} {Od:Old}
theorem FB.rw {T:j_} {k:IntKind} {f:Nat->Int} (h:FB T k w b n f) (l:n<=1000):Rw T 1 w b n n ((List.range n).map λi=>.int k (f i)):=by
 obtain⟨c,d,j,e⟩:=h;refine⟨⟨c,d,zD,?_⟩,w_ _,by unfold maxLen;omega,zF,λx g=>?_⟩
 .refine List.ext_getElem? λi=>?_
  rw[Nat.mul_one];by_cases a:i<n
  .rw[List.getElem?_take_of_lt a,Array.getElem?_toList,e i a];simp[a]
  .rw[List.getElem?_eq_none (by simp;omega),List.getElem?_eq_none (by simp;omega)]
 .obtain⟨i,_,rfl⟩:=List.mem_map.1 g
  rfl
def dN (n N8:Nat) (Af:Nat->Nat):List Nat:=(List.range N8).map (PD n Af)
structure Ia (kb base k:Nat) (L:Nat->Nat) (G:Nat->List Nat) (zG ks:X_) (T:Tag) (nm:Nat->d_ Nat) (ct:Nat->Ct) (w:o_):Prop where
 kh:w.heap[kb]?=some (N_ ks 114)
 off:∀j,j<4\/20<=j->ks[j]?=zG[j]?
 nmv:∀i,i<16->ks[4+i]?=some (U8 (nm i))
 nmT:∀i b,nm i=some b->T b=(10,0)
 inj:∀i j f,nm i=some f->nm j=some f->i=j
 out:∀i,k<=i->nm i=none
 tg:∀b,T b≠(0,0)->base<=b/\b<w.heap.size/\(T b=(10,0)\/∃f,T b=(15,f))
 fl:∀b,T b=(10,0)->∃v,w.heap[b]?=some (N_ #[v,b_ 0] 191)/\RU T w b 64 v (ct b).ws
 ln:∀i f,nm i=some f->JJ w f (L i)
 wd:∀i,i<k->∃f,nm i=some f/\ct f=⟨G i,false,false,0⟩
theorem Ia.start (h:w.heap[kb]?=some (N_ ks 114)) (a:∀i,i<16->ks[4+i]?=some (.pointer none)):Ia kb base 0 L G ks ks (λ_=>(0,0)) (λ_=>none) (λ_=>⟨[],false,false,0⟩) w:=
 ⟨h,λ_ _=>rfl,a,(λ_ _ h=>by cases h),(λ_ _ _ h=>by cases h),λ_ _=>rfl,λ_ h=>ql rfl h,(λ_ h=>by simp at h),(λ_ _ h=>by cases h),λ_ h=>ql h zD⟩
theorem Ia.kp (h:Ia kb base k L G zG ks T nm ct w) (j:Ac No w w'):Ia kb base k L G zG ks T nm ct w':=
 ⟨j.old h.kh id,h.off,h.nmv,h.nmT,h.inj,h.out,λb g=>let ⟨a,c,d⟩:=h.tg b g;⟨a,Nat.lt_of_lt_of_le c j.size,d⟩,λb g=>let ⟨v,a,c⟩:=h.fl b g;⟨v,j.old a id,c.keep (Q:=λ_=>False) j.no (λh=>h)⟩,λi f e=>(h.ln i f e).keep j id,h.wd⟩
theorem Ia.make {g:Nat} (h:Ia kb base k L G zG ks T nm ct w) (J:L k=n) (I:G k=(List.range n).map Af) (Q:k<16) (V:kb<base) (S:base<=w.heap.size) (P:base<=g) (M:T g=(0,0)) (O:FB 123 .u16 w g n (fun i=>Af i)) (R:n<=64) (U:∀i,i<n->Af i<65536)
  (H:Ac (At kb) w w') (N:w'.heap[kb]?=some (.cells (ks.setIfInBounds (4+k) (ptr w.heap.size)) 114 (0,0))) (K:w'.heap[w.heap.size]?=some (N_ #[P_ g n n,b_ 0] 191)):
  Ia kb base (k+1) L G zG (ks.setIfInBounds (4+k) (ptr w.heap.size)) (Bg (Bg T g (15,w.heap.size)) w.heap.size (10,0)) (Ag nm k (some w.heap.size)) (Ag ct w.heap.size ⟨(List.range n).map Af,false,false,0⟩) w':=by
 have z:g<w.heap.size:=by obtain⟨_,l,_⟩:=O;exact Dt l
 have s:4+k<ks.size:=(y_.1 (h.nmv k Q)).1;have r:T w.heap.size=(0,0):=by
  cases Decidable.em (T w.heap.size=(0,0))with
  |inl e=>exact e
  |inr e=>have:=(h.tg _ e).2.1;omega
 have tag:∀{b t},T b=t->t≠(0,0)->Bg (Bg T g (15,w.heap.size)) w.heap.size (10,0) b=t:=fun {b t} l m=>by
  rw[AP (by rintro rfl;exact m (l.symm.trans r)),AP (by rintro rfl;exact m (l.symm.trans M))];exact l
 have p:Bg (Bg T g (15,w.heap.size)) w.heap.size (10,0) g=(15,w.heap.size):=by rw[AP zD,AY]
 have u:∀{b t},T b=t->t≠(0,0)->¬At kb b:=fun {b t} l m e=>by
  have:=(h.tg b (by rw[l];exact m)).1
  have e:b=kb:=e
  omega
 refine⟨N,λj E=>?_,λi q=>?_,λi b e=>?_,λi j f l m=>?_,λi q=>?_,λb e=>?_,λb e=>?_,λi b e=>?_,λi q=>?_⟩
 rotate_right
 .by_cases o:i=k
  .subst o;exact⟨w.heap.size,by simp[Ag],by simp[Ag,I]⟩
  .obtain⟨f,l,m⟩:=h.wd i zD;refine⟨f,by simpa [Ag,o]using l,?_⟩;rw[show Ag ct w.heap.size ⟨(List.range n).map Af,false,false,0⟩ f=ct f from ru (λe=>by have:=h.nmT i f l;rw[e,r]at this;simp at this)];exact m
 .rw[Hr zD];exact h.off j E
 .by_cases e:i=k
  .subst e;rw[pU s];simp[Ag,U8]
  .rw[Hr zD];simpa [Ag,e]using h.nmv i q
 .by_cases o:i=k
  .subst o;obtain rfl:w.heap.size=b:=(by simpa [Ag]using e);exact AY
  .exact tag (h.nmT i b (by simpa [Ag,o]using e)) zF
 .by_cases e1:i=k<;>by_cases e2:j=k
  .omega
  .exfalso;obtain rfl:w.heap.size=f:=(by simpa [Ag,e1]using l);have:=h.nmT j _ (by simpa [Ag,e2]using m);rw[r]at this;simp at this
  .exfalso;obtain rfl:w.heap.size=f:=(by simpa [Ag,e2]using m);have:=h.nmT i _ (by simpa [Ag,e1]using l);rw[r]at this;simp at this
  .exact h.inj i j f (by simpa [Ag,e1]using l) (by simpa [Ag,e2]using m)
 .simpa [Ag,show i≠k by omega]using h.out i zD
 .by_cases e1:b=w.heap.size
  .subst e1;exact⟨S,Dt K,.inl AY⟩
  .by_cases e2:b=g
   .subst e2;exact⟨P,Nat.lt_of_lt_of_le z H.size,.inr ⟨_,p⟩⟩
   .rw[AP e1,AP e2]at e ⊢;obtain⟨a,c,d⟩:=h.tg b e;exact⟨a,Nat.lt_of_lt_of_le c H.size,d⟩
 .by_cases e1:b=w.heap.size
  .subst e1;rw[show Ag ct w.heap.size ⟨(List.range n).map Af,false,false,0⟩ w.heap.size=⟨(List.range n).map Af,false,false,0⟩from rC rfl];refine⟨_,K,.inr ⟨g,n,?_,?_,by simpa using R,λx F=>?_,p⟩⟩
   .simp
   .have:=(O.rw zD).keep H (λe=>by have e:g=kb:=e;omega);simpa [Az,Function.comp_def]using this
   .obtain⟨i,q,rfl⟩:=List.mem_map.1 F;exact U i (by simpa using q)
  .have e2:T b=(10,0):=by
    by_cases e2:b=g
    .subst e2;rw[p]at e;simp at e
    .rwa [AP e1,AP e2]at e
   obtain⟨v,a,c⟩:=h.fl b e2;rw[show Ag ct w.heap.size ⟨(List.range n).map Af,false,false,0⟩ b=ct b from ru e1];refine⟨v,H.old a (u e2 zF),?_⟩;obtain c|⟨D,C,a1,a2,A,B,y⟩:=c
   .exact .inl c
   .exact .inr ⟨D,C,a1,a2.keep H (u y zF),A,B,tag y zF⟩
 .by_cases o:i=k
  .subst o;obtain rfl:w.heap.size=b:=(by simpa [Ag]using e);rw[J];exact⟨_,_,_,K⟩
  .have e1:nm i=some b:=(by simpa [Ag,o]using e);exact(h.ln i b e1).keep H (u (h.nmT i b e1) zF)
theorem V9 {f:Nat->Nat}:∀n:Nat,BK f (List.range n)=IP f n
 |0=>rfl
 |n+1=>by rw[Tv,V9 n];simp only[IP];omega
theorem kK {f:Nat->Nat} {k:Nat} (h:∀i,k<=i->f i=0):∀d:Nat,IP f (k+d)=IP f k
 |0=>rfl
 |d+1=>by show f (k+d)+IP f (k+d)=_;rw[h _ zD,kK h d];omega
theorem yj {f g:Nat->Nat}:∀{n:Nat},(∀i,i<n->f i<=g i)->IP f n<=IP g n
 |0,_=>w_ _
 |n+1,h=>by
  have a:=yj (n:=n) (f:=f) (g:=g) λi c=>h i zD
  have b:=h n zD
  simp only[IP];omega
theorem Ia.disk (h:Ia kb base k L G zG ks T nm ct w) (o:k<=16) (m:ZE L k<=40):Xd T nm [] w:=by
 have l:∀b,∃n,T b=(10,0)->JJ w b n:=λb=>by
  by_cases e:T b=(10,0)
  .obtain⟨v,a1,a2⟩:=h.fl b e;obtain⟨rfl,_⟩|⟨g,c,rfl,_⟩:=a2
   .exact⟨0,λ_=>⟨_,_,_,a1⟩⟩
   .exact⟨_,λ_=>⟨_,_,_,a1⟩⟩
  .exact⟨0,λh=>ql h e⟩
 obtain⟨d,j⟩:=Classical.axiomOfChoice l;refine⟨d,j,?_⟩;show BK (Pq d nm) (List.range 16)+0<=40;rw[V9];have e1:=kK (f:=Pq d nm) (k:=k) (λi a=>O7 (h.out i a)) (16-k);rw[show k+(16-k)=16 by omega]at e1;have e2:=yj (n:=k) (f:=Pq d nm) (g:=λi=>Ai (L i)) λi _=>by
  unfold Pq
  cases a:nm i with
  |none=>exact Nat.zero_le _
  |some f=>simp only;rw[(j f (h.nmT i f a)).eq (h.ln i f a)];exact w_ _
 unfold ZE at m;omega
def Nj (kb cb sb g pb ib fb:Nat) (T:Tag):Tag:=Bg (Bg (Bg (Bg (Bg (Bg (Bg T kb (1,0)) cb (2,0)) sb (3,0)) g (4,0)) pb (6,pb)) ib (7,pb)) fb (8,pb)
def N7 (kb cb sb g c pb ib fb C:Nat) (l:List (W_)) (nm:Nat->d_ Nat) (T:Tag) (ct:Nat->Ct) (Af:List Nat):KS:=
 { kb:=kb,cg:=cb,cc:=1,sg:=sb,sc:=1,pg:=g,pc:=c,BD:=1,core:=[(0,C)],swap:=l,Aw:=[pb],nl:=[],desc:=λ_=>0,op:=λ_=>0,nm:=nm,ef:=λ_=>none,ps:=C9 (λ_=>none) pb (EE ib fb Af),T:=Nj kb cb sb g pb ib fb T,ct:=ct,tv:=λ_=>.nilIface }
section
variable {kb base k cb sb g c pb ib fb C M:Nat} {L:Nat->Nat} {G:Nat->List Nat} {zG ks ks':X_} {T:Tag} {nm:Nat->d_ Nat} {ct:Nat->Ct} {w w0:o_} {l:List (W_)} {Af:List Nat}
theorem AV.fresh (hF:Ia kb base k L G zG ks T nm ct w0) (hkL:k<=16) (hfs:ZE L k<=40) (hK:Ac (fun b=>b=kb\/b=sb\/b=pb) w0 w) (hk:w.heap[kb]?=some (N_ ks' 114)) (k0:ks'[0]?=some (P_ cb 1 1)) (k1:ks'[1]?=some (P_ sb l.length 1)) (k2:ks'[2]?=some (P_ g 1 c)) (k3:ks'[3]?=some (b_ 1)) (kn:∀i,i<16->ks'[4+i]?=ks[4+i]?) (k20:ks'[20]?=some (.slice none 0 0)) (ke:∀i,i<20->ks'[21+i*2]?=some .nilIface/\ks'[21+i*2+1]?=some (b_ 0))
  (mc:Mp 186 w cb 1 [(0,C)]) (ms:Mp 188 w sb 1 l) (pr:Rw 119 1 w g 1 c (Bj [pb])) (hp:w.heap[pb]?=some (EE ib fb Af).obj) (hi:Rw 123 1 w ib Af.length Af.length (Az Af)) (hf:Rw 3 1 w fb 6 6 (FM [-1,-1,-1,-1,-1,-1])) (tkb:kb<base) (tsb:sb<base) (tcb:cb<base) (tz:T g=(0,0)/\T pb=(0,0)/\T ib=(0,0)/\T fb=(0,0)):AV (N7 kb cb sb g c pb ib fb C l nm T ct Af) w:=by
 have low:∀{x},x<base->T x=(0,0):=fun {x} X=>by
  cases Decidable.em (T x=(0,0))with
  |inl e=>exact e
  |inr e=>have:=(hF.tg _ e).1;omega
 obtain⟨tg,tp,ti,tf⟩:=tz;obtain⟨_,q,_⟩:=mc.blk;obtain⟨_,s,_⟩:=ms.blk;obtain⟨_,u,_⟩:=pr.blk;obtain⟨_,z,_⟩:=hi.blk;obtain⟨_,A,_⟩:=hf.blk;have n1:kb≠cb:=BZ hk q wB;have n2:kb≠sb:=BZ hk s wB;have n3:kb≠g:=BZ hk u wB;have n4:kb≠pb:=BZ hk hp wB;have n5:kb≠ib:=BZ hk z wB;have n6:kb≠fb:=BZ hk A wB;have n7:cb≠sb:=BZ q s wB;have n8:cb≠g:=BZ q u wB;have n9:cb≠pb:=BZ q hp wB;have B:cb≠ib:=BZ q z wB;have D:cb≠fb:=BZ q A wB;have E:sb≠g:=BZ s u wB;have F:sb≠pb:=BZ s hp wB;have H:sb≠ib:=BZ s z wB;have I:sb≠fb:=BZ s A wB;have J:g≠pb:=BZ u hp wB;have K:g≠ib:=BZ u z wB;have M:g≠fb:=BZ u A wB;have N:pb≠ib:=BZ hp z wB;have O:pb≠fb:=BZ hp A wB;have P:ib≠fb:=BZ z A wB;have Y:Nj kb cb sb g pb ib fb T kb=(1,0):=by simp[Nj,Bg,n1,n2,n3,n4,n5,n6]
 have Z:Nj kb cb sb g pb ib fb T cb=(2,0):=by simp[Nj,Bg,n7,n8,n9,B,D]
 have t3:Nj kb cb sb g pb ib fb T sb=(3,0):=by simp[Nj,Bg,E,F,H,I]
 have t4:Nj kb cb sb g pb ib fb T g=(4,0):=by simp[Nj,Bg,J,K,M]
 have t6:Nj kb cb sb g pb ib fb T pb=(6,pb):=by simp[Nj,Bg,N,O]
 have t7:Nj kb cb sb g pb ib fb T ib=(7,pb):=by simp[Nj,Bg,P]
 have t8:Nj kb cb sb g pb ib fb T fb=(8,pb):=by simp[Nj,Bg]
 have tag:∀{b t},T b=t->t≠(0,0)->Nj kb cb sb g pb ib fb T b=t:=fun {b t} j o=>by
  have ne:∀{x},T x=(0,0)->b≠x:=λX e=>by subst e;exact o (j.symm.trans X)
  unfold Nj
  rw[AP (ne tf),AP (ne ti),AP (ne tp),AP (ne tg),AP (ne (low tsb)),AP (ne (low tcb)),AP (ne (low tkb))]
  exact j
 have m:∀{b t},Nj kb cb sb g pb ib fb T b=t->9<=t.1->T b=t:=fun {b t} j o=>by
  by_cases e1:b=fb
  .subst e1;rw[t8]at j;subst j;simp at o
  by_cases e2:b=ib
  .subst e2;rw[t7]at j;subst j;simp at o
  by_cases e3:b=pb
  .subst e3;rw[t6]at j;subst j;simp at o
  by_cases e4:b=g
  .subst e4;rw[t4]at j;subst j;simp at o
  by_cases U:b=sb
  .subst U;rw[t3]at j;subst j;simp at o
  by_cases V:b=cb
  .subst V;rw[Z]at j;subst j;simp at o
  by_cases W:b=kb
  .subst W;rw[Y]at j;subst j;simp at o
  unfold Nj at j
  rwa [AP e1,AP e2,AP e3,AP e4,AP U,AP V,AP W]at j
 have p:∀{b t},T b=t->t≠(0,0)->¬t=(10,0)->(∀f,¬t=(15,f))->False:=fun {b t} j o h3 h4=>by
  obtain e|⟨f,e⟩:=(hF.tg b (by rw[j];exact o)).2.2
  .exact h3 (j.symm.trans e)
  .exact h4 f (j.symm.trans e)
 have Q:∀{b t},T b=t->t≠(0,0)->¬(b=kb\/b=sb\/b=pb):=fun {b t} j o e=>by
  obtain rfl|rfl|rfl:=e
  .exact o (j.symm.trans (low tkb))
  .exact o (j.symm.trans (low tsb))
  .exact o (j.symm.trans tp)
 refine⟨⟨ks',hk,⟨k0,k1,k2,k3,λi hi=>⟨(kn i hi).trans (hF.nmv i hi),λb e=>tag (hF.nmT i b e) zF⟩,⟨_,k20,.inl ⟨rfl,rfl⟩,λ_ h=>by cases h⟩,λi hi=>⟨(ke i hi).1,(ke i hi).2,rfl,λh=>ql h (by simp[N7])⟩⟩⟩,mc,ms,pr,λb r e=>?_,⟨λb e=>?_,λb e=>?_,λb f e=>?_,λb e=>?_,λb e=>?_⟩,Y,Z,t3,t4,λb hb=>?_,(hF.disk hkL hfs).to λb n e=>⟨m e zF,λhl=>hl.keep hK (Q (m e zF) zF)⟩⟩
 .have e:C9 (λ_=>none) pb (EE ib fb Af) b=some r:=e;by_cases S:b=pb
  .subst S;rw[Aj]at e;cases e;exact⟨t6,hp,λ_=>⟨ib,Af.length,rfl,hi,t7⟩,λ_=>⟨fb,6,rfl,hf,t8⟩,.inl rfl,λh=>by cases h⟩
  .rw[BH S]at e;cases e
 .have e:=m e zF;obtain⟨v,a,d⟩:=hF.fl b e;refine⟨v,hK.old a (Q e zF),?_⟩;obtain d|⟨x,y,a1,a2,a3,a4,R⟩:=d
  .exact .inl d
  .exact .inr ⟨x,y,a1,a2.keep hK (Q R zF),a3,a4,tag R zF⟩
 .exact(p (m e zF) zF zF zF).elim
 .exact(p (m e zF) zF zF zF).elim
 .exact(p (m e zF) zF zF zF).elim
 .exact(p (m e zF) zF zF zF).elim
 .have l0:=Dt hk;have l1:=Dt q;have l2:=Dt s;have l3:=Dt u;have l4:=Dt z;have l5:=Dt A;have l6:=Dt hp;show Nj kb cb sb g pb ib fb T b=(0,0);unfold Nj;rw[AP zD,AP zD,AP zD,AP zD,AP zD,AP zD,AP zD];cases Decidable.em (T b=(0,0))with
  |inl e=>exact e
  |inr e=>have:=(hF.tg _ e).2.1;have:=hK.size;omega
theorem Eo.fresh (E:16<=C/\C<=64) (F:M<=256) (z:∃q,Af.length=8*q/\1<=q/\q<=16) (D:∀x∈Af,x<65536) (A:Ai Af.length<=M) (B:l=(Aq [(0,M)] (Ai Af.length)).2) (inj:∀i j f,nm i=some f->nm j=some f->i=j):Eo C M (N7 kb cb sb g c pb ib fb C l nm T ct Af):=by
 obtain⟨q,q1,v,w⟩:=z;have p:1<=Ai Af.length:=by rw[q1];unfold Ai;omega
 have y:Ai Af.length=q:=by rw[q1];unfold Ai;omega
 have get:∀{b r},(N7 kb cb sb g c pb ib fb C l nm T ct Af).ps b=some r->b=pb/\r=EE ib fb Af:=fun {b r} e=>by
  have e:C9 (λ_=>none) pb (EE ib fb Af) b=some r:=e
  by_cases o:b=pb
  .subst o;rw[Aj]at e;cases e;exact⟨rfl,rfl⟩
  .rw[BH o]at e;cases e
 have a:(N7 kb cb sb g c pb ib fb C l nm T ct Af).ps pb=some (EE ib fb Af):=by simp[N7,C9]
 have k:l=if M=Ai Af.length then[]else[(Ai Af.length,M-Ai Af.length)]:=by rw[B,take_one p A]
 refine⟨λb t=>?_,by simp[N7],by simp[N7],⟨zD,?_,by simp[N7,Zu],Nat.zero_le _,λi z=>?_,λb r e=>?_⟩,⟨zD,?_,by rw[show(N7 kb cb sb g c pb ib fb C l nm T ct Af).swap=l from rfl,k];split<;>simp[Zu],Nat.zero_le _,λi z=>?_,λb r e=>?_⟩,λb r e=>?_,λb r e=>?_,by simp[N7],by simp[N7],?_⟩
 .obtain rfl:b=pb:=by simpa [N7]using t
  exact⟨_,a⟩
 .intro r d;obtain rfl:r=(0,C):=by simpa [N7]using d
  simp;omega
 .show D5 i [(0,C)]+BK (FX i _) [pb]+_=1;simp only[D5,BK];rw[Ej a,rW (Nat.zero_le _) zD,SY];simp[EE]
 .obtain⟨rfl,rfl⟩:=get e;exact⟨by show Af.length<=128;omega,.inl rfl⟩
 .intro r d;have d:r∈l:=d;rw[k]at d;split at d
  .cases d
  .obtain rfl:r=(Ai Af.length,M-Ai Af.length):=(by simpa using d);simp;omega
 .show D5 i l+BK (Nr i _) [pb]+_=1;simp only[BK];rw[Jc a,SY];show D5 i l+(OU i 0 (Ai Af.length)+0)+0=1;rw[k];split
  .simp only[D5];unfold OU;split<;>omega
  .simp only[D5];unfold OU;repeat' split
   all_goals omega
 .obtain⟨rfl,rfl⟩:=get e;show 0+Ai Af.length<=M;omega
 .obtain⟨rfl,rfl⟩:=get e;refine⟨by simp[EE],by simp[EE],by simp[EE],by simp[EE],by simp[EE],by simp[EE],D,λ_=>rfl,λn A=>.inl (by simpa [EE]using A),λ_=>⟨q,q1,v,w⟩,λh=>by cases h⟩
 .obtain⟨rfl,rfl⟩:=get e;simp[EE,N7]
 .have m:∀i,BM (N7 kb cb sb g c pb ib fb C l nm T ct Af).ps [pb] i=0:=λi=>by
   unfold BM
   simp only[BK]
   rw[G8 a]
   have:(EE ib fb Af).fds.count (i:Int)=0:=by
    rw[List.count_eq_zero]
    intro h
    simp[EE]at h
   omega
  refine⟨λi _=>(m i).symm,λi _=>by rw[show(N7 kb cb sb g c pb ib fb C l nm T ct Af).Aw=[pb]from rfl,m];omega,λf=>?_,by simp[N7],(λf u=>by simp[N7]at u),λi j f _ _=>inj i j f,λi f _ _ h=>by simp[N7]at h⟩;have:DI (λ_=>0) (λ_=>none) f=0:=by
   cases m:DI (λ_=>0) (λ_=>none) f with
   |zero=>rfl
   |succ n=>
    obtain⟨i,_,s⟩:=Qz (f:=λi=>if 0<(λ_:Nat=>0) i/\(λ_:Nat=>(none:d_ Nat)) i=some f then 1 else 0) (l:=List.range 20) (by unfold DI at m;omega)
    simp at s
  exact this.symm
end
def valOf:Result n_->n_
 |.ok x _=>x
 |_=>undef
def OY (cb sb:Nat):X_:=#[P_ cb 1 1,P_ sb 1 1,.slice none 0 0,b_ 0,.pointer none,.pointer none,.pointer none,.pointer none,.pointer none,.pointer none,.pointer none,.pointer none,.pointer none,.pointer none,.pointer none,.pointer none,.pointer none,.pointer none,.pointer none,.pointer none,.slice none 0 0,.nilIface,b_ 0,.nilIface,b_ 0,.nilIface,b_ 0,.nilIface,b_ 0,.nilIface,b_ 0,.nilIface,b_ 0,.nilIface,b_ 0,.nilIface,b_ 0,.nilIface,b_ 0,.nilIface,b_ 0,.nilIface,b_ 0,.nilIface,b_ 0,.nilIface,b_ 0,.nilIface,b_ 0,.nilIface,b_ 0,.nilIface,b_ 0,.nilIface,b_ 0,.nilIface,b_ 0,.nilIface,b_ 0,.nilIface,b_ 0]
section
variable (m:Nat) (w:o_)
theorem wU {ib fb L:Nat}:∃x,(Instr.build 128 #[(5,.agg #[a_ 0,a_ 0,a_ 0,P_ ib L L]),(6,P_ fb 6 6)]).run prog w=.ok x w/\x.cells=jQ ib L fb:=
 ⟨valOf ((Instr.build 128 #[(5,.agg #[a_ 0,a_ 0,a_ 0,P_ ib L L]),(6,P_ fb 6 6)]).run prog w),sJ,sJ⟩
end
def cq6 (base C:Nat) (_i:Nat) (v:n_) (W:o_):Prop:=∃cb,base<=cb/\v=.agg #[P_ cb 1 1]/\W.heap[cb]?=some (N_ #[b_ 0,b_ C] 186)
def ab8 (base n N8:Nat) (Af:Nat->Nat):Nat->n_->o_->Prop
 |3,v,W=>∃ab,v=.slice (some (R_ ab)) n n/\FB 123 .u16 W ab n (λj=>Af j)
 |7,v,_=>v=.int .i64 (Ai n)
 |8,v,W=>∃ib,base<=ib/\v=.slice (some (R_ ib)) N8 N8/\FB 123 .u16 W ib N8 (λj=>PD n Af j)
 |9,v,W=>∃ib,base<=ib/\v=.agg #[.int .u16 0,.int .u16 0,.int .u16 0,.slice (some (R_ ib)) N8 N8]/\FB 123 .u16 W ib N8 (λj=>PD n Af j)
 |10,v,W=>∃vb,v=.slice (some (R_ vb)) 1 1/\W.heap[vb]?=some (N_ #[.int .i64 (-1)] 3)
 |11,v,W=>∃fb,base<=fb/\v=.slice (some (R_ fb)) 6 6/\FB 3 .i64 W fb 6 (λ_=>-1)
 |12,v,W=>∃ib fb,base<=ib/\base<=fb/\v=.agg (jQ ib N8 fb)/\FB 123 .u16 W ib N8 (λj=>PD n Af j)/\FB 3 .i64 W fb 6 (λ_=>-1)
 |13,v,W=>∃pb ib fb,base<=pb/\base<=ib/\base<=fb/\v=Q_ pb/\W.heap[pb]?=some (N_ (jQ ib N8 fb) 128)/\FB 123 .u16 W ib N8 (λj=>PD n Af j)/\FB 3 .i64 W fb 6 (λ_=>-1)
 |_,_,_=>True
theorem ab8.keep {o:Nat} (i:Nat) (r:i∈[3,7,8,9,10,11,12,13]) (v:n_) (W q:o_) (h:ab8 base n o Af i v W) (m:Ac No W q):ab8 base n o Af i v q:=by
 obtain rfl|rfl|rfl|rfl|rfl|rfl|rfl|rfl:=(by simpa using r:i=3\/i=7\/i=8\/i=9\/i=10\/i=11\/i=12\/i=13)
 .obtain⟨e,c,d⟩:=h;exact⟨e,c,d.keep m id⟩
 .exact h
 .obtain⟨e,c,d,f⟩:=h;exact⟨e,c,d,f.keep m id⟩
 .obtain⟨e,c,d,f⟩:=h;exact⟨e,c,d,f.keep m id⟩
 .obtain⟨e,c,d⟩:=h;exact⟨e,c,m.old d id⟩
 .obtain⟨e,c,d,f⟩:=h;exact⟨e,c,d,f.keep m id⟩
 .obtain⟨a,b,c,d,f,g,j⟩:=h;exact⟨a,b,c,d,f,g.keep m id,j.keep m id⟩
 .obtain⟨p,a,b,k,c,d,f,g,j,l⟩:=h;exact⟨p,a,b,k,c,d,f,m.old g id,j.keep m id,l.keep m id⟩
def bk5 (kb base k:Nat) (L:Nat->Nat) (G:Nat->List Nat) (zG:X_) (w wr:o_):Prop:=∃T nm ct ks,Ia kb base k L G zG ks T nm ct wr/\Ac (At kb) w wr
def cq5 (base n:Nat) (Af:Nat->Nat) (_i:Nat) (v:n_) (W:o_):Prop:=∃g,base<=g/\v=P_ g n n/\FB 123 .u16 W g n (λj=>Af j)
theorem bc5 {cb sb:Nat} (i:Nat) (a:i<20):(OY cb sb)[21+i*2]?=some .nilIface/\(OY cb sb)[21+i*2+1]?=some (b_ 0):=by
 have:i=0\/i=1\/i=2\/i=3\/i=4\/i=5\/i=6\/i=7\/i=8\/i=9\/i=10\/i=11\/i=12\/i=13\/i=14\/i=15\/i=16\/i=17\/i=18\/i=19:=zD
 obtain rfl|rfl|rfl|rfl|rfl|rfl|rfl|rfl|rfl|rfl|rfl|rfl|rfl|rfl|rfl|rfl|rfl|rfl|rfl|rfl:=this<;>exact⟨rfl,rfl⟩
def au7 (K:KS) (b M L:Nat):Prop:=K.BD=1/\K.swap=(Aq [(0,M)] (Ai L)).2/\K.nl=[]/\(∀i,K.desc i=0)/\(∀i,K.op i=0)/\∀k,k≠b->K.ps k=none
def bm6 (ff:Nat->n_×Nat×(Nat->Int)) (i:Nat):List Nat:=(List.range (ff i).2.1).map λj=>((ff i).2.2 j).toNat
def au8 (K:KS) (C nf:Nat) (ff:Nat->n_×Nat×(Nat->Int)):Prop:=K.core=[(0,C)]/\(∀i,K.tv i=.nilIface/\K.ef i=none)/\Js nf ff/\(∀i,i<nf->∃f,K.nm i=some f/\K.ct f=⟨bm6 ff i,false,false,0⟩)/\∀i,nf<=i->K.nm i=none
def iy (core swap:Int) (n nf:Nat) (f:Nat->Int) (ff:Nat->n_×Nat×(Nat->Int)) (w:o_) (e:Ending) (w':o_):Prop:=
 Ac No w w'/\((e=.returned (.tuple #[.pointer none,b_ 1])/\(Js nf ff->¬Ud core swap n f))\/∃K b ib fb C M,e=.returned (.tuple #[ptr K.kb,b_ 0])/\AV K w'/\Eo C M K/\K.Aw=[b]/\K.ps b=some (EE ib fb (dN n (8*Ai n) λi=>(f i).toNat))/\(∀k,K.T k≠(0,0)->w.heap.size<=k)/\core=(C:Nat)/\swap=(M:Nat)/\16<=C/\au7 K b M (8*Ai n)/\Ud core swap n f/\au8 K C nf ff)
section
variable (m:Nat) (w:o_)
theorem kH (v:n_) (n:Nat) (f:Nat->Int) (h:ϭ w v n f) (q:Words n f) (r:n<=128):O_ m 45 #[v] w λe w'=>Ac No w w'/\e=.returned (P_ w.heap.size n n)/\FB 123 .u16 w' w.heap.size n (λi=>((f i).toNat:Nat)):=by
 obtain⟨_,s,c,rfl,p⟩:=h;by_cases d:n=0
 .subst d;refine(mM m w s c).mono ?_;rintro e w' ⟨g,j,k⟩;exact⟨g,j,k.ext λi a=>ql a zD⟩
 .obtain⟨b,o,rfl,l⟩:=p zD;refine ZJ m w b o n c (λi=>(f i).toNat) (λi a=>?_) (λi a=>?_) zD r
  .rw[l i a];have:=q i a;rw[show((f i).toNat:Int)=f i by omega]
  .have:=q i a;omega
theorem ad2 (core swap:Int) (v fv:n_) (n nf:Nat) (f:Nat->Int) (ff:Nat->n_×Nat×(Nat->Int)) (h:qg w v n f) (hF:TU w fv nf ff):O_ m 14 #[.agg #[b_ core,b_ swap,v,fv]] w (iy core swap n nf f ff w):=by
 obtain⟨⟨s,c,rfl⟩,hS⟩:=id h;obtain⟨fa,fc,rfl,S⟩:=id hF;have K1:Ac No w (w.alloc (.cells #[b_ core,b_ swap,.slice s n c,.slice fa nf fc] 25)):=(Ac.refl _ _).alloc _;have JA:(w.alloc (.cells #[b_ core,b_ swap,.slice s n c,.slice fa nf fc] 25)).heap[w.heap.size]?=some (N_ #[b_ core,b_ swap,.slice s n c,.slice fa nf fc] 25):=Y7 rfl;gi_enter func14,ntmps14;gi_wp2_with fail;refine(bb5 _ (w.alloc (.cells #[b_ core,b_ swap,.slice s n c,.slice fa nf fc] 25)) core swap _ _ n nf f ff (h.kp K1) (hF.kp K1)).mono ?_;rintro e w1 ⟨K2,r,rfl,Io,X⟩;have b2:=K2.old JA id;have Kw1:Ac No w w1:=K1.then K2;clear JA h hF K1 K2;cases r
 case false=>
  have hno:Js nf ff->¬Ud core swap n f:=λh1 h2=>by have:=X h1 h2;cases this
  clear Io X
  gi_wp2
  go_ret2
  exact⟨Kw1,.inl ⟨zF,hno⟩⟩
 obtain⟨hm,hnf,t,hfs⟩:=Io rfl;have hFO:Js nf ff:=⟨hnf,t,hfs⟩;clear Io X;obtain⟨⟨m1,m2,m3,m4⟩,⟨m5,m6,m7⟩,m8⟩:=id hm;obtain⟨C,rfl⟩:∃C:Nat,core=C:=⟨core.toNat,zD⟩;obtain⟨M,rfl⟩:∃M:Nat,swap=M:=⟨swap.toNat,zD⟩;have hSl:=hS m6;clear hS;generalize N:8*Ai n=b;have c0:w1.cell? (R_ w.heap.size)=some (b_ C):=bce b2 rfl;have c1:w1.cell? (S_ w.heap.size 1)=some (b_ M):=bce b2 rfl;gi_wp2;refine CG (P:=prog) No _ rfl rfl sJ 5 50 [0,1,3,4] [2] sJ (by rfl) (cq6 w.heap.size C)
  (λ_ _ _ _ _ h a=>let ⟨cb,q1,q2,d⟩:=h;⟨cb,q1,q2,a.old d id⟩) _ _ rfl rfl ?_;gi_wp2;refine⟨rfl,sJ,?_,?_,?_⟩
 .intro W a;have d0:=a.has (w:=w1.drew) c0;have d1:=a.has (w:=w1.drew) c1
  repeat' (refine Au ?_ ?_)
  all_goals first|exact eu|gi_wp2
 .intro i y u W a o;obtain rfl:i=2:=by simpa using y
  refine BC rfl λKK F=>?_
  show wpListIn NF m prog _ _ _ (Act.put _ (some 12) (u 2)) _;gi_wp2_with fail;refine(vF _ W C zD).mono ?_;rintro e w2 ⟨k2,cb,q1,rfl,d⟩;gi_wp2;exact⟨_,rfl,k2,cb,pV (pV Kw1.size a.size) q1,rfl,d⟩
 intro u W a o;obtain⟨cb,q1,q2,d⟩:=o 2 zF;show wpListIn NF m prog _ _ _ (Act.put _ (some 12) (u 2)) _;rw[q2];have KW:Ac No w W:=Kw1.drew.then a;have b3:=a.old (heap_drew.trans b2) id;clear a o q2 c0 c1;gi_wp2_with fail;refine(vz _ W M zD).mono ?_;rintro e w2 ⟨k2,sb,q4,rfl,A⟩;have qh:=KW.then k2;have d:=k2.old d id;have b4:=k2.old b3 id;have q4:w.heap.size<=sb:=pV KW.size q4;have hal:w2.alloc (.cells (OY cb sb) 114)=w2.alloc (.cells (OY cb sb) 114):=rfl
 conv at hal=>lhs;unfold OY
 clear b3 k2 KW;gi_upto_region 4 with fail;obtain⟨big,B⟩:∃big,big=Value.agg (OY cb sb):=⟨_,rfl⟩;unfold OY at B;rw[<-B];clear B;have K3:Ac No w2 (w2.alloc (.cells (OY cb sb) 114)):=(Ac.refl _ _).alloc _;have D:(w2.alloc (.cells (OY cb sb) 114)).heap[w2.heap.size]?=some (N_ (OY cb sb) 114):=Y7 rfl;have KW3:=qh.then K3;have b5:=K3.old b4 id;have d:=K3.old d id;have A:=K3.old A id;have hkb:w.heap.size<=w2.heap.size:=qh.size;clear hal b4 K3 qh;generalize w2.alloc (.cells (OY cb sb) 114)=w3 at*;generalize w2.heap.size=kb at*;have c3:w3.cell? (S_ w.heap.size 3)=some (.slice fa nf fc):=bce b5 rfl;have lk:kb<w3.heap.size:=Dt D;have lc:cb<w3.heap.size:=Dt d;have lS:sb<w3.heap.size:=Dt A;have R:bk5 kb w3.heap.size 0 (λi=>(ff i).2.1) (bm6 ff) (OY cb sb) w3 w3:=⟨_,_,_,_,Ia.start D (λi y=>by
  have:i=0\/i=1\/i=2\/i=3\/i=4\/i=5\/i=6\/i=7\/i=8\/i=9\/i=10\/i=11\/i=12\/i=13\/i=14\/i=15:=zD
  obtain rfl|rfl|rfl|rfl|rfl|rfl|rfl|rfl|rfl|rfl|rfl|rfl|rfl|rfl|rfl|rfl:=this<;>rfl),Ac.refl _ _⟩;gi_wp2;gi_loopw [21] (λi wr=>∃k:Nat,k<=nf/\i=b_ k/\bk5 kb w3.heap.size k (λi=>(ff i).2.1) (bm6 ff) (OY cb sb) w3 wr) (λi _=>nf-(intOf i).toNat)
 case atStart=>exact⟨0,zD,rfl,R⟩
 case round=>
  obtain⟨k,hk,rfl,T,nm,ct,ks,Ϫ,KF⟩:=hrel
  have Kwr:Ac No w wr:=KW3.trans KF (λx z e=>ql z (by have e:x=kb:=e;omega))
  have Cb:w3.heap.size<=wr.heap.size:=KF.size
  by_cases BL:k<nf
  .obtain⟨fb',fo,rfl,hcf⟩:=S zD;obtain⟨d0,⟨s',c',hv⟩,hI⟩:=hcf k BL;obtain⟨g64,gW⟩:=t k BL;generalize hq:ff k=q at*;obtain⟨v',n',f'⟩:=q;simp only at d0 hv hI g64 gW;subst hv;have d1:=Kwr.has d0;have hS':=(hI zD).keep Kwr;clear R hcf S d0 hI;gi_wp2;refine CG (P:=prog) No _ rfl rfl sJ 6 50 [0,1,2,3,4] [5] sJ (by rfl) (cq5 wr.heap.size n' λi=>(f' i).toNat) (λ_ _ _ _ _ h a=>let ⟨g,q1,q2,d⟩:=h;⟨g,q1,q2,d.keep a id⟩) _ _ rfl rfl ?_;gi_wp2;refine⟨rfl,sJ,?_,?_,?_⟩
   .intro W a
    repeat' (refine Au ?_ ?_)
    all_goals first|exact eu|gi_wp2
   .intro i y u W a o;obtain rfl:i=5:=(by simpa using y);refine BC rfl λKK F=>?_
    show wpListIn NF m prog _ _ _ (Act.put _ (some 31) (u 5)) _;gi_wp2_with fail;refine(kH _ W _ n' f' (hS'.keep ((Ac.refl No wr).drew.then a)) gW zD).mono ?_;rintro e w4 ⟨Z,rfl,r4⟩;gi_wp2;exact⟨_,rfl,Z,_,a.size,rfl,r4⟩
   intro u W a o;obtain⟨g,O,Q,g3⟩:=o 5 zF;show wpListIn NF m prog _ _ _ (Act.put _ (some 31) (u 5)) _;rw[Q];have KW:Ac No wr W:=(Ac.refl No wr).drew.then a;have Ϻ:=Ϫ.kp KW;have hnk:ks[4+k]?=some (.pointer none):=(by rw[Ϫ.nmv k zD,Ϫ.out k zD];rfl);clear a o Q hS' d1;gi_wp2_with fail;refine(ca9 _ W kb k ks (some (R_ g)) n' n' Ϻ.kh zD hnk).mono ?_;rintro e w4 ⟨rfl,K,V,U⟩;have hgT:T g=(0,0):=by
    cases Decidable.em (T g=(0,0))with
    |inl e=>exact e
    |inr e=>have:=(Ϫ.tg _ e).2.1;omega
   have hF4:=Ϻ.make (by show(ff k).2.1=n';rw[hq]) (by show(List.range (ff k).2.1).map (λj=>((ff k).2.2 j).toNat)=_;rw[hq]) zD lk (by have:=KW.size;omega) zD hgT g3 g64 (λi y=>by have:=gW i y;omega) K V U;gi_wp2;go_roundw
   case rel=>exact⟨k+1,zD,by go_num,_,_,_,_,hF4,(KF.trans KW (λ_ _ e=>e.elim)).trans K (λ_ _ e=>e)⟩
   case measure=>simp[intOf];omega
  obtain rfl:k=nf:=zD
  have b6:=KF.old b5 (λe=>by have e:w.heap.size=kb:=e;exact BZ b5 D wB e);have c2:wr.cell? (S_ w.heap.size 2)=some (.slice s n c):=bce b6 rfl;have d:=KF.old d (λe=>BZ d D wB e);have A:=KF.old A (λe=>BZ A D wB e);clear R S b5 c3 t;gi_wp2;refine CG (P:=prog) No _ rfl rfl sJ 14 50 [0,1,2,4,5,6] [3,7,8,9,10,11,12,13] sJ (by rfl) (ab8 wr.heap.size n b (λi=>(f i).toNat)) ab8.keep _ _ rfl rfl ?_;gi_wp2;refine⟨rfl,sJ,?_,?_,?_⟩
  .intro W a;have d2:=a.has (w:=wr.drew) c2
   repeat' (refine Au ?_ ?_)
   all_goals first|exact eu|gi_wp2
  .intro i y u W a o;have KW:Ac No wr W:=(Ac.refl No wr).drew.then a;obtain rfl|rfl|rfl|rfl|rfl|rfl|rfl|rfl:=(by simpa using y:i=3\/i=7\/i=8\/i=9\/i=10\/i=11\/i=12\/i=13)
   .refine BC rfl λKK F=>?_
    show wpListIn NF m prog _ _ _ (Act.put (Act.put (Act.put (Act.put (Act.put (Act.put (Act.put (Act.put _ (some 37) (u 3)) (some 41) (u 7)) (some 42) (u 8)) (some 43) (u 9)) (some 44) (u 10)) (some 45) (u 11)) (some 46) (u 12)) (some 47) (u 13)) _;gi_wp2_with fail;refine(kH _ W _ n f (hSl.keep (Kwr.then KW)) m7 zD).mono ?_;rintro e w4 ⟨Z,rfl,r4⟩;gi_wp2;exact⟨P_ W.heap.size n n,sJ,Z,_,rfl,r4⟩
   .refine BC rfl λKK F=>?_
    show wpListIn NF m prog _ _ _ (Act.put (Act.put (Act.put (Act.put (Act.put (Act.put (Act.put (Act.put _ (some 37) (u 3)) (some 41) (u 7)) (some 42) (u 8)) (some 43) (u 9)) (some 44) (u 10)) (some 45) (u 11)) (some 46) (u 12)) (some 47) (u 13)) _;gi_wp2_with fail;refine(F9 _ W n zD).mono ?_;rintro e w4 ⟨rfl,Y⟩;have Y:=Y.symm;subst Y;gi_wp2;exact⟨b_ (Ai n),sJ,Ac.refl _ _,rfl⟩
   .obtain⟨ab,e3,r3⟩:=o 3 zF wB;have e7:=o 7 zF wB;have e7:u 7=b_ (Ai n):=e7;refine BC rfl λKK F=>?_
    show wpListIn NF m prog _ _ _ (Act.put (Act.put (Act.put (Act.put (Act.put (Act.put (Act.put (Act.put _ (some 37) (u 3)) (some 41) (u 7)) (some 42) (u 8)) (some 43) (u 9)) (some 44) (u 10)) (some 45) (u 11)) (some 46) (u 12)) (some 47) (u 13)) _;rw[e3,e7];gi_wp2_with fail;refine(ZZ _ W ab n (Ai n) b (λi=>(f i).toNat) r3 N (by unfold Ai at N;omega) (by unfold Ai at N;omega)).mono ?_;rintro e w4 ⟨Z,rfl,r4⟩;gi_wp2;exact⟨P_ W.heap.size b b,by rw[<-e3,<-e7];kernel_rfl,Z,_,KW.size,rfl,r4⟩
   .obtain⟨ib,O,e8,r8⟩:=o 8 zF wB;refine BC rfl λKK F=>?_
    show wpListIn NF m prog _ _ _ (Act.put (Act.put (Act.put (Act.put (Act.put (Act.put (Act.put (Act.put _ (some 37) (u 3)) (some 41) (u 7)) (some 42) (u 8)) (some 43) (u 9)) (some 44) (u 10)) (some 45) (u 11)) (some 46) (u 12)) (some 47) (u 13)) _;rw[e8];gi_wp2;exact⟨.agg #[a_ 0,a_ 0,a_ 0,.slice (some (R_ ib)) b b],by rw[<-e8];kernel_rfl,Ac.refl _ _,ib,O,rfl,r8⟩
   .refine BC rfl λKK F=>?_
    show wpListIn NF m prog _ _ _ (Act.put (Act.put (Act.put (Act.put (Act.put (Act.put (Act.put (Act.put _ (some 37) (u 3)) (some 41) (u 7)) (some 42) (u 8)) (some 43) (u 9)) (some 44) (u 10)) (some 45) (u 11)) (some 46) (u 12)) (some 47) (u 13)) _;gi_wp2;exact⟨P_ W.heap.size 1 1,sJ,(Ac.refl _ _).alloc _,_,rfl,Y7 rfl⟩
   .obtain⟨vb,e10,r10⟩:=o 10 zF wB;refine BC rfl λKK F=>?_
    show wpListIn NF m prog _ _ _ (Act.put (Act.put (Act.put (Act.put (Act.put (Act.put (Act.put (Act.put _ (some 37) (u 3)) (some 41) (u 7)) (some 42) (u 8)) (some 43) (u 9)) (some 44) (u 10)) (some 45) (u 11)) (some 46) (u 12)) (some 47) (u 13)) _;rw[e10];gi_wp2_with fail;refine(iU _ W vb r10).mono ?_;rintro e w4 ⟨Z,rfl,r4⟩;gi_wp2;exact⟨P_ W.heap.size 6 6,by rw[<-e10];kernel_rfl,Z,_,KW.size,rfl,r4⟩
   .obtain⟨ib,O,e9,r9⟩:=o 9 zF wB;obtain⟨fb,Q,e11,r11⟩:=o 11 zF wB;obtain⟨x,hbx,hxc⟩:=wU W (ib:=ib) (fb:=fb) (L:=b);refine BC rfl λKK F=>?_
    show wpListIn NF m prog _ _ _ (Act.put (Act.put (Act.put (Act.put (Act.put (Act.put (Act.put (Act.put _ (some 37) (u 3)) (some 41) (u 7)) (some 42) (u 8)) (some 43) (u 9)) (some 44) (u 10)) (some 45) (u 11)) (some 46) (u 12)) (some 47) (u 13)) _;rw[e9,e11];gi_wp2;exact⟨.agg #[b_ 0,b_ 0,.bool false,a_ 0,.nilFunc,a_ 0,a_ 0,a_ 0,.slice (some (R_ ib)) b b,.slice (some (R_ fb)) 6 6,b_ 0,b_ 0],by rw[<-e9,<-e11];kernel_rfl,Ac.refl _ _,ib,fb,O,Q,rfl,r9,r11⟩
   .obtain⟨ib,fb,O,Q,G,r1,r2⟩:=o 12 zF wB;refine BC rfl λKK F=>?_
    show wpListIn NF m prog _ _ _ (Act.put (Act.put (Act.put (Act.put (Act.put (Act.put (Act.put (Act.put _ (some 37) (u 3)) (some 41) (u 7)) (some 42) (u 8)) (some 43) (u 9)) (some 44) (u 10)) (some 45) (u 11)) (some 46) (u 12)) (some 47) (u 13)) _;have G:u 12=.agg #[b_ 0,b_ 0,.bool false,a_ 0,.nilFunc,a_ 0,a_ 0,a_ 0,.slice (some (R_ ib)) b b,.slice (some (R_ fb)) 6 6,b_ 0,b_ 0]:=G;rw[G];gi_wp2;exact⟨Q_ W.heap.size,by rw[<-G];kernel_rfl,(Ac.refl _ _).alloc _,W.heap.size,ib,fb,KW.size,O,Q,rfl,Y7 rfl,r1.keep ((Ac.refl No _).alloc _) id,r2.keep ((Ac.refl No _).alloc _) id⟩
  intro u W a o;obtain⟨pb,ib,fb,g0,O,Q,e13,J,r1,r2⟩:=o 13 zF;show wpListIn NF m prog _ _ _ (Act.put (Act.put (Act.put (Act.put (Act.put (Act.put (Act.put (Act.put _ (some 37) (u 3)) (some 41) (u 7)) (some 42) (u 8)) (some 43) (u 9)) (some 44) (u 10)) (some 45) (u 11)) (some 46) (u 12)) (some 47) (u 13)) _;rw[e13];have KW:Ac No wr W:=(Ac.refl No wr).drew.then a;have H:=a.old (heap_drew.trans Ϫ.kh) id;have d:=a.old (heap_drew.trans d) id;have A:=a.old (heap_drew.trans A) id;have hnb:Ai b<=M:=by unfold Ai at N m8 ⊢;omega
  have hL1:1<=b:=by unfold Ai at N;omega
  have hL2:b<=128:=by unfold Ai at N;omega
  have hms:Mp 188 W sb 1 [(0,M)]:=⟨⟨_,A,rfl,rfl⟩,zF,by unfold maxLen;simp,rfl,by simp[rc,Value.oneCell']⟩;have hmc:Mp 186 W cb 1 [(0,C)]:=⟨⟨_,d,rfl,rfl⟩,zF,by unfold maxLen;simp,rfl,by simp[rc,Value.oneCell']⟩;have k1:ks[1]?=some (P_ sb 1 1):=(Ϫ.off 1 zD).trans rfl;have k2:ks[2]?=some (.slice none 0 0):=(Ϫ.off 2 zD).trans rfl;have k3:ks[3]?=some (b_ 0):=(Ϫ.off 3 zD).trans rfl;have k0:ks[0]?=some (P_ cb 1 1):=(Ϫ.off 0 zD).trans rfl;have I:∀x,wr.heap.size<=x->T x=(0,0):=λx z=>by
   cases Decidable.em (T x=(0,0))with
   |inl e=>exact e
   |inr e=>have:=(Ϫ.tg _ e).2.1;omega
  have Ϻ:=Ϫ.kp KW;clear a o c2 Ϫ;gi_wp2_with fail;refine(br4 _ W kb pb sb 1 M ib b fb ks J H k1 k2 k3 hms hnb hL1 hL2 zD).mono ?_;rintro e w4 ⟨rfl,K,hp4,g,cg,hg,V,ms4,pr4⟩;gi_wp2;go_ret2;have p:(dN n b λi=>(f i).toNat).length=b:=by simp[dN]
  have KZ:Ac No w w4:=(Kwr.then KW).trans K (λx z e=>ql z (by have:=Kwr.size;obtain e|e|e:=e<;>omega));have tik:ib≠kb:=by obtain⟨_,E,_⟩:=id r1;exact BZ E H wB
  have tis:ib≠sb:=by obtain⟨_,E,_⟩:=id r1;exact BZ E A wB
  have tip:ib≠pb:=by obtain⟨_,E,_⟩:=id r1;exact BZ E J wB
  have tfk:fb≠kb:=by obtain⟨_,E,_⟩:=id r2;exact BZ E H wB
  have tfs:fb≠sb:=by obtain⟨_,E,_⟩:=id r2;exact BZ E A wB
  have tfp:fb≠pb:=by obtain⟨_,E,_⟩:=id r2;exact BZ E J wB
  have tck:cb≠kb:=BZ d H wB;have tcs:cb≠sb:=BZ d A wB;have tcp:cb≠pb:=BZ d J wB;have hi4:Rw 123 1 w4 ib b b (Az (dN n b λi=>(f i).toNat)):=by
   have:=(r1.rw zD).keep K (by rintro(e|e|e)<;>contradiction)
   simpa [Az,dN,Function.comp_def]using this
  have U:Rw 3 1 w4 fb 6 6 (FM [-1,-1,-1,-1,-1,-1]):=(r2.rw zD).keep K (by rintro(e|e|e)<;>contradiction);have hk5:=AV.fresh (k:=k) (C:=C) (Af:=dN n b λi=>(f i).toNat) (c:=cg) (g:=g) (cb:=cb) (l:=(Aq [(0,M)] (Ai b)).2) Ϻ zD hfs K V
   (by rw[BI wB,BI wB,BI wB];exact k0) (by rw[BI wB,BI wB];exact Oj k1) (Oj (by rw[BI wB,BI wB];exact k2)) (by rw[BI wB];exact Oj (by rw[BI wB];exact k3))
   (λi y=>by rw[BI zD,BI zD,BI zD]) (by rw[BI wB,BI wB,BI wB];exact(Ϻ.off 20 zD).trans rfl)
   (λi y=>by rw[BI zD,BI zD,BI zD,BI zD,BI zD,BI zD,Ϻ.off _ zD,Ϻ.off _ zD];exact bc5 i y)
   (Rw.keep hmc K (by rintro(e|e|e)<;>contradiction)) ms4 pr4 (hp4 _ p) (by rw[p];exact hi4) U lk lS lc ⟨I g (by have:=KW.size;omega),I pb zD,I ib zD,I fb zD⟩;have FV:=Eo.fresh (ct:=ct) (kb:=kb) (cb:=cb) (sb:=sb) (g:=g) (c:=cg) (pb:=pb) (ib:=ib) (fb:=fb) (C:=C) (M:=M) (T:=T) (Af:=dN n b λi=>(f i).toNat) (l:=(Aq [(0,M)] (Ai b)).2) ⟨zD,zD⟩ zD ⟨Ai n,by rw[p];exact N.symm,by unfold Ai;omega,by unfold Ai;omega⟩ (λx z=>by
   obtain⟨i,_,rfl⟩:=List.mem_map.1 z
   unfold PD
   split
   .rename_i y;have:=m7 i y;show(f i).toNat<65536;omega
   .omega) (by rw[p];exact hnb) (by rw[p]) Ϻ.inj
  subst N;refine⟨KZ,.inr ⟨_,pb,ib,fb,C,M,by simp[N7,ptr],hk5,FV,rfl,by simp[N7,C9],λx z=>?_,rfl,rfl,zD,⟨rfl,rfl,rfl,λ_=>rfl,λ_=>rfl,λk hk=>(BH hk:C9 (λ_=>none) pb _ k=none)⟩,hm,rfl,λ_=>⟨rfl,rfl⟩,hFO,Ϻ.wd,Ϻ.out⟩⟩;have hWs:=KW.size;have z:Nj kb cb sb g pb ib fb T x≠(0,0):=z;by_cases e1:x=fb
  .omega
  by_cases e2:x=ib
  .omega
  by_cases e3:x=pb
  .omega
  by_cases e4:x=g
  .omega
  by_cases e5:x=sb
  .omega
  by_cases e6:x=cb
  .omega
  by_cases e7:x=kb
  .omega
  unfold Nj at z;rw[AP e1,AP e2,AP e3,AP e4,AP e5,AP e6,AP e7]at z;have:=(Ϻ.tg x z).1;omega
end
def eP (Od:Old) (P:l_) (x:Frame×Z_) (v:o_) (Q:Frame×Z_->o_->Prop):Prop:=
 ∀(Z:Nat->Prop) (Ad:Loc->Prop) (B:Nat) (gs:Array m_) (w:o_) (sl:d_ (W_)) (t:Trace),Gp Ad Z->cu Od P Ad Z B v gs w t->gs[0]?=some (BJ x)->
  Nw P gs w sl t λBh w' t'=>∃Z' O1 B' y v',Gp O1 Z'/\cu Od P O1 Z' B' v' Bh w' t'/\Bh[0]?=some (BJ y)/\Q y v'
section
variable {P:l_} {x:Frame×Z_} {v:o_} {Q R:Frame×Z_->o_->Prop}
theorem eP.now (h:Q x v):eP Od P x v Q:=λZ a B _ _ _ _ d b c=>.now ⟨Z,a,B,x,v,d,b,c,h⟩
theorem cu.re {Ad:Loc->Prop} {Z:Nat->Prop} {B:Nat} {gs:Array m_} {t:Trace} (h:cu Od P Ad Z B v gs w t) (τ:Nat->Question->Nat) (d:Nat):cu Od P Ad Z B (v.re τ d) gs w t:=
 let ⟨q,T,hZ,h3⟩:=h;⟨q,T.SV τ w.tape d w.drawn,hZ,h3⟩
theorem eP.re {τ:Nat->Question->Nat} {d:Nat} (h:eP Od P x (v.re τ d) Q):eP Od P x v Q:=λZ a B c w sl t f b e=>h Z a B c w sl t f (b.re τ d) e
theorem eP.AU (h:AU P n x=some []) (k:eP Od P (run P n x) v Q):eP Od P x v Q:=λZ a B _ _ _ _ g c e=>
 (c.TJ e (DK h)).then λb j d i _ ⟨f,Bs1,_⟩=>k Z a B b j d i g Bs1 f
theorem eP.step {y:Frame×Z_} (h:Rk P x=some y) (k:eP Od P y v Q):eP Od P x v Q:=λZ a B _ _ _ _ g c e=>
 (c.TJ (k:=1) e ⟨rfl,BJ y,λw _=>quiet_step h w,rfl⟩).then λb j d i _ ⟨f,Bs1,_⟩=>k Z a B b j d i g Bs1 f
theorem eP.reads {S:U_} {N:List f_} {y:n_} (U:Hz P x S=some (N,y)) (O:Cells v N S) (k:eP Od P (BG x y) v Q):eP Od P x v Q:=λZ n B u w sl t r s A=>by
 obtain⟨q,T,G,E,F,D⟩:=s;obtain⟨J,i⟩:=PU T O;have c:AQ P u w sl t λf m l=>f[0]?=some (BJ (BG x y))/\cu Od P n Z B v f m l:=by
  refine go_mute PO A rfl E F λd L h=>⟨_,_,_,YS U (w:=w.at d) (PU (T.SV v.tape w.tape v.drawn d) O).1,λf K _ z g o=>.now ⟨z,K,T.SV v.tape w.tape v.drawn d,G,g,h.own λe p=>?_,D⟩⟩
  simp only[Hy,gI,List.mem_map]at p
  obtain⟨a,H,rfl⟩:=p
  obtain⟨z1,M⟩:=i a H
  refine⟨λb I j=>?_,zF,zF,?_⟩
  .obtain rfl:=x_ I;exact(z1 (r.1 _ j)).elim
  .show a.block<B;omega
 exact c.then λf m o l _ ⟨C,Bs1⟩=>k Z n B f m o l r Bs1 C
end
section
variable {EC:h_} {kd:CallKind} {tmps:X_} {k:List Item} {ds:List Deferred} {cs:Z_} {c:Code} {v:o_} {m:Nat} {Q:o_->X_->o_->Prop} {R:Frame×Z_->o_->Prop}
theorem eP.part (H:(prog.funcs[EC]?).any (·.norace)=false) (D:(kd==CallKind.early)=false) (E:c.Bv (CE prog)=true) (I:∀v1,Ac No v v1->c.wpIn NF m prog (Ends (Q v1)) ⟨tmps,[]⟩ v1)
  (F:∀v1 C v',Ac No v v1->Q v1 C v'->eP Od prog (Frame.mk EC C k ds .run kd none,cs) v' R):eP Od prog (Frame.mk EC tmps (.code c::k) ds .run kd none,cs) v R:=λZ j B A w sl t i o q=>by
 refine(MJ PT i Us.Qq (Ja H VS) D E (Q:=Ends λC b=>∃τ d,Q (v.re τ d) C b) gZ (λτ d=>wpIn_mono (I _ (CX v τ d)) λe a b h=>⟨h.1,h.2.1,τ,d,h.2.2⟩) o q).then λn b p z _ ⟨g,v',l,r,⟨C,τ,d,u⟩,_,_,s⟩=>?_
 obtain⟨rfl,_,_,f,d1,y⟩|⟨_,_,x,_⟩:=u
 .exact(F _ C _ (CX v f d1) y).re Z j l n b p z i s r
 .cases x
theorem eP.zS (H:(prog.funcs[EC]?).any (·.norace)=false) (D:(kd==CallKind.early)=false) (E:c.Bv (CE prog)=true) (I:∀v1,Ac No v v1->c.wpIn NF m prog (WM (Q v1)) ⟨tmps,[]⟩ v1)
  (F:∀v1 C todo v',Ac No v v1->Q v1 C v'->eP Od prog (Frame.mk EC C todo ds .returning kd none,cs) v' R):eP Od prog (Frame.mk EC tmps (.code c::k) ds .run kd none,cs) v R:=λZ j B A w sl t i o q=>by
 refine(MJ PT i Us.Qq (Ja H VS) D E (Q:=WM λC b=>∃τ d,Q (v.re τ d) C b) yF (λτ d=>wpIn_mono (I _ (CX v τ d)) λe a b h=>⟨h.1,h.2.1,τ,d,h.2.2⟩) o q).then λn b p z _ ⟨g,v',l,r,⟨C,τ,d,u⟩,_,_,s⟩=>?_
 obtain⟨_,x,_⟩|⟨todo,rfl,_,_,f,d1,y⟩:=u
 .cases x
 .exact(F _ C todo _ (CX v f d1) y).re Z j l n b p z i s r
theorem eP.either {Q':o_->X_->o_->Prop} (F:(prog.funcs[EC]?).any (·.norace)=false) (C:(kd==CallKind.early)=false) (D:c.Bv (CE prog)=true) (H:∀v1,Ac No v v1->c.wpIn NF m prog (fun e a w'=>a.defers=[]/\((e=.normal/\Q v1 a.tmps w')\/(e=.ret/\Q' v1 a.tmps w'))) ⟨tmps,[]⟩ v1)
  (E:∀v1 z v',Ac No v v1->Q v1 z v'->eP Od prog (Frame.mk EC z k ds .run kd none,cs) v' R) (A:∀v1 z todo v',Ac No v v1->Q' v1 z v'->eP Od prog (Frame.mk EC z todo ds .returning kd none,cs) v' R):eP Od prog (Frame.mk EC tmps (.code c::k) ds .run kd none,cs) v R:=λZ j B y w sl t i s u=>by
 refine(MJ PT i Us.Qq (Ja F VS) C D (Q:=λe a w'=>a.defers=[]/\((e=.normal/\∃τ d,Q (v.re τ d) a.tmps w')\/(e=.ret/\∃τ d,Q' (v.re τ d) a.tmps w'))) (λ_ _ _ h=>⟨h.2.imp (·.1) (·.1),h.1⟩) (λτ d=>wpIn_mono (H _ (CX v τ d)) λe a w' h=>⟨h.1,h.2.imp (λh=>⟨h.1,τ,d,h.2⟩) (λh=>⟨h.1,τ,d,h.2⟩)⟩) s u).then λn w' o r _ ⟨g,v',l,p,⟨z,τ,d,x⟩,_,_,q⟩=>?_
 obtain⟨rfl,_,b⟩|⟨todo,rfl,_,b⟩:=x
 .obtain⟨_,f,d1,b⟩|⟨e,_⟩:=b
  .exact(E _ z _ (CX v f d1) b).re Z j l n w' o r i q p
  .cases e
 .obtain⟨e,_⟩|⟨_,f,d1,b⟩:=b
  .cases e
  .exact(A _ z todo _ (CX v f d1) b).re Z j l n w' o r i q p
theorem eP.seq {a b:Code} (h:eP Od prog (Frame.mk EC tmps (.code a::.code b::k) ds .run kd none,cs) v R):eP Od prog (Frame.mk EC tmps (.code (a.seq b)::k) ds .run kd none,cs) v R:=eP.step rfl h
end
theorem ϑ {NC NS:Nat} {K:KS} {r:PR} {v:o_} {c0:Frame} {cs:Z_} {R:Frame×Z_->o_->Prop} (A:n<=1000) (x:Vp NC NS b K n) (C:AV K v) (ok:Eo NC NS K) (z:K.ps b=some r) (y:r.en=false) (E:b∈K.Aw)
  (D:∀told v',SF NC NS b K v n told v'->eP Od prog (c0.finish told,cs) v' R):eP Od prog (z0 prog (ptr K.kb) (R_ b) (n:Nat) (c0::cs)) v R:=λZ s B u w sl t o e k=>by
 have h:SO NC NS b K v CY v:=⟨r,⟨C,ok,Rel.refl b K,BN.no (Ac.refl _ _) C.lt,⟨World.ownsRow_nil _ _ _ _,λg h=>by cases h⟩,z,⟨by rw[z];simp,ok.th⟩⟩,y,E⟩;refine(oH Ϩ Us (ω 0) (uz 0) zD zD (yl NC NS b K v n 0 A x) (bp0 NC NS b K v n 0 A x) o h e k).bind λd q f p ⟨j,i,_,a,told,v',c,m,l,Bs'⟩=>?_
 exact D told v' m j i c d q f p a Bs' l
end Go.Fxa
