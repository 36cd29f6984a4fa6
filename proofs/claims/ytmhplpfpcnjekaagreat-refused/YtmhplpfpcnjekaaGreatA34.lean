/- A new kernel: ho -/
import Derived.Test.YtmhplpfpcnjekaaGreatA32
import Derived.Test.YtmhplpfpcnjekaaGreatA33
namespace Go.Fxa
open Conc Proofs RowKit Proofs.Tryz
set_option maxRecDepth 1000000
set_option maxHeartbeats 0
variable {w w':o_}{b n kb base k:Nat}{L Af:Nat->Nat}{G:Nat->List Nat}{ks ς:X_}{T:Tag}{nm:Nat->d_ Nat}{ct:Nat->Ct}{Od:Old}
theorem FO.rw {T:j_}{k:IntKind}{f:Nat->Int}(h:FO T k w b n f)(j:n<=1000):Rw T 1 w b n n ((List.range n).map λi=>.int k (f i)):=by
 obtain⟨a,c,g,d⟩:=h;refine⟨⟨a,c,wB,?_⟩,w_,by unfold maxLen;omega,sJ,λx e=>?_⟩
 .refine List.ext_getElem? λi=>?_
  rw[Nat.mul_one];by_cases hi:i<n
  .rw[List.getElem?_take_of_lt hi,Array.getElem?_toList,d i hi];simp[hi]
  .rw[List.getElem?_eq_none (by simp;omega),List.getElem?_eq_none (by simp;omega)]
 .obtain⟨i,_,rfl⟩:=List.mem_map.1 e
  rfl
def iE (n N8:Nat)(Af:Nat->Nat):List Nat:=(List.range N8).map (PY n Af)
structure Ii (kb base k:Nat)(L:Nat->Nat)(G:Nat->List Nat)(ς ks:X_)(T:Tag)(nm:Nat->d_ Nat)(ct:Nat->Ct)(w:o_):Prop where
 kh:w.heap[kb]?=some (N_ ks 114)
 off:∀j,j<4\/20<=j->ks[j]?=ς[j]?
 nmv:∀i,i<16->ks[4+i]?=some (VJ (nm i))
 nmT:∀i b,nm i=some b->T b=(10,0)
 inj:∀i j f,nm i=some f->nm j=some f->i=j
 out:∀i,k<=i->nm i=none
 tg:∀b,T b≠(0,0)->base<=b/\b<w.heap.size/\(T b=(10,0)\/∃f,T b=(15,f))
 fl:∀b,T b=(10,0)->∃v,w.heap[b]?=some (N_ #[v,b_ 0] 191)/\Tf T w b 64 v (ct b).ws
 ln:∀i f,nm i=some f->JS w f (L i)
 wd:∀i,i<k->∃f,nm i=some f/\ct f=⟨G i,false,false,0⟩
theorem Ii.start (h:w.heap[kb]?=some (N_ ks 114))(a:∀i,i<16->ks[4+i]?=some (.pointer none)):Ii kb base 0 L G ks ks (λ_=>(0,0)) (λ_=>none) (λ_=>⟨[],false,false,0⟩) w:=
 ⟨h,λ_ _=>rfl,a,(λ_ _ h=>by cases h),(λ_ _ _ h=>by cases h),λ_ _=>rfl,λ_ h=>qx rfl h,(λ_ h=>by simp at h),(λ_ _ h=>by cases h),λ_ h=>qx h wB⟩
theorem Ii.kp (h:Ii kb base k L G ς ks T nm ct w)(g:Aa No w w'):Ii kb base k L G ς ks T nm ct w':=
 ⟨g.old h.kh id,h.off,h.nmv,h.nmT,h.inj,h.out,λb hb=>let ⟨a,c,d⟩:=h.tg b hb;⟨a,Nat.lt_of_lt_of_le c g.size,d⟩,λb hb=>let ⟨v,a,c⟩:=h.fl b hb;⟨v,g.old a id,c.keep (Q:=λ_=>False) g.no (λh=>h)⟩,λi f e=>(h.ln i f e).keep g id,h.wd⟩
theorem Ii.make {g:Nat}(h:Ii kb base k L G ς ks T nm ct w)(I:L k=n)(H:G k=(List.range n).map Af)(O:k<16)(hb:kb<base)(Q:base<=w.heap.size)(N:base<=g)(K:T g=(0,0))(hR:FO 123 .u16 w g n (fun i=>Af i))(P:n<=64)(R:∀i,i<n->Af i<65536)
  (F:Aa (At kb) w w') (M:w'.heap[kb]?=some (.cells (ks.setIfInBounds (4+k) (ptr w.heap.size)) 114 (0,0))) (J:w'.heap[w.heap.size]?=some (N_ #[P_ g n n,b_ 0] 191)):
  Ii kb base (k+1) L G ς (ks.setIfInBounds (4+k) (ptr w.heap.size)) (Bi (Bi T g (15,w.heap.size)) w.heap.size (10,0)) (Ah nm k (some w.heap.size)) (Ah ct w.heap.size ⟨(List.range n).map Af,false,false,0⟩) w':=by
 have y:g<w.heap.size:=by obtain⟨_,l,_⟩:=hR;exact Dt l
 have r:4+k<ks.size:=(y_.1 (h.nmv k O)).1;have q:T w.heap.size=(0,0):=by
  cases Decidable.em (T w.heap.size=(0,0))with
  |inl e=>exact e
  |inr e=>have:=(h.tg _ e).2.1;omega
 have tag:∀{b t},T b=t->t≠(0,0)->Bi (Bi T g (15,w.heap.size)) w.heap.size (10,0) b=t:=fun {b t} l m=>by
  rw[AV (by rintro rfl;exact m (l.symm.trans q)),AV (by rintro rfl;exact m (l.symm.trans K))];exact l
 have p:Bi (Bi T g (15,w.heap.size)) w.heap.size (10,0) g=(15,w.heap.size):=by rw[AV wB,A7]
 have s:∀{b t},T b=t->t≠(0,0)->¬At kb b:=fun {b t} l m e=>by
  have:=(h.tg b (by rw[l];exact m)).1
  have e:b=kb:=e
  omega
 refine⟨M,λj D=>?_,λi hi=>?_,λi b e=>?_,λi j f l m=>?_,λi hi=>?_,λb e=>?_,λb e=>?_,λi b e=>?_,λi hi=>?_⟩
 rotate_right
 .by_cases o:i=k
  .subst o;exact⟨w.heap.size,by simp[Ah],by simp[Ah,H]⟩
  .obtain⟨f,l,m⟩:=h.wd i wB;refine⟨f,by simpa [Ah,o]using l,?_⟩;rw[show Ah ct w.heap.size ⟨(List.range n).map Af,false,false,0⟩ f=ct f from ru (λe=>by have:=h.nmT i f l;rw[e,q]at this;simp at this)];exact m
 .rw[HY wB];exact h.off j D
 .by_cases e:i=k
  .subst e;rw[lJ r];simp[Ah,VJ]
  .rw[HY wB];simpa [Ah,e]using h.nmv i hi
 .by_cases o:i=k
  .subst o;obtain rfl:w.heap.size=b:=(by simpa [Ah]using e);exact A7
  .exact tag (h.nmT i b (by simpa [Ah,o]using e)) sJ
 .by_cases e1:i=k<;>by_cases e2:j=k
  .omega
  .exfalso;obtain rfl:w.heap.size=f:=(by simpa [Ah,e1]using l);have:=h.nmT j _ (by simpa [Ah,e2]using m);rw[q]at this;simp at this
  .exfalso;obtain rfl:w.heap.size=f:=(by simpa [Ah,e2]using m);have:=h.nmT i _ (by simpa [Ah,e1]using l);rw[q]at this;simp at this
  .exact h.inj i j f (by simpa [Ah,e1]using l) (by simpa [Ah,e2]using m)
 .simpa [Ah,show i≠k by omega]using h.out i wB
 .by_cases e1:b=w.heap.size
  .subst e1;exact⟨Q,Dt J,.inl A7⟩
  .by_cases e2:b=g
   .subst e2;exact⟨N,Nat.lt_of_lt_of_le y F.size,.inr ⟨_,p⟩⟩
   .rw[AV e1,AV e2]at e ⊢;obtain⟨a,c,d⟩:=h.tg b e;exact⟨a,Nat.lt_of_lt_of_le c F.size,d⟩
 .by_cases e1:b=w.heap.size
  .subst e1;rw[show Ah ct w.heap.size ⟨(List.range n).map Af,false,false,0⟩ w.heap.size=⟨(List.range n).map Af,false,false,0⟩from rW rfl];refine⟨_,J,.inr ⟨g,n,?_,?_,by simpa using P,λx E=>?_,p⟩⟩
   .simp
   .have:=(hR.rw wB).keep F (λe=>by have e:g=kb:=e;omega);simpa [Aw,Function.comp_def]using this
   .obtain⟨i,hi,rfl⟩:=List.mem_map.1 E;exact R i (by simpa using hi)
  .have e2:T b=(10,0):=by
    by_cases e2:b=g
    .subst e2;rw[p]at e;simp at e
    .rwa [AV e1,AV e2]at e
   obtain⟨v,a,c⟩:=h.fl b e2;rw[show Ah ct w.heap.size ⟨(List.range n).map Af,false,false,0⟩ b=ct b from ru e1];refine⟨v,F.old a (s e2 sJ),?_⟩;obtain c|⟨C,B,a1,a2,z,A,u⟩:=c
   .exact .inl c
   .exact .inr ⟨C,B,a1,a2.keep F (s u sJ),z,A,tag u sJ⟩
 .by_cases o:i=k
  .subst o;obtain rfl:w.heap.size=b:=(by simpa [Ah]using e);rw[I];exact⟨_,_,_,J⟩
  .have e1:nm i=some b:=(by simpa [Ah,o]using e);exact(h.ln i b e1).keep F (s (h.nmT i b e1) sJ)
theorem Xd {f:Nat->Nat}:∀n:Nat,BP f (List.range n)=IX f n
 |0=>rfl
 |n+1=>by rw[Ui,Xd n];simp only[IX];omega
theorem nC {f:Nat->Nat}{k:Nat}(h:∀i,k<=i->f i=0):∀d:Nat,IX f (k+d)=IX f k
 |0=>rfl
 |d+1=>by show f (k+d)+IX f (k+d)=_;rw[h _ wB,nC h d];omega
theorem zD {f g:Nat->Nat}:∀{n:Nat},(∀i,i<n->f i<=g i)->IX f n<=IX g n
 |0,_=>w_
 |n+1,h=>by
  have a:=zD (n:=n) (f:=f) (g:=g) λi hi=>h i wB
  have b:=h n wB
  simp only[IX];omega
theorem Ii.disk (h:Ii kb base k L G ς ks T nm ct w)(m:k<=16)(l:aU L k<=40):XW T nm [] w:=by
 have j:∀b,∃n,T b=(10,0)->JS w b n:=λb=>by
  by_cases e:T b=(10,0)
  .obtain⟨v,a1,a2⟩:=h.fl b e;obtain⟨rfl,_⟩|⟨g,c,rfl,_⟩:=a2
   .exact⟨0,λ_=>⟨_,_,_,a1⟩⟩
   .exact⟨_,λ_=>⟨_,_,_,a1⟩⟩
  .exact⟨0,λh=>qx h e⟩
 obtain⟨a,d⟩:=Classical.axiomOfChoice j;refine⟨a,d,?_⟩;show BP (PO a nm) (List.range 16)+0<=40;rw[Xd];have e1:=nC (f:=PO a nm) (k:=k) (λi hi=>Py (h.out i hi)) (16-k);rw[show k+(16-k)=16 by omega]at e1;have e2:=zD (n:=k) (f:=PO a nm) (g:=λi=>Aj (L i)) λi _=>by
  unfold PO
  cases hi:nm i with
  |none=>exact Nat.zero_le _
  |some f=>simp only;rw[(d f (h.nmT i f hi)).eq (h.ln i f hi)];exact w_
 unfold aU at l;omega
def Nr (kb cb sb g pb ib fb:Nat)(T:Tag):Tag:=Bi (Bi (Bi (Bi (Bi (Bi (Bi T kb (1,0)) cb (2,0)) sb (3,0)) g (4,0)) pb (6,pb)) ib (7,pb)) fb (8,pb)
def Oe (kb cb sb g c pb ib fb C:Nat)(l:List (W_))(nm:Nat->d_ Nat)(T:Tag)(ct:Nat->Ct)(Af:List Nat):KS:=
 { kb:=kb,cg:=cb,cc:=1,sg:=sb,sc:=1,pg:=g,pc:=c,BG:=1,core:=[(0,C)],swap:=l,Ar:=[pb],nl:=[],desc:=λ_=>0,op:=λ_=>0,nm:=nm,ef:=λ_=>none,ps:=CY (λ_=>none) pb (EI ib fb Af),T:=Nr kb cb sb g pb ib fb T,ct:=ct,tv:=λ_=>.nilIface}
section
variable {kb base k cb sb g c pb ib fb C M:Nat}{L:Nat->Nat}{G:Nat->List Nat}{ς ks ks':X_}{T:Tag}{nm:Nat->d_ Nat}{ct:Nat->Ct}{w w0:o_}{l:List (W_)}{Af:List Nat}
theorem AY.fresh (hF:Ii kb base k L G ς ks T nm ct w0)(hkL:k<=16)(hfs:aU L k<=40)(hK:Aa (fun b=>b=kb\/b=sb\/b=pb) w0 w)(hk:w.heap[kb]?=some (N_ ks' 114))(k0:ks'[0]?=some (P_ cb 1 1))(k1:ks'[1]?=some (P_ sb l.length 1))(k2:ks'[2]?=some (P_ g 1 c))(k3:ks'[3]?=some (b_ 1))(kn:∀i,i<16->ks'[4+i]?=ks[4+i]?)(k20:ks'[20]?=some (.slice none 0 0))(ke:∀i,i<20->ks'[21+i*2]?=some .nilIface/\ks'[21+i*2+1]?=some (b_ 0))
  (mc:Mp 186 w cb 1 [(0,C)]) (ms:Mp 188 w sb 1 l) (pr:Rw 119 1 w g 1 c (Ce [pb])) (hp:w.heap[pb]?=some (EI ib fb Af).obj) (hi:Rw 123 1 w ib Af.length Af.length (Aw Af)) (hf:Rw 3 1 w fb 6 6 (FW [-1,-1,-1,-1,-1,-1])) (tkb:kb<base) (tsb:sb<base) (tcb:cb<base) (tz:T g=(0,0)/\T pb=(0,0)/\T ib=(0,0)/\T fb=(0,0)):AY (Oe kb cb sb g c pb ib fb C l nm T ct Af) w:=by
 have low:∀{x},x<base->T x=(0,0):=fun {x} X=>by
  cases Decidable.em (T x=(0,0))with
  |inl e=>exact e
  |inr e=>have:=(hF.tg _ e).1;omega
 obtain⟨tg,tp,ti,tf⟩:=tz;obtain⟨_,q,_⟩:=mc.blk;obtain⟨_,s,_⟩:=ms.blk;obtain⟨_,u,_⟩:=pr.blk;obtain⟨_,z,_⟩:=hi.blk;obtain⟨_,A,_⟩:=hf.blk;have n1:kb≠cb:=Cj hk q sN;have n2:kb≠sb:=Cj hk s sN;have n3:kb≠g:=Cj hk u sN;have n4:kb≠pb:=Cj hk hp sN;have n5:kb≠ib:=Cj hk z sN;have n6:kb≠fb:=Cj hk A sN;have n7:cb≠sb:=Cj q s sN;have n8:cb≠g:=Cj q u sN;have n9:cb≠pb:=Cj q hp sN;have B:cb≠ib:=Cj q z sN;have D:cb≠fb:=Cj q A sN;have E:sb≠g:=Cj s u sN;have F:sb≠pb:=Cj s hp sN;have H:sb≠ib:=Cj s z sN;have I:sb≠fb:=Cj s A sN;have J:g≠pb:=Cj u hp sN;have K:g≠ib:=Cj u z sN;have M:g≠fb:=Cj u A sN;have N:pb≠ib:=Cj hp z sN;have O:pb≠fb:=Cj hp A sN;have P:ib≠fb:=Cj z A sN;have Y:Nr kb cb sb g pb ib fb T kb=(1,0):=by simp[Nr,Bi,n1,n2,n3,n4,n5,n6]
 have Z:Nr kb cb sb g pb ib fb T cb=(2,0):=by simp[Nr,Bi,n7,n8,n9,B,D]
 have t3:Nr kb cb sb g pb ib fb T sb=(3,0):=by simp[Nr,Bi,E,F,H,I]
 have t4:Nr kb cb sb g pb ib fb T g=(4,0):=by simp[Nr,Bi,J,K,M]
 have t6:Nr kb cb sb g pb ib fb T pb=(6,pb):=by simp[Nr,Bi,N,O]
 have t7:Nr kb cb sb g pb ib fb T ib=(7,pb):=by simp[Nr,Bi,P]
 have t8:Nr kb cb sb g pb ib fb T fb=(8,pb):=by simp[Nr,Bi]
 have tag:∀{b t},T b=t->t≠(0,0)->Nr kb cb sb g pb ib fb T b=t:=fun {b t} j o=>by
  have ne:∀{x},T x=(0,0)->b≠x:=λX e=>by subst e;exact o (j.symm.trans X)
  unfold Nr
  rw[AV (ne tf),AV (ne ti),AV (ne tp),AV (ne tg),AV (ne (low tsb)),AV (ne (low tcb)),AV (ne (low tkb))]
  exact j
 have m:∀{b t},Nr kb cb sb g pb ib fb T b=t->9<=t.1->T b=t:=fun {b t} j o=>by
  by_cases e1:b=fb
  .subst e1;rw[t8]at j;subst j;simp at o
  by_cases e2:b=ib
  .subst e2;rw[t7]at j;subst j;simp at o
  by_cases e3:b=pb
  .subst e3;rw[t6]at j;subst j;simp at o
  by_cases e4:b=g
  .subst e4;rw[t4]at j;subst j;simp at o
  by_cases U:b=sb
  .subst U;rw[t3]at j;subst j;simp at o
  by_cases V:b=cb
  .subst V;rw[Z]at j;subst j;simp at o
  by_cases W:b=kb
  .subst W;rw[Y]at j;subst j;simp at o
  unfold Nr at j
  rwa [AV e1,AV e2,AV e3,AV e4,AV U,AV V,AV W]at j
 have p:∀{b t},T b=t->t≠(0,0)->¬t=(10,0)->(∀f,¬t=(15,f))->False:=fun {b t} j o h3 h4=>by
  obtain e|⟨f,e⟩:=(hF.tg b (by rw[j];exact o)).2.2
  .exact h3 (j.symm.trans e)
  .exact h4 f (j.symm.trans e)
 have Q:∀{b t},T b=t->t≠(0,0)->¬(b=kb\/b=sb\/b=pb):=fun {b t} j o e=>by
  obtain rfl|rfl|rfl:=e
  .exact o (j.symm.trans (low tkb))
  .exact o (j.symm.trans (low tsb))
  .exact o (j.symm.trans tp)
 refine⟨⟨ks',hk,⟨k0,k1,k2,k3,λi hi=>⟨(kn i hi).trans (hF.nmv i hi),λb e=>tag (hF.nmT i b e) sJ⟩,⟨_,k20,.inl ⟨rfl,rfl⟩,λ_ h=>by cases h⟩,λi hi=>⟨(ke i hi).1,(ke i hi).2,rfl,λh=>qx h (by simp[Oe])⟩⟩⟩,mc,ms,pr,λb r e=>?_,⟨λb e=>?_,λb e=>?_,λb f e=>?_,λb e=>?_,λb e=>?_⟩,Y,Z,t3,t4,λb hb=>?_,(hF.disk hkL hfs).to λb n e=>⟨m e sJ,λhl=>hl.keep hK (Q (m e sJ) sJ)⟩⟩
 .have e:CY (λ_=>none) pb (EI ib fb Af) b=some r:=e;by_cases S:b=pb
  .subst S;rw[Ag]at e;cases e;exact⟨t6,hp,λ_=>⟨ib,Af.length,rfl,hi,t7⟩,λ_=>⟨fb,6,rfl,hf,t8⟩,.inl rfl,λh=>by cases h⟩
  .rw[BB S]at e;cases e
 .have e:=m e sJ;obtain⟨v,a,d⟩:=hF.fl b e;refine⟨v,hK.old a (Q e sJ),?_⟩;obtain d|⟨x,y,a1,a2,a3,a4,R⟩:=d
  .exact .inl d
  .exact .inr ⟨x,y,a1,a2.keep hK (Q R sJ),a3,a4,tag R sJ⟩
 .exact(p (m e sJ) sJ sJ sJ).elim
 .exact(p (m e sJ) sJ sJ sJ).elim
 .exact(p (m e sJ) sJ sJ sJ).elim
 .exact(p (m e sJ) sJ sJ sJ).elim
 .have l0:=Dt hk;have l1:=Dt q;have l2:=Dt s;have l3:=Dt u;have l4:=Dt z;have l5:=Dt A;have l6:=Dt hp;show Nr kb cb sb g pb ib fb T b=(0,0);unfold Nr;rw[AV wB,AV wB,AV wB,AV wB,AV wB,AV wB,AV wB];cases Decidable.em (T b=(0,0))with
  |inl e=>exact e
  |inr e=>have:=(hF.tg _ e).2.1;have:=hK.size;omega
theorem DU.fresh (hC:16<=C/\C<=64)(B:M<=256)(hi:∃q,Af.length=8*q/\1<=q/\q<=16)(A:∀x∈Af,x<65536)(y:Aj Af.length<=M)(z:l=(Aq [(0,M)] (Aj Af.length)).2)(inj:∀i j f,nm i=some f->nm j=some f->i=j):DU C M (Oe kb cb sb g c pb ib fb C l nm T ct Af):=by
 obtain⟨q,q1,u,v⟩:=hi;have p:1<=Aj Af.length:=by rw[q1];unfold Aj;omega
 have hq:Aj Af.length=q:=by rw[q1];unfold Aj;omega
 have get:∀{b r},(Oe kb cb sb g c pb ib fb C l nm T ct Af).ps b=some r->b=pb/\r=EI ib fb Af:=fun {b r} e=>by
  have e:CY (λ_=>none) pb (EI ib fb Af) b=some r:=e
  by_cases o:b=pb
  .subst o;rw[Ag]at e;cases e;exact⟨rfl,rfl⟩
  .rw[BB o]at e;cases e
 have a:(Oe kb cb sb g c pb ib fb C l nm T ct Af).ps pb=some (EI ib fb Af):=by simp[Oe,CY]
 have k:l=if M=Aj Af.length then[]else[(Aj Af.length,M-Aj Af.length)]:=by rw[z,take_one p y]
 refine⟨λb hb=>?_,by simp[Oe],by simp[Oe],⟨wB,?_,by simp[Oe,ay],Nat.zero_le _,λi hi=>?_,λb r e=>?_⟩,⟨wB,?_,by rw[show(Oe kb cb sb g c pb ib fb C l nm T ct Af).swap=l from rfl,k];split<;>simp[ay],Nat.zero_le _,λi hi=>?_,λb r e=>?_⟩,λb r e=>?_,λb r e=>?_,by simp[Oe],by simp[Oe],?_⟩
 .obtain rfl:b=pb:=by simpa [Oe]using hb
  exact⟨_,a⟩
 .intro r d;obtain rfl:r=(0,C):=by simpa [Oe]using d
  simp;omega
 .show Ed i [(0,C)]+BP (Gf i _) [pb]+_=1;simp only[Ed,BP];rw[Es a,uT (Nat.zero_le _) wB,TV];simp[EI]
 .obtain⟨rfl,rfl⟩:=get e;exact⟨by show Af.length<=128;omega,.inl rfl⟩
 .intro r d;have d:r∈l:=d;rw[k]at d;split at d
  .cases d
  .obtain rfl:r=(Aj Af.length,M-Aj Af.length):=(by simpa using d);simp;omega
 .show Ed i l+BP (Nw i _) [pb]+_=1;simp only[BP];rw[Jh a,TV];show Ed i l+(O6 i 0 (Aj Af.length)+0)+0=1;rw[k];split
  .simp only[Ed];unfold O6;split<;>omega
  .simp only[Ed];unfold O6;repeat' split
   all_goals omega
 .obtain⟨rfl,rfl⟩:=get e;show 0+Aj Af.length<=M;omega
 .obtain⟨rfl,rfl⟩:=get e;refine⟨by simp[EI],by simp[EI],by simp[EI],by simp[EI],by simp[EI],by simp[EI],A,λ_=>rfl,λn y=>.inl (by simpa [EI]using y),λ_=>⟨q,q1,u,v⟩,λh=>by cases h⟩
 .obtain⟨rfl,rfl⟩:=get e;simp[EI,Oe]
 .have m:∀i,BR (Oe kb cb sb g c pb ib fb C l nm T ct Af).ps [pb] i=0:=λi=>by
   unfold BR
   simp only[BP]
   rw[Ht a]
   have:(EI ib fb Af).fds.count (i:Int)=0:=by
    rw[List.count_eq_zero]
    intro h
    simp[EI]at h
   omega
  refine⟨λi _=>(m i).symm,λi _=>by rw[show(Oe kb cb sb g c pb ib fb C l nm T ct Af).Ar=[pb]from rfl,m];omega,λf=>?_,by simp[Oe],(λf t=>by simp[Oe]at t),λi j f _ _=>inj i j f,λi f _ _ h=>by simp[Oe]at h⟩;have:DK (λ_=>0) (λ_=>none) f=0:=by
   cases m:DK (λ_=>0) (λ_=>none) f with
   |zero=>rfl
   |succ n=>
    obtain⟨i,_,s⟩:=QU (f:=λi=>if 0<(λ_:Nat=>0) i/\(λ_:Nat=>(none:d_ Nat)) i=some f then 1 else 0) (l:=List.range 20) (by unfold DK at m;omega)
    simp at s
  exact this.symm
end
def valOf:Result n_->n_
 |.ok x _=>x
 |_=>undef
def Pj (cb sb:Nat):X_:=#[P_ cb 1 1,P_ sb 1 1,.slice none 0 0,b_ 0,.pointer none,.pointer none,.pointer none,.pointer none,.pointer none,.pointer none,.pointer none,.pointer none,.pointer none,.pointer none,.pointer none,.pointer none,.pointer none,.pointer none,.pointer none,.pointer none,.slice none 0 0,.nilIface,b_ 0,.nilIface,b_ 0,.nilIface,b_ 0,.nilIface,b_ 0,.nilIface,b_ 0,.nilIface,b_ 0,.nilIface,b_ 0,.nilIface,b_ 0,.nilIface,b_ 0,.nilIface,b_ 0,.nilIface,b_ 0,.nilIface,b_ 0,.nilIface,b_ 0,.nilIface,b_ 0,.nilIface,b_ 0,.nilIface,b_ 0,.nilIface,b_ 0,.nilIface,b_ 0,.nilIface,b_ 0,.nilIface,b_ 0]
section
variable (m:Nat)(w:o_)
theorem yC {ib fb L:Nat}:∃x,(Instr.build 128 #[(5,.agg #[a_ 0,a_ 0,a_ 0,P_ ib L L]),(6,P_ fb 6 6)]).run prog w=.ok x w/\x.cells=lZ ib L fb:=
 ⟨valOf ((Instr.build 128 #[(5,.agg #[a_ 0,a_ 0,a_ 0,P_ ib L L]),(6,P_ fb 6 6)]).run prog w),sU,sU⟩
end
def dc6 (base C:Nat)(_i:Nat)(v:n_)(W:o_):Prop:=∃cb,base<=cb/\v=.agg #[P_ cb 1 1]/\W.heap[cb]?=some (N_ #[b_ 0,b_ C] 186)
def af1 (base n N8:Nat)(Af:Nat->Nat):Nat->n_->o_->Prop
 |3,v,W=>∃ab,v=.slice (some (R_ ab)) n n/\FO 123 .u16 W ab n (λj=>Af j)
 |7,v,_=>v=.int .i64 (Aj n)
 |8,v,W=>∃ib,base<=ib/\v=.slice (some (R_ ib)) N8 N8/\FO 123 .u16 W ib N8 (λj=>PY n Af j)
 |9,v,W=>∃ib,base<=ib/\v=.agg #[.int .u16 0,.int .u16 0,.int .u16 0,.slice (some (R_ ib)) N8 N8]/\FO 123 .u16 W ib N8 (λj=>PY n Af j)
 |10,v,W=>∃vb,v=.slice (some (R_ vb)) 1 1/\W.heap[vb]?=some (N_ #[.int .i64 (-1)] 3)
 |11,v,W=>∃fb,base<=fb/\v=.slice (some (R_ fb)) 6 6/\FO 3 .i64 W fb 6 (λ_=>-1)
 |12,v,W=>∃ib fb,base<=ib/\base<=fb/\v=.agg (lZ ib N8 fb)/\FO 123 .u16 W ib N8 (λj=>PY n Af j)/\FO 3 .i64 W fb 6 (λ_=>-1)
 |13,v,W=>∃pb ib fb,base<=pb/\base<=ib/\base<=fb/\v=Q_ pb/\W.heap[pb]?=some (N_ (lZ ib N8 fb) 128)/\FO 123 .u16 W ib N8 (λj=>PY n Af j)/\FO 3 .i64 W fb 6 (λ_=>-1)
 |_,_,_=>True
theorem af1.keep {o:Nat}(i:Nat)(hi:i∈[3,7,8,9,10,11,12,13])(v:n_)(W q:o_)(h:af1 base n o Af i v W)(m:Aa No W q):af1 base n o Af i v q:=by
 obtain rfl|rfl|rfl|rfl|rfl|rfl|rfl|rfl:=(by simpa using hi:i=3\/i=7\/i=8\/i=9\/i=10\/i=11\/i=12\/i=13)
 .obtain⟨e,c,d⟩:=h;exact⟨e,c,d.keep m id⟩
 .exact h
 .obtain⟨e,c,d,f⟩:=h;exact⟨e,c,d,f.keep m id⟩
 .obtain⟨e,c,d,f⟩:=h;exact⟨e,c,d,f.keep m id⟩
 .obtain⟨e,c,d⟩:=h;exact⟨e,c,m.old d id⟩
 .obtain⟨e,c,d,f⟩:=h;exact⟨e,c,d,f.keep m id⟩
 .obtain⟨a,b,c,d,f,g,j⟩:=h;exact⟨a,b,c,d,f,g.keep m id,j.keep m id⟩
 .obtain⟨p,a,b,k,c,d,f,g,j,l⟩:=h;exact⟨p,a,b,k,c,d,f,m.old g id,j.keep m id,l.keep m id⟩
def bq2 (kb base k:Nat)(L:Nat->Nat)(G:Nat->List Nat)(ς:X_)(w wr:o_):Prop:=∃T nm ct ks,Ii kb base k L G ς ks T nm ct wr/\Aa (At kb) w wr
def dc5 (base n:Nat)(Af:Nat->Nat)(_i:Nat)(v:n_)(W:o_):Prop:=∃g,base<=g/\v=P_ g n n/\FO 123 .u16 W g n (λj=>Af j)
theorem bh6 {cb sb:Nat}(i:Nat)(hi:i<20):(Pj cb sb)[21+i*2]?=some .nilIface/\(Pj cb sb)[21+i*2+1]?=some (b_ 0):=by
 have:i=0\/i=1\/i=2\/i=3\/i=4\/i=5\/i=6\/i=7\/i=8\/i=9\/i=10\/i=11\/i=12\/i=13\/i=14\/i=15\/i=16\/i=17\/i=18\/i=19:=wB
 obtain rfl|rfl|rfl|rfl|rfl|rfl|rfl|rfl|rfl|rfl|rfl|rfl|rfl|rfl|rfl|rfl|rfl|rfl|rfl|rfl:=this<;>exact⟨rfl,rfl⟩
def ay6 (K:KS)(b M L:Nat):Prop:=K.BG=1/\K.swap=(Aq [(0,M)] (Aj L)).2/\K.nl=[]/\(∀i,K.desc i=0)/\(∀i,K.op i=0)/\∀k,k≠b->K.ps k=none
def bs4 (ff:Nat->n_×Nat×(Nat->Int))(i:Nat):List Nat:=(List.range (ff i).2.1).map λj=>((ff i).2.2 j).toNat
def ay7 (K:KS)(C nf:Nat)(ff:Nat->n_×Nat×(Nat->Int)):Prop:=K.core=[(0,C)]/\(∀i,K.tv i=.nilIface/\K.ef i=none)/\JF nf ff/\(∀i,i<nf->∃f,K.nm i=some f/\K.ct f=⟨bs4 ff i,false,false,0⟩)/\∀i,nf<=i->K.nm i=none
def jL (core swap:Int)(n nf:Nat)(f:Nat->Int)(ff:Nat->n_×Nat×(Nat->Int))(w:o_)(e:Ending)(w':o_):Prop:=
 Aa No w w'/\((e=.returned (.tuple #[.pointer none,b_ 1])/\(JF nf ff->¬UL core swap n f))\/∃K b ib fb C M,e=.returned (.tuple #[ptr K.kb,b_ 0])/\AY K w'/\DU C M K/\K.Ar=[b]/\K.ps b=some (EI ib fb (iE n (8*Aj n) λi=>(f i).toNat))/\(∀k,K.T k≠(0,0)->w.heap.size<=k)/\core=(C:Nat)/\swap=(M:Nat)/\16<=C/\ay6 K b M (8*Aj n)/\UL core swap n f/\ay7 K C nf ff)
section
variable (m:Nat)(w:o_)
theorem ni (v:n_)(n:Nat)(f:Nat->Int)(h:SlI w v n f)(p:Words n f)(q:n<=128):O_ m 45 #[v] w λe w'=>Aa No w w'/\e=.returned (P_ w.heap.size n n)/\FO 123 .u16 w' w.heap.size n (λi=>((f i).toNat:Nat)):=by
 obtain⟨_,s,c,rfl,l⟩:=h;by_cases a:n=0
 .subst a;refine(oZ m w s c).mono ?_;rintro e w' ⟨d,g,j⟩;exact⟨d,g,j.ext λi hi=>qx hi wB⟩
 .obtain⟨b,o,rfl,k⟩:=l wB;refine aZ m w b o n c (λi=>(f i).toNat) (λi hi=>?_) (λi hi=>?_) wB q
  .rw[k i hi];have:=p i hi;rw[show((f i).toNat:Int)=f i by omega]
  .have:=p i hi;omega
theorem Yq (core swap:Int)(v fv:n_)(n nf:Nat)(f:Nat->Int)(ff:Nat->n_×Nat×(Nat->Int))(h:aJ w v n f)(hF:Pg w fv nf ff):O_ m 14 #[.agg #[b_ core,b_ swap,v,fv]] w (jL core swap n nf f ff w):=by
 obtain⟨⟨s,c,rfl⟩,hS⟩:=id h;obtain⟨fa,fc,rfl,hFs⟩:=id hF;have K1:Aa No w (w.alloc (.cells #[b_ core,b_ swap,.slice s n c,.slice fa nf fc] 25)):=(Aa.refl _ _).alloc _;have JU:(w.alloc (.cells #[b_ core,b_ swap,.slice s n c,.slice fa nf fc] 25)).heap[w.heap.size]?=some (N_ #[b_ core,b_ swap,.slice s n c,.slice fa nf fc] 25):=Yw rfl;gi_enter func14,ntmps14;gi_wp2_with fail;refine(bg9 _ (w.alloc (.cells #[b_ core,b_ swap,.slice s n c,.slice fa nf fc] 25)) core swap _ _ n nf f ff (h.kp K1) (hF.kp K1)).mono ?_;rintro e w1 ⟨K2,r,rfl,Ia,X⟩;have b2:=K2.old JU id;have Kw1:Aa No w w1:=K1.then K2;clear JU h hF K1 K2;cases r
 case false=>
  have hno:JF nf ff->¬UL core swap n f:=λh1 h2=>by have:=X h1 h2;cases this
  clear Ia X
  gi_wp2
  go_ret2
  exact⟨Kw1,.inl ⟨sJ,hno⟩⟩
 obtain⟨hm,hnf,z,hfs⟩:=Ia rfl;have hFO:JF nf ff:=⟨hnf,z,hfs⟩;clear Ia X;obtain⟨⟨m1,m2,m3,m4⟩,⟨m5,m6,m7⟩,m8⟩:=id hm;obtain⟨C,rfl⟩:∃C:Nat,core=C:=⟨core.toNat,wB⟩;obtain⟨M,rfl⟩:∃M:Nat,swap=M:=⟨swap.toNat,wB⟩;have hSl:=hS m6;clear hS;generalize O:8*Aj n=d;have c0:w1.cell? (R_ w.heap.size)=some (b_ C):=bce b2 rfl;have c1:w1.cell? (S_ w.heap.size 1)=some (b_ M):=bce b2 rfl;gi_wp2;refine DI (P:=prog) No _ rfl rfl sU 5 50 [0,1,3,4] [2] sU (by rfl) (dc6 w.heap.size C)
  (λ_ _ _ _ _ h a=>let ⟨cb,q1,q2,p⟩:=h;⟨cb,q1,q2,a.old p id⟩) _ _ rfl rfl ?_;gi_wp2;refine⟨rfl,sU,?_,?_,?_⟩
 .intro W a;have d0:=a.has (w:=w1.drew) c0;have d1:=a.has (w:=w1.drew) c1
  repeat' (refine AA ?_ ?_)
  all_goals first|exact dE|gi_wp2
 .intro i hi u W a t;obtain rfl:i=2:=by simpa using hi
  refine BI rfl λKK G=>?_
  show wpListIn NF m prog _ _ _ (Act.put _ (some 12) (u 2)) _;gi_wp2_with fail;refine(xE _ W C wB).mono ?_;rintro e w2 ⟨k2,cb,q1,rfl,p⟩;gi_wp2;exact⟨_,rfl,k2,cb,lN (lN Kw1.size a.size) q1,rfl,p⟩
 intro u W a t;obtain⟨cb,q1,q2,p⟩:=t 2 sJ;show wpListIn NF m prog _ _ _ (Act.put _ (some 12) (u 2)) _;rw[q2];have KW:Aa No w W:=Kw1.drew.then a;have b3:=a.old (heap_drew.trans b2) id;clear a t q2 c0 c1;gi_wp2_with fail;refine(xB _ W M wB).mono ?_;rintro e w2 ⟨k2,sb,q4,rfl,B⟩;have sG:=KW.then k2;have p:=k2.old p id;have b4:=k2.old b3 id;have q4:w.heap.size<=sb:=lN KW.size q4;have hal:w2.alloc (.cells (Pj cb sb) 114)=w2.alloc (.cells (Pj cb sb) 114):=rfl
 conv at hal=>lhs;unfold Pj
 clear b3 k2 KW;gi_upto_region 4 with fail;obtain⟨big,D⟩:∃big,big=Value.agg (Pj cb sb):=⟨_,rfl⟩;unfold Pj at D;rw[<-D];clear D;have K3:Aa No w2 (w2.alloc (.cells (Pj cb sb) 114)):=(Aa.refl _ _).alloc _;have E:(w2.alloc (.cells (Pj cb sb) 114)).heap[w2.heap.size]?=some (N_ (Pj cb sb) 114):=Yw rfl;have KW3:=sG.then K3;have b5:=K3.old b4 id;have p:=K3.old p id;have B:=K3.old B id;have hkb:w.heap.size<=w2.heap.size:=sG.size;clear hal b4 K3 sG;generalize w2.alloc (.cells (Pj cb sb) 114)=w3 at*;generalize w2.heap.size=kb at*;have c3:w3.cell? (S_ w.heap.size 3)=some (.slice fa nf fc):=bce b5 rfl;have lk:kb<w3.heap.size:=Dt E;have lc:cb<w3.heap.size:=Dt p;have lS:sb<w3.heap.size:=Dt B;have S:bq2 kb w3.heap.size 0 (λi=>(ff i).2.1) (bs4 ff) (Pj cb sb) w3 w3:=⟨_,_,_,_,Ii.start E (λi hi=>by
  have:i=0\/i=1\/i=2\/i=3\/i=4\/i=5\/i=6\/i=7\/i=8\/i=9\/i=10\/i=11\/i=12\/i=13\/i=14\/i=15:=wB
  obtain rfl|rfl|rfl|rfl|rfl|rfl|rfl|rfl|rfl|rfl|rfl|rfl|rfl|rfl|rfl|rfl:=this<;>rfl),Aa.refl _ _⟩;gi_wp2;gi_loopw [21] (λi wr=>∃k:Nat,k<=nf/\i=b_ k/\bq2 kb w3.heap.size k (λi=>(ff i).2.1) (bs4 ff) (Pj cb sb) w3 wr) (λi _=>nf-(intOf i).toNat)
 case atStart=>exact⟨0,wB,rfl,S⟩
 case round=>
  obtain⟨k,hk,rfl,T,nm,ct,ks,b,KF⟩:=hrel
  have Kwr:Aa No w wr:=KW3.trans KF (λx A e=>qx A (by have e:x=kb:=e;omega))
  have Cm:w3.heap.size<=wr.heap.size:=KF.size
  by_cases BL:k<nf
  .obtain⟨fb',fo,rfl,hcf⟩:=hFs wB;obtain⟨d0,⟨s',c',hv⟩,hI⟩:=hcf k BL;obtain⟨g64,gW⟩:=z k BL;generalize hq:ff k=q at*;obtain⟨v',n',f'⟩:=q;simp only at d0 hv hI g64 gW;subst hv;have d1:=Kwr.has d0;have hS':=(hI wB).keep Kwr;clear S hcf hFs d0 hI;gi_wp2;refine DI (P:=prog) No _ rfl rfl sU 6 50 [0,1,2,3,4] [5] sU (by rfl) (dc5 wr.heap.size n' λi=>(f' i).toNat) (λ_ _ _ _ _ h a=>let ⟨g,q1,q2,p⟩:=h;⟨g,q1,q2,p.keep a id⟩) _ _ rfl rfl ?_;gi_wp2;refine⟨rfl,sU,?_,?_,?_⟩
   .intro W a
    repeat' (refine AA ?_ ?_)
    all_goals first|exact dE|gi_wp2
   .intro i hi u W a t;obtain rfl:i=5:=(by simpa using hi);refine BI rfl λKK G=>?_
    show wpListIn NF m prog _ _ _ (Act.put _ (some 31) (u 5)) _;gi_wp2_with fail;refine(ni _ W _ n' f' (hS'.keep ((Aa.refl No wr).drew.then a)) gW wB).mono ?_;rintro e w4 ⟨Z,rfl,r4⟩;gi_wp2;exact⟨_,rfl,Z,_,a.size,rfl,r4⟩
   intro u W a t;obtain⟨g,Q,R,g3⟩:=t 5 sJ;show wpListIn NF m prog _ _ _ (Act.put _ (some 31) (u 5)) _;rw[R];have KW:Aa No wr W:=(Aa.refl No wr).drew.then a;have o:=b.kp KW;have hnk:ks[4+k]?=some (.pointer none):=(by rw[b.nmv k wB,b.out k wB];rfl);clear a t R hS' d1;gi_wp2_with fail;refine(cl5 _ W kb k ks (some (R_ g)) n' n' o.kh wB hnk).mono ?_;rintro e w4 ⟨rfl,N,V,U⟩;have hgT:T g=(0,0):=by
    cases Decidable.em (T g=(0,0))with
    |inl e=>exact e
    |inr e=>have:=(b.tg _ e).2.1;omega
   have hF4:=o.make (by show(ff k).2.1=n';rw[hq]) (by show(List.range (ff k).2.1).map (λj=>((ff k).2.2 j).toNat)=_;rw[hq]) wB lk (by have:=KW.size;omega) wB hgT g3 g64 (λi hi=>by have:=gW i hi;omega) N V U;gi_wp2;go_roundw
   case rel=>exact⟨k+1,wB,by go_num,_,_,_,_,hF4,(KF.trans KW (λ_ _ e=>e.elim)).trans N (λ_ _ e=>e)⟩
   case measure=>simp[intOf];omega
  obtain rfl:k=nf:=wB
  have b6:=KF.old b5 (λe=>by have e:w.heap.size=kb:=e;exact Cj b5 E sN e);have c2:wr.cell? (S_ w.heap.size 2)=some (.slice s n c):=bce b6 rfl;have p:=KF.old p (λe=>Cj p E sN e);have B:=KF.old B (λe=>Cj B E sN e);clear S hFs b5 c3 z;gi_wp2;refine DI (P:=prog) No _ rfl rfl sU 14 50 [0,1,2,4,5,6] [3,7,8,9,10,11,12,13] sU (by rfl) (af1 wr.heap.size n d (λi=>(f i).toNat)) af1.keep _ _ rfl rfl ?_;gi_wp2;refine⟨rfl,sU,?_,?_,?_⟩
  .intro W a;have d2:=a.has (w:=wr.drew) c2
   repeat' (refine AA ?_ ?_)
   all_goals first|exact dE|gi_wp2
  .intro i hi u W a t;have KW:Aa No wr W:=(Aa.refl No wr).drew.then a;obtain rfl|rfl|rfl|rfl|rfl|rfl|rfl|rfl:=(by simpa using hi:i=3\/i=7\/i=8\/i=9\/i=10\/i=11\/i=12\/i=13)
   .refine BI rfl λKK G=>?_
    show wpListIn NF m prog _ _ _ (Act.put (Act.put (Act.put (Act.put (Act.put (Act.put (Act.put (Act.put _ (some 37) (u 3)) (some 41) (u 7)) (some 42) (u 8)) (some 43) (u 9)) (some 44) (u 10)) (some 45) (u 11)) (some 46) (u 12)) (some 47) (u 13)) _;gi_wp2_with fail;refine(ni _ W _ n f (hSl.keep (Kwr.then KW)) m7 wB).mono ?_;rintro e w4 ⟨Z,rfl,r4⟩;gi_wp2;exact⟨P_ W.heap.size n n,sU,Z,_,rfl,r4⟩
   .refine BI rfl λKK G=>?_
    show wpListIn NF m prog _ _ _ (Act.put (Act.put (Act.put (Act.put (Act.put (Act.put (Act.put (Act.put _ (some 37) (u 3)) (some 41) (u 7)) (some 42) (u 8)) (some 43) (u 9)) (some 44) (u 10)) (some 45) (u 11)) (some 46) (u 12)) (some 47) (u 13)) _;gi_wp2_with fail;refine(Gm _ W n wB).mono ?_;rintro e w4 ⟨rfl,Y⟩;have Y:=Y.symm;subst Y;gi_wp2;exact⟨b_ (Aj n),sU,Aa.refl _ _,rfl⟩
   .obtain⟨ab,e3,r3⟩:=t 3 sJ sN;have e7:=t 7 sJ sN;have e7:u 7=b_ (Aj n):=e7;refine BI rfl λKK G=>?_
    show wpListIn NF m prog _ _ _ (Act.put (Act.put (Act.put (Act.put (Act.put (Act.put (Act.put (Act.put _ (some 37) (u 3)) (some 41) (u 7)) (some 42) (u 8)) (some 43) (u 9)) (some 44) (u 10)) (some 45) (u 11)) (some 46) (u 12)) (some 47) (u 13)) _;rw[e3,e7];gi_wp2_with fail;refine(bT _ W ab n (Aj n) d (λi=>(f i).toNat) r3 O (by unfold Aj at O;omega) (by unfold Aj at O;omega)).mono ?_;rintro e w4 ⟨Z,rfl,r4⟩;gi_wp2;exact⟨P_ W.heap.size d d,by rw[<-e3,<-e7];kernel_rfl,Z,_,KW.size,rfl,r4⟩
   .obtain⟨ib,Q,e8,r8⟩:=t 8 sJ sN;refine BI rfl λKK G=>?_
    show wpListIn NF m prog _ _ _ (Act.put (Act.put (Act.put (Act.put (Act.put (Act.put (Act.put (Act.put _ (some 37) (u 3)) (some 41) (u 7)) (some 42) (u 8)) (some 43) (u 9)) (some 44) (u 10)) (some 45) (u 11)) (some 46) (u 12)) (some 47) (u 13)) _;rw[e8];gi_wp2;exact⟨.agg #[a_ 0,a_ 0,a_ 0,.slice (some (R_ ib)) d d],by rw[<-e8];kernel_rfl,Aa.refl _ _,ib,Q,rfl,r8⟩
   .refine BI rfl λKK G=>?_
    show wpListIn NF m prog _ _ _ (Act.put (Act.put (Act.put (Act.put (Act.put (Act.put (Act.put (Act.put _ (some 37) (u 3)) (some 41) (u 7)) (some 42) (u 8)) (some 43) (u 9)) (some 44) (u 10)) (some 45) (u 11)) (some 46) (u 12)) (some 47) (u 13)) _;gi_wp2;exact⟨P_ W.heap.size 1 1,sU,(Aa.refl _ _).alloc _,_,rfl,Yw rfl⟩
   .obtain⟨vb,e10,r10⟩:=t 10 sJ sN;refine BI rfl λKK G=>?_
    show wpListIn NF m prog _ _ _ (Act.put (Act.put (Act.put (Act.put (Act.put (Act.put (Act.put (Act.put _ (some 37) (u 3)) (some 41) (u 7)) (some 42) (u 8)) (some 43) (u 9)) (some 44) (u 10)) (some 45) (u 11)) (some 46) (u 12)) (some 47) (u 13)) _;rw[e10];gi_wp2_with fail;refine(kE _ W vb r10).mono ?_;rintro e w4 ⟨Z,rfl,r4⟩;gi_wp2;exact⟨P_ W.heap.size 6 6,by rw[<-e10];kernel_rfl,Z,_,KW.size,rfl,r4⟩
   .obtain⟨ib,Q,e9,r9⟩:=t 9 sJ sN;obtain⟨fb,R,e11,r11⟩:=t 11 sJ sN;obtain⟨x,hbx,hxc⟩:=yC W (ib:=ib) (fb:=fb) (L:=d);refine BI rfl λKK G=>?_
    show wpListIn NF m prog _ _ _ (Act.put (Act.put (Act.put (Act.put (Act.put (Act.put (Act.put (Act.put _ (some 37) (u 3)) (some 41) (u 7)) (some 42) (u 8)) (some 43) (u 9)) (some 44) (u 10)) (some 45) (u 11)) (some 46) (u 12)) (some 47) (u 13)) _;rw[e9,e11];gi_wp2;exact⟨.agg #[b_ 0,b_ 0,.bool false,a_ 0,.nilFunc,a_ 0,a_ 0,a_ 0,.slice (some (R_ ib)) d d,.slice (some (R_ fb)) 6 6,b_ 0,b_ 0],by rw[<-e9,<-e11];kernel_rfl,Aa.refl _ _,ib,fb,Q,R,rfl,r9,r11⟩
   .obtain⟨ib,fb,Q,R,H,r1,r2⟩:=t 12 sJ sN;refine BI rfl λKK G=>?_
    show wpListIn NF m prog _ _ _ (Act.put (Act.put (Act.put (Act.put (Act.put (Act.put (Act.put (Act.put _ (some 37) (u 3)) (some 41) (u 7)) (some 42) (u 8)) (some 43) (u 9)) (some 44) (u 10)) (some 45) (u 11)) (some 46) (u 12)) (some 47) (u 13)) _;have H:u 12=.agg #[b_ 0,b_ 0,.bool false,a_ 0,.nilFunc,a_ 0,a_ 0,a_ 0,.slice (some (R_ ib)) d d,.slice (some (R_ fb)) 6 6,b_ 0,b_ 0]:=H;rw[H];gi_wp2;exact⟨Q_ W.heap.size,by rw[<-H];kernel_rfl,(Aa.refl _ _).alloc _,W.heap.size,ib,fb,KW.size,Q,R,rfl,Yw rfl,r1.keep ((Aa.refl No _).alloc _) id,r2.keep ((Aa.refl No _).alloc _) id⟩
  intro u W a t;obtain⟨pb,ib,fb,g0,Q,R,e13,K,r1,r2⟩:=t 13 sJ;show wpListIn NF m prog _ _ _ (Act.put (Act.put (Act.put (Act.put (Act.put (Act.put (Act.put (Act.put _ (some 37) (u 3)) (some 41) (u 7)) (some 42) (u 8)) (some 43) (u 9)) (some 44) (u 10)) (some 45) (u 11)) (some 46) (u 12)) (some 47) (u 13)) _;rw[e13];have KW:Aa No wr W:=(Aa.refl No wr).drew.then a;have I:=a.old (heap_drew.trans b.kh) id;have p:=a.old (heap_drew.trans p) id;have B:=a.old (heap_drew.trans B) id;have hnb:Aj d<=M:=by unfold Aj at O m8 ⊢;omega
  have hL1:1<=d:=by unfold Aj at O;omega
  have hL2:d<=128:=by unfold Aj at O;omega
  have hms:Mp 188 W sb 1 [(0,M)]:=⟨⟨_,B,rfl,rfl⟩,sJ,by unfold maxLen;simp,rfl,by simp[rc,Value.oneCell']⟩;have hmc:Mp 186 W cb 1 [(0,C)]:=⟨⟨_,p,rfl,rfl⟩,sJ,by unfold maxLen;simp,rfl,by simp[rc,Value.oneCell']⟩;have k1:ks[1]?=some (P_ sb 1 1):=(b.off 1 wB).trans rfl;have k2:ks[2]?=some (.slice none 0 0):=(b.off 2 wB).trans rfl;have k3:ks[3]?=some (b_ 0):=(b.off 3 wB).trans rfl;have k0:ks[0]?=some (P_ cb 1 1):=(b.off 0 wB).trans rfl;have J:∀x,wr.heap.size<=x->T x=(0,0):=λx A=>by
   cases Decidable.em (T x=(0,0))with
   |inl e=>exact e
   |inr e=>have:=(b.tg _ e).2.1;omega
  have o:=b.kp KW;clear a t c2 b;gi_wp2_with fail;refine(by9 _ W kb pb sb 1 M ib d fb ks K I k1 k2 k3 hms hnb hL1 hL2 wB).mono ?_;rintro e w4 ⟨rfl,N,hp4,g,cg,hg,V,ms4,pr4⟩;gi_wp2;go_ret2;have y:(iE n d λi=>(f i).toNat).length=d:=by simp[iE]
  have KZ:Aa No w w4:=(Kwr.then KW).trans N (λx A e=>qx A (by have:=Kwr.size;obtain e|e|e:=e<;>omega));have tik:ib≠kb:=by obtain⟨_,F,_⟩:=id r1;exact Cj F I sN
  have tis:ib≠sb:=by obtain⟨_,F,_⟩:=id r1;exact Cj F B sN
  have tip:ib≠pb:=by obtain⟨_,F,_⟩:=id r1;exact Cj F K sN
  have tfk:fb≠kb:=by obtain⟨_,F,_⟩:=id r2;exact Cj F I sN
  have tfs:fb≠sb:=by obtain⟨_,F,_⟩:=id r2;exact Cj F B sN
  have tfp:fb≠pb:=by obtain⟨_,F,_⟩:=id r2;exact Cj F K sN
  have tck:cb≠kb:=Cj p I sN;have tcs:cb≠sb:=Cj p B sN;have tcp:cb≠pb:=Cj p K sN;have hi4:Rw 123 1 w4 ib d d (Aw (iE n d λi=>(f i).toNat)):=by
   have:=(r1.rw wB).keep N (by rintro(e|e|e)<;>contradiction)
   simpa [Aw,iE,Function.comp_def]using this
  have U:Rw 3 1 w4 fb 6 6 (FW [-1,-1,-1,-1,-1,-1]):=(r2.rw wB).keep N (by rintro(e|e|e)<;>contradiction);have hk5:=AY.fresh (k:=k) (C:=C) (Af:=iE n d λi=>(f i).toNat) (c:=cg) (g:=g) (cb:=cb) (l:=(Aq [(0,M)] (Aj d)).2) o wB hfs N V
   (by rw[BN sN,BN sN,BN sN];exact k0) (by rw[BN sN,BN sN];exact Rz k1) (Rz (by rw[BN sN,BN sN];exact k2)) (by rw[BN sN];exact Rz (by rw[BN sN];exact k3))
   (λi hi=>by rw[BN wB,BN wB,BN wB]) (by rw[BN sN,BN sN,BN sN];exact(o.off 20 wB).trans rfl)
   (λi hi=>by rw[BN wB,BN wB,BN wB,BN wB,BN wB,BN wB,o.off _ wB,o.off _ wB];exact bh6 i hi)
   (Rw.keep hmc N (by rintro(e|e|e)<;>contradiction)) ms4 pr4 (hp4 _ y) (by rw[y];exact hi4) U lk lS lc ⟨J g (by have:=KW.size;omega),J pb wB,J ib wB,J fb wB⟩;have F8:=DU.fresh (ct:=ct) (kb:=kb) (cb:=cb) (sb:=sb) (g:=g) (c:=cg) (pb:=pb) (ib:=ib) (fb:=fb) (C:=C) (M:=M) (T:=T) (Af:=iE n d λi=>(f i).toNat) (l:=(Aq [(0,M)] (Aj d)).2) ⟨wB,wB⟩ wB ⟨Aj n,by rw[y];exact O.symm,by unfold Aj;omega,by unfold Aj;omega⟩ (λx A=>by
   obtain⟨i,_,rfl⟩:=List.mem_map.1 A
   unfold PY
   split
   .rename_i hi;have:=m7 i hi;show(f i).toNat<65536;omega
   .omega) (by rw[y];exact hnb) (by rw[y]) o.inj
  subst O;refine⟨KZ,.inr ⟨_,pb,ib,fb,C,M,by simp[Oe,ptr],hk5,F8,rfl,by simp[Oe,CY],λx A=>?_,rfl,rfl,wB,⟨rfl,rfl,rfl,λ_=>rfl,λ_=>rfl,λk hk=>(BB hk:CY (λ_=>none) pb _ k=none)⟩,hm,rfl,λ_=>⟨rfl,rfl⟩,hFO,o.wd,o.out⟩⟩;have hWs:=KW.size;have A:Nr kb cb sb g pb ib fb T x≠(0,0):=A;by_cases e1:x=fb
  .omega
  by_cases e2:x=ib
  .omega
  by_cases e3:x=pb
  .omega
  by_cases e4:x=g
  .omega
  by_cases e5:x=sb
  .omega
  by_cases e6:x=cb
  .omega
  by_cases e7:x=kb
  .omega
  unfold Nr at A;rw[AV e1,AV e2,AV e3,AV e4,AV e5,AV e6,AV e7]at A;have:=(o.tg x A).1;omega
end
def ag (Od:Old)(P:l_)(x:Frame×Z_)(v:o_)(Q:Frame×Z_->o_->Prop):Prop:=
 ∀(Z:Nat->Prop)(Ad:Loc->Prop)(B:Nat)(gs:Array m_)(w:o_)(sl:d_ (W_))(t:Trace),Gx Ad Z->Y7 Od P Ad Z B v gs w t->gs[0]?=some (BO x)->
  NG P gs w sl t λBA w' t'=>∃Z' Po B' y v',Gx Po Z'/\Y7 Od P Po Z' B' v' BA w' t'/\BA[0]?=some (BO y)/\Q y v'
section
variable {P:l_}{x:Frame×Z_}{v:o_}{Q R:Frame×Z_->o_->Prop}
theorem ag.now (h:Q x v):ag Od P x v Q:=λZ a B _ _ _ _ d b c=>.now ⟨Z,a,B,x,v,d,b,c,h⟩
theorem Y7.re {Ad:Loc->Prop}{Z:Nat->Prop}{B:Nat}{gs:Array m_}{t:Trace}(h:Y7 Od P Ad Z B v gs w t)(τ:Nat->Question->Nat)(d:Nat):Y7 Od P Ad Z B (v.re τ d) gs w t:=
 let ⟨q,T,hZ,h3⟩:=h;⟨q,T.TP τ w.tape d w.drawn,hZ,h3⟩
theorem ag.re {τ:Nat->Question->Nat}{d:Nat}(h:ag Od P x (v.re τ d) Q):ag Od P x v Q:=λZ a B c w sl t f b e=>h Z a B c w sl t f (b.re τ d) e
theorem ag.AU (h:AU P n x=some [])(k:ag Od P (run P n x) v Q):ag Od P x v Q:=λZ a B _ _ _ _ g c e=>
 (c.Uz e (DT h)).then λb j d i _ ⟨f,Bs1,_⟩=>k Z a B b j d i g Bs1 f
theorem ag.step {y:Frame×Z_}(h:RX P x=some y)(k:ag Od P y v Q):ag Od P x v Q:=λZ a B _ _ _ _ g c e=>
 (c.Uz (k:=1) e ⟨rfl,BO y,λw _=>quiet_step h w,rfl⟩).then λb j d i _ ⟨f,Bs1,_⟩=>k Z a B b j d i g Bs1 f
theorem ag.reads {N:U_}{K:List f_}{y:n_}(O:G6 P x N=some (K,y))(M:Cells v K N)(k:ag Od P (BK x y) v Q):ag Od P x v Q:=λZ n B u w sl t r s A=>by
 obtain⟨q,T,E,hL,D,hB⟩:=s;obtain⟨G,i⟩:=Qk T M;have c:AX P u w sl t λf m l=>f[0]?=some (BO (BK x y))/\Y7 Od P n Z B v f m l:=by
  refine go_mute Qg A rfl hL D λd I h=>⟨_,_,_,ZF O (w:=w.at d) (Qk (T.TP v.tape w.tape v.drawn d) M).1,λf H _ z g o=>.now ⟨z,H,T.TP v.tape w.tape v.drawn d,E,g,h.own λe p=>?_,hB⟩⟩
  simp only[Ig,eu,List.mem_map]at p
  obtain⟨a,F,rfl⟩:=p
  obtain⟨z1,J⟩:=i a F
  refine⟨λb hb j=>?_,sJ,sJ,?_⟩
  .obtain rfl:=x_ hb;exact(z1 (r.1 _ j)).elim
  .show a.block<B;omega
 exact c.then λf m o l _ ⟨C,Bs1⟩=>k Z n B f m o l r Bs1 C
end
section
variable {EH:h_}{kd:CallKind}{tmps:X_}{k:List Item}{ds:List Deferred}{cs:Z_}{c:Code}{v:o_}{m:Nat}{Q:o_->X_->o_->Prop}{R:Frame×Z_->o_->Prop}
theorem ag.part (E:(prog.funcs[EH]?).any (·.norace)=false)(A:(kd==CallKind.early)=false)(C:c.AP (Bh prog)=true)(F:∀v1,Aa No v v1->c.wpIn NF m prog (Ends (Q v1)) ⟨tmps,[]⟩ v1)
  (D:∀v1 z v',Aa No v v1->Q v1 z v'->ag Od prog (Frame.mk EH z k ds .run kd none,cs) v' R):ag Od prog (Frame.mk EH tmps (.code c::k) ds .run kd none,cs) v R:=λZ j B y w sl t i o q=>by
 refine(MS Qj i U6.QM (Je E WJ) A C (Q:=Ends λz b=>∃τ d,Q (v.re τ d) z b) jH (λτ d=>wpIn_mono (F _ (Dh v τ d)) λe a b h=>⟨h.1,h.2.1,τ,d,h.2.2⟩) o q).then λn b p x _ ⟨g,v',l,r,⟨z,τ,d,hb⟩,_,_,s⟩=>?_
 obtain⟨rfl,_,_,f,d1,hq⟩|⟨_,_,u,_⟩:=hb
 .exact(D _ z _ (Dh v f d1) hq).re Z j l n b p x i s r
 .cases u
theorem ag.aP (E:(prog.funcs[EH]?).any (·.norace)=false)(A:(kd==CallKind.early)=false)(C:c.AP (Bh prog)=true)(F:∀v1,Aa No v v1->c.wpIn NF m prog (SX (Q v1)) ⟨tmps,[]⟩ v1)
  (D:∀v1 z todo v',Aa No v v1->Q v1 z v'->ag Od prog (Frame.mk EH z todo ds .returning kd none,cs) v' R):ag Od prog (Frame.mk EH tmps (.code c::k) ds .run kd none,cs) v R:=λZ j B y w sl t i o q=>by
 refine(MS Qj i U6.QM (Je E WJ) A C (Q:=SX λz b=>∃τ d,Q (v.re τ d) z b) zN (λτ d=>wpIn_mono (F _ (Dh v τ d)) λe a b h=>⟨h.1,h.2.1,τ,d,h.2.2⟩) o q).then λn b p x _ ⟨g,v',l,r,⟨z,τ,d,hb⟩,_,_,s⟩=>?_
 obtain⟨_,u,_⟩|⟨todo,rfl,_,_,f,d1,hq⟩:=hb
 .cases u
 .exact(D _ z todo _ (Dh v f d1) hq).re Z j l n b p x i s r
theorem ag.either {Q':o_->X_->o_->Prop}(D:(prog.funcs[EH]?).any (·.norace)=false)(z:(kd==CallKind.early)=false)(A:c.AP (Bh prog)=true)(E:∀v1,Aa No v v1->c.wpIn NF m prog (fun e a w'=>a.defers=[]/\((e=.normal/\Q v1 a.tmps w')\/(e=.ret/\Q' v1 a.tmps w'))) ⟨tmps,[]⟩ v1)
  (C:∀v1 x v',Aa No v v1->Q v1 x v'->ag Od prog (Frame.mk EH x k ds .run kd none,cs) v' R) (y:∀v1 x todo v',Aa No v v1->Q' v1 x v'->ag Od prog (Frame.mk EH x todo ds .returning kd none,cs) v' R):ag Od prog (Frame.mk EH tmps (.code c::k) ds .run kd none,cs) v R:=λZ i B u w sl t f r s=>by
 refine(MS Qj f U6.QM (Je D WJ) z A (Q:=λe a w'=>a.defers=[]/\((e=.normal/\∃τ d,Q (v.re τ d) a.tmps w')\/(e=.ret/\∃τ d,Q' (v.re τ d) a.tmps w'))) (λ_ _ _ h=>⟨h.2.imp (·.1) (·.1),h.1⟩) (λτ d=>wpIn_mono (E _ (Dh v τ d)) λe a w' h=>⟨h.1,h.2.imp (λh=>⟨h.1,τ,d,h.2⟩) (λh=>⟨h.1,τ,d,h.2⟩)⟩) r s).then λl w' n q _ ⟨g,v',j,o,⟨x,τ,d,hb⟩,_,_,p⟩=>?_
 obtain⟨rfl,_,hq⟩|⟨todo,rfl,_,hq⟩:=hb
 .obtain⟨_,b,d1,hq⟩|⟨e,_⟩:=hq
  .exact(C _ x _ (Dh v b d1) hq).re Z i j l w' n q f p o
  .cases e
 .obtain⟨e,_⟩|⟨_,b,d1,hq⟩:=hq
  .cases e
  .exact(y _ x todo _ (Dh v b d1) hq).re Z i j l w' n q f p o
theorem ag.seq {a b:Code}(h:ag Od prog (Frame.mk EH tmps (.code a::.code b::k) ds .run kd none,cs) v R):ag Od prog (Frame.mk EH tmps (.code (a.seq b)::k) ds .run kd none,cs) v R:=ag.step rfl h
end
theorem aa8 {NC NS:Nat}{K:KS}{r:PR}{v:o_}{c0:Frame}{cs:Z_}{R:Frame×Z_->o_->Prop}(z:n<=1000)(x:VZ NC NS b K n)(A:AY K v)(ok:DU NC NS K)(hb:K.ps b=some r)(y:r.en=false)(D:b∈K.Ar)
  (C:∀told v',SF NC NS b K v n told v'->ag Od prog (c0.finish told,cs) v' R):ag Od prog (z0 prog (ptr K.kb) (R_ b) (n:Nat) (c0::cs)) v R:=λZ s B u w sl t o e k=>by
 have h:SO NC NS b K v Di v:=⟨r,⟨A,ok,Rel.refl b K,BQ.no (Aa.refl _ _) A.lt,⟨World.ownsRow_nil _ _ _ _,λg h=>by cases h⟩,hb,⟨by rw[hb];simp,ok.th⟩⟩,y,D⟩;refine(qL ad3 U6 (ϻ 0) (wP 0) wB wB (zF NC NS b K v n 0 z x) (bv3 NC NS b K v n 0 z x) o h e k).bind λd q f p ⟨j,i,_,a,told,v',c,m,l,Bs'⟩=>?_
 exact C told v' m j i c d q f p a Bs' l
end Go.Fxa
