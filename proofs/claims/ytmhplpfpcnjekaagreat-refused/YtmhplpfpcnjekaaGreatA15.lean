/- goOn, from its call to its ret -/
import Derived.Test.YtmhplpfpcnjekaaGreatA14
open Go.Proofs.Tryz
namespace Go.Fxa
open Go.Conc
open Go.ConcN (sumTo upd sumTo_upd upd_ne upd_same)
variable {Od:Old}{cs:Z_}{v:o_}{B:Nat}
structure al9 (P:l_)(N:Fence)(m:Nat):Prop where
 boxes:∀(sa:f_)(n:Int)(v:o_)(g:Y_),∀τ d,(S0 P).wpIn N m P (Ends λtm w'=>∃g' b2 b3,tm=TN 18 (AQ g' [(2,pr b2),(3,pr b3)])/\IG v w'/\v.heap.size<=b2/\v.heap.size<=b3/\b2<w'.heap.size/\b3<w'.heap.size/\b2≠b3/\w'.cell? (R_ b2)=some (.pointer (some sa))/\w'.cell? (R_ b3)=some (b_ n)) ⟨TN 18 (AQ g [(0,.pointer (some sa)),(1,b_ n)]),[]⟩ (v.re τ d)
 makes:∀(b2 b3:Nat)(v:o_)(g:Y_),∀τ d,(S1 P).wpIn N m P (Ends λtm w'=>∃g' b5 r q0 q1 q2 q3,tm=TN 18 (AQ g' (ύ b2 b3 b5))/\IG v w'/\(∀x∈[b5,r,q0,q1,q2,q3],v.heap.size<=x)/\[b5,r,q0,q1,q2,q3].Nodup/\BC r #[D5 q0,D5 q1,D5 q2,D5 q3] 257 w' 0 0/\w'.cell? (R_ b5)=some (pr r)/\∀q∈[q0,q1,q2,q3],w'.heap[q]?=some (.chan 0 #[] false 0 0 false)) ⟨TN 18 (AQ g [(2,pr b2),(3,pr b3)]),[]⟩ (v.re τ d)
structure κ {P:l_}{N:Fence}{m:Nat}{kv:n_}{pa:f_}{n:Int}(S:Tq P N m kv pa n) where
 B0:o_->Prop
 B2:o_->Prop
 B3:o_->Prop
 t2:Dw B2
 t3:Dw B3
 bring:∀(v:o_)(f:Y_),B0 v->∀τ d,(R2 P).wpIn N m P (Ends λtm w'=>∃f',tm=TN 76 (AQ f' (rV kv pa n Di))/\B2 w') ⟨TN 76 (AQ f (rV kv pa n Di)),[]⟩ (v.re τ d)
 clear:∀(v:o_)(f:Y_),B2 v->∀τ d,(R3 P).wpIn N m P (Ends λtm w'=>∃f',tm=TN 76 (AQ f' (rV kv pa n Di))/\B3 w') ⟨TN 76 (AQ f (rV kv pa n Di)),[]⟩ (v.re τ d)
 start:∀v v',B3 v->IG v v'->S.I 0 Di v'
section
variable {P:l_}{L:h_->Prop}{p:h_->Oper->Bool}{N:Fence}{m:Nat}{host:h_}{Z:Nat->Prop}{Ad:Loc->Prop}{gs:Array m_}{w:o_}{sl:d_ (W_)}{t:Trace}
theorem Y7.part {EH:h_}{kd:CallKind}{k:List Item}{ds:List Deferred}{Q:X_->o_->Prop}{c:Code}{tmps:X_}(W:Yl P L p N host)(u:Gx Ad Z)(s:EH=56\/EH=93\/EH=97\/EH=136\/EH=187)(j:(kd==CallKind.early)=false)
  (r:c∈[R2 P,R3 P,S0 P,S1 P,R10 P,R11 P,R15 P,R16 P,A0 P,R21 P,XA P,aX P,R12 P]) (x:∀τ d,c.wpIn N m P (Ends Q) ⟨tmps,[]⟩ (v.re τ d)) (q:∀f,Dw (Q f)) (n:Y7 Od P Ad Z B v gs w t) (o:gs[0]?=some (G (Frame.mk EH tmps (.code c::k) ds .run kd none) cs)):
  AX P gs w sl t λi w' l=>∃f v' h,i[0]?=some (G (Frame.mk EH f k ds .run kd none) cs)/\Q f v'/\Y7 Od P Ad Z h v' i w' l:=by
 refine(MS W.fenced u W.QM (W.seen EH s) j (W.ops c r) jH x n o).mono λi w' l ⟨g,v',h,a,⟨f,τ,d,hb⟩,_,_,b⟩=>?_
 obtain⟨rfl,_,_,hq⟩|⟨_,_,e,_⟩:=hb
 .exact⟨f,v',h,a,(q f).back hq,b⟩
 .cases e
theorem IG.trans {a b c:o_}(h:IG a b)(e:IG b c):IG a c:=
 ⟨lN h.1 e.1,λx d=>(e.2.1 x (Nat.lt_of_lt_of_le d h.1)).trans (h.2.1 x d),e.2.2.1.trans h.2.2.1,e.2.2.2.trans h.2.2.2⟩
theorem qL (A:Ff P)(W:Yl P L p N host)(M:dU P N m)(ST:al9 P N m){kv:n_}{pa:f_}{n:Int}{c0:Frame}(hn:n<=1000)(hn0:0<=n)(S:Tq P N m kv pa n)(U:κ S)(hu:Gx Ad Z)(hB0:U.B0 v)(Bs:Y7 Od P Ad Z B v gs w t)
  (h0:gs[0]?=some (BO (z0 P kv pa n (c0::cs)))):
  NG P gs w sl t λBA w' t'=>∃Z' Po,(∀x,Z x->Z' x)/\Gx Po Z'/\Back Od P Po Z' S.Fin c0 cs BA w' t':=by
 have K:=A.F7;refine(Bs.Uz h0 (DT (K.z1a _ _ _ _))).then λgs1 w1 JL t1 _ ⟨h1,Bs1,_⟩=>?_
 rw[show run P 9 (z0 P kv pa n (c0::cs))=z1 P kv pa n (c0::cs)from rfl,at_toldN (l:=rV kv pa n Di) (K.z1b _ _ _ _) (K.z1c _ _ _ _) (K.z1d _ _ _ _)]at h1;refine(Y7.part W hu (.inl rfl) rfl sJ (U.bring v _ hB0) (λtm v τ d ⟨f',e,h⟩=>⟨f',e,U.t2 v τ d h⟩) Bs1 h1).then λgs2 w2 sl2 t2 _ ⟨tm2,v2,B2,h2,⟨f2,e2,hB2⟩,Bs2⟩=>?_
 subst e2;refine(Bs2.Uz h2 (Jd (K.z3 (AQ f2 (rV kv pa n Di)) (c0::cs)))).then λgs3 w3 sl3 t3 _ ⟨h3,Bs3,_⟩=>?_
 refine(Y7.part W hu (.inl rfl) rfl sJ (U.clear v2 f2 hB2) (λtm v τ d ⟨f',e,h⟩=>⟨f',e,U.t3 v τ d h⟩) Bs3 h3).then λgs4 w4 Ob t4 _ ⟨tm4,v4,B4,h4,⟨D,e4,hB4⟩,Bs4⟩=>?_
 subst e4;refine(Bs4.Uz h4 (DT (K.z5a kv pa n Di D (c0::cs)))).then λgs5 w5 sl5 t5 _ ⟨h5,Bs5,_⟩=>?_
 rw[show run P 8 (f56 (AQ D (rV kv pa n Di)) (c0::cs) (T3 P) [])=z5 P kv pa n Di D (c0::cs)from rfl,at_toldN (l:=[(0,VM pa),(1,b_ n)]) (K.z5b _ _ _ _ _ _) (K.z5c _ _ _ _ _ _) (K.z5d _ _ _ _ _ _)]at h5;refine(Y7.part W hu (.inr (.inl rfl)) rfl sJ (ST.boxes (pa.add 5) n v4 _) (λtm v τ d h=>h) Bs5 h5).then λgs6 w6 Fh t6 _ ⟨tm6,v6,B6,h6,⟨g6,f,j,e6,H,k2,k3,l2,l3,k23,c2,c3⟩,Bs6⟩=>?_
 subst e6;refine(Bs6.Uz h6 (Jd (K.y1 (AQ g6 [(2,pr f),(3,pr j)]) (Y4 P kv pa n Di D (c0::cs))))).then λgs7 w7 OL t7 _ ⟨h7,Bs7,_⟩=>?_
 refine(Y7.part W hu (.inr (.inl rfl)) rfl sJ (ST.makes f j v6 g6) (λtm v τ d h=>h) Bs7 h7).then λgs8 w8 sl8 t8 _ ⟨tm8,v8,B8,h8,⟨E,o,r,O,q1,Q,q3,e8,z,C,knd,kr,k5,kq⟩,Bs8⟩=>?_
 subst e8;have hZ4:∀x,Z x->x<v4.heap.size:=Bs4.choose_spec.2.1;have T4:Yr Od Z v4 w4:=Bs4.choose_spec.1;obtain⟨q8,T8,hZ8,L8,P8,S8⟩:=Bs8;have cw3:v6.heap.size<=o/\v6.heap.size<=r/\v6.heap.size<=O/\v6.heap.size<=q1/\v6.heap.size<=Q/\v6.heap.size<=q3:=⟨C _ sJ,C _ sJ,C _ sJ,C _ sJ,C _ sJ,C _ sJ⟩;obtain⟨m5,mr,m0,m1,m2,m3⟩:=cw3;simp only[List.nodup_cons,r_,lG,or_false,not_or,List.nodup_nil,and_true,not_false_eq_true]at knd;obtain⟨⟨d5r,d50,d51,d52,d53⟩,⟨dr0,dr1,dr2,dr3⟩,⟨d01,d02,d03⟩,⟨d12,d13⟩,d23⟩:=knd;have g46:=H.1;have g68:=z.1
 let b:J8:=⟨f,j,o,r,O,q1,Q,q3,VM pa,n⟩
 have G:∀q,b.chs q->v8.heap[q]?=some (.chan 0 #[] false 0 0 false):=λq h=>kq q (by obtain e|e|e|e:=h<;>simp[e,b])
 have V:∀x,b.own x->v4.heap.size<=x:=λx c=>by
  simp only[J8.own,b]at c
  omega
 have BL:∀x,b.own x->x<v8.heap.size:=λx c=>by
  have hr:=kr.lt
  have h5:=ML k5
  have e0:=(y_.1 (G O (.inl rfl))).1
  have e1:=(y_.1 (G q1 (.inr (.inl rfl)))).1
  have e2:=(y_.1 (G Q (.inr (.inr (.inl rfl))))).1
  have e3:=(y_.1 (G q3 (.inr (.inr (.inr rfl))))).1
  simp only[J8.own,b]at c
  simp only at h5
  omega
 have hnz:∀x,b.own x->¬Z x:=λx c hz=>by have:=V x c;have:=hZ4 x hz;omega
 have OK:b.Ok:=by
  refine⟨λq hq=>?_,?_,?_⟩
  .simp only[J8.chs,b]at hq;simp only[b];refine⟨wB,wB,?_,?_⟩<;>(obtain e|e|e|e:=hq<;>subst e<;>first|exact gJ d50|exact gJ d51|exact gJ d52|exact gJ d53|exact gJ dr0|exact gJ dr1|exact gJ dr2|exact gJ dr3)
  .simp only[b];exact⟨wB,wB,d5r⟩
  .exact⟨d01,d02,d03,d12,d13,d23⟩
 have hod:∀x,b.own x->¬Od.dead x:=λx c F=>by have:=V x c;have:=(y_.1 (T4.KN x F)).1;omega
 have mG:∀x,b.own x->w8.heap[x]?=v8.heap[x]?:=λx c=>(T8.same x (hnz x c) (hod x c)).symm
 have BJ:BC r b.pre 257 w8 0 0:=by unfold BC;rw[mG r (by simp[J8.own,b])];exact kr
 have y:b.cells w8:=by
  refine⟨Ij k5 (mG o (by simp[J8.own,b])),Ij (w:=v8) ?_ (mG f (by simp[J8.own,b])),Ij (w:=v8) ?_ (mG j (by simp[J8.own,b]))⟩
  .exact Ij c2 (z.2.1 f l2)
  .exact Ij c3 (z.2.1 j l3)
 have cz9:∀q,b.chs q->w8.heap[q]?=some (.chan 0 #[] false 0 0 false):=λq h=>by
  rw[mG q (by obtain e|e|e|e:=h<;>simp[J8.own,e])];exact G q h
 obtain⟨v9,T9,sz9,cj1,os9,cv6⟩:=T8.kill (Z':=λx=>Z x\/b.own x) (λ_ h=>.inl h) (λx c F=>c.elim (T8.ax x F) λh=>hod x h F);have hg9:IG v4 v9:=by
  refine⟨wB,λx c=>?_,by rw[os9,z.2.2.1,H.2.2.1],by rw[cv6,z.2.2.2,H.2.2.2]⟩
  by_cases hz:Z x
  .rw[T9.dead x (.inl hz) wB,T4.dead x hz c]
  .have F:¬b.own x:=λF=>by have:=V x F;omega
   rw[cj1 x (λh=>h.elim hz F),z.2.1 x wB,H.2.1 x c]
 have hZ9:∀x,(Z x\/b.own x)->x<v9.heap.size:=λx c=>by
  rw[sz9]
  exact c.elim (hZ8 x) (BL x)
 have Y:Gx (λl=>Ad l\/LY b.r b.pre l) (λx=>Z x\/b.own x):=by
  refine⟨λa h=>?_,λx h=>?_⟩
  .obtain h|h|h:=h
   .exact .inl (hu.1 a h)
   .injection h with h;subst h;exact .inr (by simp[J8.own,stA])
   .injection h with h;subst h;exact .inr (by simp[J8.own,smA])
  .obtain h|h|h:=h
   .exact .inl (hu.2 x h)
   .cases h
   .cases h
 have J:∀l,b.Still l->¬(Ad l\/LY b.r b.pre l):=λl hl h=>by
  obtain h|h:=h
  .have:∃a,l=.cell a/\b.own a.block:=by obtain e|e|e|e|e|e|e:=hl<;>exact⟨_,e,by simp[J8.own]⟩
   obtain⟨a,rfl,ha⟩:=this;exact hnz _ ha (hu.1 a h)
  .exact Wl h hl
 have Bs9:Y7 Od P (λl=>Ad l\/LY b.r b.pre l) (λx=>Z x\/b.own x) B8 v9 gs8 w8 t8:=⟨q8,T9,hZ9,L8,Past.shun P8 (λ_ h=>.inl h),S8⟩;refine(Bs9.Uz h8 (DT (K.y3a E (Y4 P kv pa n Di D (c0::cs)) f j o))).then λgsa wa sla ta _ ⟨ha,Ba,wa8⟩=>?_
 refine(Ba.read ha (K.y3b E _ f j o r) (Ij y.1 (by rw[wa8])) (J _ (.inl rfl))).then λgsb wb slb tb _ ⟨hb,Bb,wba⟩=>?_
 refine(Bb.Uz hb (DT (K.y4a E _ f j o r))).then λgsc wc slc tc _ ⟨hc,Bc,wcb⟩=>?_
 have ec:wc.heap=w8.heap:=wcb.trans (wba.trans wa8);have hc':gsc[0]?=some (BO (y4 P E (Y4 P kv pa n Di D (c0::cs)) f j o r)):=hc;rw[K.y4b]at hc';obtain⟨qc,Tc,hZc,Lc,Pc,Sc⟩:=Bc;refine(yI (Z:=λx=>x=r) (bz0 (A.add _ _ _)) rfl hc' Lc Pc Sc (show BC r b.pre 257 wc 0 0 by unfold BC;rw[ec];exact BJ)).then λgsd wd sld td _ ⟨qd,hd,od,rd,Ld,Pd,Sd⟩=>?_
 have odZ:CS (λx=>Z x\/b.own x) wc wd:=⟨od.size,λx c=>od.same x (λe=>c (.inr (by simp[J8.own,b,e]))),od.os,od.output,od.tape⟩;have Bd:Y7 Od P (λl=>Ad l\/LY b.r b.pre l) (λx=>Z x\/b.own x) B8 v9 gsd wd td:=⟨qd,Tc.off hZc odZ,hZc,Ld,Pd,Sd⟩;have KSd:b.KS wd:=by
  refine⟨rd,y.keep λx c=>?_,λq hq=>⟨0,?_⟩⟩
  .rw[od.same x (by obtain e|e|e:=c<;>subst e<;>first|exact OK.br.2.2|exact OK.br.1|exact OK.br.2.1),ec]
  .rw[od.same q (OK.bq q hq).2.2.2,ec];exact cz9 q hq
 refine(Bd.Uz hd (DT (K.y6a E (Y4 P kv pa n Di D (c0::cs)) f j o r))).then λu we sle te _ ⟨he,Be,eed⟩=>?_
 have KSe:b.KS we:=(Ov (s:=b) (Z:=λ_=>True) (λ_ _=>trivial)).keep wd we (λx _=>by rw[eed]) KSd;obtain⟨qe,Te,hZe,Le,Pe,Se⟩:=Be;have Mc:0<u.size:=(y_.1 he).1;have EV:Env (λx=>Z x\/b.own x) (λl=>Ad l\/LY b.r b.pre l) b u.size:=⟨λ_ h=>.inr h,Y,λ_ h=>.inr h,J,OK,wB⟩;obtain⟨fK,hTK,hgK,hcK⟩:=zK (s:=b) K (K.cq8 kv pa n Di D E (c0::cs) f j o r O Q) (K.cq7 kv pa n Di D E (c0::cs) f j o r O Q) (K.cq6 kv pa n Di D E (c0::cs) f j o r O Q);have R:=OW (s:=b);have hw:RW P true b.KW b.Still 58 (BO (BK (y6 P E (Y4 P kv pa n Di D (c0::cs)) f j o r) undef)) (BO (y10 P kv pa n Di D E (c0::cs) f j o r O Q)):=
  ((((((RW.AU (K.y7a _ _ _ _ _ _)).trans (RW.at (K.y7b _ _ _ _ _ _) R.c5 R.s5)).trans (RW.AU (K.y8a _ _ _ _ _ _ _ _ _ _ _))).trans (RW.at (K.y8b _ _ _ _ _ _ _ _ _ _ _ O) R.r0 R.t0)).trans (RW.AU (K.y9a _ _ _ _ _ _ _ _ _ _ _ _))).trans (RW.at (K.y9b _ _ _ _ _ _ _ _ _ _ _ _ Q) R.r2 R.t2)).trans (RW.AU (K.cq9 _ _ _ _ _ _ _ _ _ _ _ _ _));have QG:=RW.seat (k:=0) (home:=(·=gK P b fK (c0::cs))) (cases:=O9 b.q0 b.q2) (shape:=.select) (MH _) ⟨_,#[],hgK,MH _,sJ,λw _=>I5 hcK w⟩ hw;obtain⟨N1,gsf,df,slf,tf,qf,hrf,hzf,hcf,Df⟩:=au3 (K:=b.KW) (K1:=b.KS) (TT:=KI u.size b.r b.pre) (sl:=sle) (Ov (s:=b) EV.Lu) (λl hl=>by obtain e|e|e|e|e|e|e:=hl<;>subst e<;>rfl) J he (MH _) Le Pe Se (λd=>wV (K.y6b E _ f j o r) (we.at d)) sJ KSe
  (λt' hp i a ha F hk=>by
   have hmem:a.loc.isMemory=true:=by obtain e|e:=F<;>rw[e]<;>rfl
   obtain h|⟨_,h,_⟩|⟨_,h,_⟩:=hp.known i a ha hmem
   .exact h
   .exact(Wl F h).elim
   .rw[hk]at h;cases h.1) (zY KSe) (MH _) QG
 have Hf:cZ Od P (λx=>Z x\/b.own x) (λl=>Ad l\/LY b.r b.pre l) b.Still (I8 u.size) (λg=>g=0) u.size 0 (ByK P b u.size (gK P b fK (c0::cs))) (λg v=>g=BO (ch0 P o f j)/\S.I 0 Di v) gsf (we.at df) tf:=
  ⟨qf,_,B8,_,v9,hcf,⟨rfl,U.start v4 v9 hB4 hg9⟩,Te.off hZe (CS.at we df),hZe,Df⟩;obtain⟨fb,bx5⟩:=qV (main:=u.size==0) (A.child o f j r O q1 Q q3 (VM pa) n) R;have step2:NG P gsf (we.at df) slf tf (zB Od P (λl=>Ad l\/LY b.r b.pre l) (λx=>Z x\/b.own x) S.Fin c0 cs):=
  (Hf.walk (sl:=slf) zo (λw a h hs=>JH h hs) J (vg EV) bx5).then λgsg wg slg tg _ Hg=>
   (xI (s:=b) A W M EV S hn rfl n.toNat 0 Di fb fK gsg wg slg tg (by show(n-0).toNat<=n.toNat;omega) (Int.le_refl _) hn0 hTK Hg).leads
 obtain⟨N2,da5,w2',sl2',t2',hr2,X⟩:=step2;obtain⟨Zf,T,X⟩:=X;exact⟨N1+N2,da5,w2',sl2',t2',by rw[runNT_add,hrf];exact hr2,Zf,_,λ_ h=>T _ (.inl h),⟨λa h=>T _ (Y.1 a h),λx h=>T _ (Y.2 x h)⟩,X⟩
end
end Go.Fxa
namespace Go.Fxa
open Go.Conc Go.Proofs
theorem ad3:Ff prog where
 F7:=aa0
 child:=λ_ _ _ _ _ _ _ _ _ _=>qR
 ans:=λ_ _ _ _ _ _=>ad2
 done:=λr b a=>xX r b a
 add:=λr c Y=>ad4 r c Y
 wait:=λr c Y=>vN r c Y
 mixed:=sU
 blk:=ac9
 back:=λ_ _ _ _ _ _ _ _ _=>yE
end Go.Fxa
namespace Go
open Go.Fxa Go.Conc
def Sem.KL (P:l_){α:Type}:Sem α->Prop
 |.pure _=>True
 |.load _ _ k=>∀x,(k x).KL P
 |.store _ _ _ k=>k.KL P
 |.new o k=>o.plain=true/\∀r,(k r).KL P
 |.shape _ k=>∀s,(k s).KL P
 |.freeze _ _ k=>k.KL P
 |.frozen _ k=>∀b,(k b).KL P
 |.getObj _ k=>∀o,(k o).KL P
 |.setObj _ o k=>o.plain=true/\k.KL P
 |.choose _ k=>∀n,(k n).KL P
 |.sys _ k=>∀r,(k r).KL P
 |.program k=>(k P).KL P
 |.mark _ k=>k.KL P
 |.halt h=>h.LD=true
end Go
namespace Go.Fxa
open Go.Conc
variable {P:l_}{α β:Type}{t e:j_}{v:o_}{n i c b l d:Nat}{ps:Array (Nat×n_)}{x recv:n_}{a args:X_}{y:Operand}{ts:Array j_}{fr:Frame}{op:BinOp}{f:h_}{name:String}
theorem Np {e:Sem α}{f:α->Sem β}(h:e.KL P)(g:∀a,(f a).E5 P):(e>>= f).E5 P:=by
 show(e.bind f).E5 P
 induction e with
 |pure a=>exact g a
 |load m a k b=>exact λx=>b x (h x)
 |store m a v k b=>exact b h
 |new o k b=>exact⟨h.1,λx=>b x (h.2 x)⟩
 |shape r k b=>exact λx=>b x (h x)
 |freeze a n k b=>exact b h
 |frozen a k b=>exact λx=>b x (h x)
 |getObj r k b=>exact λx=>b x (h x)
 |setObj r o k b=>exact⟨h.1,b h.2⟩
 |choose q k b=>exact λx=>b x (h x)
 |sys c k b=>exact λx=>b x (h x)
 |program k b=>exact b P h
 |mark m k b=>exact b h
 |halt d=>exact h
theorem Su {e:Sem α}{f:α->Sem β}(h:e.KL P)(g:∀a,(f a).KL P):(e>>= f).KL P:=by
 show(e.bind f).KL P
 induction e with
 |pure a=>exact g a
 |load m a k b=>exact λx=>b x (h x)
 |store m a v k b=>exact b h
 |new o k b=>exact⟨h.1,λx=>b x (h.2 x)⟩
 |shape r k b=>exact λx=>b x (h x)
 |freeze a n k b=>exact b h
 |frozen a k b=>exact λx=>b x (h x)
 |getObj r k b=>exact λx=>b x (h x)
 |setObj r o k b=>exact⟨h.1,b h.2⟩
 |choose q k b=>exact λx=>b x (h x)
 |sys c k b=>exact λx=>b x (h x)
 |program k b=>exact b P h
 |mark m k b=>exact b h
 |halt d=>exact h
section
variable {P:l_}
theorem XN:(underlying t).KL P:=by
 show Sem.KL P (Sem.program _);show Sem.KL P (match P.underlying t with|some d=>_|none=>_);cases P.underlying t<;>first|trivial|rfl
theorem qO:(elemOf t).KL P:=by
 refine Su XN λd=>?_
 cases d<;>first|trivial|rfl
theorem VH {e:RuntimeError}:(runtimePanic e:Sem α).E5 P:=by
 refine Np (e:=program) trivial λp=>?_
 cases e<;>first
  |exact Qs
  |exact Np qO λ_=>Np (e:=newVar _ _) ⟨rfl,λ_=>trivial⟩ λ_=>Qs
theorem Gt {f:TypeDesc->Sem α}{K:α->Prop}(h:∀d,P.underlying t=some d->(f d).Au P K):(underlying t>>= f).Au P K:=Ej AB h
theorem wH {h:Bool}{g:n_}:(Instr.alloc e h g).Au P λ_=>True:=by
 unfold Instr.alloc;refine Ac Fg λz=>?_
 split
 .exact Ac TA λ_=>Ae trivial
 .exact Ac Q3 λ_=>Ae trivial
theorem an1 {v:n_}:(Instr.box e v).Au P λ_=>True:=Ac Q3 λ_=>Ae trivial
theorem DW:(sizeOf t).Au P λ_=>True:=Bf Oz
theorem Eh:(typeInfo t).Au P λ_=>True:=Bf IK
theorem Vu:(askRoom n).Au P λ_=>True:=by
 unfold askRoom;exact AO (λ_=>.inl ⟨rfl,dE⟩) λ_=>Ae trivial
theorem wu:(Instr.build t ps).Au P λ_=>True:=by
 unfold Instr.build;refine Ac Fg λz=>Ac (Bf AB) λd=>?_
 split
 .refine Ac (Zq (λf=>Ac DW λ_=>Ae trivial) _) λa=>?_
  split
  .exact Ae trivial
  .exact Ak
 .refine Ac DW λn=>?_
  split
  .exact Ae trivial
  .exact Ak
 .exact Ak
theorem XK:(Instr.buildSlice t n ps).Au P λ_=>True:=by
 unfold Instr.buildSlice;refine Ac (Bf AB) λd=>?_
 split
 .refine Ac DW λsize=>?_
  extract_lets jp jp2
  have b:∀z,(jp z).Au P λ_=>True:=λz=>by
   simp only[jp]
   split
   .exact Ac KY λ_=>Ae trivial
   .exact Ak
  have a:∀z,(jp2 z).Au P λ_=>True:=λz=>by
   simp only[jp2]
   exact AO (λ_=>Ac (Ae trivial) λ_=>b _) λ_=>Ac Fg λ_=>Ac (Ae trivial) λ_=>b _
  exact AO (λ_=>rfl) λ_=>a ()
 .exact Ak
theorem ZY {l c:n_}:(Instr.makeSlice t l c).Au P λ_=>True:=by
 unfold Instr.makeSlice;refine Ac (Bf AB) λd=>?_
 split
 .refine Ac NQ λa=>Ac NQ λb=>Ac Eh λi=>?_
  extract_lets bytes tooLarge l' c' jp
  have e:∀z,(jp z).Au P λ_=>True:=λz=>by
   simp only[jp]
   refine Ac Vu λ_=>Ac DW λk=>?_
   exact AO (λ_=>Ac (Ae trivial) λ_=>Ac KY λ_=>Ae trivial) λ_=>Ac Fg λ_=>Ac (Ae trivial) λ_=>Ac KY λ_=>Ae trivial
  refine AO (λ_=>AO (λ_=>Ac Bg λu=>e u) λ_=>AO (λ_=>Ac Bg λu=>e u) λ_=>Ac FT λ_=>Ac Bg λu=>e u) λ_=>e ()
 .exact Ak
theorem FM {y:Nat}{c:BoundsCode}:(Instr.sliceBound x y c).Au P λ_=>True:=by
 unfold Instr.sliceBound;refine Ac (Bf MO) λa=>?_
 exact AO (λ_=>Ae trivial) λ_=>Gv
theorem bn {f:Fn}{b:X_}:(Instr.makeFunc f a b).Au P λ_=>True:=Ae trivial
theorem Ux:(Instr.makeInterface t x).Au P λ_=>True:=by
 unfold Instr.makeInterface;refine Ac (Bf AB) λd=>?_
 split
 .exact Ak
 .exact Ae trivial
theorem jY:(Instr.extract x i).Au P λ_=>True:=by
 unfold Instr.extract;split
 .split
  .exact Ae trivial
  .exact Ak
 .exact Ak
theorem vY:(Instr.field t x i).Au P λ_=>True:=by
 unfold Instr.field;refine Ac (Bf AB) λd=>?_
 split
 .split
  .exact Ac wG λ_=>Ja
  .exact Ak
 .exact Ak
theorem vX {i:n_}:(Instr.index t x i).Au P λ_=>True:=by
 unfold Instr.index;refine Ac (Bf MO) λa=>Ac (Bf AB) λd=>?_
 split
 .exact AO (λ_=>Ac DW λ_=>Ja) λ_=>Gv
 .split
  .exact Ae trivial
  .exact Gv
 .exact Ak
theorem o6 {a:f_}:(partAt a c b).Au P λ_=>True:=Ac Q7 λ_=>Ac Q7 λ_=>Ae trivial
theorem LP {a:f_}{f:Field}:(fieldPlace a f).Au P λ_=>True:=by
 unfold fieldPlace;exact Ac DW λ_=>AO (λ_=>o6) λ_=>Ae trivial
theorem jX:(Instr.fieldAt t x i).Au P λ_=>True:=by
 unfold Instr.fieldAt;refine Ac (Bf AB) λd=>?_
 split
 .split
  .exact Ac IL λ_=>Ac LP λ_=>Ae trivial
  .exact Ak
 .exact Ak
theorem pq:(Instr.loadAt t x).Au P λ_=>True:=Ac IL λ_=>Ik
theorem jT {y:n_}:(Instr.storeAt t x y).Au P λ_=>True:=Ac IL λ_=>TA
theorem vW:(Instr.panic x).Au P λ_=>True:=by
 unfold Instr.panic;split
 .exact Ql
 .have a:(Instr.panicnil).KL P:=by
   unfold Instr.panicnil
   refine λr=>?_
   cases r<;>first|exact rfl|exact dE
  exact Sem.E5.lK (Np a λn=>by split<;>first|exact Qs|exact VH)
 .exact Ak
theorem Gu {b:Bool}{x y z:d_ n_}:(Instr.sliceBounds b l c x y z).Au P λ_=>True:=by
 unfold Instr.sliceBounds
 extract_lets j1
 have a:∀k,(j1 k).Au P λ_=>True:=λk=>by
  cases y<;>cases z<;>cases x<;>simp only[j1]<;>first
   |exact Ac FM λ_=>Ac FM λ_=>Ae trivial
   |exact Ac FM λ_=>Ac (Ae trivial) λ_=>Ae trivial
   |exact Ac (Ae trivial) λ_=>Ac FM λ_=>Ae trivial
   |exact Ac (Ae trivial) λ_=>Ac (Ae trivial) λ_=>Ae trivial
   |exact Ac Ak λ_=>Ac FM λ_=>Ae trivial
   |exact Ac Ak λ_=>Ac (Ae trivial) λ_=>Ae trivial
 clear_value j1
 split
 .exact Ac FM λ_=>a _
 .exact Ac (Ae trivial) λ_=>a _
theorem vV {a b c:d_ n_}:(Instr.slice t x a b c).Au P λ_=>True:=by
 unfold Instr.slice;refine Ac (Bf AB) λd=>?_
 split
 .exact AO (λ_=>Ac Ak λ_=>Ac Gu λ_=>Ae trivial) λ_=>Ac Gu λ_=>Ae trivial
 .exact Ac Gu λ_=>Ac DW λ_=>Ae trivial
 .refine Ac Lj λ_=>Ac (Bf AB) λd=>?_
  split
  .exact Ac Gu λ_=>Ac DW λ_=>Ae trivial
  .exact Ak
 .exact Ak
theorem jU {a b c:d_ n_}:(Instr.sliceAt t x a b c).Au P λ_=>True:=by
 unfold Instr.sliceAt;refine Ac (Bf AB) λd=>?_
 split
 .exact Ac IL λ_=>Ac Gu λ_=>Ac DW λ_=>Ae trivial
 .exact vV
theorem jW {i:n_}:(Instr.indexAt t x i).Au P λ_=>True:=by
 unfold Instr.indexAt;refine Ac (Bf MO) λe=>Ac (Bf AB) λd=>?_
 extract_lets jp
 have b:∀z,(jp z).Au P λ_=>True:=λ⟨base,len,elem⟩=>by
  simp only[jp]
  refine Ac (Bf AB) λc=>?_
  cases base with
  |none=>exact Gv
  |some a=>exact AO (λ_=>Ac DW λ_=>Ae trivial) λ_=>AO (λ_=>rfl) λ_=>Gv
 clear_value jp
 split
 .exact Ac IL λ_=>Ac (Ae trivial) λ_=>b _
 .exact Ac (Ae trivial) λ_=>b _
 .exact Ac Ak λ_=>b _
theorem am9:(Builtin.len_ ts t a).Au P λ_=>True:=by
 unfold Builtin.len_;split
 .refine Ac (Bf AB) λd=>?_
  split
  .exact Ae trivial
  .exact Ae trivial
  .refine Ac (Bf AB) λd=>?_
   split
   .exact Ae trivial
   .exact Ak
  .exact Ae trivial
  .exact Ae trivial
  .exact Ae trivial
  .refine⟨λo _=>?_,I4⟩;cases o<;>first|exact Ak|exact Ae trivial
  .refine⟨λo _=>?_,I4⟩;cases o<;>first|exact Ak|exact Ae trivial
  .exact Ak
 .exact Ak
theorem an0:(Builtin.cap_ ts t a).Au P λ_=>True:=by
 unfold Builtin.cap_;split
 .refine Ac (Bf AB) λd=>?_
  split
  .exact Ae trivial
  .refine Ac (Bf AB) λd=>?_
   split
   .exact Ae trivial
   .exact Ak
  .exact Ae trivial
  .exact Ae trivial
  .refine⟨λo _=>?_,I4⟩;cases o<;>first|exact Ak|exact Ae trivial
  .exact Ak
 .exact Ak
theorem Zr:(Builtin.lenOf x).Au P λ_=>True:=by
 unfold Builtin.lenOf;split<;>first|exact Ae trivial|exact Ak
theorem LM {a:Nat}:(Builtin.firstCells a b x).Au P λ_=>True:=by
 unfold Builtin.firstCells;split<;>first|exact Rn|exact Ae trivial|exact Ak
theorem Ϣ:(Builtin.copy_ ts t a).Au P λ_=>True:=by
 unfold Builtin.copy_;split
 .refine Ac (Bf AB) λd=>?_
  split
  .split
   .refine Ac Zr λ_=>Ac DW λ_=>Ac LM λ_=>?_
    split
    .exact Ac FK λ_=>Ae trivial
    .exact Ae trivial
   .exact Ak
  .exact Ak
 .exact Ak
theorem wo:(Builtin.clear_ ts t a).Au P λ_=>True:=by
 unfold Builtin.clear_;split
 .refine Ac (Bf AB) λd=>?_
  extract_lets jp
  have b:∀z,(jp z).Au P λ_=>True:=λz=>Ae trivial
  clear_value jp
  split
  .exact b ()
  .exact b ()
  .exact b ()
  .refine⟨λo c=>?_,show EZ P _ (stuck "clear: map expected">>= jp)from fO I4⟩;cases o<;>first|(cases c;done)|exact(show Sem.Au P (λ_=>True) (stuck "clear: map expected">>= jp)from Ac Ak λu=>b u)
  .exact Ac Fg λ_=>Ac FK λu=>b u
  .exact Ac Ak λu=>b u
 .exact Ak
theorem Qx {a:f_}:(Builtin.holdsCells a n).KL P:=by
 refine λs=>?_
 cases s<;>trivial
theorem qN {a:f_}:(frozen a).KL P:=λ_=>trivial
theorem bV {a:Nat}{base:d_ f_}:(Builtin.mayShare a b c base x).KL P:=by
 unfold Builtin.mayShare
 extract_lets jp
 have d:∀z,(jp z).KL P:=λz=>by
  simp only[jp]
  split
  .trivial
  .split
   .exact Su Qx λ_=>trivial
   .trivial
 clear_value jp
 split
 .exact d _
 .exact Su Qx λ_=>Su qN λ_=>d _
theorem pG:(Builtin.append_ ts t a).Au P λ_=>True:=by
 unfold Builtin.append_;split
 .refine Ac (Bf AB) λd=>?_
  split
  .split
   .refine Ac DW λsize=>?_
    extract_lets ju jp1
    have m:∀u,(ju u).E5 P:=λu=>rfl
    clear_value ju
    have c:∀z,(jp1 z).Au P λ_=>True:=λo=>by
     dsimp -zeta only[jp1]
     extract_lets jp2
     have f:∀n,(jp2 n).Au P λ_=>True:=λn=>by
      dsimp -zeta only[jp2]
      extract_lets appended need jA j4 j3
      have p:appended.Au P λ_=>True:=by
       simp only[appended]
       exact AO (λ_=>LM) λ_=>AO (λ_=>Ae trivial) λ_=>Ac Fg λ_=>Ae trivial
      have hA:∀u,(jA u).Au P λ_=>True:=λu=>Ae trivial
      have h:∀u,(j4 u).Au P λ_=>True:=λu=>
       Ac FT λ_=>Ac Eh λ_=>Ac Vu λ_=>Ac LM λ_=>Ac p λ_=>Ac Fg λ_=>Ac KY λ_=>Ae trivial
      clear_value j4
      have g:∀u,(j3 u).Au P λ_=>True:=λu=>by
       refine Ac Eh λi=>?_
       refine AO (λ_=>Ac (AO (λ_=>Bg) λ_=>Sem.E5.lK (Np bV λb=>?_)) λu=>h u) λ_=>h ()
       split
       .exact Np (e:=mark .noRoom) trivial λu=>m u
       .exact m ()
      clear_value appended jA j3
      refine AO (λ_=>Ac p λnew=>?_) λ_=>Ac Eh λi=>AO (λ_=>Ac Bg λu=>g u) λ_=>g ()
      split
      .exact Ac FK λu=>hA u
      .exact hA ()
     clear_value jp2
     refine AO (λ_=>Ac NQ λa=>?_) λ_=>Ac Zr λn=>f n
     extract_lets l jp6 jp5
     have k:∀u,(jp6 u).Au P λ_=>True:=λu=>Ac (Ae trivial) λn=>f n
     clear_value jp6
     have j:∀u,(jp5 u).Au P λ_=>True:=λu=>by
      dsimp -zeta only[jp5]
      refine Ac Eh λi=>?_
      exact AO (λ_=>Ac FT λ_=>Ac Bg λu=>k u) λ_=>k ()
     clear_value jp5
     exact AO (λ_=>Ac Bg λu=>j u) λ_=>j ()
    clear_value jp1
    split
    .exact Ac (Bf AB) λ_=>Ac (Ae trivial) λz=>c z
    .exact Ac (Ae trivial) λz=>c z
   .exact Ak
  .exact Ak
 .exact Ak
end
def OZ (P:l_):Nat->j_->Bool
 |0,_=>false
 |d+1,t=>match P.underlying t with
  |some (.int _)=>match P.info? t with
   |some i=>match i.desc with
    |.named n _=>n != "sync.copyChecker"
    |_=>true
   |none=>true
  |some .bool=>true
  |some .string=>true
  |some (.struct fs)=>fs.all λf=>OZ P d f.type
  |_=>false
section
variable {P:l_}
theorem Zu {α β:Type}{f:α->β->Sem (ForInStep β)}:∀{l:List α} {b:β},(∀a∈l,∀b,(f a b).Au P λ_=>True)->(forIn l b f).Au P λ_=>True
 |[],b,_=>Ae trivial
 |a::l,b,h=>by
  rw[List.forIn_cons]
  refine Ac (h a (List.mem_cons_self ..) b) λs=>?_
  cases s with
  |done c=>exact Ae trivial
  |yield c=>exact Zu λa d b=>h a (List.mem_cons_of_mem _ d) b
theorem WZ {f:α->β->Sem (ForInStep β)}{l:Array α}{b:β}(h:∀a∈l,∀b,(f a b).Au P λ_=>True):(forIn l b f).Au P λ_=>True:=by
 rw[<-Array.forIn_toList];exact Zu λa c b=>h a (Array.mem_toList_iff.1 c) b
theorem Xn {fs:Array Field}(h:OZ P (d+1) t=true)(e:P.underlying t=some (.struct fs)):∀f∈fs,OZ P d f.type=true:=by
 simp only[OZ,e]at h;intro f a;exact Array.all_eq_true'.1 h f a
theorem Vt (w:P.globals.size=0):∀(k d:Nat)(t:j_)(x y:n_),OZ P k t=true->(Op.equalIn d t x y).Au P λ_=>True
 |0,d,t,x,y,h=>by cases h
 |k+1,0,t,x,y,h=>rfl
 |k+1,d+1,t,x,y,h=>by
  unfold Op.equalIn
  refine Gt λa c=>?_
  cases a with
  |bool=>split<;>first|contradiction|exact Ae trivial|exact Ak
  |string=>split<;>first|contradiction|exact Ae trivial|exact Ak
  |int p=>
   split<;>first
    |contradiction
    |exact Ae trivial
    |exact Ak
    |exact rfl
    |exact AO (λ_=>Ae trivial) λ_=>Ak
    |skip
   refine Dk (λz=>Dk (λn=>Bf (K:=λ_=>False) ?_) (DZ ?_)) (Io λn=>DZ ?_)
   all_goals
    refine Ej Dz λq hq=>?_
    subst hq
    rw[ru (by simp[w])]
    refine Ej IK λi hi=>?_
    simp only[OZ,c,hi]at h
    split
    .rename_i e;rw[e]at h;simp at h
    .rfl
  |struct o=>
   have g:=Xn h c
   split<;>first
    |contradiction
    |exact Ak
    |skip
   rename_i e
   injection e with e
   subst e
   refine Ac (Bf Dz) λq=>?_
   extract_lets jp
   have j:∀u,(jp u).Au P λ_=>True:=λu=>by
    refine Ac (WZ λf l b=>AO (λ_=>Ac Ja λ_=>Ac Ja λ_=>Ac (Vt w k d f.type _ _ (g f l)) λr=>AO (λ_=>Ae trivial) λ_=>Ae trivial) λ_=>Ae trivial) λs=>?_
    obtain⟨m,_⟩:=s
    cases m<;>exact Ae trivial
   exact AO (λ_=>Ac (E8 sJ) λu=>j u) λ_=>j ()
  |_=>(simp only[OZ,c]at h;cases h)
theorem NU:∀(k d:Nat)(t:j_)(x y:n_),OZ P k t=true->(Op.eqGuardIn d t x y).Au P λ_=>True
 |0,d,t,x,y,h=>by cases h
 |k+1,0,t,x,y,h=>rfl
 |k+1,d+1,t,x,y,h=>by
  unfold Op.eqGuardIn
  refine Gt λa g=>?_
  cases a with
  |struct l=>
   have c:=Xn h g
   split<;>first
    |contradiction
    |exact Ae trivial
    |skip
   rename_i e
   injection e with e
   subst e
   refine Ac (WZ λf i b=>AO (λ_=>Ac Ja λ_=>Ac Ja λ_=>Ac (NU k d f.type _ _ (c f i)) λr=>AO (λ_=>Ae trivial) λ_=>Ae trivial) λ_=>Ae trivial) λs=>?_
   obtain⟨j,_⟩:=s
   cases j<;>exact Ae trivial
  |bool=>split<;>first|contradiction|exact Ae trivial
  |string=>split<;>first|contradiction|exact Ae trivial
  |int m=>split<;>first|contradiction|exact Ae trivial
  |_=>(simp only[OZ,g]at h;cases h)
def yZ:Operand->Bool
 |.const (.pointer none)=>true
 |.const (.slice none _ _)=>true
 |.const .nilFunc=>true
 |_=>false
def YH:n_->Bool
 |.pointer none=>true
 |.slice none _ _=>true
 |.nilFunc=>true
 |_=>false
def ag6 (P:l_)(t:j_):Bool:=match P.underlying t with
 |some (.pointer _)=>true
 |some (.slice _)=>true
 |some (.func _ _ _)=>true
 |_=>false
theorem bz {y:n_}(h:ag6 P t=true)(j:YH x=true\/YH y=true):(Op.equalIn (d+1) t x y).Au P λ_=>True:=by
 unfold Op.equalIn;refine Gt λf g=>?_
 cases f with
 |pointer e=>
  split<;>first
   |contradiction
   |exact Ae trivial
   |exact Ak
   |(exfalso;obtain j|j:=j<;>cases j;done)
 |slice e=>split<;>first|contradiction|exact Ae trivial|exact Ak
 |func a b c=>split<;>first|contradiction|exact Ae trivial|exact Ak
 |_=>(simp only[ag6,g]at h;cases h)
theorem Vg {x:Operand}(h:yZ x=true)(fr:Frame):YH (fr.eval x)=true:=by
 unfold yZ at h;split at h<;>first|rfl|cases h
def QN (P:l_)(t:j_)(x y:Operand):Bool:=OZ P 5 t || (ag6 P t && (yZ x || yZ y))
theorem vZ (g:P.globals.size=0){x:Operand}(h:QN P t x y=true):(Op.equal t (fr.eval x) (fr.eval y)).Au P λ_=>True:=by
 unfold QN at h;simp only[Bool.or_eq_true,Bool.and_eq_true]at h;obtain h|⟨a,b⟩:=h
 .exact Vt g 5 _ _ _ _ h
 .exact bz (d:=9999) a (b.imp (λh=>Vg h fr) λh=>Vg h fr)
theorem wF (g:P.globals.size=0)(j:op=.eql\/op=.neq){x:Operand}(h:QN P t x y=true):(binOp op t (fr.eval x) (fr.eval y)).Au P λ_=>True:=by
 have c:=vZ g (fr:=fr) h;generalize fr.eval x=a at c ⊢;generalize fr.eval y=b at c ⊢;obtain rfl|rfl:=j
 .unfold binOp;split<;>first
   |contradiction
   |exact Ac c λ_=>Ae trivial
   |exact AO (λ_=>rfl) λ_=>Q4
   |exact AO (λ_=>rfl) λ_=>Kq
   |exact AO (λ_=>rfl) λ_=>NV
   |exact IM
 .unfold binOp;split<;>first
   |contradiction
   |exact Ac c λ_=>Ae trivial
   |exact AO (λ_=>rfl) λ_=>Q4
   |exact AO (λ_=>rfl) λ_=>Kq
   |exact AO (λ_=>rfl) λ_=>NV
   |exact IM
theorem jZ {x:Operand}(h:(op=.eql\/op=.neq)->QN P t x y=true):(eqGuard op t x y (fr.eval x) (fr.eval y)).Au P λ_=>True:=by
 unfold eqGuard;by_cases g:op=.eql\/op=.neq
 .have d:=h g;unfold QN at d;simp only[Bool.or_eq_true,Bool.and_eq_true]at d;have e:(!(match op with | .eql=>true | .neq=>true|_=>false))=false:=by obtain rfl|rfl:=g<;>rfl
  refine AO (λ_=>Ae trivial) λ_=>?_
  obtain d | ⟨_,f⟩:=d
  .split
   .exact AO (λ_=>Ae trivial) λ_=>Ac (NU 5 _ _ _ _ d) λ_=>AO (λ_=>E8 sJ) λ_=>Ae trivial
   .exact Ac (Bf Dz) λ_=>Ac (Bf Dz) λ_=>AO (λ_=>Ae trivial) λ_=>Ac (NU 5 _ _ _ _ d) λ_=>AO (λ_=>E8 sJ) λ_=>Ae trivial
   .exact Ae trivial
  .have c:YH (fr.eval x)=true\/YH (fr.eval y)=true:=f.imp (λh=>Vg h fr) λh=>Vg h fr
   generalize fr.eval x=a at c ⊢;generalize fr.eval y=b at c ⊢;split
   .obtain c|c:=c<;>cases c
   .obtain c|c:=c<;>cases c
   .exact Ae trivial
 .refine AO (λ_=>Ae trivial) λf=>?_
  exfalso;apply g;cases op<;>first|exact .inl rfl|exact .inr rfl|(simp at f;done)
def mF (P:l_)(t:j_):Bool:=match P.underlying t with
 |some (.int _)=>true
 |_=>false
theorem XJ {s:FloatKind}{k:IntKind}:(Conv.floatToInt s b k).Au P λ_=>True:=by
 unfold Conv.floatToInt;split
 .exact AO (λ_=>Ae trivial) λ_=>Ac FT λ_=>Ae trivial
 .exact Ac FT λ_=>Ae trivial
theorem ku {a b:j_}(g:mF P a=true)(hb:mF P b=true):(convert a b x).Au P λ_=>True:=by
 unfold convert;refine Gt λd f=>Gt λe c=>?_
 unfold mF at g hb;rw[f]at g;rw[c]at hb;cases d<;>first|(cases g;done)|skip
 cases e<;>first|(cases hb;done)|skip
 split<;>first
  |contradiction
  |exact Ae trivial
  |exact XJ
  |exact rfl
theorem Ip:∀(l:List FieldStep)(t:j_)(x:d_ n_),(followBlind l t x).Au P λ_=>True
 |[],_,_=>Ae trivial
 |s::l,t,x=>by
  unfold followBlind
  refine Ac (Bf AB) λd=>?_
  split
  .split
   .split
    .exact Ae trivial
    .exact Ip l _ _
    .exact Ak
    .exact Ae trivial
    .exact Ac Ja λ_=>Ip l _ _
    .exact Ak
    .exact Ip l _ _
   .exact Ak
  .exact Ak
theorem TB:∀(n:Nat)(t:j_)(v:n_)(s:String),(nilAhead n t v s).Au P λ_=>True
 |0,_,_,_=>Ae trivial
 |n+1,t,v,s=>by
  unfold nilAhead
  refine Ac Eh λi=>?_
  split
  .refine Ac (Ip _ _ _) λr=>?_
   split
   .exact Ae trivial
   .split
    .exact TB n _ _ _
    .exact Ae trivial
    .exact Ak
    .exact Ae trivial
    .exact Ae trivial
    .refine Ac (Bf AB) λd=>?_
     split<;>exact Ae trivial
  .exact Ak
theorem Lh:∀(l:List FieldStep)(t:j_)(x:Place),(follow l t x).Au P λ_=>True
 |[],_,_=>Ae trivial
 |s::l,t,x=>by
  unfold follow
  refine Ac (Bf AB) λd=>?_
  have b:∀(t:j_)(x:Place),(x.get t).Au P λ_=>True:=λt x=>by
   cases x with
   |val v=>exact Ae trivial
   |var a=>exact Ik
  split
  .split
   .refine AO (λ_=>Ac (b _ _) λ_=>Ac Lj λ_=>Ac LP λ_=>Lh l _ _) λ_=>?_
    split
    .exact Ac LP λ_=>Lh l _ _
    .exact Ac Ja λ_=>Lh l _ _
    .exact Ak
   .exact Ak
  .exact Ak
theorem Va {x:Place}:(x.get t).Au P λ_=>True:=by
 cases x with
 |val v=>exact Ae trivial
 |var a=>exact Ik
theorem jS {a b:n_}:(Builtin.ssaWrapNilChk_ #[t] t #[x,a,b]).Au P λ_=>True:=by
 cases a<;>first|exact rfl|skip
 cases b<;>first|exact rfl|skip
 cases x<;>first|exact rfl|skip
 rename_i o;cases o with
 |some a=>exact dE
 |none=>
  refine Ac (e:=choose _) FT λc=>?_
  extract_lets jp
  have f:∀u,(jp u).Au P λ_=>True:=λu=>by
   dsimp -zeta only[jp]
   split
   .refine Ac (Bf AB) λd=>?_
    split
    .refine Ac Eh λi=>?_
     split
     .split
      .extract_lets base targs
       split
       .exact Bg
       .exact rfl
      .exact Ak
     .exact Ak
    .exact Ak
   .exact Ak
  exact AO (λ_=>Ac Bg λu=>f u) λ_=>f ()
theorem Qv {x:Place}{b:Bool}{o:d_ String}:(receiverAt t x b o).Au P λ_=>True:=by
 unfold receiverAt;refine Ac (Bf AB) λd=>?_
 split
 .exact Va
 .refine Ac Va λq=>?_
  split
  .exact Ac jS λ_=>Ac Lj λ_=>Ik
  .exact Ac (Ae trivial) λ_=>Ac Lj λ_=>Ik
 .exact Ae trivial
 .exact Ak
 .exact Va
theorem WC {v:n_}{p:Array FieldStep}{b:Bool}:(receiverVia t v p b).Au P λ_=>True:=Ac (Lh _ _ _) λ_=>Qv
theorem WW:∀(n:Nat)(t:j_)(v:n_)(s:String),(method n t v s).Au P λ_=>True
 |0,_,_,_=>rfl
 |n+1,t,v,s=>by
  unfold method
  refine Ac Eh λi=>?_
  split
  .refine Ac (Lh _ _ _) λr=>?_
   obtain⟨a,b⟩:=r;dsimp only;split
   .refine Ac Va λq=>?_
    split
    .exact WW n _ _ _
    .exact Bg
    .exact Ak
   .exact Ac Qv λ_=>Ae trivial
  .exact Ak
def Ud (P:Program) (L:FuncId->Prop):Prop:=∀f,L f->∃fn,P.funcs[f]?=some fn/\fn.body.isNone=false/\(fn.name== "runtime.NumGoroutine")=false
variable {L:h_->Prop}{bb:Bool}
theorem bF (hB:Ud P L)(g:L f):(callFunc f args).Au P (FC L bb):=by
 obtain⟨fn,a,b,c⟩:=hB f g;unfold callFunc;refine Ej Dz λq hq=>?_
 subst hq;rw[a];simp only[b,c,jb,if_false];exact g
theorem vS:(Instr.yield l args).Au P (FC L bb):=by
 unfold Instr.yield Instr.getLoop;refine⟨λo b=>?_,λw d a e c _ _ h=>?_⟩
 .cases o<;>first|(cases b;done)|exact rfl
 .simp[Sem.bind,stuck,DV,Bind.bind]at h
theorem Xg {e:Sem α}{w w':o_}{es g:Array Event}{a:α}(h:e.runT P w es=(.ok a w',g)):e.run P w=.ok a w':=by
 have:=Sem.runT_eq P e w es;rw[this]at h;exact congrArg Prod.fst h
def KR (recv:n_)(name:String):Sem (h_×n_):=match recv with
 |.iface t u=>program>>= λq=>method (q.types.size+Made.depth) t u name
 |.nilIface=>runtimePanic .nilDeref
 |_=>stuck "invoke: interface value expected"
theorem TK (recv:n_)(name:String)(args:X_):callMethod recv name args=(KR recv name>>= λx=>callFunc x.1 (#[x.2]++args)):=by
 cases recv<;>rfl
theorem TC:(KR recv name).Au P λ_=>True:=by
 unfold KR;split
 .exact Ac (Bf Dz) λ_=>WW _ _ _ _
 .exact Bg
 .exact Ak
theorem Vx {v1:o_}{x:h_×n_}(h:(KR recv name).run P v=.ok x v1):∃t u,recv=.iface t u/\(method (P.types.size+Made.depth) t u name).run P v=.ok x v1:=by
 cases recv with
 |iface t u=>exact⟨t,u,rfl,h⟩
 |nilIface=>
  have:(runtimePanic .nilDeref:Sem (h_×n_)).run P v=.ok x v1:=h
  cases this
 |_=>cases (show(stuck "invoke: interface value expected":Sem (FuncId×Value)).run P v=.ok x v1 from h)
theorem Ku (hB:Ud P L)(g:L f\/Ext P f)(v:o_):Iy P (FC L bb) (callFunc f args) v:=
 g.elim (λh=>Sem.Au.here (bF hB h) v) λh=>av3 h args v
theorem Xk (hB:Ud P L)(g:∀t u f r w',recv=.iface t u->(method (P.types.size+Made.depth) t u name).run P v=.ok (f,r) w'->L f\/Ext P f):
  Iy P (FC L bb) (callMethod recv name args) v:=by
 rw[TK];refine Ug (e1:=KR recv name) (f:=λx=>callFunc x.1 (#[x.2]++args)) TC λx v1 c b h=>?_
 obtain⟨t,u,e,a⟩:=Vx (Xg h);exact Ku hB (g t u x.1 x.2 v1 e a) v1
theorem ac7 (hB:Ud P L){f:n_}(s:∀d w',(Deferred.ofValue f args).run P v=.ok d w'->∀g,d.target.leads P w' d.args=some g->L g\/Ext P g):
  Iy P (FC L bb) (Deferred.ofValue f args>>= λd=>invoke d.target d.args) v:=by
 cases f with
 |nilFunc=>exact Sem.Au.here (show(invoke .nil args).Au P (FC L bb) by simp only[invoke];exact Bg) v
 |func fn first cap=>
  have a:=s ⟨.fn fn cap,first++args⟩ v rfl
  show Iy P (FC L bb) (invoke (.fn fn cap) (first++args)) v
  simp only at a
  generalize first++args=b at a ⊢
  cases fn with
  |func g=>exact Ku hB (a g rfl) v
  |via t c g ptr=>
   simp only[invoke]
   cases b[0]? with
   |none=>exact Sem.Au.here Ak v
   |some x=>exact Ug (e1:=receiverVia t x c ptr) (f:=λy=>callFunc g (#[y]++b.extract 1 b.size)) WC λ_ v1 _ _ _=>Ku hB (a g rfl) v1
  |yield l=>exact Sem.Au.here (show(Instr.yield l b).Au P (FC L bb)from vS) v
  |method name=>
   simp only[invoke]
   cases h0:b[0]? with
   |none=>exact Sem.Au.here Ak v
   |some x=>
    refine Xk hB λt u f r w' e j=>a f ?_
    subst e
    simp only[Target.leads,h0,j]
  |methodOf t name=>
   simp only[invoke]
   cases h0:b[0]? with
   |none=>exact Sem.Au.here Ak v
   |some x=>
    have e:(underlying t>>= λd=>callMethod (match d with | .interface _=>x|_=>.iface t x) name (b.extract 1 b.size))=((underlying t>>= λd=>KR (match d with | .interface _=>x|_=>.iface t x) name)>>= λy=>callFunc y.1 (#[y.2]++b.extract 1 b.size)):=by
     rw[bind_assoc]
     congr 1
     funext d
     exact TK _ _ _
    refine(congrArg (Iy P (FC L bb) · v) e).mpr (Ug (e1:=underlying t>>= λd=>KR (match d with | .interface _=>x|_=>.iface t x) name) (f:=λy=>callFunc y.1 (#[y.2]++b.extract 1 b.size)) (Ac (Bf AB) λ_=>TC) λy v1 o n h=>?_)
    have j:=Xg h
    have i:(match P.underlying t with
     |some d=>KR (match d with | .interface _=>x|_=>.iface t x) name
     |none=>stuck "":Sem (FuncId×Value)).run P v=.ok y v1:=by
     cases hu:P.underlying t with
     |none=>simp[underlying,hu]at j
     |some d=>simpa [underlying,hu]using j
    cases hu:P.underlying t with
    |none=>rw[hu]at i;cases i
    |some d=>
     rw[hu]at i
     obtain⟨p,q,k,m⟩:=Vx i
     refine Ku hB (a y.1 ?_) v1
     simp only[Target.leads,h0,hu,Option.map_some]
     cases d<;>(simp only at k ⊢;first
      |(injection k with e1 e2;subst e1 e2;simp only[m];done)
      |(subst k;simp only[m];done))
 |_=>exact Sem.Au.here (ac1 (e:=(stuck _:Sem Deferred)) xZ) v
end
end Go.Fxa
