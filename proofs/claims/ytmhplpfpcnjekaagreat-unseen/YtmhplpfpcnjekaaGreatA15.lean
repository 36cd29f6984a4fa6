/- goOn, from its call to its ret -/
import Derived.Test.YtmhplpfpcnjekaaGreatA14
open Go.Proofs.Tryz
namespace Go.Fxa
open Go.Conc
open Go.ConcN (sumTo upd sumTo_upd upd_ne upd_same)
variable {Od:Old} {cs:Z_} {v:o_} {B:Nat}
structure ai2 (P:l_) (N:Fence) (m:Nat):Prop where
 boxes:∀(sa:f_) (n:Int) (v:o_) (g:Y_),∀τ d,(S0 P).wpIn N m P (Ends λtm w'=>∃g' b2 b3,tm=TN 18 (A8 g' [(2,pr b2),(3,pr b3)])/\Iy v w'/\v.heap.size<=b2/\v.heap.size<=b3/\b2<w'.heap.size/\b3<w'.heap.size/\b2≠b3/\w'.cell? (R_ b2)=some (.pointer (some sa))/\w'.cell? (R_ b3)=some (b_ n)) ⟨TN 18 (A8 g [(0,.pointer (some sa)),(1,b_ n)]),[]⟩ (v.re τ d)
 makes:∀(b2 b3:Nat) (v:o_) (g:Y_),∀τ d,(S1 P).wpIn N m P (Ends λtm w'=>∃g' b5 r q0 q1 q2 q3,tm=TN 18 (A8 g' (zQ b2 b3 b5))/\Iy v w'/\(∀x∈[b5,r,q0,q1,q2,q3],v.heap.size<=x)/\[b5,r,q0,q1,q2,q3].Nodup/\BA r #[DV q0,DV q1,DV q2,DV q3] 257 w' 0 0/\w'.cell? (R_ b5)=some (pr r)/\∀q∈[q0,q1,q2,q3],w'.heap[q]?=some (.chan 0 #[] false 0 0 false)) ⟨TN 18 (A8 g [(2,pr b2),(3,pr b3)]),[]⟩ (v.re τ d)
structure zA {P:l_} {N:Fence} {m:Nat} {kv:n_} {pa:f_} {n:Int} (S:Sj P N m kv pa n) where
 B0:o_->Prop
 B2:o_->Prop
 B3:o_->Prop
 t2:Dv B2
 t3:Dv B3
 bring:∀(v:o_) (f:Y_),B0 v->∀τ d,(R2 P).wpIn N m P (Ends λtm w'=>∃f',tm=TN 76 (A8 f' (pO kv pa n CY))/\B2 w') ⟨TN 76 (A8 f (pO kv pa n CY)),[]⟩ (v.re τ d)
 clear:∀(v:o_) (f:Y_),B2 v->∀τ d,(R3 P).wpIn N m P (Ends λtm w'=>∃f',tm=TN 76 (A8 f' (pO kv pa n CY))/\B3 w') ⟨TN 76 (A8 f (pO kv pa n CY)),[]⟩ (v.re τ d)
 start:∀v v',B3 v->Iy v v'->S.I 0 CY v'
section
variable {P:l_} {L:h_->Prop} {p:h_->Oper->Bool} {N:Fence} {m:Nat} {host:h_} {Z:Nat->Prop} {Ad:Loc->Prop} {gs:Array m_} {w:o_} {sl:d_ (W_)} {t:Trace}
theorem cu.part {EC:h_} {kd:CallKind} {k:List Item} {ds:List Deferred} {Q:X_->o_->Prop} {c:Code} {tmps:X_} (W:Xy P L p N host) (y:Gp Ad Z) (x:EC=56\/EC=93\/EC=97\/EC=136\/EC=187) (n:(kd==CallKind.early)=false)
  (u:c∈[R2 P,R3 P,S0 P,S1 P,R10 P,R11 P,R15 P,R16 P,A0 P,R21 P,WI P,ZH P,R12 P]) (z:∀τ d,c.wpIn N m P (Ends Q) ⟨tmps,[]⟩ (v.re τ d)) (s:∀i,Dv (Q i)) (q:cu Od P Ad Z B v gs w t) (r:gs[0]?=some (G (Frame.mk EC tmps (.code c::k) ds .run kd none) cs)):
  AQ P gs w sl t λl w' o=>∃i v' j,l[0]?=some (G (Frame.mk EC i k ds .run kd none) cs)/\Q i v'/\cu Od P Ad Z j v' l w' o:=by
 refine(MJ W.fenced y W.Qq (W.seen EC x) n (W.ops c u) gZ z q r).mono λl w' o ⟨g,v',j,a,⟨i,τ,d,e⟩,_,_,b⟩=>?_
 obtain⟨rfl,_,_,h⟩|⟨_,_,f,_⟩:=e
 .exact⟨i,v',j,a,(s i).back h,b⟩
 .cases f
theorem Iy.trans {a b c:o_} (h:Iy a b) (e:Iy b c):Iy a c:=
 ⟨pV h.1 e.1,λx d=>(e.2.1 x (Nat.lt_of_lt_of_le d h.1)).trans (h.2.1 x d),e.2.2.1.trans h.2.2.1,e.2.2.2.trans h.2.2.2⟩
theorem oH (A:E5 P) (W:Xy P L p N host) (M:aO P N m) (ST:ai2 P N m) {kv:n_} {pa:f_} {n:Int} {c0:Frame} (hn:n<=1000) (hn0:0<=n) (S:Sj P N m kv pa n) (U:zA S) (hu:Gp Ad Z) (hB0:U.B0 v) (Bs:cu Od P Ad Z B v gs w t)
  (h0:gs[0]?=some (BJ (z0 P kv pa n (c0::cs)))):
  Nw P gs w sl t λBh w' t'=>∃Z' O1,(∀x,Z x->Z' x)/\Gp O1 Z'/\Back Od P O1 Z' S.Fin c0 cs Bh w' t':=by
 have K:=A.FU;refine(Bs.TJ h0 (DK (K.z1a _ _ _ _))).then λgs1 w1 Jz t1 _ ⟨h1,Bs1,_⟩=>?_
 rw[show run P 9 (z0 P kv pa n (c0::cs))=z1 P kv pa n (c0::cs)from rfl,at_toldN (l:=pO kv pa n CY) (K.z1b _ _ _ _) (K.z1c _ _ _ _) (K.z1d _ _ _ _)]at h1;refine(cu.part W hu (.inl rfl) rfl zF (U.bring v _ hB0) (λtm v τ d ⟨f',e,h⟩=>⟨f',e,U.t2 v τ d h⟩) Bs1 h1).then λgs2 w2 sl2 t2 _ ⟨tm2,v2,B2,h2,⟨f2,e2,hB2⟩,Bs2⟩=>?_
 subst e2;refine(Bs2.TJ h2 (I9 (K.z3 (A8 f2 (pO kv pa n CY)) (c0::cs)))).then λgs3 w3 sl3 t3 _ ⟨h3,Bs3,_⟩=>?_
 refine(cu.part W hu (.inl rfl) rfl zF (U.clear v2 f2 hB2) (λtm v τ d ⟨f',e,h⟩=>⟨f',e,U.t3 v τ d h⟩) Bs3 h3).then λgs4 w4 NY t4 _ ⟨tm4,v4,B4,h4,⟨D,e4,hB4⟩,Bs4⟩=>?_
 subst e4;refine(Bs4.TJ h4 (DK (K.z5a kv pa n CY D (c0::cs)))).then λgs5 w5 sl5 t5 _ ⟨h5,Bs5,_⟩=>?_
 rw[show run P 8 (f56 (A8 D (pO kv pa n CY)) (c0::cs) (T3 P) [])=z5 P kv pa n CY D (c0::cs)from rfl,at_toldN (l:=[(0,Va pa),(1,b_ n)]) (K.z5b _ _ _ _ _ _) (K.z5c _ _ _ _ _ _) (K.z5d _ _ _ _ _ _)]at h5;refine(cu.part W hu (.inr (.inl rfl)) rfl zF (ST.boxes (pa.add 5) n v4 _) (λtm v τ d h=>h) Bs5 h5).then λgs6 w6 Fa t6 _ ⟨tm6,v6,B6,h6,⟨g6,f,j,e6,H,k2,k3,l2,l3,k23,c2,c3⟩,Bs6⟩=>?_
 subst e6;refine(Bs6.TJ h6 (I9 (K.y1 (A8 g6 [(2,pr f),(3,pr j)]) (Y4 P kv pa n CY D (c0::cs))))).then λgs7 w7 Oy t7 _ ⟨h7,Bs7,_⟩=>?_
 refine(cu.part W hu (.inr (.inl rfl)) rfl zF (ST.makes f j v6 g6) (λtm v τ d h=>h) Bs7 h7).then λgs8 w8 sl8 t8 _ ⟨tm8,v8,B8,h8,⟨E,o,r,O,q1,Q,q3,e8,z,C,knd,kr,k5,kq⟩,Bs8⟩=>?_
 subst e8;have hZ4:∀x,Z x->x<v4.heap.size:=Bs4.choose_spec.2.1;have T4:au Od Z v4 w4:=Bs4.choose_spec.1;obtain⟨q8,T8,hZ8,L8,P8,S8⟩:=Bs8;have cj9:v6.heap.size<=o/\v6.heap.size<=r/\v6.heap.size<=O/\v6.heap.size<=q1/\v6.heap.size<=Q/\v6.heap.size<=q3:=⟨C _ zF,C _ zF,C _ zF,C _ zF,C _ zF,C _ zF⟩;obtain⟨m5,mr,m0,m1,m2,m3⟩:=cj9;simp only[List.nodup_cons,r_,p_,or_false,not_or,List.nodup_nil,and_true,not_false_eq_true]at knd;obtain⟨⟨d5r,d50,d51,d52,d53⟩,⟨dr0,dr1,dr2,dr3⟩,⟨d01,d02,d03⟩,⟨d12,d13⟩,d23⟩:=knd;have g46:=H.1;have g68:=z.1
 let b:JY:=⟨f,j,o,r,O,q1,Q,q3,Va pa,n⟩
 have G:∀q,b.ϫ q->v8.heap[q]?=some (.chan 0 #[] false 0 0 false):=λq h=>kq q (by obtain e|e|e|e:=h<;>simp[e,b])
 have V:∀x,b.own x->v4.heap.size<=x:=λx c=>by
  simp only[JY.own,b]at c
  omega
 have BL:∀x,b.own x->x<v8.heap.size:=λx c=>by
  have hr:=kr.lt
  have h5:=Me k5
  have e0:=(y_.1 (G O (.inl rfl))).1
  have e1:=(y_.1 (G q1 (.inr (.inl rfl)))).1
  have e2:=(y_.1 (G Q (.inr (.inr (.inl rfl))))).1
  have e3:=(y_.1 (G q3 (.inr (.inr (.inr rfl))))).1
  simp only[JY.own,b]at c
  simp only at h5
  omega
 have hnz:∀x,b.own x->¬Z x:=λx c hz=>by have:=V x c;have:=hZ4 x hz;omega
 have OK:b.Ok:=by
  refine⟨λq hq=>?_,?_,?_⟩
  .simp only[JY.ϫ,b]at hq;simp only[b];refine⟨zD,zD,?_,?_⟩<;>(obtain e|e|e|e:=hq<;>subst e<;>first|exact ik d50|exact ik d51|exact ik d52|exact ik d53|exact ik dr0|exact ik dr1|exact ik dr2|exact ik dr3)
  .simp only[b];exact⟨zD,zD,d5r⟩
  .exact⟨d01,d02,d03,d12,d13,d23⟩
 have hod:∀x,b.own x->¬Od.dead x:=λx c F=>by have:=V x c;have:=(y_.1 (T4.Kt x F)).1;omega
 have jW:∀x,b.own x->w8.heap[x]?=v8.heap[x]?:=λx c=>(T8.same x (hnz x c) (hod x c)).symm
 have BF:BA r b.pre 257 w8 0 0:=by unfold BA;rw[jW r (by simp[JY.own,b])];exact kr
 have y:b.cells w8:=by
  refine⟨Ib k5 (jW o (by simp[JY.own,b])),Ib (w:=v8) ?_ (jW f (by simp[JY.own,b])),Ib (w:=v8) ?_ (jW j (by simp[JY.own,b]))⟩
  .exact Ib c2 (z.2.1 f l2)
  .exact Ib c3 (z.2.1 j l3)
 have cm7:∀q,b.ϫ q->w8.heap[q]?=some (.chan 0 #[] false 0 0 false):=λq h=>by
  rw[jW q (by obtain e|e|e|e:=h<;>simp[JY.own,e])];exact G q h
 obtain⟨v9,T9,sz9,bz1,os9,cj1⟩:=T8.kill (Z':=λx=>Z x\/b.own x) (λ_ h=>.inl h) (λx c F=>c.elim (T8.Zt x F) λh=>hod x h F);have hg9:Iy v4 v9:=by
  refine⟨zD,λx c=>?_,by rw[os9,z.2.2.1,H.2.2.1],by rw[cj1,z.2.2.2,H.2.2.2]⟩
  by_cases hz:Z x
  .rw[T9.dead x (.inl hz) zD,T4.dead x hz c]
  .have F:¬b.own x:=λF=>by have:=V x F;omega
   rw[bz1 x (λh=>h.elim hz F),z.2.1 x zD,H.2.1 x c]
 have hZ9:∀x,(Z x\/b.own x)->x<v9.heap.size:=λx c=>by
  rw[sz9]
  exact c.elim (hZ8 x) (BL x)
 have Y:Gp (λl=>Ad l\/LM b.r b.pre l) (λx=>Z x\/b.own x):=by
  refine⟨λa h=>?_,λx h=>?_⟩
  .obtain h|h|h:=h
   .exact .inl (hu.1 a h)
   .injection h with h;subst h;exact .inr (by simp[JY.own,stA])
   .injection h with h;subst h;exact .inr (by simp[JY.own,smA])
  .obtain h|h|h:=h
   .exact .inl (hu.2 x h)
   .cases h
   .cases h
 have J:∀l,b.Still l->¬(Ad l\/LM b.r b.pre l):=λl hl h=>by
  obtain h|h:=h
  .have:∃a,l=.cell a/\b.own a.block:=by obtain e|e|e|e|e|e|e:=hl<;>exact⟨_,e,by simp[JY.own]⟩
   obtain⟨a,rfl,ha⟩:=this;exact hnz _ ha (hu.1 a h)
  .exact VB h hl
 have Bs9:cu Od P (λl=>Ad l\/LM b.r b.pre l) (λx=>Z x\/b.own x) B8 v9 gs8 w8 t8:=⟨q8,T9,hZ9,L8,Past.shun P8 (λ_ h=>.inl h),S8⟩;refine(Bs9.TJ h8 (DK (K.y3a E (Y4 P kv pa n CY D (c0::cs)) f j o))).then λgsa wa sla ta _ ⟨ha,Ba,wa8⟩=>?_
 refine(Ba.read ha (K.y3b E _ f j o r) (Ib y.1 (by rw[wa8])) (J _ (.inl rfl))).then λgsb wb slb tb _ ⟨hb,Bb,wba⟩=>?_
 refine(Bb.TJ hb (DK (K.y4a E _ f j o r))).then λgsc wc slc tc _ ⟨hc,Bc,wcb⟩=>?_
 have ec:wc.heap=w8.heap:=wcb.trans (wba.trans wa8);have hc':gsc[0]?=some (BJ (y4 P E (Y4 P kv pa n CY D (c0::cs)) f j o r)):=hc;rw[K.y4b]at hc';obtain⟨qc,Tc,hZc,Lc,Pc,Sc⟩:=Bc;refine(xk (Z:=λx=>x=r) (br5 (A.add _ _ _)) rfl hc' Lc Pc Sc (show BA r b.pre 257 wc 0 0 by unfold BA;rw[ec];exact BF)).then λgsd wd sld td _ ⟨qd,hd,od,rd,Ld,Pd,Sd⟩=>?_
 have odZ:CP (λx=>Z x\/b.own x) wc wd:=⟨od.size,λx c=>od.same x (λe=>c (.inr (by simp[JY.own,b,e]))),od.os,od.output,od.tape⟩;have Bd:cu Od P (λl=>Ad l\/LM b.r b.pre l) (λx=>Z x\/b.own x) B8 v9 gsd wd td:=⟨qd,Tc.off hZc odZ,hZc,Ld,Pd,Sd⟩;have KSd:b.KS wd:=by
  refine⟨rd,y.keep λx c=>?_,λq hq=>⟨0,?_⟩⟩
  .rw[od.same x (by obtain e|e|e:=c<;>subst e<;>first|exact OK.br.2.2|exact OK.br.1|exact OK.br.2.1),ec]
  .rw[od.same q (OK.bq q hq).2.2.2,ec];exact cm7 q hq
 refine(Bd.TJ hd (DK (K.y6a E (Y4 P kv pa n CY D (c0::cs)) f j o r))).then λu we sle te _ ⟨he,Be,eed⟩=>?_
 have KSe:b.KS we:=(Oi (s:=b) (Z:=λ_=>True) (λ_ _=>trivial)).keep wd we (λx _=>by rw[eed]) KSd;obtain⟨qe,Te,hZe,Le,Pe,Se⟩:=Be;have LQ:0<u.size:=(y_.1 he).1;have EV:Env (λx=>Z x\/b.own x) (λl=>Ad l\/LM b.r b.pre l) b u.size:=⟨λ_ h=>.inr h,Y,λ_ h=>.inr h,J,OK,zD⟩;obtain⟨fK,hTK,hgK,hcK⟩:=yB (s:=b) K (K.ce5 kv pa n CY D E (c0::cs) f j o r O Q) (K.ce4 kv pa n CY D E (c0::cs) f j o r O Q) (K.ce3 kv pa n CY D E (c0::cs) f j o r O Q);have R:=OG (s:=b);have hw:RW P true b.KW b.Still 58 (BJ (BG (y6 P E (Y4 P kv pa n CY D (c0::cs)) f j o r) undef)) (BJ (y10 P kv pa n CY D E (c0::cs) f j o r O Q)):=
  ((((((RW.AU (K.y7a _ _ _ _ _ _)).trans (RW.at (K.y7b _ _ _ _ _ _) R.c5 R.s5)).trans (RW.AU (K.y8a _ _ _ _ _ _ _ _ _ _ _))).trans (RW.at (K.y8b _ _ _ _ _ _ _ _ _ _ _ O) R.r0 R.t0)).trans (RW.AU (K.y9a _ _ _ _ _ _ _ _ _ _ _ _))).trans (RW.at (K.y9b _ _ _ _ _ _ _ _ _ _ _ _ Q) R.r2 R.t2)).trans (RW.AU (K.ce6 _ _ _ _ _ _ _ _ _ _ _ _ _));have Ql:=RW.seat (k:=0) (home:=(·=gK P b fK (c0::cs))) (cases:=OX b.q0 b.q2) (shape:=.select) (LX _) ⟨_,#[],hgK,LX _,zF,λw _=>IW hcK w⟩ hw;obtain⟨N1,gsf,df,slf,tf,qf,hrf,hzf,hcf,Df⟩:=ap7 (K:=b.KW) (K1:=b.KS) (TT:=Kq u.size b.r b.pre) (sl:=sle) (Oi (s:=b) EV.KU) (λl hl=>by obtain e|e|e|e|e|e|e:=hl<;>subst e<;>rfl) J he (LX _) Le Pe Se (λd=>uH (K.y6b E _ f j o r) (we.at d)) zF KSe
  (λt' hp i a ha F hk=>by
   have hmem:a.loc.isMemory=true:=by obtain e|e:=F<;>rw[e]<;>rfl
   obtain h|⟨_,h,_⟩|⟨_,h,_⟩:=hp.known i a ha hmem
   .exact h
   .exact(VB F h).elim
   .rw[hk]at h;cases h.1) (yN KSe) (LX _) Ql
 have Hf:eF Od P (λx=>Z x\/b.own x) (λl=>Ad l\/LM b.r b.pre l) b.Still (IZ u.size) (λg=>g=0) u.size 0 (ByK P b u.size (gK P b fK (c0::cs))) (λg v=>g=BJ (ch0 P o f j)/\S.I 0 CY v) gsf (we.at df) tf:=
  ⟨qf,_,B8,_,v9,hcf,⟨rfl,U.start v4 v9 hB4 hg9⟩,Te.off hZe (CP.at we df),hZe,Df⟩;obtain⟨fb,bq4⟩:=oQ (main:=u.size==0) (A.child o f j r O q1 Q q3 (Va pa) n) R;have step2:Nw P gsf (we.at df) slf tf (yf Od P (λl=>Ad l\/LM b.r b.pre l) (λx=>Z x\/b.own x) S.Fin c0 cs):=
  (Hf.walk (sl:=slf) xQ (λw a h hs=>Ju h hs) J (su EV) bq4).then λgsg wg slg tg _ Hg=>
   (vI (s:=b) A W M EV S hn rfl n.toNat 0 CY fb fK gsg wg slg tg (by show(n-0).toNat<=n.toNat;omega) (Int.le_refl _) hn0 hTK Hg).leads
 obtain⟨N2,cn4,w2',sl2',t2',hr2,X⟩:=step2;obtain⟨Zf,T,X⟩:=X;exact⟨N1+N2,cn4,w2',sl2',t2',by rw[runNT_add,hrf];exact hr2,Zf,_,λ_ h=>T _ (.inl h),⟨λa h=>T _ (Y.1 a h),λx h=>T _ (Y.2 x h)⟩,X⟩
end
end Go.Fxa
namespace Go.Fxa
open Go.Conc Go.Proofs
theorem Ϩ:E5 prog where
 FU:=ϊ
 child:=λ_ _ _ _ _ _ _ _ _ _=>oN
 ans:=λ_ _ _ _ _ _=>ϧ
 done:=λr b a=>vW r b a
 add:=λr c Y=>ϩ r c Y
 wait:=λr c Y=>tq r c Y
 mixed:=sJ
 blk:=ϥ
 back:=λ_ _ _ _ _ _ _ _ _=>wY
end Go.Fxa
namespace Go
open Go.Fxa Go.Conc
def Sem.Kr (P:l_) {α:Type}:Sem α->Prop
 |.pure _=>True
 |.load _ _ k=>∀x,(k x).Kr P
 |.store _ _ _ k=>k.Kr P
 |.new o k=>o.plain=true/\∀r,(k r).Kr P
 |.shape _ k=>∀s,(k s).Kr P
 |.freeze _ _ k=>k.Kr P
 |.frozen _ k=>∀b,(k b).Kr P
 |.getObj _ k=>∀o,(k o).Kr P
 |.setObj _ o k=>o.plain=true/\k.Kr P
 |.choose _ k=>∀n,(k n).Kr P
 |.sys _ k=>∀r,(k r).Kr P
 |.program k=>(k P).Kr P
 |.mark _ k=>k.Kr P
 |.halt h=>h.KY=true
end Go
namespace Go.Fxa
open Go.Conc
variable {P:l_} {α β:Type} {t e:j_} {v:o_} {n i c b l d:Nat} {ps:Array (Nat×n_)} {x recv:n_} {a args:X_} {y:Operand} {ts:Array j_} {fr:Frame} {op:BinOp} {f:h_} {name:String}
theorem Nb {e:Sem α} {f:α->Sem β} (h:e.Kr P) (g:∀a,(f a).EU P):(e>>= f).EU P:=by
 show(e.bind f).EU P
 induction e with
 |pure a=>exact g a
 |load m a k b=>exact λx=>b x (h x)
 |store m a v k b=>exact b h
 |new o k b=>exact⟨h.1,λx=>b x (h.2 x)⟩
 |shape r k b=>exact λx=>b x (h x)
 |freeze a n k b=>exact b h
 |frozen a k b=>exact λx=>b x (h x)
 |getObj r k b=>exact λx=>b x (h x)
 |setObj r o k b=>exact⟨h.1,b h.2⟩
 |choose q k b=>exact λx=>b x (h x)
 |sys c k b=>exact λx=>b x (h x)
 |program k b=>exact b P h
 |mark m k b=>exact b h
 |halt d=>exact h
theorem Ry {e:Sem α} {f:α->Sem β} (h:e.Kr P) (g:∀a,(f a).Kr P):(e>>= f).Kr P:=by
 show(e.bind f).Kr P
 induction e with
 |pure a=>exact g a
 |load m a k b=>exact λx=>b x (h x)
 |store m a v k b=>exact b h
 |new o k b=>exact⟨h.1,λx=>b x (h.2 x)⟩
 |shape r k b=>exact λx=>b x (h x)
 |freeze a n k b=>exact b h
 |frozen a k b=>exact λx=>b x (h x)
 |getObj r k b=>exact λx=>b x (h x)
 |setObj r o k b=>exact⟨h.1,b h.2⟩
 |choose q k b=>exact λx=>b x (h x)
 |sys c k b=>exact λx=>b x (h x)
 |program k b=>exact b P h
 |mark m k b=>exact b h
 |halt d=>exact h
section
variable {P:l_}
theorem WR:(underlying t).Kr P:=by
 show Sem.Kr P (Sem.program _);show Sem.Kr P (match P.underlying t with|some d=>_|none=>_);cases P.underlying t<;>first|trivial|rfl
theorem oK:(elemOf t).Kr P:=by
 refine Ry WR λd=>?_
 cases d<;>first|trivial|rfl
theorem U6 {e:RuntimeError}:(runtimePanic e:Sem α).EU P:=by
 refine Nb (e:=program) trivial λp=>?_
 cases e<;>first
  |exact P9
  |exact Nb oK λ_=>Nb (e:=newVar _ _) ⟨rfl,λ_=>trivial⟩ λ_=>P9
theorem Gj {f:TypeDesc->Sem α} {K:α->Prop} (h:∀d,P.underlying t=some d->(f d).Ar P K):(underlying t>>= f).Ar P K:=Eg AB h
theorem um {h:Bool} {g:n_}:(Instr.alloc e h g).Ar P λ_=>True:=by
 unfold Instr.alloc;refine Aa E8 λz=>?_
 split
 .exact Aa Sm λ_=>Ae trivial
 .exact Aa QH λ_=>Ae trivial
theorem aj6 {v:n_}:(Instr.box e v).Ar P λ_=>True:=Aa QH λ_=>Ae trivial
theorem DN:(sizeOf t).Ar P λ_=>True:=A7 Oo
theorem Ee:(typeInfo t).Ar P λ_=>True:=A7 IB
theorem UT:(askRoom n).Ar P λ_=>True:=by
 unfold askRoom;exact AO (λ_=>.inl ⟨rfl,eu⟩) λ_=>Ae trivial
theorem uh:(Instr.build t ps).Ar P λ_=>True:=by
 unfold Instr.build;refine Aa E8 λz=>Aa (A7 AB) λd=>?_
 split
 .refine Aa (YH (λf=>Aa DN λ_=>Ae trivial) _) λa=>?_
  split
  .exact Ae trivial
  .exact Ak
 .refine Aa DN λn=>?_
  split
  .exact Ae trivial
  .exact Ak
 .exact Ak
theorem WO:(Instr.buildSlice t n ps).Ar P λ_=>True:=by
 unfold Instr.buildSlice;refine Aa (A7 AB) λd=>?_
 split
 .refine Aa DN λsize=>?_
  extract_lets jp jp2
  have b:∀z,(jp z).Ar P λ_=>True:=λz=>by
   simp only[jp]
   split
   .exact Aa KI λ_=>Ae trivial
   .exact Ak
  have a:∀z,(jp2 z).Ar P λ_=>True:=λz=>by
   simp only[jp2]
   exact AO (λ_=>Aa (Ae trivial) λ_=>b _) λ_=>Aa E8 λ_=>Aa (Ae trivial) λ_=>b _
  exact AO (λ_=>rfl) λ_=>a ()
 .exact Ak
theorem Zd {l c:n_}:(Instr.makeSlice t l c).Ar P λ_=>True:=by
 unfold Instr.makeSlice;refine Aa (A7 AB) λd=>?_
 split
 .refine Aa NJ λa=>Aa NJ λb=>Aa Ee λi=>?_
  extract_lets bytes tooLarge l' c' jp
  have e:∀z,(jp z).Ar P λ_=>True:=λz=>by
   simp only[jp]
   refine Aa UT λ_=>Aa DN λk=>?_
   exact AO (λ_=>Aa (Ae trivial) λ_=>Aa KI λ_=>Ae trivial) λ_=>Aa E8 λ_=>Aa (Ae trivial) λ_=>Aa KI λ_=>Ae trivial
  refine AO (λ_=>AO (λ_=>Aa Bf λu=>e u) λ_=>AO (λ_=>Aa Bf λu=>e u) λ_=>Aa FH λ_=>Aa Bf λu=>e u) λ_=>e ()
 .exact Ak
theorem Fz {y:Nat} {c:BoundsCode}:(Instr.sliceBound x y c).Ar P λ_=>True:=by
 unfold Instr.sliceBound;refine Aa (A7 MC) λa=>?_
 exact AO (λ_=>Ae trivial) λ_=>Gm
theorem ZM {f:Fn} {b:X_}:(Instr.makeFunc f a b).Ar P λ_=>True:=Ae trivial
theorem TG:(Instr.makeInterface t x).Ar P λ_=>True:=by
 unfold Instr.makeInterface;refine Aa (A7 AB) λd=>?_
 split
 .exact Ak
 .exact Ae trivial
theorem iO:(Instr.extract x i).Ar P λ_=>True:=by
 unfold Instr.extract;split
 .split
  .exact Ae trivial
  .exact Ak
 .exact Ak
theorem tZ:(Instr.field t x i).Ar P λ_=>True:=by
 unfold Instr.field;refine Aa (A7 AB) λd=>?_
 split
 .split
  .exact Aa uk λ_=>I5
  .exact Ak
 .exact Ak
theorem tY {i:n_}:(Instr.index t x i).Ar P λ_=>True:=by
 unfold Instr.index;refine Aa (A7 MC) λa=>Aa (A7 AB) λd=>?_
 split
 .exact AO (λ_=>Aa DN λ_=>I5) λ_=>Gm
 .split
  .exact Ae trivial
  .exact Gm
 .exact Ak
theorem mO {a:f_}:(partAt a c b).Ar P λ_=>True:=Aa QK λ_=>Aa QK λ_=>Ae trivial
theorem Ls {a:f_} {f:Field}:(fieldPlace a f).Ar P λ_=>True:=by
 unfold fieldPlace;exact Aa DN λ_=>AO (λ_=>mO) λ_=>Ae trivial
theorem iM:(Instr.fieldAt t x i).Ar P λ_=>True:=by
 unfold Instr.fieldAt;refine Aa (A7 AB) λd=>?_
 split
 .split
  .exact Aa IC λ_=>Aa Ls λ_=>Ae trivial
  .exact Ak
 .exact Ak
theorem mP:(Instr.loadAt t x).Ar P λ_=>True:=Aa IC λ_=>Ic
theorem iI {y:n_}:(Instr.storeAt t x y).Ar P λ_=>True:=Aa IC λ_=>Sm
theorem tX:(Instr.panic x).Ar P λ_=>True:=by
 unfold Instr.panic;split
 .exact PV
 .have a:(Instr.panicnil).Kr P:=by
   unfold Instr.panicnil
   refine λr=>?_
   cases r<;>first|exact rfl|exact eu
  exact Sem.EU.jE (Nb a λn=>by split<;>first|exact P9|exact U6)
 .exact Ak
theorem Gl {b:Bool} {x y z:d_ n_}:(Instr.sliceBounds b l c x y z).Ar P λ_=>True:=by
 unfold Instr.sliceBounds
 extract_lets j1
 have a:∀k,(j1 k).Ar P λ_=>True:=λk=>by
  cases y<;>cases z<;>cases x<;>simp only[j1]<;>first
   |exact Aa Fz λ_=>Aa Fz λ_=>Ae trivial
   |exact Aa Fz λ_=>Aa (Ae trivial) λ_=>Ae trivial
   |exact Aa (Ae trivial) λ_=>Aa Fz λ_=>Ae trivial
   |exact Aa (Ae trivial) λ_=>Aa (Ae trivial) λ_=>Ae trivial
   |exact Aa Ak λ_=>Aa Fz λ_=>Ae trivial
   |exact Aa Ak λ_=>Aa (Ae trivial) λ_=>Ae trivial
 clear_value j1
 split
 .exact Aa Fz λ_=>a _
 .exact Aa (Ae trivial) λ_=>a _
theorem tV {a b c:d_ n_}:(Instr.slice t x a b c).Ar P λ_=>True:=by
 unfold Instr.slice;refine Aa (A7 AB) λd=>?_
 split
 .exact AO (λ_=>Aa Ak λ_=>Aa Gl λ_=>Ae trivial) λ_=>Aa Gl λ_=>Ae trivial
 .exact Aa Gl λ_=>Aa DN λ_=>Ae trivial
 .refine Aa KN λ_=>Aa (A7 AB) λd=>?_
  split
  .exact Aa Gl λ_=>Aa DN λ_=>Ae trivial
  .exact Ak
 .exact Ak
theorem iJ {a b c:d_ n_}:(Instr.sliceAt t x a b c).Ar P λ_=>True:=by
 unfold Instr.sliceAt;refine Aa (A7 AB) λd=>?_
 split
 .exact Aa IC λ_=>Aa Gl λ_=>Aa DN λ_=>Ae trivial
 .exact tV
theorem iL {i:n_}:(Instr.indexAt t x i).Ar P λ_=>True:=by
 unfold Instr.indexAt;refine Aa (A7 MC) λe=>Aa (A7 AB) λd=>?_
 extract_lets jp
 have b:∀z,(jp z).Ar P λ_=>True:=λ⟨base,len,elem⟩=>by
  simp only[jp]
  refine Aa (A7 AB) λc=>?_
  cases base with
  |none=>exact Gm
  |some a=>exact AO (λ_=>Aa DN λ_=>Ae trivial) λ_=>AO (λ_=>rfl) λ_=>Gm
 clear_value jp
 split
 .exact Aa IC λ_=>Aa (Ae trivial) λ_=>b _
 .exact Aa (Ae trivial) λ_=>b _
 .exact Aa Ak λ_=>b _
theorem aj2:(Builtin.len_ ts t a).Ar P λ_=>True:=by
 unfold Builtin.len_;split
 .refine Aa (A7 AB) λd=>?_
  split
  .exact Ae trivial
  .exact Ae trivial
  .refine Aa (A7 AB) λd=>?_
   split
   .exact Ae trivial
   .exact Ak
  .exact Ae trivial
  .exact Ae trivial
  .exact Ae trivial
  .refine⟨λo _=>?_,IV⟩;cases o<;>first|exact Ak|exact Ae trivial
  .refine⟨λo _=>?_,IV⟩;cases o<;>first|exact Ak|exact Ae trivial
  .exact Ak
 .exact Ak
theorem aj3:(Builtin.cap_ ts t a).Ar P λ_=>True:=by
 unfold Builtin.cap_;split
 .refine Aa (A7 AB) λd=>?_
  split
  .exact Ae trivial
  .refine Aa (A7 AB) λd=>?_
   split
   .exact Ae trivial
   .exact Ak
  .exact Ae trivial
  .exact Ae trivial
  .refine⟨λo _=>?_,IV⟩;cases o<;>first|exact Ak|exact Ae trivial
  .exact Ak
 .exact Ak
theorem YI:(Builtin.lenOf x).Ar P λ_=>True:=by
 unfold Builtin.lenOf;split<;>first|exact Ae trivial|exact Ak
theorem Lr {a:Nat}:(Builtin.firstCells a b x).Ar P λ_=>True:=by
 unfold Builtin.firstCells;split<;>first|exact QR|exact Ae trivial|exact Ak
theorem Ο:(Builtin.copy_ ts t a).Ar P λ_=>True:=by
 unfold Builtin.copy_;split
 .refine Aa (A7 AB) λd=>?_
  split
  .split
   .refine Aa YI λ_=>Aa DN λ_=>Aa Lr λ_=>?_
    split
    .exact Aa Fv λ_=>Ae trivial
    .exact Ae trivial
   .exact Ak
  .exact Ak
 .exact Ak
theorem ug:(Builtin.clear_ ts t a).Ar P λ_=>True:=by
 unfold Builtin.clear_;split
 .refine Aa (A7 AB) λd=>?_
  extract_lets jp
  have b:∀z,(jp z).Ar P λ_=>True:=λz=>Ae trivial
  clear_value jp
  split
  .exact b ()
  .exact b ()
  .exact b ()
  .refine⟨λo c=>?_,show ET P _ (stuck "clear: map expected">>= jp)from bJ IV⟩;cases o<;>first|(cases c;done)|exact(show Sem.Ar P (λ_=>True) (stuck "clear: map expected">>= jp)from Aa Ak λu=>b u)
  .exact Aa E8 λ_=>Aa Fv λu=>b u
  .exact Aa Ak λu=>b u
 .exact Ak
theorem Qd {a:f_}:(Builtin.holdsCells a n).Kr P:=by
 refine λs=>?_
 cases s<;>trivial
theorem oJ {a:f_}:(frozen a).Kr P:=λ_=>trivial
theorem Z5 {a:Nat} {base:d_ f_}:(Builtin.mayShare a b c base x).Kr P:=by
 unfold Builtin.mayShare
 extract_lets jp
 have d:∀z,(jp z).Kr P:=λz=>by
  simp only[jp]
  split
  .trivial
  .split
   .exact Ry Qd λ_=>trivial
   .trivial
 clear_value jp
 split
 .exact d _
 .exact Ry Qd λ_=>Ry oJ λ_=>d _
theorem mX:(Builtin.append_ ts t a).Ar P λ_=>True:=by
 unfold Builtin.append_;split
 .refine Aa (A7 AB) λd=>?_
  split
  .split
   .refine Aa DN λsize=>?_
    extract_lets ju jp1
    have m:∀u,(ju u).EU P:=λu=>rfl
    clear_value ju
    have c:∀z,(jp1 z).Ar P λ_=>True:=λo=>by
     dsimp -zeta only[jp1]
     extract_lets jp2
     have f:∀n,(jp2 n).Ar P λ_=>True:=λn=>by
      dsimp -zeta only[jp2]
      extract_lets appended need jA j4 j3
      have q:appended.Ar P λ_=>True:=by
       simp only[appended]
       exact AO (λ_=>Lr) λ_=>AO (λ_=>Ae trivial) λ_=>Aa E8 λ_=>Ae trivial
      have p:∀u,(jA u).Ar P λ_=>True:=λu=>Ae trivial
      have h:∀u,(j4 u).Ar P λ_=>True:=λu=>
       Aa FH λ_=>Aa Ee λ_=>Aa UT λ_=>Aa Lr λ_=>Aa q λ_=>Aa E8 λ_=>Aa KI λ_=>Ae trivial
      clear_value j4
      have g:∀u,(j3 u).Ar P λ_=>True:=λu=>by
       refine Aa Ee λi=>?_
       refine AO (λ_=>Aa (AO (λ_=>Bf) λ_=>Sem.EU.jE (Nb Z5 λb=>?_)) λu=>h u) λ_=>h ()
       split
       .exact Nb (e:=mark .noRoom) trivial λu=>m u
       .exact m ()
      clear_value appended jA j3
      refine AO (λ_=>Aa q λnew=>?_) λ_=>Aa Ee λi=>AO (λ_=>Aa Bf λu=>g u) λ_=>g ()
      split
      .exact Aa Fv λu=>p u
      .exact p ()
     clear_value jp2
     refine AO (λ_=>Aa NJ λa=>?_) λ_=>Aa YI λn=>f n
     extract_lets l jp6 jp5
     have k:∀u,(jp6 u).Ar P λ_=>True:=λu=>Aa (Ae trivial) λn=>f n
     clear_value jp6
     have j:∀u,(jp5 u).Ar P λ_=>True:=λu=>by
      dsimp -zeta only[jp5]
      refine Aa Ee λi=>?_
      exact AO (λ_=>Aa FH λ_=>Aa Bf λu=>k u) λ_=>k ()
     clear_value jp5
     exact AO (λ_=>Aa Bf λu=>j u) λ_=>j ()
    clear_value jp1
    split
    .exact Aa (A7 AB) λ_=>Aa (Ae trivial) λz=>c z
    .exact Aa (Ae trivial) λz=>c z
   .exact Ak
  .exact Ak
 .exact Ak
end
def OJ (P:l_):Nat->j_->Bool
 |0,_=>false
 |d+1,t=>match P.underlying t with
  |some (.int _)=>match P.info? t with
   |some i=>match i.desc with
    |.named n _=>n != "sync.copyChecker"
    |_=>true
   |none=>true
  |some .bool=>true
  |some .string=>true
  |some (.struct fs)=>fs.all λf=>OJ P d f.type
  |_=>false
section
variable {P:l_}
theorem YK {α β:Type} {f:α->β->Sem (ForInStep β)}:∀{l:List α} {b:β},(∀a∈l,∀b,(f a b).Ar P λ_=>True)->(forIn l b f).Ar P λ_=>True
 |[],b,_=>Ae trivial
 |a::l,b,h=>by
  rw[List.forIn_cons]
  refine Aa (h a (List.mem_cons_self ..) b) λs=>?_
  cases s with
  |done c=>exact Ae trivial
  |yield c=>exact YK λa d b=>h a (List.mem_cons_of_mem _ d) b
theorem V8 {f:α->β->Sem (ForInStep β)} {l:Array α} {b:β} (h:∀a∈l,∀b,(f a b).Ar P λ_=>True):(forIn l b f).Ar P λ_=>True:=by
 rw[<-Array.forIn_toList];exact YK λa c b=>h a (Array.mem_toList_iff.1 c) b
theorem Wu {fs:Array Field} (h:OJ P (d+1) t=true) (e:P.underlying t=some (.struct fs)):∀f∈fs,OJ P d f.type=true:=by
 simp only[OJ,e]at h;intro f a;exact Array.all_eq_true'.1 h f a
theorem UR (A:P.globals.size=0):∀(k d:Nat) (t:j_) (x y:n_),OJ P k t=true->(Op.equalIn d t x y).Ar P λ_=>True
 |0,d,t,x,y,h=>by cases h
 |k+1,0,t,x,y,h=>rfl
 |k+1,d+1,t,x,y,h=>by
  unfold Op.equalIn
  refine Gj λa c=>?_
  cases a with
  |bool=>split<;>first|contradiction|exact Ae trivial|exact Ak
  |string=>split<;>first|contradiction|exact Ae trivial|exact Ak
  |int w=>
   split<;>first
    |contradiction
    |exact Ae trivial
    |exact Ak
    |exact rfl
    |exact AO (λ_=>Ae trivial) λ_=>Ak
    |skip
   refine Di (λz=>Di (λp=>A7 (K:=λ_=>False) ?_) (DU ?_)) (Ig λp=>DU ?_)
   all_goals
    refine Eg Dx λq n=>?_
    subst n
    rw[ru (by simp[A])]
    refine Eg IB λi m=>?_
    simp only[OJ,c,m]at h
    split
    .rename_i e;rw[e]at h;simp at h
    .rfl
  |struct v=>
   have g:=Wu h c
   split<;>first
    |contradiction
    |exact Ak
    |skip
   rename_i e
   injection e with e
   subst e
   refine Aa (A7 Dx) λq=>?_
   extract_lets jp
   have j:∀u,(jp u).Ar P λ_=>True:=λu=>by
    refine Aa (V8 λf l b=>AO (λ_=>Aa I5 λ_=>Aa I5 λ_=>Aa (UR A k d f.type _ _ (g f l)) λr=>AO (λ_=>Ae trivial) λ_=>Ae trivial) λ_=>Ae trivial) λs=>?_
    obtain⟨o,_⟩:=s
    cases o<;>exact Ae trivial
   exact AO (λ_=>Aa (EW zF) λu=>j u) λ_=>j ()
  |_=>(simp only[OJ,c]at h;cases h)
theorem NM:∀(k d:Nat) (t:j_) (x y:n_),OJ P k t=true->(Op.eqGuardIn d t x y).Ar P λ_=>True
 |0,d,t,x,y,h=>by cases h
 |k+1,0,t,x,y,h=>rfl
 |k+1,d+1,t,x,y,h=>by
  unfold Op.eqGuardIn
  refine Gj λa g=>?_
  cases a with
  |struct l=>
   have c:=Wu h g
   split<;>first
    |contradiction
    |exact Ae trivial
    |skip
   rename_i e
   injection e with e
   subst e
   refine Aa (V8 λf i b=>AO (λ_=>Aa I5 λ_=>Aa I5 λ_=>Aa (NM k d f.type _ _ (c f i)) λr=>AO (λ_=>Ae trivial) λ_=>Ae trivial) λ_=>Ae trivial) λs=>?_
   obtain⟨j,_⟩:=s
   cases j<;>exact Ae trivial
  |bool=>split<;>first|contradiction|exact Ae trivial
  |string=>split<;>first|contradiction|exact Ae trivial
  |int m=>split<;>first|contradiction|exact Ae trivial
  |_=>(simp only[OJ,g]at h;cases h)
def xJ:Operand->Bool
 |.const (.pointer none)=>true
 |.const (.slice none _ _)=>true
 |.const .nilFunc=>true
 |_=>false
def XU:n_->Bool
 |.pointer none=>true
 |.slice none _ _=>true
 |.nilFunc=>true
 |_=>false
def ad1 (P:l_) (t:j_):Bool:=match P.underlying t with
 |some (.pointer _)=>true
 |some (.slice _)=>true
 |some (.func _ _ _)=>true
 |_=>false
theorem ZO {y:n_} (h:ad1 P t=true) (j:XU x=true\/XU y=true):(Op.equalIn (d+1) t x y).Ar P λ_=>True:=by
 unfold Op.equalIn;refine Gj λf g=>?_
 cases f with
 |pointer e=>
  split<;>first
   |contradiction
   |exact Ae trivial
   |exact Ak
   |(exfalso;obtain j|j:=j<;>cases j;done)
 |slice e=>split<;>first|contradiction|exact Ae trivial|exact Ak
 |func a b c=>split<;>first|contradiction|exact Ae trivial|exact Ak
 |_=>(simp only[ad1,g]at h;cases h)
theorem UD {x:Operand} (h:xJ x=true) (fr:Frame):XU (fr.eval x)=true:=by
 unfold xJ at h;split at h<;>first|rfl|cases h
def Qr (P:l_) (t:j_) (x y:Operand):Bool:=OJ P 5 t || (ad1 P t && (xJ x || xJ y))
theorem uf (g:P.globals.size=0) {x:Operand} (h:Qr P t x y=true):(Op.equal t (fr.eval x) (fr.eval y)).Ar P λ_=>True:=by
 unfold Qr at h;simp only[Bool.or_eq_true,Bool.and_eq_true]at h;obtain h|⟨a,b⟩:=h
 .exact UR g 5 _ _ _ _ h
 .exact ZO (d:=9999) a (b.imp (λh=>UD h fr) λh=>UD h fr)
theorem uj (g:P.globals.size=0) (j:op=.eql\/op=.neq) {x:Operand} (h:Qr P t x y=true):(binOp op t (fr.eval x) (fr.eval y)).Ar P λ_=>True:=by
 have c:=uf g (fr:=fr) h;generalize fr.eval x=a at c ⊢;generalize fr.eval y=b at c ⊢;obtain rfl|rfl:=j
 .unfold binOp;split<;>first
   |contradiction
   |exact Aa c λ_=>Ae trivial
   |exact AO (λ_=>rfl) λ_=>QI
   |exact AO (λ_=>rfl) λ_=>J3
   |exact AO (λ_=>rfl) λ_=>NP
   |exact IE
 .unfold binOp;split<;>first
   |contradiction
   |exact Aa c λ_=>Ae trivial
   |exact AO (λ_=>rfl) λ_=>QI
   |exact AO (λ_=>rfl) λ_=>J3
   |exact AO (λ_=>rfl) λ_=>NP
   |exact IE
theorem iP {x:Operand} (h:(op=.eql\/op=.neq)->Qr P t x y=true):(eqGuard op t x y (fr.eval x) (fr.eval y)).Ar P λ_=>True:=by
 unfold eqGuard;by_cases g:op=.eql\/op=.neq
 .have d:=h g;unfold Qr at d;simp only[Bool.or_eq_true,Bool.and_eq_true]at d;have e:(!(match op with | .eql=>true | .neq=>true|_=>false))=false:=by obtain rfl|rfl:=g<;>rfl
  refine AO (λ_=>Ae trivial) λ_=>?_
  obtain d | ⟨_,f⟩:=d
  .split
   .exact AO (λ_=>Ae trivial) λ_=>Aa (NM 5 _ _ _ _ d) λ_=>AO (λ_=>EW zF) λ_=>Ae trivial
   .exact Aa (A7 Dx) λ_=>Aa (A7 Dx) λ_=>AO (λ_=>Ae trivial) λ_=>Aa (NM 5 _ _ _ _ d) λ_=>AO (λ_=>EW zF) λ_=>Ae trivial
   .exact Ae trivial
  .have c:XU (fr.eval x)=true\/XU (fr.eval y)=true:=f.imp (λh=>UD h fr) λh=>UD h fr
   generalize fr.eval x=a at c ⊢;generalize fr.eval y=b at c ⊢;split
   .obtain c|c:=c<;>cases c
   .obtain c|c:=c<;>cases c
   .exact Ae trivial
 .refine AO (λ_=>Ae trivial) λf=>?_
  exfalso;apply g;cases op<;>first|exact .inl rfl|exact .inr rfl|(simp at f;done)
def jV (P:l_) (t:j_):Bool:=match P.underlying t with
 |some (.int _)=>true
 |_=>false
theorem WN {s:FloatKind} {k:IntKind}:(Conv.floatToInt s b k).Ar P λ_=>True:=by
 unfold Conv.floatToInt;split
 .exact AO (λ_=>Ae trivial) λ_=>Aa FH λ_=>Ae trivial
 .exact Aa FH λ_=>Ae trivial
theorem iQ {a b:j_} (g:jV P a=true) (h:jV P b=true):(convert a b x).Ar P λ_=>True:=by
 unfold convert;refine Gj λd f=>Gj λe c=>?_
 unfold jV at g h;rw[f]at g;rw[c]at h;cases d<;>first|(cases g;done)|skip
 cases e<;>first|(cases h;done)|skip
 split<;>first
  |contradiction
  |exact Ae trivial
  |exact WN
  |exact rfl
theorem Ih:∀(l:List FieldStep) (t:j_) (x:d_ n_),(followBlind l t x).Ar P λ_=>True
 |[],_,_=>Ae trivial
 |s::l,t,x=>by
  unfold followBlind
  refine Aa (A7 AB) λd=>?_
  split
  .split
   .split
    .exact Ae trivial
    .exact Ih l _ _
    .exact Ak
    .exact Ae trivial
    .exact Aa I5 λ_=>Ih l _ _
    .exact Ak
    .exact Ih l _ _
   .exact Ak
  .exact Ak
theorem Sr:∀(n:Nat) (t:j_) (v:n_) (s:String),(nilAhead n t v s).Ar P λ_=>True
 |0,_,_,_=>Ae trivial
 |n+1,t,v,s=>by
  unfold nilAhead
  refine Aa Ee λi=>?_
  split
  .refine Aa (Ih _ _ _) λr=>?_
   split
   .exact Ae trivial
   .split
    .exact Sr n _ _ _
    .exact Ae trivial
    .exact Ak
    .exact Ae trivial
    .exact Ae trivial
    .refine Aa (A7 AB) λd=>?_
     split<;>exact Ae trivial
  .exact Ak
theorem KL:∀(l:List FieldStep) (t:j_) (x:Place),(follow l t x).Ar P λ_=>True
 |[],_,_=>Ae trivial
 |s::l,t,x=>by
  unfold follow
  refine Aa (A7 AB) λd=>?_
  have b:∀(t:j_) (x:Place),(x.get t).Ar P λ_=>True:=λt x=>by
   cases x with
   |val v=>exact Ae trivial
   |var a=>exact Ic
  split
  .split
   .refine AO (λ_=>Aa (b _ _) λ_=>Aa KN λ_=>Aa Ls λ_=>KL l _ _) λ_=>?_
    split
    .exact Aa Ls λ_=>KL l _ _
    .exact Aa I5 λ_=>KL l _ _
    .exact Ak
   .exact Ak
  .exact Ak
theorem Ux {x:Place}:(x.get t).Ar P λ_=>True:=by
 cases x with
 |val v=>exact Ae trivial
 |var a=>exact Ic
theorem iH {a b:n_}:(Builtin.ssaWrapNilChk_ #[t] t #[x,a,b]).Ar P λ_=>True:=by
 cases a<;>first|exact rfl|skip
 cases b<;>first|exact rfl|skip
 cases x<;>first|exact rfl|skip
 rename_i o;cases o with
 |some a=>exact eu
 |none=>
  refine Aa (e:=choose _) FH λc=>?_
  extract_lets jp
  have f:∀u,(jp u).Ar P λ_=>True:=λu=>by
   dsimp -zeta only[jp]
   split
   .refine Aa (A7 AB) λd=>?_
    split
    .refine Aa Ee λi=>?_
     split
     .split
      .extract_lets base targs
       split
       .exact Bf
       .exact rfl
      .exact Ak
     .exact Ak
    .exact Ak
   .exact Ak
  exact AO (λ_=>Aa Bf λu=>f u) λ_=>f ()
theorem Qb {x:Place} {b:Bool} {o:d_ String}:(receiverAt t x b o).Ar P λ_=>True:=by
 unfold receiverAt;refine Aa (A7 AB) λd=>?_
 split
 .exact Ux
 .refine Aa Ux λq=>?_
  split
  .exact Aa iH λ_=>Aa KN λ_=>Ic
  .exact Aa (Ae trivial) λ_=>Aa KN λ_=>Ic
 .exact Ae trivial
 .exact Ak
 .exact Ux
theorem VM {v:n_} {p:Array FieldStep} {b:Bool}:(receiverVia t v p b).Ar P λ_=>True:=Aa (KL _ _ _) λ_=>Qb
theorem V7:∀(n:Nat) (t:j_) (v:n_) (s:String),(method n t v s).Ar P λ_=>True
 |0,_,_,_=>rfl
 |n+1,t,v,s=>by
  unfold method
  refine Aa Ee λi=>?_
  split
  .refine Aa (KL _ _ _) λr=>?_
   obtain⟨a,b⟩:=r;dsimp only;split
   .refine Aa Ux λq=>?_
    split
    .exact V7 n _ _ _
    .exact Bf
    .exact Ak
   .exact Aa Qb λ_=>Ae trivial
  .exact Ak
/-! ### calls -/
def Tm (P:Program) (L:FuncId->Prop):Prop:=∀f,L f->∃fn,P.funcs[f]?=some fn/\fn.body.isNone=false/\(fn.name== "runtime.NumGoroutine")=false
variable {L:h_->Prop} {bb:Bool}
theorem ZP (h:Tm P L) (g:L f):(callFunc f args).Ar P (Fh L bb):=by
 obtain⟨fn,a,b,c⟩:=h f g;unfold callFunc;refine Eg Dx λq d=>?_
 subst d;rw[a];simp only[b,c,jH,if_false];exact g
theorem tJ:(Instr.yield l args).Ar P (Fh L bb):=by
 unfold Instr.yield Instr.getLoop;refine⟨λo b=>?_,λw d a e c _ _ h=>?_⟩
 .cases o<;>first|(cases b;done)|exact rfl
 .simp[Sem.bind,stuck,DL,Bind.bind]at h
theorem Wi {e:Sem α} {w w':o_} {es g:Array Event} {a:α} (h:e.runT P w es=(.ok a w',g)):e.run P w=.ok a w':=by
 have:=Sem.runT_eq P e w es;rw[this]at h;exact congrArg Prod.fst h
def KE (recv:n_) (name:String):Sem (h_×n_):=match recv with
 |.iface t u=>program>>= λq=>method (q.types.size+Made.depth) t u name
 |.nilIface=>runtimePanic .nilDeref
 |_=>stuck "invoke: interface value expected"
theorem SL (recv:n_) (name:String) (args:X_):callMethod recv name args=(KE recv name>>= λx=>callFunc x.1 (#[x.2]++args)):=by
 cases recv<;>rfl
theorem Su:(KE recv name).Ar P λ_=>True:=by
 unfold KE;split
 .exact Aa (A7 Dx) λ_=>V7 _ _ _ _
 .exact Bf
 .exact Ak
theorem UU {v1:o_} {x:h_×n_} (h:(KE recv name).run P v=.ok x v1):∃t u,recv=.iface t u/\(method (P.types.size+Made.depth) t u name).run P v=.ok x v1:=by
 cases recv with
 |iface t u=>exact⟨t,u,rfl,h⟩
 |nilIface=>
  have:(runtimePanic .nilDeref:Sem (h_×n_)).run P v=.ok x v1:=h
  cases this
 |_=>cases (show(stuck "invoke: interface value expected":Sem (FuncId×Value)).run P v=.ok x v1 from h)
theorem J6 (g:Tm P L) (j:L f\/Ext P f) (v:o_):Ip P (Fh L bb) (callFunc f args) v:=
 j.elim (λh=>Sem.Ar.here (ZP g h) v) λh=>aq5 h args v
theorem Wp (j:Tm P L) (g:∀t u f r w',recv=.iface t u->(method (P.types.size+Made.depth) t u name).run P v=.ok (f,r) w'->L f\/Ext P f):
  Ip P (Fh L bb) (callMethod recv name args) v:=by
 rw[SL];refine Tt (e1:=KE recv name) (f:=λx=>callFunc x.1 (#[x.2]++args)) Su λx v1 c b h=>?_
 obtain⟨t,u,e,a⟩:=UU (Wi h);exact J6 j (g t u x.1 x.2 v1 e a) v1
theorem ϣ (s:Tm P L) {f:n_} (w:∀d w',(Deferred.ofValue f args).run P v=.ok d w'->∀g,d.target.leads P w' d.args=some g->L g\/Ext P g):
  Ip P (Fh L bb) (Deferred.ofValue f args>>= λd=>invoke d.target d.args) v:=by
 cases f with
 |nilFunc=>exact Sem.Ar.here (show(invoke .nil args).Ar P (Fh L bb) by simp only[invoke];exact Bf) v
 |func fn first cap=>
  have a:=w ⟨.fn fn cap,first++args⟩ v rfl
  show Ip P (Fh L bb) (invoke (.fn fn cap) (first++args)) v
  simp only at a
  generalize first++args=b at a ⊢
  cases fn with
  |func g=>exact J6 s (a g rfl) v
  |via t c g ptr=>
   simp only[invoke]
   cases b[0]? with
   |none=>exact Sem.Ar.here Ak v
   |some x=>exact Tt (e1:=receiverVia t x c ptr) (f:=λy=>callFunc g (#[y]++b.extract 1 b.size)) VM λ_ v1 _ _ _=>J6 s (a g rfl) v1
  |yield l=>exact Sem.Ar.here (show(Instr.yield l b).Ar P (Fh L bb)from tJ) v
  |method name=>
   simp only[invoke]
   cases h0:b[0]? with
   |none=>exact Sem.Ar.here Ak v
   |some x=>
    refine Wp s λt u f r w' e j=>a f ?_
    subst e
    simp only[Target.leads,h0,j]
  |methodOf t name=>
   simp only[invoke]
   cases h0:b[0]? with
   |none=>exact Sem.Ar.here Ak v
   |some x=>
    have e:(underlying t>>= λd=>callMethod (match d with | .interface _=>x|_=>.iface t x) name (b.extract 1 b.size))=((underlying t>>= λd=>KE (match d with | .interface _=>x|_=>.iface t x) name)>>= λy=>callFunc y.1 (#[y.2]++b.extract 1 b.size)):=by
     rw[bind_assoc]
     congr 1
     funext d
     exact SL _ _ _
    refine(congrArg (Ip P (Fh L bb) · v) e).mpr (Tt (e1:=underlying t>>= λd=>KE (match d with | .interface _=>x|_=>.iface t x) name) (f:=λy=>callFunc y.1 (#[y.2]++b.extract 1 b.size)) (Aa (A7 AB) λ_=>Su) λy v1 o n h=>?_)
    have j:=Wi h
    have i:(match P.underlying t with
     |some d=>KE (match d with | .interface _=>x|_=>.iface t x) name
     |none=>stuck "":Sem (FuncId×Value)).run P v=.ok y v1:=by
     cases hu:P.underlying t with
     |none=>simp[underlying,hu]at j
     |some d=>simpa [underlying,hu]using j
    cases hu:P.underlying t with
    |none=>rw[hu]at i;cases i
    |some d=>
     rw[hu]at i
     obtain⟨p,q,k,m⟩:=UU i
     refine J6 s (a y.1 ?_) v1
     simp only[Target.leads,h0,hu,Option.map_some]
     cases d<;>(simp only at k ⊢;first
      |(injection k with e1 e2;subst e1 e2;simp only[m];done)
      |(subst k;simp only[m];done))
 |_=>exact Sem.Ar.here (Ϟ (e:=(stuck _:Sem Deferred)) vY) v
end
end Go.Fxa
