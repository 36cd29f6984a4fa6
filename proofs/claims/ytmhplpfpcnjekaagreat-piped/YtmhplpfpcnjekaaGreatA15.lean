/- goOn, from its call to its ret -/
import Derived.Test.YtmhplpfpcnjekaaGreatA14
open Go.Proofs.Tryz
namespace Go.Fxa
open Go.Conc
open Go.ConcN (sumTo upd sumTo_upd upd_ne upd_same)
structure zQ (P:l_) (N:Fence) (m:Nat):Prop where
 boxes:∀(sa:f_) (n:Int) (v:o_) (g:Y_),∀τ d,(S0 P).wpIn N m P (Ends λtm w'=>∃g' b2 b3,tm=TN 18 (AL g' [(2,pr b2),(3,pr b3)])/\Ib v w'/\v.heap.size<=b2/\v.heap.size<=b3/\b2<w'.heap.size/\b3<w'.heap.size/\b2≠b3/\w'.cell? (S_ b2)=some (.pointer (some sa))/\w'.cell? (S_ b3)=some (b_ n)) ⟨TN 18 (AL g [(0,.pointer (some sa)),(1,b_ n)]),[]⟩ (v.re τ d)
 makes:∀(b2 b3:Nat) (v:o_) (g:Y_),∀τ d,(S1 P).wpIn N m P (Ends λtm w'=>∃g' b5 r q0 q1 q2 q3,tm=TN 18 (AL g' (uk b2 b3 b5))/\Ib v w'/\(∀x∈[b5,r,q0,q1,q2,q3],v.heap.size<=x)/\[b5,r,q0,q1,q2,q3].Nodup/\Bh r #[DI q0,DI q1,DI q2,DI q3] 257 w' 0 0/\w'.cell? (S_ b5)=some (pr r)/\∀q∈[q0,q1,q2,q3],w'.heap[q]?=some (.chan 0 #[] false 0 0 false)) ⟨TN 18 (AL g [(2,pr b2),(3,pr b3)]),[]⟩ (v.re τ d)
structure tN {P:l_} {N:Fence} {m:Nat} {kv:n_} {pa:f_} {n:Int} (S:QN P N m kv pa n) where
 B0:o_->Prop
 B2:o_->Prop
 B3:o_->Prop
 t2:CY B2
 t3:CY B3
 bring:∀(v:o_) (f:Y_),B0 v->∀τ d,(R2 P).wpIn N m P (Ends λtm w'=>∃f',tm=TN 76 (AL f' (jq kv pa n CS))/\B2 w') ⟨TN 76 (AL f (jq kv pa n CS)),[]⟩ (v.re τ d)
 clear:∀(v:o_) (f:Y_),B2 v->∀τ d,(R3 P).wpIn N m P (Ends λtm w'=>∃f',tm=TN 76 (AL f' (jq kv pa n CS))/\B3 w') ⟨TN 76 (AL f (jq kv pa n CS)),[]⟩ (v.re τ d)
 start:∀v v',B3 v->Ib v v'->S.I 0 CS v'
section
variable {P:l_} {L:h_->Prop} {p:h_->Oper->Bool} {N:Fence} {m:Nat} {host:h_} {Z:Nat->Prop} {Ac:Loc->Prop} {gs:Array m_} {w:o_} {sl:d_ (W_)} {t:Trace}
theorem Beside.part {Od:Old} {Ei:h_} {kd:CallKind} {k:List Item} {ds:List Deferred} {Q:X_->o_->Prop} {c:Code} {tmps:X_} {cs:Z_} {v:o_} {B:Nat} (W:VU P L p N host) (hu:FT Ac Z) (hf:Ei=56\/Ei=93\/Ei=97\/Ei=136\/Ei=187) (hkd:(kd==CallKind.early)=false)
  (hc:c∈[R2 P,R3 P,S0 P,S1 P,R10 P,R11 P,R15 P,R16 P,A0 P,Ϻ P,Vk P,XT P,R12 P]) (hw:∀τ d,c.wpIn N m P (Ends Q) ⟨tmps,[]⟩ (v.re τ d)) (hQ:∀tm,CY (Q tm)) (Bs:Beside Od P Ac Z B v gs w t) (h0:gs[0]?=some (G (Frame.mk Ei tmps (.code c::k) ds .run kd none) cs)):
  AA P gs w sl t λA7 w' t'=>∃tm v' B',A7[0]?=some (G (Frame.mk Ei tm k ds .run kd none) cs)/\Q tm v'/\Beside Od P Ac Z B' v' A7 w' t':=by
 refine(KU W.fenced hu W.PE (W.seen Ei hf) hkd (W.ops c hc) ZP hw Bs h0).mono λA7 w' t' ⟨g,v',B',a,⟨tm,τ,d,e⟩,_,_,b⟩=>?_
 obtain⟨rfl,_,_,h⟩|⟨_,_,f,_⟩:=e
 .exact⟨tm,v',B',a,(hQ tm).back h,b⟩
 .cases f
theorem Ib.trans {a b c:o_} (h:Ib a b) (h':Ib b c):Ib a c:=
 ⟨Nat.le_trans h.1 h'.1,λx d=>(h'.2.1 x (Nat.lt_of_lt_of_le d h.1)).trans (h.2.1 x d),h'.2.2.1.trans h.2.2.1,h'.2.2.2.trans h.2.2.2⟩
theorem iP {Od:Old} (A:EK P) (W:VU P L p N host) (M:YC P N m) (ST:zQ P N m) {kv:n_} {pa:f_} {n:Int} {c0:Frame} {cs:Z_} (hn:n<=1000) (hn0:0<=n) (S:QN P N m kv pa n) (U:tN S) (hu:FT Ac Z) {v:o_} {B:Nat} (hB0:U.B0 v) (Bs:Beside Od P Ac Z B v gs w t)
  (h0:gs[0]?=some (BD (z0 P kv pa n (c0::cs)))):
  LX P gs w sl t λA7 w' t'=>∃Z' Oc,(∀x,Z x->Z' x)/\FT Oc Z'/\Back Od P Oc Z' S.Fin c0 cs A7 w' t':=by
 have K:=A.Fz;refine(Bs.RH h0 (Dv (K.z1a _ _ _ _))).then λgs1 w1 Jg t1 _ ⟨h1,Bs1,_⟩=>?_
 rw[show run P 9 (z0 P kv pa n (c0::cs))=z1 P kv pa n (c0::cs)from rfl,at_toldN (l:=jq kv pa n CS) (K.z1b _ _ _ _) (K.z1c _ _ _ _) (K.z1d _ _ _ _)]at h1;refine(Beside.part W hu (.inl rfl) rfl (by simp) (U.bring v _ hB0) (λtm v τ d ⟨f',e,h⟩=>⟨f',e,U.t2 v τ d h⟩) Bs1 h1).then λgs2 w2 sl2 t2 _ ⟨tm2,v2,B2,h2,⟨f2,e2,hB2⟩,Bs2⟩=>?_
 subst e2;refine(Bs2.RH h2 (IK (K.z3 (AL f2 (jq kv pa n CS)) (c0::cs)))).then λgs3 w3 sl3 t3 _ ⟨h3,Bs3,_⟩=>?_
 refine(Beside.part W hu (.inl rfl) rfl (by simp) (U.clear v2 f2 hB2) (λtm v τ d ⟨f',e,h⟩=>⟨f',e,U.t3 v τ d h⟩) Bs3 h3).then λgs4 w4 sl4 t4 _ ⟨tm4,v4,B4,h4,⟨D,e4,hB4⟩,Bs4⟩=>?_
 subst e4;refine(Bs4.RH h4 (Dv (K.z5a kv pa n CS D (c0::cs)))).then λgs5 w5 sl5 t5 _ ⟨h5,Bs5,_⟩=>?_
 rw[show run P 8 (f56 (AL D (jq kv pa n CS)) (c0::cs) (T3 P) [])=z5 P kv pa n CS D (c0::cs)from rfl,at_toldN (l:=[(0,TV pa),(1,b_ n)]) (K.z5b _ _ _ _ _ _) (K.z5c _ _ _ _ _ _) (K.z5d _ _ _ _ _ _)]at h5;refine(Beside.part W hu (.inr (.inl rfl)) rfl (by simp) (ST.boxes (pa.add 5) n v4 _) (λtm v τ d h=>h) Bs5 h5).then λgs6 w6 sl6 t6 _ ⟨tm6,v6,B6,h6,⟨g6,f,j,e6,H,k2,k3,l2,l3,k23,c2,c3⟩,Bs6⟩=>?_
 subst e6;refine(Bs6.RH h6 (IK (K.y1 (AL g6 [(2,pr f),(3,pr j)]) (Y4 P kv pa n CS D (c0::cs))))).then λgs7 w7 sl7 t7 _ ⟨h7,Bs7,_⟩=>?_
 refine(Beside.part W hu (.inr (.inl rfl)) rfl (by simp) (ST.makes f j v6 g6) (λtm v τ d h=>h) Bs7 h7).then λgs8 w8 sl8 t8 _ ⟨tm8,v8,B8,h8,⟨E,o,r,O,q1,Q,q3,e8,z,C,knd,kr,k5,kq⟩,Bs8⟩=>?_
 subst e8;have hZ4:∀x,Z x->x<v4.heap.size:=Bs4.choose_spec.2.1;have T4:Twin Od Z v4 w4:=Bs4.choose_spec.1;obtain⟨q8,T8,hZ8,L8,P8,S8⟩:=Bs8;have br7:v6.heap.size<=o/\v6.heap.size<=r/\v6.heap.size<=O/\v6.heap.size<=q1/\v6.heap.size<=Q/\v6.heap.size<=q3:=⟨C _ (by simp),C _ (by simp),C _ (by simp),C _ (by simp),C _ (by simp),C _ (by simp)⟩;obtain⟨m5,mr,m0,m1,m2,m3⟩:=br7;simp only[List.nodup_cons,r_,List.not_mem_nil,or_false,not_or,List.nodup_nil,and_true,not_false_eq_true]at knd;obtain⟨⟨d5r,d50,d51,d52,d53⟩,⟨dr0,dr1,dr2,dr3⟩,⟨d01,d02,d03⟩,⟨d12,d13⟩,d23⟩:=knd;have g46:=H.1;have g68:=z.1
 let b:JF:=⟨f,j,o,r,O,q1,Q,q3,TV pa,n⟩
 have G:∀q,b.wZ q->v8.heap[q]?=some (.chan 0 #[] false 0 0 false):=λq h=>kq q (by obtain e|e|e|e:=h<;>simp[e,b])
 have V:∀x,b.own x->v4.heap.size<=x:=λx c=>by
  simp only[JF.own,b]at c
  omega
 have Bv:∀x,b.own x->x<v8.heap.size:=λx c=>by
  have hr:=kr.lt
  have h5:=cell_lt k5
  have e0:=(y_.1 (G O (.inl rfl))).1
  have e1:=(y_.1 (G q1 (.inr (.inl rfl)))).1
  have e2:=(y_.1 (G Q (.inr (.inr (.inl rfl))))).1
  have e3:=(y_.1 (G q3 (.inr (.inr (.inr rfl))))).1
  simp only[JF.own,b]at c
  simp only at h5
  omega
 have hnz:∀x,b.own x->¬Z x:=λx c hz=>by have:=V x c;have:=hZ4 x hz;omega
 have OK:b.Ok:=by
  refine⟨λq hq=>?_,?_,?_⟩
  .simp only[JF.wZ,b]at hq;simp only[b];refine⟨by omega,by omega,?_,?_⟩<;>(obtain e|e|e|e:=hq<;>subst e<;>first|exact Ne.symm d50|exact Ne.symm d51|exact Ne.symm d52|exact Ne.symm d53|exact Ne.symm dr0|exact Ne.symm dr1|exact Ne.symm dr2|exact Ne.symm dr3)
  .simp only[b];exact⟨by omega,by omega,d5r⟩
  .exact⟨d01,d02,d03,d12,d13,d23⟩
 have hod:∀x,b.own x->¬Od.dead x:=λx c F=>by have:=V x c;have:=(y_.1 (T4.JQ x F)).1;omega
 have bJ:∀x,b.own x->w8.heap[x]?=v8.heap[x]?:=λx c=>(T8.same x (hnz x c) (hod x c)).symm
 have Bi:Bh r b.pre 257 w8 0 0:=by unfold Bh;rw[bJ r (by simp[JF.own,b])];exact kr
 have y:b.cells w8:=by
  refine⟨G5 k5 (bJ o (by simp[JF.own,b])),G5 (w:=v8) ?_ (bJ f (by simp[JF.own,b])),G5 (w:=v8) ?_ (bJ j (by simp[JF.own,b]))⟩
  .exact G5 c2 (z.2.1 f l2)
  .exact G5 c3 (z.2.1 j l3)
 have bt8:∀q,b.wZ q->w8.heap[q]?=some (.chan 0 #[] false 0 0 false):=λq h=>by
  rw[bJ q (by obtain e|e|e|e:=h<;>simp[JF.own,e])];exact G q h
 obtain⟨v9,T9,sz9,bc9,os9,bq7⟩:=T8.kill (Z':=λx=>Z x\/b.own x) (λ_ h=>.inl h) (λx c F=>c.elim (T8.XG x F) λh=>hod x h F);have hg9:Ib v4 v9:=by
  refine⟨by omega,λx c=>?_,by rw[os9,z.2.2.1,H.2.2.1],by rw[bq7,z.2.2.2,H.2.2.2]⟩
  by_cases hz:Z x
  .rw[T9.dead x (.inl hz) (by omega),T4.dead x hz c]
  .have F:¬b.own x:=λF=>by have:=V x F;omega
   rw[bc9 x (λh=>h.elim hz F),z.2.1 x (by omega),H.2.1 x c]
 have hZ9:∀x,(Z x\/b.own x)->x<v9.heap.size:=λx c=>by
  rw[sz9]
  exact c.elim (hZ8 x) (Bv x)
 have Y:FT (λl=>Ac l\/KD b.r b.pre l) (λx=>Z x\/b.own x):=by
  refine⟨λa h=>?_,λx h=>?_⟩
  .obtain h|h|h:=h
   .exact .inl (hu.1 a h)
   .injection h with h;subst h;exact .inr (by simp[JF.own,stA])
   .injection h with h;subst h;exact .inr (by simp[JF.own,smA])
  .obtain h|h|h:=h
   .exact .inl (hu.2 x h)
   .cases h
   .cases h
 have J:∀l,b.Still l->¬(Ac l\/KD b.r b.pre l):=λl hl h=>by
  obtain h|h:=h
  .have:∃a,l=.cell a/\b.own a.block:=by obtain e|e|e|e|e|e|e:=hl<;>exact⟨_,e,by simp[JF.own]⟩
   obtain⟨a,rfl,ha⟩:=this;exact hnz _ ha (hu.1 a h)
  .exact Ut h hl
 have Bs9:Beside Od P (λl=>Ac l\/KD b.r b.pre l) (λx=>Z x\/b.own x) B8 v9 gs8 w8 t8:=⟨q8,T9,hZ9,L8,Past.shun P8 (λ_ h=>.inl h),S8⟩;refine(Bs9.RH h8 (Dv (K.y3a E (Y4 P kv pa n CS D (c0::cs)) f j o))).then λgsa wa sla ta _ ⟨ha,Ba,wa8⟩=>?_
 refine(Ba.read ha (K.y3b E _ f j o r) (G5 y.1 (by rw[wa8])) (J _ (.inl rfl))).then λgsb wb slb tb _ ⟨hb,Bb,wba⟩=>?_
 refine(Bb.RH hb (Dv (K.y4a E _ f j o r))).then λgsc wc slc tc _ ⟨hc,Bc,wcb⟩=>?_
 have ec:wc.heap=w8.heap:=wcb.trans (wba.trans wa8);have hc':gsc[0]?=some (BD (y4 P E (Y4 P kv pa n CS D (c0::cs)) f j o r)):=hc;rw[K.y4b]at hc';obtain⟨qc,Tc,hZc,Lc,Pc,Sc⟩:=Bc;refine(ql (Z:=λx=>x=r) (ax5 (A.add _ _ _)) rfl hc' Lc Pc Sc (show Bh r b.pre 257 wc 0 0 by unfold Bh;rw[ec];exact Bi)).then λgsd wd sld td _ ⟨qd,hd,od,rd,Ld,Pd,Sd⟩=>?_
 have odZ:BZ (λx=>Z x\/b.own x) wc wd:=⟨od.size,λx c=>od.same x (λe=>c (.inr (by simp[JF.own,b,e]))),od.os,od.output,od.tape⟩;have Bd:Beside Od P (λl=>Ac l\/KD b.r b.pre l) (λx=>Z x\/b.own x) B8 v9 gsd wd td:=⟨qd,Tc.off hZc odZ,hZc,Ld,Pd,Sd⟩;have KSd:b.KS wd:=by
  refine⟨rd,y.keep λx c=>?_,λq hq=>⟨0,?_⟩⟩
  .rw[od.same x (by obtain e|e|e:=c<;>subst e<;>first|exact OK.br.2.2|exact OK.br.1|exact OK.br.2.1),ec]
  .rw[od.same q (OK.bq q hq).2.2.2,ec];exact bt8 q hq
 refine(Bd.RH hd (Dv (K.y6a E (Y4 P kv pa n CS D (c0::cs)) f j o r))).then λu we sle te _ ⟨he,Be,eed⟩=>?_
 have KSe:b.KS we:=(Np (s:=b) (Z:=λ_=>True) (λ_ _=>trivial)).keep wd we (λx _=>by rw[eed]) KSd;obtain⟨qe,Te,hZe,Le,Pe,Se⟩:=Be;have IY:0<u.size:=(y_.1 he).1;have EV:Env (λx=>Z x\/b.own x) (λl=>Ac l\/KD b.r b.pre l) b u.size:=⟨λ_ h=>.inr h,Y,λ_ h=>.inr h,J,OK,by omega⟩;obtain⟨fK,hTK,hgK,hcK⟩:=rH (s:=b) K (K.bn5 kv pa n CS D E (c0::cs) f j o r O Q) (K.bn4 kv pa n CS D E (c0::cs) f j o r O Q) (K.bn3 kv pa n CS D E (c0::cs) f j o r O Q);have R:=NK (s:=b);have hw:RW P true b.KW b.Still 58 (BD (BB (y6 P E (Y4 P kv pa n CS D (c0::cs)) f j o r) undef)) (BD (y10 P kv pa n CS D E (c0::cs) f j o r O Q)):=
  ((((((RW.Ar (K.y7a _ _ _ _ _ _)).trans (RW.at (K.y7b _ _ _ _ _ _) R.c5 R.s5)).trans (RW.Ar (K.y8a _ _ _ _ _ _ _ _ _ _ _))).trans (RW.at (K.y8b _ _ _ _ _ _ _ _ _ _ _ O) R.r0 R.t0)).trans (RW.Ar (K.y9a _ _ _ _ _ _ _ _ _ _ _ _))).trans (RW.at (K.y9b _ _ _ _ _ _ _ _ _ _ _ _ Q) R.r2 R.t2)).trans (RW.Ar (K.bn6 _ _ _ _ _ _ _ _ _ _ _ _ _));have Pv:=RW.seat (k:=0) (home:=(·=gK P b fK (c0::cs))) (cases:=NZ b.q0 b.q2) (shape:=.select) (KH _) ⟨_,#[],hgK,KH _,by simp,λw _=>IA hcK w⟩ hw;obtain⟨N1,gsf,df,slf,tf,qf,hrf,hzf,hcf,Df⟩:=ϐ (K:=b.KW) (K1:=b.KS) (TT:=JO u.size b.r b.pre) (sl:=sle) (Np (s:=b) EV.J7) (λl hl=>by obtain e|e|e|e|e|e|e:=hl<;>subst e<;>rfl) J he (KH _) Le Pe Se (λd=>ni (K.y6b E _ f j o r) (we.at d)) (by simp) KSe
  (λt' hp i a ha F hk=>by
   have hmem:a.loc.isMemory=true:=by obtain e|e:=F<;>rw[e]<;>rfl
   obtain h|⟨_,h,_⟩|⟨_,h,_⟩:=hp.known i a ha hmem
   .exact h
   .exact(Ut F h).elim
   .rw[hk]at h;cases h.1) (rZ KSe) (KH _) Pv
 have Hf:Holds Od P (λx=>Z x\/b.own x) (λl=>Ac l\/KD b.r b.pre l) b.Still (IC u.size) (λg=>g=0) u.size 0 (ByK P b u.size (gK P b fK (c0::cs))) (λg v=>g=BD (ch0 P o f j)/\S.I 0 CS v) gsf (we.at df) tf:=
  ⟨qf,_,B8,_,v9,hcf,⟨rfl,U.start v4 v9 hB4 hg9⟩,Te.off hZe (BZ.at we df),hZe,Df⟩;obtain⟨fb,aw1⟩:=iY (main:=u.size==0) (A.child o f j r O q1 Q q3 (TV pa) n) R;have step2:LX P gsf (we.at df) slf tf (qZ Od P (λl=>Ac l\/KD b.r b.pre l) (λx=>Z x\/b.own x) S.Fin c0 cs):=
  (Hf.walk (sl:=slf) qU (λw a h hs=>Jc h hs) J (lq EV) aw1).then λgsg wg slg tg _ Hg=>
   (oG (s:=b) A W M EV S hn rfl n.toNat 0 CS fb fK gsg wg slg tg (by show(n-0).toNat<=n.toNat;omega) (Int.le_refl _) hn0 hTK Hg).leads
 obtain⟨N2,bu3,w2',sl2',t2',hr2,X⟩:=step2;obtain⟨Zf,T,X⟩:=X;exact⟨N1+N2,bu3,w2',sl2',t2',by rw[runNT_add,hrf];exact hr2,Zf,_,λ_ h=>T _ (.inl h),⟨λa h=>T _ (Y.1 a h),λx h=>T _ (Y.2 x h)⟩,X⟩
end
end Go.Fxa
namespace Go.Fxa
open Go.Conc Go.Proofs
theorem wU:EK prog where
 Fz:=vI
 child:=λ_ _ _ _ _ _ _ _ _ _=>iV
 ans:=λ_ _ _ _ _ _=>wR
 done:=λr b a=>oW r b a
 add:=λr c Y=>wV r c Y
 wait:=λr c Y=>lT r c Y
 mixed:=by kernel_rfl
 blk:=wO
 back:=λ_ _ _ _ _ _ _ _ _=>qg
end Go.Fxa
namespace Go.Fxa
open Go.Conc
end Go.Fxa
namespace Go
open Go.Fxa Go.Conc
def Sem.JP (P:l_) {α:Type}:Sem α->Prop
 |.pure _=>True
 |.load _ _ k=>∀x,(k x).JP P
 |.store _ _ _ k=>k.JP P
 |.new o k=>o.plain=true/\∀r,(k r).JP P
 |.shape _ k=>∀s,(k s).JP P
 |.freeze _ _ k=>k.JP P
 |.frozen _ k=>∀b,(k b).JP P
 |.getObj _ k=>∀o,(k o).JP P
 |.setObj _ o k=>o.plain=true/\k.JP P
 |.choose _ k=>∀n,(k n).JP P
 |.sys _ k=>∀r,(k r).JP P
 |.program k=>(k P).JP P
 |.mark _ k=>k.JP P
 |.halt h=>h.J8=true
end Go
namespace Go.Fxa
open Go.Conc
theorem LG {P:l_} {α β:Type} {e:Sem α} {f:α->Sem β} (h:e.JP P) (hf:∀a,(f a).EE P):(e>>= f).EE P:=by
 show(e.bind f).EE P
 induction e with
 |pure a=>exact hf a
 |load m a k b=>exact λx=>b x (h x)
 |store m a v k b=>exact b h
 |new o k b=>exact⟨h.1,λx=>b x (h.2 x)⟩
 |shape r k b=>exact λx=>b x (h x)
 |freeze a n k b=>exact b h
 |frozen a k b=>exact λx=>b x (h x)
 |getObj r k b=>exact λx=>b x (h x)
 |setObj r o k b=>exact⟨h.1,b h.2⟩
 |choose q k b=>exact λx=>b x (h x)
 |sys c k b=>exact λx=>b x (h x)
 |program k b=>exact b P h
 |mark m k b=>exact b h
 |halt d=>exact h
theorem QD {P:l_} {α β:Type} {e:Sem α} {f:α->Sem β} (h:e.JP P) (hf:∀a,(f a).JP P):(e>>= f).JP P:=by
 show(e.bind f).JP P
 induction e with
 |pure a=>exact hf a
 |load m a k b=>exact λx=>b x (h x)
 |store m a v k b=>exact b h
 |new o k b=>exact⟨h.1,λx=>b x (h.2 x)⟩
 |shape r k b=>exact λx=>b x (h x)
 |freeze a n k b=>exact b h
 |frozen a k b=>exact λx=>b x (h x)
 |getObj r k b=>exact λx=>b x (h x)
 |setObj r o k b=>exact⟨h.1,b h.2⟩
 |choose q k b=>exact λx=>b x (h x)
 |sys c k b=>exact λx=>b x (h x)
 |program k b=>exact b P h
 |mark m k b=>exact b h
 |halt d=>exact h
section
variable {P:l_}
theorem Vq {t:j_}:(underlying t).JP P:=by
 show Sem.JP P (Sem.program _);show Sem.JP P (match P.underlying t with|some d=>_|none=>_);cases P.underlying t<;>first|trivial|rfl
theorem iT {t:j_}:(elemOf t).JP P:=by
 refine QD Vq λd=>?_
 cases d<;>first|trivial|rfl
theorem TJ {e:RuntimeError} {α:Type}:(runtimePanic e:Sem α).EE P:=by
 refine LG (e:=program) trivial λp=>?_
 cases e<;>first
  |exact O1
  |exact LG iT λ_=>LG (e:=newVar _ _) ⟨rfl,λ_=>trivial⟩ λ_=>O1
theorem FM {t:j_} {α:Type} {f:TypeDesc->Sem α} {K:α->Prop} (h:∀d,P.underlying t=some d->(f d).Ap P K):(underlying t>>= f).Ap P K:=DW Aq h
theorem mP {e:j_} {h:Bool} {old:n_}:(Instr.alloc e h old).Ap P λ_=>True:=by
 unfold Instr.alloc;refine Aa EL λz=>?_
 split
 .exact Aa QQ λ_=>Ad trivial
 .exact Aa PZ λ_=>Ad trivial
theorem Γ {e:j_} {v:n_}:(Instr.box e v).Ap P λ_=>True:=Aa PZ λ_=>Ad trivial
theorem Dy {t:j_}:(sizeOf t).Ap P λ_=>True:=AX Ns
theorem DV {t:j_}:(typeInfo t).Ap P λ_=>True:=AX Ih
theorem Tv {n:Nat}:(askRoom n).Ap P λ_=>True:=by
 unfold askRoom;exact Au (λ_=>.inl ⟨rfl,trivial⟩) λ_=>Ad trivial
theorem mG {t:j_} {ps:Array (Nat×n_)}:(Instr.build t ps).Ap P λ_=>True:=by
 unfold Instr.build;refine Aa EL λz=>Aa (AX Aq) λd=>?_
 split
 .refine Aa (WN (λf=>Aa Dy λ_=>Ad trivial) _) λa=>?_
  split
  .exact Ad trivial
  .exact Ag
 .refine Aa Dy λn=>?_
  split
  .exact Ad trivial
  .exact Ag
 .exact Ag
theorem Vo {t:j_} {n:Nat} {ps:Array (Nat×n_)}:(Instr.buildSlice t n ps).Ap P λ_=>True:=by
 unfold Instr.buildSlice;refine Aa (AX Aq) λd=>?_
 split
 .refine Aa Dy λsize=>?_
  extract_lets jp jp2
  have b:∀z,(jp z).Ap P λ_=>True:=λz=>by
   simp only[jp]
   split
   .exact Aa JW λ_=>Ad trivial
   .exact Ag
  have a:∀z,(jp2 z).Ap P λ_=>True:=λz=>by
   simp only[jp2]
   exact Au (λ_=>Aa (Ad trivial) λ_=>b _) λ_=>Aa EL λ_=>Aa (Ad trivial) λ_=>b _
  exact Au (λ_=>rfl) λ_=>a ()
 .exact Ag
theorem Xu {t:j_} {l c:n_}:(Instr.makeSlice t l c).Ap P λ_=>True:=by
 unfold Instr.makeSlice;refine Aa (AX Aq) λd=>?_
 split
 .refine Aa MH λa=>Aa MH λb=>Aa DV λi=>?_
  extract_lets bytes tooLarge l' c' jp
  have e:∀z,(jp z).Ap P λ_=>True:=λz=>by
   simp only[jp]
   refine Aa Tv λ_=>Aa Dy λk=>?_
   exact Au (λ_=>Aa (Ad trivial) λ_=>Aa JW λ_=>Ad trivial) λ_=>Aa EL λ_=>Aa (Ad trivial) λ_=>Aa JW λ_=>Ad trivial
  refine Au (λ_=>Au (λ_=>Aa AY λu=>e u) λ_=>Au (λ_=>Aa AY λu=>e u) λ_=>Aa Fa λ_=>Aa AY λu=>e u) λ_=>e ()
 .exact Ag
theorem EX {x:n_} {y:Nat} {c:BoundsCode}:(Instr.sliceBound x y c).Ap P λ_=>True:=by
 unfold Instr.sliceBound;refine Aa (AX KO) λa=>?_
 exact Au (λ_=>Ad trivial) λ_=>FP
theorem XY {f:Fn} {a b:X_}:(Instr.makeFunc f a b).Ap P λ_=>True:=Ad trivial
theorem RG {t:j_} {x:n_}:(Instr.makeInterface t x).Ap P λ_=>True:=by
 unfold Instr.makeInterface;refine Aa (AX Aq) λd=>?_
 split
 .exact Ag
 .exact Ad trivial
theorem Z9 {x:n_} {i:Nat}:(Instr.extract x i).Ap P λ_=>True:=by
 unfold Instr.extract;split
 .split
  .exact Ad trivial
  .exact Ag
 .exact Ag
theorem mg {t:j_} {x:n_} {i:Nat}:(Instr.field t x i).Ap P λ_=>True:=by
 unfold Instr.field;refine Aa (AX Aq) λd=>?_
 split
 .split
  .exact Aa mO λ_=>IG
  .exact Ag
 .exact Ag
theorem mf {t:j_} {x i:n_}:(Instr.index t x i).Ap P λ_=>True:=by
 unfold Instr.index;refine Aa (AX KO) λa=>Aa (AX Aq) λd=>?_
 split
 .exact Au (λ_=>Aa Dy λ_=>IG) λ_=>FP
 .split
  .exact Ad trivial
  .exact FP
 .exact Ag
theorem fQ {a:f_} {c b:Nat}:(partAt a c b).Ap P λ_=>True:=Aa P7 λ_=>Aa P7 λ_=>Ad trivial
theorem Ku {a:f_} {f:Field}:(fieldPlace a f).Ap P λ_=>True:=by
 unfold fieldPlace;exact Aa Dy λ_=>Au (λ_=>fQ) λ_=>Ad trivial
theorem Z8 {t:j_} {x:n_} {i:Nat}:(Instr.fieldAt t x i).Ap P λ_=>True:=by
 unfold Instr.fieldAt;refine Aa (AX Aq) λd=>?_
 split
 .split
  .exact Aa Ii λ_=>Aa Ku λ_=>Ad trivial
  .exact Ag
 .exact Ag
theorem fU {t:j_} {x:n_}:(Instr.loadAt t x).Ap P λ_=>True:=Aa Ii λ_=>G6
theorem ZZ {t:j_} {x y:n_}:(Instr.storeAt t x y).Ap P λ_=>True:=Aa Ii λ_=>QQ
theorem l9 {x:n_}:(Instr.panic x).Ap P λ_=>True:=by
 unfold Instr.panic;split
 .exact OQ
 .have a:(Instr.panicnil).JP P:=by
   unfold Instr.panicnil
   refine λr=>?_
   cases r<;>first|exact rfl|exact trivial
  exact Sem.EE.aW (LG a λn=>by split<;>first|exact O1|exact TJ)
 .exact Ag
theorem FO {b:Bool} {l c:Nat} {x y z:d_ n_}:(Instr.sliceBounds b l c x y z).Ap P λ_=>True:=by
 unfold Instr.sliceBounds
 extract_lets j1
 have a:∀k,(j1 k).Ap P λ_=>True:=λk=>by
  cases y<;>cases z<;>cases x<;>simp only[j1]<;>first
   |exact Aa EX λ_=>Aa EX λ_=>Ad trivial
   |exact Aa EX λ_=>Aa (Ad trivial) λ_=>Ad trivial
   |exact Aa (Ad trivial) λ_=>Aa EX λ_=>Ad trivial
   |exact Aa (Ad trivial) λ_=>Aa (Ad trivial) λ_=>Ad trivial
   |exact Aa Ag λ_=>Aa EX λ_=>Ad trivial
   |exact Aa Ag λ_=>Aa (Ad trivial) λ_=>Ad trivial
 clear_value j1
 split
 .exact Aa EX λ_=>a _
 .exact Aa (Ad trivial) λ_=>a _
theorem l7 {t:j_} {x:n_} {a b c:d_ n_}:(Instr.slice t x a b c).Ap P λ_=>True:=by
 unfold Instr.slice;refine Aa (AX Aq) λd=>?_
 split
 .exact Au (λ_=>Aa Ag λ_=>Aa FO λ_=>Ad trivial) λ_=>Aa FO λ_=>Ad trivial
 .exact Aa FO λ_=>Aa Dy λ_=>Ad trivial
 .refine Aa JY λ_=>Aa (AX Aq) λd=>?_
  split
  .exact Aa FO λ_=>Aa Dy λ_=>Ad trivial
  .exact Ag
 .exact Ag
theorem Z4 {t:j_} {x:n_} {a b c:d_ n_}:(Instr.sliceAt t x a b c).Ap P λ_=>True:=by
 unfold Instr.sliceAt;refine Aa (AX Aq) λd=>?_
 split
 .exact Aa Ii λ_=>Aa FO λ_=>Aa Dy λ_=>Ad trivial
 .exact l7
theorem Z7 {t:j_} {x i:n_}:(Instr.indexAt t x i).Ap P λ_=>True:=by
 unfold Instr.indexAt;refine Aa (AX KO) λe=>Aa (AX Aq) λd=>?_
 extract_lets jp
 have b:∀z,(jp z).Ap P λ_=>True:=λ⟨base,len,elem⟩=>by
  simp only[jp]
  refine Aa (AX Aq) λc=>?_
  cases base with
  |none=>exact FP
  |some a=>exact Au (λ_=>Aa Dy λ_=>Ad trivial) λ_=>Au (λ_=>rfl) λ_=>FP
 clear_value jp
 split
 .exact Aa Ii λ_=>Aa (Ad trivial) λ_=>b _
 .exact Aa (Ad trivial) λ_=>b _
 .exact Aa Ag λ_=>b _
theorem Α {ts:Array j_} {t:j_} {a:X_}:(Builtin.len_ ts t a).Ap P λ_=>True:=by
 unfold Builtin.len_;split
 .refine Aa (AX Aq) λd=>?_
  split
  .exact Ad trivial
  .exact Ad trivial
  .refine Aa (AX Aq) λd=>?_
   split
   .exact Ad trivial
   .exact Ag
  .exact Ad trivial
  .exact Ad trivial
  .exact Ad trivial
  .refine⟨λo _=>?_,Iz⟩;cases o<;>first|exact Ag|exact Ad trivial
  .refine⟨λo _=>?_,Iz⟩;cases o<;>first|exact Ag|exact Ad trivial
  .exact Ag
 .exact Ag
theorem Β {ts:Array j_} {t:j_} {a:X_}:(Builtin.cap_ ts t a).Ap P λ_=>True:=by
 unfold Builtin.cap_;split
 .refine Aa (AX Aq) λd=>?_
  split
  .exact Ad trivial
  .refine Aa (AX Aq) λd=>?_
   split
   .exact Ad trivial
   .exact Ag
  .exact Ad trivial
  .exact Ad trivial
  .refine⟨λo _=>?_,Iz⟩;cases o<;>first|exact Ag|exact Ad trivial
  .exact Ag
 .exact Ag
theorem WO {x:n_}:(Builtin.lenOf x).Ap P λ_=>True:=by
 unfold Builtin.lenOf;split<;>first|exact Ad trivial|exact Ag
theorem Kt {a b:Nat} {x:n_}:(Builtin.firstCells a b x).Ap P λ_=>True:=by
 unfold Builtin.firstCells;split<;>first|exact Qe|exact Ad trivial|exact Ag
theorem uH {ts:Array j_} {t:j_} {a:X_}:(Builtin.copy_ ts t a).Ap P λ_=>True:=by
 unfold Builtin.copy_;split
 .refine Aa (AX Aq) λd=>?_
  split
  .split
   .refine Aa WO λ_=>Aa Dy λ_=>Aa Kt λ_=>?_
    split
    .exact Aa EW λ_=>Ad trivial
    .exact Ad trivial
   .exact Ag
  .exact Ag
 .exact Ag
theorem mF {ts:Array j_} {t:j_} {a:X_}:(Builtin.clear_ ts t a).Ap P λ_=>True:=by
 unfold Builtin.clear_;split
 .refine Aa (AX Aq) λd=>?_
  extract_lets jp
  have b:∀z,(jp z).Ap P λ_=>True:=λz=>Ad trivial
  clear_value jp
  split
  .exact b ()
  .exact b ()
  .exact b ()
  .refine⟨λo c=>?_,show ED P _ (stuck "clear: map expected">>= jp)from YU Iz⟩;cases o<;>first|(cases c;done)|exact(show Sem.Ap P (λ_=>True) (stuck "clear: map expected">>= jp)from Aa Ag λu=>b u)
  .exact Aa EL λ_=>Aa EW λu=>b u
  .exact Aa Ag λu=>b u
 .exact Ag
theorem Pj {a:f_} {n:Nat}:(Builtin.holdsCells a n).JP P:=by
 refine λs=>?_
 cases s<;>trivial
theorem iR {a:f_}:(frozen a).JP P:=λ_=>trivial
theorem Yk {a b c:Nat} {base:d_ f_} {x:n_}:(Builtin.mayShare a b c base x).JP P:=by
 unfold Builtin.mayShare
 extract_lets jp
 have d:∀z,(jp z).JP P:=λz=>by
  simp only[jp]
  split
  .trivial
  .split
   .exact QD Pj λ_=>trivial
   .trivial
 clear_value jp
 split
 .exact d _
 .exact QD Pj λ_=>QD iR λ_=>d _
theorem gm {ts:Array j_} {t:j_} {a:X_}:(Builtin.append_ ts t a).Ap P λ_=>True:=by
 unfold Builtin.append_;split
 .refine Aa (AX Aq) λd=>?_
  split
  .split
   .refine Aa Dy λsize=>?_
    extract_lets ju jp1
    have m:∀u,(ju u).EE P:=λu=>rfl
    clear_value ju
    have c:∀z,(jp1 z).Ap P λ_=>True:=λo=>by
     dsimp -zeta only[jp1]
     extract_lets jp2
     have f:∀n,(jp2 n).Ap P λ_=>True:=λn=>by
      dsimp -zeta only[jp2]
      extract_lets appended need jA j4 j3
      have q:appended.Ap P λ_=>True:=by
       simp only[appended]
       exact Au (λ_=>Kt) λ_=>Au (λ_=>Ad trivial) λ_=>Aa EL λ_=>Ad trivial
      have p:∀u,(jA u).Ap P λ_=>True:=λu=>Ad trivial
      have h:∀u,(j4 u).Ap P λ_=>True:=λu=>
       Aa Fa λ_=>Aa DV λ_=>Aa Tv λ_=>Aa Kt λ_=>Aa q λ_=>Aa EL λ_=>Aa JW λ_=>Ad trivial
      clear_value j4
      have g:∀u,(j3 u).Ap P λ_=>True:=λu=>by
       refine Aa DV λi=>?_
       refine Au (λ_=>Aa (Au (λ_=>AY) λ_=>Sem.EE.aW (LG Yk λb=>?_)) λu=>h u) λ_=>h ()
       split
       .exact LG (e:=mark .noRoom) trivial λu=>m u
       .exact m ()
      clear_value appended jA j3
      refine Au (λ_=>Aa q λnew=>?_) λ_=>Aa DV λi=>Au (λ_=>Aa AY λu=>g u) λ_=>g ()
      split
      .exact Aa EW λu=>p u
      .exact p ()
     clear_value jp2
     refine Au (λ_=>Aa MH λa=>?_) λ_=>Aa WO λn=>f n
     extract_lets l jp6 jp5
     have k:∀u,(jp6 u).Ap P λ_=>True:=λu=>Aa (Ad trivial) λn=>f n
     clear_value jp6
     have j:∀u,(jp5 u).Ap P λ_=>True:=λu=>by
      dsimp -zeta only[jp5]
      refine Aa DV λi=>?_
      exact Au (λ_=>Aa Fa λ_=>Aa AY λu=>k u) λ_=>k ()
     clear_value jp5
     exact Au (λ_=>Aa AY λu=>j u) λ_=>j ()
    clear_value jp1
    split
    .exact Aa (AX Aq) λ_=>Aa (Ad trivial) λz=>c z
    .exact Aa (Ad trivial) λz=>c z
   .exact Ag
  .exact Ag
 .exact Ag
end
def NP (P:l_):Nat->j_->Bool
 |0,_=>false
 |d+1,t=>match P.underlying t with
  |some (.int _)=>match P.info? t with
   |some i=>match i.desc with
    |.named n _=>n != "sync.copyChecker"
    |_=>true
   |none=>true
  |some .bool=>true
  |some .string=>true
  |some (.struct fs)=>fs.all λf=>NP P d f.type
  |_=>false
section
variable {P:l_}
theorem WR {α β:Type} {f:α->β->Sem (ForInStep β)}:∀{l:List α} {b:β},(∀a∈l,∀b,(f a b).Ap P λ_=>True)->(forIn l b f).Ap P λ_=>True
 |[],b,_=>Ad trivial
 |a::l,b,h=>by
  rw[List.forIn_cons]
  refine Aa (h a (List.mem_cons_self ..) b) λs=>?_
  cases s with
  |done c=>exact Ad trivial
  |yield c=>exact WR λa d b=>h a (List.mem_cons_of_mem _ d) b
theorem UZ {α β:Type} {f:α->β->Sem (ForInStep β)} {l:Array α} {b:β} (h:∀a∈l,∀b,(f a b).Ap P λ_=>True):(forIn l b f).Ap P λ_=>True:=by
 rw[<-Array.forIn_toList];exact WR λa c b=>h a (Array.mem_toList_iff.1 c) b
theorem Ve {d:Nat} {t:j_} {fs:Array Field} (h:NP P (d+1) t=true) (e:P.underlying t=some (.struct fs)):∀f∈fs,NP P d f.type=true:=by
 simp only[NP,e]at h;intro f a;exact Array.all_eq_true'.1 h f a
theorem Tu (hG:P.globals.size=0):∀(k d:Nat) (t:j_) (x y:n_),NP P k t=true->(Op.equalIn d t x y).Ap P λ_=>True
 |0,d,t,x,y,h=>by cases h
 |k+1,0,t,x,y,h=>rfl
 |k+1,d+1,t,x,y,h=>by
  unfold Op.equalIn
  refine FM λa c=>?_
  cases a with
  |bool=>split<;>first|contradiction|exact Ad trivial|exact Ag
  |string=>split<;>first|contradiction|exact Ad trivial|exact Ag
  |int w=>
   split<;>first
    |contradiction
    |exact Ad trivial
    |exact Ag
    |exact rfl
    |exact Au (λ_=>Ad trivial) λ_=>Ag
    |skip
   refine CW (λz=>CW (λp=>AX (K:=λ_=>False) ?_) (DD ?_)) (G8 λp=>DD ?_)
   all_goals
    refine DW Dh λq n=>?_
    subst n
    rw[if_neg (by simp[hG])]
    refine DW Ih λi m=>?_
    simp only[NP,c,m]at h
    split
    .rename_i e;rw[e]at h;simp at h
    .rfl
  |struct v=>
   have g:=Ve h c
   split<;>first
    |contradiction
    |exact Ag
    |skip
   rename_i e
   injection e with e
   subst e
   refine Aa (AX Dh) λq=>?_
   extract_lets jp
   have j:∀u,(jp u).Ap P λ_=>True:=λu=>by
    refine Aa (UZ λf l b=>Au (λ_=>Aa IG λ_=>Aa IG λ_=>Aa (Tu hG k d f.type _ _ (g f l)) λr=>Au (λ_=>Ad trivial) λ_=>Ad trivial) λ_=>Ad trivial) λs=>?_
    obtain⟨o,_⟩:=s
    cases o<;>exact Ad trivial
   exact Au (λ_=>Aa (EG (by simp)) λu=>j u) λ_=>j ()
  |_=>(simp only[NP,c]at h;cases h)
theorem MK:∀(k d:Nat) (t:j_) (x y:n_),NP P k t=true->(Op.eqGuardIn d t x y).Ap P λ_=>True
 |0,d,t,x,y,h=>by cases h
 |k+1,0,t,x,y,h=>rfl
 |k+1,d+1,t,x,y,h=>by
  unfold Op.eqGuardIn
  refine FM λa g=>?_
  cases a with
  |struct l=>
   have c:=Ve h g
   split<;>first
    |contradiction
    |exact Ad trivial
    |skip
   rename_i e
   injection e with e
   subst e
   refine Aa (UZ λf i b=>Au (λ_=>Aa IG λ_=>Aa IG λ_=>Aa (MK k d f.type _ _ (c f i)) λr=>Au (λ_=>Ad trivial) λ_=>Ad trivial) λ_=>Ad trivial) λs=>?_
   obtain⟨j,_⟩:=s
   cases j<;>exact Ad trivial
  |bool=>split<;>first|contradiction|exact Ad trivial
  |string=>split<;>first|contradiction|exact Ad trivial
  |int m=>split<;>first|contradiction|exact Ad trivial
  |_=>(simp only[NP,g]at h;cases h)
def qM:Operand->Bool
 |.const (.pointer none)=>true
 |.const (.slice none _ _)=>true
 |.const .nilFunc=>true
 |_=>false
def We:n_->Bool
 |.pointer none=>true
 |.slice none _ _=>true
 |.nilFunc=>true
 |_=>false
def yD (P:l_) (t:j_):Bool:=match P.underlying t with
 |some (.pointer _)=>true
 |some (.slice _)=>true
 |some (.func _ _ _)=>true
 |_=>false
theorem X0 {t:j_} {x y:n_} {d:Nat} (h:yD P t=true) (hn:We x=true\/We y=true):(Op.equalIn (d+1) t x y).Ap P λ_=>True:=by
 unfold Op.equalIn;refine FM λf g=>?_
 cases f with
 |pointer e=>
  split<;>first
   |contradiction
   |exact Ad trivial
   |exact Ag
   |(exfalso;obtain hn|hn:=hn<;>cases hn;done)
 |slice e=>split<;>first|contradiction|exact Ad trivial|exact Ag
 |func a b c=>split<;>first|contradiction|exact Ad trivial|exact Ag
 |_=>(simp only[yD,g]at h;cases h)
theorem SX {x:Operand} (h:qM x=true) (fr:Frame):We (fr.eval x)=true:=by
 unfold qM at h;split at h<;>first|rfl|cases h
def PG (P:l_) (t:j_) (x y:Operand):Bool:=NP P 5 t || (yD P t && (qM x || qM y))
theorem mi (hG:P.globals.size=0) {t:j_} {x y:Operand} {fr:Frame} (h:PG P t x y=true):(Op.equal t (fr.eval x) (fr.eval y)).Ap P λ_=>True:=by
 unfold PG at h;simp only[Bool.or_eq_true,Bool.and_eq_true]at h;obtain h|⟨a,b⟩:=h
 .exact Tu hG 5 _ _ _ _ h
 .exact X0 (d:=9999) a (b.imp (λh=>SX h fr) λh=>SX h fr)
theorem mM (hG:P.globals.size=0) {op:BinOp} (ho:op=.eql\/op=.neq) {t:j_} {x y:Operand} {fr:Frame} (h:PG P t x y=true):(binOp op t (fr.eval x) (fr.eval y)).Ap P λ_=>True:=by
 have c:=mi hG (fr:=fr) h;generalize fr.eval x=a at c ⊢;generalize fr.eval y=b at c ⊢;obtain rfl|rfl:=ho
 .unfold binOp;split<;>first
   |contradiction
   |exact Aa c λ_=>Ad trivial
   |exact Au (λ_=>rfl) λ_=>P5
   |exact Au (λ_=>rfl) λ_=>JH
   |exact Au (λ_=>rfl) λ_=>ML
   |exact Ij
 .unfold binOp;split<;>first
   |contradiction
   |exact Aa c λ_=>Ad trivial
   |exact Au (λ_=>rfl) λ_=>P5
   |exact Au (λ_=>rfl) λ_=>JH
   |exact Au (λ_=>rfl) λ_=>ML
   |exact Ij
end
section
variable {P:l_}
theorem ae {op:BinOp} {t:j_} {x y:Operand} {fr:Frame} (h:(op=.eql\/op=.neq)->PG P t x y=true):(eqGuard op t x y (fr.eval x) (fr.eval y)).Ap P λ_=>True:=by
 unfold eqGuard;by_cases g:op=.eql\/op=.neq
 .have d:=h g;unfold PG at d;simp only[Bool.or_eq_true,Bool.and_eq_true]at d;have e:(!(match op with | .eql=>true | .neq=>true|_=>false))=false:=by obtain rfl|rfl:=g<;>rfl
  refine Au (λ_=>Ad trivial) λ_=>?_
  obtain d | ⟨_,f⟩:=d
  .split
   .exact Au (λ_=>Ad trivial) λ_=>Aa (MK 5 _ _ _ _ d) λ_=>Au (λ_=>EG (by simp)) λ_=>Ad trivial
   .exact Aa (AX Dh) λ_=>Aa (AX Dh) λ_=>Au (λ_=>Ad trivial) λ_=>Aa (MK 5 _ _ _ _ d) λ_=>Au (λ_=>EG (by simp)) λ_=>Ad trivial
   .exact Ad trivial
  .have c:We (fr.eval x)=true\/We (fr.eval y)=true:=f.imp (λh=>SX h fr) λh=>SX h fr
   generalize fr.eval x=a at c ⊢;generalize fr.eval y=b at c ⊢;split
   .obtain c|c:=c<;>cases c
   .obtain c|c:=c<;>cases c
   .exact Ad trivial
 .refine Au (λ_=>Ad trivial) λf=>?_
  exfalso;apply g;cases op<;>first|exact .inl rfl|exact .inr rfl|(simp at f;done)
def bI (P:l_) (t:j_):Bool:=match P.underlying t with
 |some (.int _)=>true
 |_=>false
theorem Vm {s:FloatKind} {b:Nat} {k:IntKind}:(Conv.floatToInt s b k).Ap P λ_=>True:=by
 unfold Conv.floatToInt;split
 .exact Au (λ_=>Ad trivial) λ_=>Aa Fa λ_=>Ad trivial
 .exact Aa Fa λ_=>Ad trivial
theorem ah {a b:j_} (ha:bI P a=true) (hb:bI P b=true) {x:n_}:(convert a b x).Ap P λ_=>True:=by
 unfold convert;refine FM λd f=>FM λe c=>?_
 unfold bI at ha hb;rw[f]at ha;rw[c]at hb;cases d<;>first|(cases ha;done)|skip
 cases e<;>first|(cases hb;done)|skip
 split<;>first
  |contradiction
  |exact Ad trivial
  |exact Vm
  |exact rfl
theorem G9:∀(l:List FieldStep) (t:j_) (x:d_ n_),(followBlind l t x).Ap P λ_=>True
 |[],_,_=>Ad trivial
 |s::l,t,x=>by
  unfold followBlind
  refine Aa (AX Aq) λd=>?_
  split
  .split
   .split
    .exact Ad trivial
    .exact G9 l _ _
    .exact Ag
    .exact Ad trivial
    .exact Aa IG λ_=>G9 l _ _
    .exact Ag
    .exact G9 l _ _
   .exact Ag
  .exact Ag
theorem QR:∀(n:Nat) (t:j_) (v:n_) (s:String),(nilAhead n t v s).Ap P λ_=>True
 |0,_,_,_=>Ad trivial
 |n+1,t,v,s=>by
  unfold nilAhead
  refine Aa DV λi=>?_
  split
  .refine Aa (G9 _ _ _) λr=>?_
   split
   .exact Ad trivial
   .split
    .exact QR n _ _ _
    .exact Ad trivial
    .exact Ag
    .exact Ad trivial
    .exact Ad trivial
    .refine Aa (AX Aq) λd=>?_
     split<;>exact Ad trivial
  .exact Ag
theorem JX:∀(l:List FieldStep) (t:j_) (x:Place),(follow l t x).Ap P λ_=>True
 |[],_,_=>Ad trivial
 |s::l,t,x=>by
  unfold follow
  refine Aa (AX Aq) λd=>?_
  have b:∀(t:j_) (x:Place),(x.get t).Ap P λ_=>True:=λt x=>by
   cases x with
   |val v=>exact Ad trivial
   |var a=>exact G6
  split
  .split
   .refine Au (λ_=>Aa (b _ _) λ_=>Aa JY λ_=>Aa Ku λ_=>JX l _ _) λ_=>?_
    split
    .exact Aa Ku λ_=>JX l _ _
    .exact Aa IG λ_=>JX l _ _
    .exact Ag
   .exact Ag
  .exact Ag
theorem SG {t:j_} {x:Place}:(x.get t).Ap P λ_=>True:=by
 cases x with
 |val v=>exact Ad trivial
 |var a=>exact G6
theorem ZY {t:j_} {x a b:n_}:(Builtin.ssaWrapNilChk_ #[t] t #[x,a,b]).Ap P λ_=>True:=by
 cases a<;>first|exact rfl|skip
 cases b<;>first|exact rfl|skip
 cases x<;>first|exact rfl|skip
 rename_i o;cases o with
 |some a=>exact trivial
 |none=>
  refine Aa (e:=choose _) Fa λc=>?_
  extract_lets jp
  have f:∀u,(jp u).Ap P λ_=>True:=λu=>by
   dsimp -zeta only[jp]
   split
   .refine Aa (AX Aq) λd=>?_
    split
    .refine Aa DV λi=>?_
     split
     .split
      .extract_lets base targs
       split
       .exact AY
       .exact rfl
      .exact Ag
     .exact Ag
    .exact Ag
   .exact Ag
  exact Au (λ_=>Aa AY λu=>f u) λ_=>f ()
theorem O9 {t:j_} {x:Place} {b:Bool} {o:d_ String}:(receiverAt t x b o).Ap P λ_=>True:=by
 unfold receiverAt;refine Aa (AX Aq) λd=>?_
 split
 .exact SG
 .refine Aa SG λq=>?_
  split
  .exact Aa ZY λ_=>Aa JY λ_=>G6
  .exact Aa (Ad trivial) λ_=>Aa JY λ_=>G6
 .exact Ad trivial
 .exact Ag
 .exact SG
theorem UD {t:j_} {v:n_} {p:Array FieldStep} {b:Bool}:(receiverVia t v p b).Ap P λ_=>True:=Aa (JX _ _ _) λ_=>O9
theorem UY:∀(n:Nat) (t:j_) (v:n_) (s:String),(method n t v s).Ap P λ_=>True
 |0,_,_,_=>rfl
 |n+1,t,v,s=>by
  unfold method
  refine Aa DV λi=>?_
  split
  .refine Aa (JX _ _ _) λr=>?_
   obtain⟨a,b⟩:=r;dsimp only;split
   .refine Aa SG λq=>?_
    split
    .exact UY n _ _ _
    .exact AY
    .exact Ag
   .exact Aa O9 λ_=>Ad trivial
  .exact Ag
/-! ### calls -/
def Rj (P:Program) (L:FuncId->Prop):Prop:=∀f,L f->∃fn,P.funcs[f]?=some fn/\fn.body.isNone=false/\(fn.name== "runtime.NumGoroutine")=false
variable {L:h_->Prop} {bb:Bool}
theorem Ya (hB:Rj P L) {f:h_} (hf:L f) {args:X_}:(callFunc f args).Ap P (ES L bb):=by
 obtain⟨fn,a,b,c⟩:=hB f hf;unfold callFunc;refine DW Dh λq d=>?_
 subst d;rw[a];simp only[b,c,Bool.false_eq_true,if_false];exact hf
theorem lX {l:Nat} {args:X_}:(Instr.yield l args).Ap P (ES L bb):=by
 unfold Instr.yield Instr.getLoop;refine⟨λo b=>?_,λw d a e c _ _ h=>?_⟩
 .cases o<;>first|(cases b;done)|exact rfl
 .simp[Sem.bind,stuck,Dw,Bind.bind]at h
theorem U5 {α:Type} {e:Sem α} {w w':o_} {es Cm:Array Event} {a:α} (h:e.runT P w es=(.ok a w',Cm)):e.run P w=.ok a w':=by
 have:=Sem.runT_eq P e w es;rw[this]at h;exact congrArg Prod.fst h
def JV (recv:n_) (name:String):Sem (h_×n_):=match recv with
 |.iface t u=>program>>= λq=>method (q.types.size+Made.depth) t u name
 |.nilIface=>runtimePanic .nilDeref
 |_=>stuck "invoke: interface value expected"
theorem QZ (recv:n_) (name:String) (args:X_):callMethod recv name args=(JV recv name>>= λx=>callFunc x.1 (#[x.2]++args)):=by
 cases recv<;>rfl
theorem QS {recv:n_} {name:String}:(JV recv name).Ap P λ_=>True:=by
 unfold JV;split
 .exact Aa (AX Dh) λ_=>UY _ _ _ _
 .exact AY
 .exact Ag
theorem Tz {recv:n_} {name:String} {v v1:o_} {x:h_×n_} (h:(JV recv name).run P v=.ok x v1):∃t u,recv=.iface t u/\(method (P.types.size+Made.depth) t u name).run P v=.ok x v1:=by
 cases recv with
 |iface t u=>exact⟨t,u,rfl,h⟩
 |nilIface=>
  have:(runtimePanic .nilDeref:Sem (h_×n_)).run P v=.ok x v1:=h
  cases this
 |_=>cases (show(stuck "invoke: interface value expected":Sem (FuncId×Value)).run P v=.ok x v1 from h)
theorem JJ (hB:Rj P L) {f:h_} (hf:L f\/Ext P f) {args:X_} (v:o_):Ht P (ES L bb) (callFunc f args) v:=
 hf.elim (λh=>Sem.Ap.here (Ya hB h) v) λh=>ϗ h args v
theorem U9 (hB:Rj P L) {recv:n_} {name:String} {args:X_} {v:o_} (hab:∀t u f r w',recv=.iface t u->(method (P.types.size+Made.depth) t u name).run P v=.ok (f,r) w'->L f\/Ext P f):
  Ht P (ES L bb) (callMethod recv name args) v:=by
 rw[QZ];refine Rk (e1:=JV recv name) (f:=λx=>callFunc x.1 (#[x.2]++args)) QS λx v1 c b h=>?_
 obtain⟨t,u,e,a⟩:=Tz (U5 h);exact JJ hB (hab t u x.1 x.2 v1 e a) v1
theorem wG (hB:Rj P L) {f:n_} {args:X_} {v:o_} (hab:∀d w',(Deferred.ofValue f args).run P v=.ok d w'->∀g,d.target.leads P w' d.args=some g->L g\/Ext P g):
  Ht P (ES L bb) (Deferred.ofValue f args>>= λd=>invoke d.target d.args) v:=by
 cases f with
 |nilFunc=>exact Sem.Ap.here (show(invoke .nil args).Ap P (ES L bb) by simp only[invoke];exact AY) v
 |func fn first cap=>
  have a:=hab ⟨.fn fn cap,first++args⟩ v rfl
  show Ht P (ES L bb) (invoke (.fn fn cap) (first++args)) v
  simp only at a
  generalize first++args=b at a ⊢
  cases fn with
  |func g=>exact JJ hB (a g rfl) v
  |via t c g ptr=>
   simp only[invoke]
   cases b[0]? with
   |none=>exact Sem.Ap.here Ag v
   |some x=>exact Rk (e1:=receiverVia t x c ptr) (f:=λy=>callFunc g (#[y]++b.extract 1 b.size)) UD λ_ v1 _ _ _=>JJ hB (a g rfl) v1
  |yield l=>exact Sem.Ap.here (show(Instr.yield l b).Ap P (ES L bb)from lX) v
  |method name=>
   simp only[invoke]
   cases h0:b[0]? with
   |none=>exact Sem.Ap.here Ag v
   |some x=>
    refine U9 hB λt u f r w' e j=>a f ?_
    subst e
    simp only[Target.leads,h0,j]
  |methodOf t name=>
   simp only[invoke]
   cases h0:b[0]? with
   |none=>exact Sem.Ap.here Ag v
   |some x=>
    have e:(underlying t>>= λd=>callMethod (match d with | .interface _=>x|_=>.iface t x) name (b.extract 1 b.size))=((underlying t>>= λd=>JV (match d with | .interface _=>x|_=>.iface t x) name)>>= λy=>callFunc y.1 (#[y.2]++b.extract 1 b.size)):=by
     rw[bind_assoc]
     congr 1
     funext d
     exact QZ _ _ _
    refine(congrArg (Ht P (ES L bb) · v) e).mpr (Rk (e1:=underlying t>>= λd=>JV (match d with | .interface _=>x|_=>.iface t x) name) (f:=λy=>callFunc y.1 (#[y.2]++b.extract 1 b.size)) (Aa (AX Aq) λ_=>QS) λy v1 o n h=>?_)
    have j:=U5 h
    have i:(match P.underlying t with
     |some d=>JV (match d with | .interface _=>x|_=>.iface t x) name
     |none=>stuck "":Sem (FuncId×Value)).run P v=.ok y v1:=by
     cases hu:P.underlying t with
     |none=>simp[underlying,hu]at j
     |some d=>simpa [underlying,hu]using j
    cases hu:P.underlying t with
    |none=>rw[hu]at i;cases i
    |some d=>
     rw[hu]at i
     obtain⟨p,q,k,m⟩:=Tz i
     refine JJ hB (a y.1 ?_) v1
     simp only[Target.leads,h0,hu,Option.map_some]
     cases d<;>(simp only at k ⊢;first
      |(injection k with e1 e2;subst e1 e2;simp only[m];done)
      |(subst k;simp only[m];done))
 |_=>exact Sem.Ap.here (wu (e:=(stuck _:Sem Deferred)) o6) v
end
end Go.Fxa
