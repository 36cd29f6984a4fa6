/- goOn, from its call to its ret -/
import Derived.Test.YtmhplpfpcnjekaaGreatA14
open Go.Proofs.Tryz
namespace Go.Fxa
open Go.Conc
open Go.ConcN (sumTo upd sumTo_upd upd_ne upd_same)
structure υ (P:l_) (N:Fence) (m:Nat):Prop where
 boxes:∀(sa:f_) (n:Int) (v:o_) (g:Y_),∀τ d,(S0 P).wpIn N m P (Ends λtm w'=>∃g' b2 b3,tm=TN 18 (AY g' [(2,pr b2),(3,pr b3)])/\Ij v w'/\v.heap.size<=b2/\v.heap.size<=b3/\b2<w'.heap.size/\b3<w'.heap.size/\b2≠b3/\w'.cell? (S_ b2)=some (.pointer (some sa))/\w'.cell? (S_ b3)=some (b_ n)) ⟨TN 18 (AY g [(0,.pointer (some sa)),(1,b_ n)]),[]⟩ (v.re τ d)
 makes:∀(b2 b3:Nat) (v:o_) (g:Y_),∀τ d,(S1 P).wpIn N m P (Ends λtm w'=>∃g' b5 r q0 q1 q2 q3,tm=TN 18 (AY g' (vw b2 b3 b5))/\Ij v w'/\(∀x∈[b5,r,q0,q1,q2,q3],v.heap.size<=x)/\[b5,r,q0,q1,q2,q3].Nodup/\Bv r #[DU q0,DU q1,DU q2,DU q3] 257 w' 0 0/\w'.cell? (S_ b5)=some (pr r)/\∀q∈[q0,q1,q2,q3],w'.heap[q]?=some (.chan 0 #[] false 0 0 false)) ⟨TN 18 (AY g [(2,pr b2),(3,pr b3)]),[]⟩ (v.re τ d)
structure uG {P:l_} {N:Fence} {m:Nat} {kv:n_} {pa:f_} {n:Int} (S:Q5 P N m kv pa n) where
 B0:o_->Prop
 B2:o_->Prop
 B3:o_->Prop
 t2:Dt B2
 t3:Dt B3
 bring:∀(v:o_) (f:Y_),B0 v->∀τ d,(R2 P).wpIn N m P (Ends λtm w'=>∃f',tm=TN 76 (AY f' (kV kv pa n CY))/\B2 w') ⟨TN 76 (AY f (kV kv pa n CY)),[]⟩ (v.re τ d)
 clear:∀(v:o_) (f:Y_),B2 v->∀τ d,(R3 P).wpIn N m P (Ends λtm w'=>∃f',tm=TN 76 (AY f' (kV kv pa n CY))/\B3 w') ⟨TN 76 (AY f (kV kv pa n CY)),[]⟩ (v.re τ d)
 start:∀v v',B3 v->Ij v v'->S.I 0 CY v'
section
variable {P:l_} {L:h_->Prop} {p:h_->Oper->Bool} {N:Fence} {m:Nat} {host:h_} {Z:Nat->Prop} {Ac:Loc->Prop} {gs:Array m_} {w:o_} {sl:d_ (W_)} {t:Trace}
theorem Beside.part {Od:Old} {Ep:h_} {kd:CallKind} {k:List Item} {ds:List Deferred} {Q:X_->o_->Prop} {c:Code} {tmps:X_} {cs:Z_} {v:o_} {B:Nat} (W:VY P L p N host) (hu:F9 Ac Z) (hf:Ep=56\/Ep=93\/Ep=97\/Ep=136\/Ep=187) (hkd:(kd==CallKind.early)=false)
  (hc:c∈[R2 P,R3 P,S0 P,S1 P,R10 P,R11 P,R15 P,R16 P,A0 P,R21 P,Vu P,Yh P,R12 P]) (hw:∀τ d,c.wpIn N m P (Ends Q) ⟨tmps,[]⟩ (v.re τ d)) (hQ:∀tm,Dt (Q tm)) (Bs:Beside Od P Ac Z B v gs w t) (h0:gs[0]?=some (G (Frame.mk Ep tmps (.code c::k) ds .run kd none) cs)):
  AO P gs w sl t λBg w' t'=>∃tm v' B',Bg[0]?=some (G (Frame.mk Ep tm k ds .run kd none) cs)/\Q tm v'/\Beside Od P Ac Z B' v' Bg w' t':=by
 refine(LK W.fenced hu W.PV (W.seen Ep hf) hkd (W.ops c hc) ax hw Bs h0).mono λBg w' t' ⟨g,v',B',a,⟨tm,τ,d,e⟩,_,_,b⟩=>?_
 obtain⟨rfl,_,_,h⟩|⟨_,_,f,_⟩:=e
 .exact⟨tm,v',B',a,(hQ tm).back h,b⟩
 .cases f
theorem Ij.trans {a b c:o_} (h:Ij a b) (h':Ij b c):Ij a c:=
 ⟨Nat.le_trans h.1 h'.1,λx d=>(h'.2.1 x (Nat.lt_of_lt_of_le d h.1)).trans (h.2.1 x d),h'.2.2.1.trans h.2.2.1,h'.2.2.2.trans h.2.2.2⟩
theorem jV {Od:Old} (A:ES P) (W:VY P L p N host) (M:YS P N m) (ST:υ P N m) {kv:n_} {pa:f_} {n:Int} {c0:Frame} {cs:Z_} (hn:n<=1000) (hn0:0<=n) (S:Q5 P N m kv pa n) (U:uG S) (hu:F9 Ac Z) {v:o_} {B:Nat} (hB0:U.B0 v) (Bs:Beside Od P Ac Z B v gs w t)
  (h0:gs[0]?=some (BL (z0 P kv pa n (c0::cs)))):
  MS P gs w sl t λBg w' t'=>∃Z' Oy,(∀x,Z x->Z' x)/\F9 Oy Z'/\Back Od P Oy Z' S.Fin c0 cs Bg w' t':=by
 have K:=A.FH;refine(Bs.Si h0 (DI (K.z1a _ _ _ _))).then λgs1 w1 Jk t1 _ ⟨h1,Bs1,_⟩=>?_
 rw[show run P 9 (z0 P kv pa n (c0::cs))=z1 P kv pa n (c0::cs)from rfl,at_toldN (l:=kV kv pa n CY) (K.z1b _ _ _ _) (K.z1c _ _ _ _) (K.z1d _ _ _ _)]at h1;refine(Beside.part W hu (.inl rfl) rfl (by simp) (U.bring v _ hB0) (λtm v τ d ⟨f',e,h⟩=>⟨f',e,U.t2 v τ d h⟩) Bs1 h1).then λgs2 w2 sl2 t2 _ ⟨tm2,v2,B2,h2,⟨f2,e2,hB2⟩,Bs2⟩=>?_
 subst e2;refine(Bs2.Si h2 (IM (K.z3 (AY f2 (kV kv pa n CY)) (c0::cs)))).then λgs3 w3 sl3 t3 _ ⟨h3,Bs3,_⟩=>?_
 refine(Beside.part W hu (.inl rfl) rfl (by simp) (U.clear v2 f2 hB2) (λtm v τ d ⟨f',e,h⟩=>⟨f',e,U.t3 v τ d h⟩) Bs3 h3).then λgs4 w4 sl4 t4 _ ⟨tm4,v4,B4,h4,⟨D,e4,hB4⟩,Bs4⟩=>?_
 subst e4;refine(Bs4.Si h4 (DI (K.z5a kv pa n CY D (c0::cs)))).then λgs5 w5 sl5 t5 _ ⟨h5,Bs5,_⟩=>?_
 rw[show run P 8 (f56 (AY D (kV kv pa n CY)) (c0::cs) (T3 P) [])=z5 P kv pa n CY D (c0::cs)from rfl,at_toldN (l:=[(0,Sr pa),(1,b_ n)]) (K.z5b _ _ _ _ _ _) (K.z5c _ _ _ _ _ _) (K.z5d _ _ _ _ _ _)]at h5;refine(Beside.part W hu (.inr (.inl rfl)) rfl (by simp) (ST.boxes (pa.add 5) n v4 _) (λtm v τ d h=>h) Bs5 h5).then λgs6 w6 sl6 t6 _ ⟨tm6,v6,B6,h6,⟨g6,f,j,e6,H,k2,k3,l2,l3,k23,c2,c3⟩,Bs6⟩=>?_
 subst e6;refine(Bs6.Si h6 (IM (K.y1 (AY g6 [(2,pr f),(3,pr j)]) (Y4 P kv pa n CY D (c0::cs))))).then λgs7 w7 sl7 t7 _ ⟨h7,Bs7,_⟩=>?_
 refine(Beside.part W hu (.inr (.inl rfl)) rfl (by simp) (ST.makes f j v6 g6) (λtm v τ d h=>h) Bs7 h7).then λgs8 w8 sl8 t8 _ ⟨tm8,v8,B8,h8,⟨E,o,r,O,q1,Q,q3,e8,z,C,knd,kr,k5,kq⟩,Bs8⟩=>?_
 subst e8;have hZ4:∀x,Z x->x<v4.heap.size:=Bs4.choose_spec.2.1;have T4:Twin Od Z v4 w4:=Bs4.choose_spec.1;obtain⟨q8,T8,hZ8,L8,P8,S8⟩:=Bs8;have bt0:v6.heap.size<=o/\v6.heap.size<=r/\v6.heap.size<=O/\v6.heap.size<=q1/\v6.heap.size<=Q/\v6.heap.size<=q3:=⟨C _ (by simp),C _ (by simp),C _ (by simp),C _ (by simp),C _ (by simp),C _ (by simp)⟩;obtain⟨m5,mr,m0,m1,m2,m3⟩:=bt0;simp only[List.nodup_cons,r_,List.not_mem_nil,or_false,not_or,List.nodup_nil,and_true,not_false_eq_true]at knd;obtain⟨⟨d5r,d50,d51,d52,d53⟩,⟨dr0,dr1,dr2,dr3⟩,⟨d01,d02,d03⟩,⟨d12,d13⟩,d23⟩:=knd;have g46:=H.1;have g68:=z.1
 let b:JH:=⟨f,j,o,r,O,q1,Q,q3,Sr pa,n⟩
 have G:∀q,b.yt q->v8.heap[q]?=some (.chan 0 #[] false 0 0 false):=λq h=>kq q (by obtain e|e|e|e:=h<;>simp[e,b])
 have V:∀x,b.own x->v4.heap.size<=x:=λx c=>by
  simp only[JH.own,b]at c
  omega
 have BI:∀x,b.own x->x<v8.heap.size:=λx c=>by
  have hr:=kr.lt
  have h5:=cell_lt k5
  have e0:=(y_.1 (G O (.inl rfl))).1
  have e1:=(y_.1 (G q1 (.inr (.inl rfl)))).1
  have e2:=(y_.1 (G Q (.inr (.inr (.inl rfl))))).1
  have e3:=(y_.1 (G q3 (.inr (.inr (.inr rfl))))).1
  simp only[JH.own,b]at c
  simp only at h5
  omega
 have hnz:∀x,b.own x->¬Z x:=λx c hz=>by have:=V x c;have:=hZ4 x hz;omega
 have OK:b.Ok:=by
  refine⟨λq hq=>?_,?_,?_⟩
  .simp only[JH.yt,b]at hq;simp only[b];refine⟨by omega,by omega,?_,?_⟩<;>(obtain e|e|e|e:=hq<;>subst e<;>first|exact Ne.symm d50|exact Ne.symm d51|exact Ne.symm d52|exact Ne.symm d53|exact Ne.symm dr0|exact Ne.symm dr1|exact Ne.symm dr2|exact Ne.symm dr3)
  .simp only[b];exact⟨by omega,by omega,d5r⟩
  .exact⟨d01,d02,d03,d12,d13,d23⟩
 have hod:∀x,b.own x->¬Od.dead x:=λx c F=>by have:=V x c;have:=(y_.1 (T4.JV x F)).1;omega
 have dY:∀x,b.own x->w8.heap[x]?=v8.heap[x]?:=λx c=>(T8.same x (hnz x c) (hod x c)).symm
 have BB:Bv r b.pre 257 w8 0 0:=by unfold Bv;rw[dY r (by simp[JH.own,b])];exact kr
 have y:b.cells w8:=by
  refine⟨Hr k5 (dY o (by simp[JH.own,b])),Hr (w:=v8) ?_ (dY f (by simp[JH.own,b])),Hr (w:=v8) ?_ (dY j (by simp[JH.own,b]))⟩
  .exact Hr c2 (z.2.1 f l2)
  .exact Hr c3 (z.2.1 j l3)
 have bv5:∀q,b.yt q->w8.heap[q]?=some (.chan 0 #[] false 0 0 false):=λq h=>by
  rw[dY q (by obtain e|e|e|e:=h<;>simp[JH.own,e])];exact G q h
 obtain⟨v9,T9,sz9,bh4,os9,bs3⟩:=T8.kill (Z':=λx=>Z x\/b.own x) (λ_ h=>.inl h) (λx c F=>c.elim (T8.XZ x F) λh=>hod x h F);have hg9:Ij v4 v9:=by
  refine⟨by omega,λx c=>?_,by rw[os9,z.2.2.1,H.2.2.1],by rw[bs3,z.2.2.2,H.2.2.2]⟩
  by_cases hz:Z x
  .rw[T9.dead x (.inl hz) (by omega),T4.dead x hz c]
  .have F:¬b.own x:=λF=>by have:=V x F;omega
   rw[bh4 x (λh=>h.elim hz F),z.2.1 x (by omega),H.2.1 x c]
 have hZ9:∀x,(Z x\/b.own x)->x<v9.heap.size:=λx c=>by
  rw[sz9]
  exact c.elim (hZ8 x) (BI x)
 have Y:F9 (λl=>Ac l\/Lj b.r b.pre l) (λx=>Z x\/b.own x):=by
  refine⟨λa h=>?_,λx h=>?_⟩
  .obtain h|h|h:=h
   .exact .inl (hu.1 a h)
   .injection h with h;subst h;exact .inr (by simp[JH.own,stA])
   .injection h with h;subst h;exact .inr (by simp[JH.own,smA])
  .obtain h|h|h:=h
   .exact .inl (hu.2 x h)
   .cases h
   .cases h
 have J:∀l,b.Still l->¬(Ac l\/Lj b.r b.pre l):=λl hl h=>by
  obtain h|h:=h
  .have:∃a,l=.cell a/\b.own a.block:=by obtain e|e|e|e|e|e|e:=hl<;>exact⟨_,e,by simp[JH.own]⟩
   obtain⟨a,rfl,ha⟩:=this;exact hnz _ ha (hu.1 a h)
  .exact UK h hl
 have Bs9:Beside Od P (λl=>Ac l\/Lj b.r b.pre l) (λx=>Z x\/b.own x) B8 v9 gs8 w8 t8:=⟨q8,T9,hZ9,L8,Past.shun P8 (λ_ h=>.inl h),S8⟩;refine(Bs9.Si h8 (DI (K.y3a E (Y4 P kv pa n CY D (c0::cs)) f j o))).then λgsa wa sla ta _ ⟨ha,Ba,wa8⟩=>?_
 refine(Ba.read ha (K.y3b E _ f j o r) (Hr y.1 (by rw[wa8])) (J _ (.inl rfl))).then λgsb wb slb tb _ ⟨hb,Bb,wba⟩=>?_
 refine(Bb.Si hb (DI (K.y4a E _ f j o r))).then λgsc wc slc tc _ ⟨hc,Bc,wcb⟩=>?_
 have ec:wc.heap=w8.heap:=wcb.trans (wba.trans wa8);have hc':gsc[0]?=some (BL (y4 P E (Y4 P kv pa n CY D (c0::cs)) f j o r)):=hc;rw[K.y4b]at hc';obtain⟨qc,Tc,hZc,Lc,Pc,Sc⟩:=Bc;refine(qY (Z:=λx=>x=r) (ba5 (A.add _ _ _)) rfl hc' Lc Pc Sc (show Bv r b.pre 257 wc 0 0 by unfold Bv;rw[ec];exact BB)).then λgsd wd sld td _ ⟨qd,hd,od,rd,Ld,Pd,Sd⟩=>?_
 have odZ:CB (λx=>Z x\/b.own x) wc wd:=⟨od.size,λx c=>od.same x (λe=>c (.inr (by simp[JH.own,b,e]))),od.os,od.output,od.tape⟩;have Bd:Beside Od P (λl=>Ac l\/Lj b.r b.pre l) (λx=>Z x\/b.own x) B8 v9 gsd wd td:=⟨qd,Tc.off hZc odZ,hZc,Ld,Pd,Sd⟩;have KSd:b.KS wd:=by
  refine⟨rd,y.keep λx c=>?_,λq hq=>⟨0,?_⟩⟩
  .rw[od.same x (by obtain e|e|e:=c<;>subst e<;>first|exact OK.br.2.2|exact OK.br.1|exact OK.br.2.1),ec]
  .rw[od.same q (OK.bq q hq).2.2.2,ec];exact bv5 q hq
 refine(Bd.Si hd (DI (K.y6a E (Y4 P kv pa n CY D (c0::cs)) f j o r))).then λu we sle te _ ⟨he,Be,eed⟩=>?_
 have KSe:b.KS we:=(NQ (s:=b) (Z:=λ_=>True) (λ_ _=>trivial)).keep wd we (λx _=>by rw[eed]) KSd;obtain⟨qe,Te,hZe,Le,Pe,Se⟩:=Be;have JQ:0<u.size:=(y_.1 he).1;have EV:Env (λx=>Z x\/b.own x) (λl=>Ac l\/Lj b.r b.pre l) b u.size:=⟨λ_ h=>.inr h,Y,λ_ h=>.inr h,J,OK,by omega⟩;obtain⟨fK,hTK,hgK,hcK⟩:=sV (s:=b) K (K.bp8 kv pa n CY D E (c0::cs) f j o r O Q) (K.bp7 kv pa n CY D E (c0::cs) f j o r O Q) (K.bp6 kv pa n CY D E (c0::cs) f j o r O Q);have R:=Oe (s:=b);have hw:RW P true b.KW b.Still 58 (BL (BG (y6 P E (Y4 P kv pa n CY D (c0::cs)) f j o r) undef)) (BL (y10 P kv pa n CY D E (c0::cs) f j o r O Q)):=
  ((((((RW.AB (K.y7a _ _ _ _ _ _)).trans (RW.at (K.y7b _ _ _ _ _ _) R.c5 R.s5)).trans (RW.AB (K.y8a _ _ _ _ _ _ _ _ _ _ _))).trans (RW.at (K.y8b _ _ _ _ _ _ _ _ _ _ _ O) R.r0 R.t0)).trans (RW.AB (K.y9a _ _ _ _ _ _ _ _ _ _ _ _))).trans (RW.at (K.y9b _ _ _ _ _ _ _ _ _ _ _ _ Q) R.r2 R.t2)).trans (RW.AB (K.bp9 _ _ _ _ _ _ _ _ _ _ _ _ _));have PO:=RW.seat (k:=0) (home:=(·=gK P b fK (c0::cs))) (cases:=Ou b.q0 b.q2) (shape:=.select) (Lp _) ⟨_,#[],hgK,Lp _,by simp,λw _=>IC hcK w⟩ hw;obtain⟨N1,gsf,df,slf,tf,qf,hrf,hzf,hcf,Df⟩:=aa1 (K:=b.KW) (K1:=b.KS) (TT:=JS u.size b.r b.pre) (sl:=sle) (NQ (s:=b) EV.Ku) (λl hl=>by obtain e|e|e|e|e|e|e:=hl<;>subst e<;>rfl) J he (Lp _) Le Pe Se (λd=>oV (K.y6b E _ f j o r) (we.at d)) (by simp) KSe
  (λt' hp i a ha F hk=>by
   have hmem:a.loc.isMemory=true:=by obtain e|e:=F<;>rw[e]<;>rfl
   obtain h|⟨_,h,_⟩|⟨_,h,_⟩:=hp.known i a ha hmem
   .exact h
   .exact(UK F h).elim
   .rw[hk]at h;cases h.1) (tY KSe) (Lp _) PO
 have Hf:Holds Od P (λx=>Z x\/b.own x) (λl=>Ac l\/Lj b.r b.pre l) b.Still (IG u.size) (λg=>g=0) u.size 0 (ByK P b u.size (gK P b fK (c0::cs))) (λg v=>g=BL (ch0 P o f j)/\S.I 0 CY v) gsf (we.at df) tf:=
  ⟨qf,_,B8,_,v9,hcf,⟨rfl,U.start v4 v9 hB4 hg9⟩,Te.off hZe (CB.at we df),hZe,Df⟩;obtain⟨fb,ay9⟩:=kE (main:=u.size==0) (A.child o f j r O q1 Q q3 (Sr pa) n) R;have step2:MS P gsf (we.at df) slf tf (su Od P (λl=>Ac l\/Lj b.r b.pre l) (λx=>Z x\/b.own x) S.Fin c0 cs):=
  (Hf.walk (sl:=slf) rW (λw a h hs=>Jg h hs) J (nD EV) ay9).then λgsg wg slg tg _ Hg=>
   (qg (s:=b) A W M EV S hn rfl n.toNat 0 CY fb fK gsg wg slg tg (by show(n-0).toNat<=n.toNat;omega) (Int.le_refl _) hn0 hTK Hg).leads
 obtain⟨N2,bw1,w2',sl2',t2',hr2,X⟩:=step2;obtain⟨Zf,T,X⟩:=X;exact⟨N1+N2,bw1,w2',sl2',t2',by rw[runNT_add,hrf];exact hr2,Zf,_,λ_ h=>T _ (.inl h),⟨λa h=>T _ (Y.1 a h),λx h=>T _ (Y.2 x h)⟩,X⟩
end
end Go.Fxa
namespace Go.Fxa
open Go.Conc Go.Proofs
theorem yf:ES prog where
 FH:=xy
 child:=λ_ _ _ _ _ _ _ _ _ _=>kC
 ans:=λ_ _ _ _ _ _=>yc
 done:=λr b a=>qA r b a
 add:=λr c Y=>yg r c Y
 wait:=λr c Y=>nU r c Y
 mixed:=by kernel_rfl
 blk:=xZ
 back:=λ_ _ _ _ _ _ _ _ _=>qU
end Go.Fxa
namespace Go.Fxa
open Go.Conc
end Go.Fxa
namespace Go
open Go.Fxa Go.Conc
def Sem.JU (P:l_) {α:Type}:Sem α->Prop
 |.pure _=>True
 |.load _ _ k=>∀x,(k x).JU P
 |.store _ _ _ k=>k.JU P
 |.new o k=>o.plain=true/\∀r,(k r).JU P
 |.shape _ k=>∀s,(k s).JU P
 |.freeze _ _ k=>k.JU P
 |.frozen _ k=>∀b,(k b).JU P
 |.getObj _ k=>∀o,(k o).JU P
 |.setObj _ o k=>o.plain=true/\k.JU P
 |.choose _ k=>∀n,(k n).JU P
 |.sys _ k=>∀r,(k r).JU P
 |.program k=>(k P).JU P
 |.mark _ k=>k.JU P
 |.halt h=>h.Kv=true
end Go
namespace Go.Fxa
open Go.Conc
theorem MH {P:l_} {α β:Type} {e:Sem α} {f:α->Sem β} (h:e.JU P) (hf:∀a,(f a).EL P):(e>>= f).EL P:=by
 show(e.bind f).EL P
 induction e with
 |pure a=>exact hf a
 |load m a k b=>exact λx=>b x (h x)
 |store m a v k b=>exact b h
 |new o k b=>exact⟨h.1,λx=>b x (h.2 x)⟩
 |shape r k b=>exact λx=>b x (h x)
 |freeze a n k b=>exact b h
 |frozen a k b=>exact λx=>b x (h x)
 |getObj r k b=>exact λx=>b x (h x)
 |setObj r o k b=>exact⟨h.1,b h.2⟩
 |choose q k b=>exact λx=>b x (h x)
 |sys c k b=>exact λx=>b x (h x)
 |program k b=>exact b P h
 |mark m k b=>exact b h
 |halt d=>exact h
theorem QS {P:l_} {α β:Type} {e:Sem α} {f:α->Sem β} (h:e.JU P) (hf:∀a,(f a).JU P):(e>>= f).JU P:=by
 show(e.bind f).JU P
 induction e with
 |pure a=>exact hf a
 |load m a k b=>exact λx=>b x (h x)
 |store m a v k b=>exact b h
 |new o k b=>exact⟨h.1,λx=>b x (h.2 x)⟩
 |shape r k b=>exact λx=>b x (h x)
 |freeze a n k b=>exact b h
 |frozen a k b=>exact λx=>b x (h x)
 |getObj r k b=>exact λx=>b x (h x)
 |setObj r o k b=>exact⟨h.1,b h.2⟩
 |choose q k b=>exact λx=>b x (h x)
 |sys c k b=>exact λx=>b x (h x)
 |program k b=>exact b P h
 |mark m k b=>exact b h
 |halt d=>exact h
section
variable {P:l_}
theorem VB {t:j_}:(underlying t).JU P:=by
 show Sem.JU P (Sem.program _);show Sem.JU P (match P.underlying t with|some d=>_|none=>_);cases P.underlying t<;>first|trivial|rfl
theorem jY {t:j_}:(elemOf t).JU P:=by
 refine QS VB λd=>?_
 cases d<;>first|trivial|rfl
theorem Ul {e:RuntimeError} {α:Type}:(runtimePanic e:Sem α).EL P:=by
 refine MH (e:=program) trivial λp=>?_
 cases e<;>first
  |exact PD
  |exact MH jY λ_=>MH (e:=newVar _ _) ⟨rfl,λ_=>trivial⟩ λ_=>PD
theorem F6 {t:j_} {α:Type} {f:TypeDesc->Sem α} {K:α->Prop} (h:∀d,P.underlying t=some d->(f d).Aq P K):(underlying t>>= f).Aq P K:=Ec AA h
theorem oK {e:j_} {h:Bool} {old:n_}:(Instr.alloc e h old).Aq P λ_=>True:=by
 unfold Instr.alloc;refine Aa ET λz=>?_
 split
 .exact Aa Q8 λ_=>Ad trivial
 .exact Aa Qe λ_=>Ad trivial
theorem ϓ {e:j_} {v:n_}:(Instr.box e v).Aq P λ_=>True:=Aa Qe λ_=>Ad trivial
theorem DL {t:j_}:(sizeOf t).Aq P λ_=>True:=AZ NV
theorem Eb {t:j_}:(typeInfo t).Aq P λ_=>True:=AZ Io
theorem Ua {n:Nat}:(askRoom n).Aq P λ_=>True:=by
 unfold askRoom;exact AL (λ_=>.inl ⟨rfl,trivial⟩) λ_=>Ad trivial
theorem oG {t:j_} {ps:Array (Nat×n_)}:(Instr.build t ps).Aq P λ_=>True:=by
 unfold Instr.build;refine Aa ET λz=>Aa (AZ AA) λd=>?_
 split
 .refine Aa (Xg (λf=>Aa DL λ_=>Ad trivial) _) λa=>?_
  split
  .exact Ad trivial
  .exact Ai
 .refine Aa DL λn=>?_
  split
  .exact Ad trivial
  .exact Ai
 .exact Ai
theorem Vz {t:j_} {n:Nat} {ps:Array (Nat×n_)}:(Instr.buildSlice t n ps).Aq P λ_=>True:=by
 unfold Instr.buildSlice;refine Aa (AZ AA) λd=>?_
 split
 .refine Aa DL λsize=>?_
  extract_lets jp jp2
  have b:∀z,(jp z).Aq P λ_=>True:=λz=>by
   simp only[jp]
   split
   .exact Aa J6 λ_=>Ad trivial
   .exact Ai
  have a:∀z,(jp2 z).Aq P λ_=>True:=λz=>by
   simp only[jp2]
   exact AL (λ_=>Aa (Ad trivial) λ_=>b _) λ_=>Aa ET λ_=>Aa (Ad trivial) λ_=>b _
  exact AL (λ_=>rfl) λ_=>a ()
 .exact Ai
theorem XN {t:j_} {l c:n_}:(Instr.makeSlice t l c).Aq P λ_=>True:=by
 unfold Instr.makeSlice;refine Aa (AZ AA) λd=>?_
 split
 .refine Aa Nh λa=>Aa Nh λb=>Aa Eb λi=>?_
  extract_lets bytes tooLarge l' c' jp
  have e:∀z,(jp z).Aq P λ_=>True:=λz=>by
   simp only[jp]
   refine Aa Ua λ_=>Aa DL λk=>?_
   exact AL (λ_=>Aa (Ad trivial) λ_=>Aa J6 λ_=>Ad trivial) λ_=>Aa ET λ_=>Aa (Ad trivial) λ_=>Aa J6 λ_=>Ad trivial
  refine AL (λ_=>AL (λ_=>Aa A8 λu=>e u) λ_=>AL (λ_=>Aa A8 λu=>e u) λ_=>Aa Fj λ_=>Aa A8 λu=>e u) λ_=>e ()
 .exact Ai
theorem Fb {x:n_} {y:Nat} {c:BoundsCode}:(Instr.sliceBound x y c).Aq P λ_=>True:=by
 unfold Instr.sliceBound;refine Aa (AZ LC) λa=>?_
 exact AL (λ_=>Ad trivial) λ_=>F8
theorem Ym {f:Fn} {a b:X_}:(Instr.makeFunc f a b).Aq P λ_=>True:=Ad trivial
theorem RZ {t:j_} {x:n_}:(Instr.makeInterface t x).Aq P λ_=>True:=by
 unfold Instr.makeInterface;refine Aa (AZ AA) λd=>?_
 split
 .exact Ai
 .exact Ad trivial
theorem aP {x:n_} {i:Nat}:(Instr.extract x i).Aq P λ_=>True:=by
 unfold Instr.extract;split
 .split
  .exact Ad trivial
  .exact Ai
 .exact Ai
theorem oz {t:j_} {x:n_} {i:Nat}:(Instr.field t x i).Aq P λ_=>True:=by
 unfold Instr.field;refine Aa (AZ AA) λd=>?_
 split
 .split
  .exact Aa oJ λ_=>IJ
  .exact Ai
 .exact Ai
theorem ou {t:j_} {x i:n_}:(Instr.index t x i).Aq P λ_=>True:=by
 unfold Instr.index;refine Aa (AZ LC) λa=>Aa (AZ AA) λd=>?_
 split
 .exact AL (λ_=>Aa DL λ_=>IJ) λ_=>F8
 .split
  .exact Ad trivial
  .exact F8
 .exact Ai
theorem ja {a:f_} {c b:Nat}:(partAt a c b).Aq P λ_=>True:=Aa Qi λ_=>Aa Qi λ_=>Ad trivial
theorem KL {a:f_} {f:Field}:(fieldPlace a f).Aq P λ_=>True:=by
 unfold fieldPlace;exact Aa DL λ_=>AL (λ_=>ja) λ_=>Ad trivial
theorem aO {t:j_} {x:n_} {i:Nat}:(Instr.fieldAt t x i).Aq P λ_=>True:=by
 unfold Instr.fieldAt;refine Aa (AZ AA) λd=>?_
 split
 .split
  .exact Aa Ip λ_=>Aa KL λ_=>Ad trivial
  .exact Ai
 .exact Ai
theorem jc {t:j_} {x:n_}:(Instr.loadAt t x).Aq P λ_=>True:=Aa Ip λ_=>Ht
theorem aI {t:j_} {x y:n_}:(Instr.storeAt t x y).Aq P λ_=>True:=Aa Ip λ_=>Q8
theorem oq {x:n_}:(Instr.panic x).Aq P λ_=>True:=by
 unfold Instr.panic;split
 .exact Pn
 .have a:(Instr.panicnil).JU P:=by
   unfold Instr.panicnil
   refine λr=>?_
   cases r<;>first|exact rfl|exact trivial
  exact Sem.EL.bZ (MH a λn=>by split<;>first|exact PD|exact Ul)
 .exact Ai
theorem F7 {b:Bool} {l c:Nat} {x y z:d_ n_}:(Instr.sliceBounds b l c x y z).Aq P λ_=>True:=by
 unfold Instr.sliceBounds
 extract_lets j1
 have a:∀k,(j1 k).Aq P λ_=>True:=λk=>by
  cases y<;>cases z<;>cases x<;>simp only[j1]<;>first
   |exact Aa Fb λ_=>Aa Fb λ_=>Ad trivial
   |exact Aa Fb λ_=>Aa (Ad trivial) λ_=>Ad trivial
   |exact Aa (Ad trivial) λ_=>Aa Fb λ_=>Ad trivial
   |exact Aa (Ad trivial) λ_=>Aa (Ad trivial) λ_=>Ad trivial
   |exact Aa Ai λ_=>Aa Fb λ_=>Ad trivial
   |exact Aa Ai λ_=>Aa (Ad trivial) λ_=>Ad trivial
 clear_value j1
 split
 .exact Aa Fb λ_=>a _
 .exact Aa (Ad trivial) λ_=>a _
theorem oh {t:j_} {x:n_} {a b c:d_ n_}:(Instr.slice t x a b c).Aq P λ_=>True:=by
 unfold Instr.slice;refine Aa (AZ AA) λd=>?_
 split
 .exact AL (λ_=>Aa Ai λ_=>Aa F7 λ_=>Ad trivial) λ_=>Aa F7 λ_=>Ad trivial
 .exact Aa F7 λ_=>Aa DL λ_=>Ad trivial
 .refine Aa J8 λ_=>Aa (AZ AA) λd=>?_
  split
  .exact Aa F7 λ_=>Aa DL λ_=>Ad trivial
  .exact Ai
 .exact Ai
theorem aJ {t:j_} {x:n_} {a b c:d_ n_}:(Instr.sliceAt t x a b c).Aq P λ_=>True:=by
 unfold Instr.sliceAt;refine Aa (AZ AA) λd=>?_
 split
 .exact Aa Ip λ_=>Aa F7 λ_=>Aa DL λ_=>Ad trivial
 .exact oh
theorem aN {t:j_} {x i:n_}:(Instr.indexAt t x i).Aq P λ_=>True:=by
 unfold Instr.indexAt;refine Aa (AZ LC) λe=>Aa (AZ AA) λd=>?_
 extract_lets jp
 have b:∀z,(jp z).Aq P λ_=>True:=λ⟨base,len,elem⟩=>by
  simp only[jp]
  refine Aa (AZ AA) λc=>?_
  cases base with
  |none=>exact F8
  |some a=>exact AL (λ_=>Aa DL λ_=>Ad trivial) λ_=>AL (λ_=>rfl) λ_=>F8
 clear_value jp
 split
 .exact Aa Ip λ_=>Aa (Ad trivial) λ_=>b _
 .exact Aa (Ad trivial) λ_=>b _
 .exact Aa Ai λ_=>b _
theorem ϑ {ts:Array j_} {t:j_} {a:X_}:(Builtin.len_ ts t a).Aq P λ_=>True:=by
 unfold Builtin.len_;split
 .refine Aa (AZ AA) λd=>?_
  split
  .exact Ad trivial
  .exact Ad trivial
  .refine Aa (AZ AA) λd=>?_
   split
   .exact Ad trivial
   .exact Ai
  .exact Ad trivial
  .exact Ad trivial
  .exact Ad trivial
  .refine⟨λo _=>?_,IB⟩;cases o<;>first|exact Ai|exact Ad trivial
  .refine⟨λo _=>?_,IB⟩;cases o<;>first|exact Ai|exact Ad trivial
  .exact Ai
 .exact Ai
theorem ϒ {ts:Array j_} {t:j_} {a:X_}:(Builtin.cap_ ts t a).Aq P λ_=>True:=by
 unfold Builtin.cap_;split
 .refine Aa (AZ AA) λd=>?_
  split
  .exact Ad trivial
  .refine Aa (AZ AA) λd=>?_
   split
   .exact Ad trivial
   .exact Ai
  .exact Ad trivial
  .exact Ad trivial
  .refine⟨λo _=>?_,IB⟩;cases o<;>first|exact Ai|exact Ad trivial
  .exact Ai
 .exact Ai
theorem Xh {x:n_}:(Builtin.lenOf x).Aq P λ_=>True:=by
 unfold Builtin.lenOf;split<;>first|exact Ad trivial|exact Ai
theorem KI {a b:Nat} {x:n_}:(Builtin.firstCells a b x).Aq P λ_=>True:=by
 unfold Builtin.firstCells;split<;>first|exact Qp|exact Ad trivial|exact Ai
theorem vX {ts:Array j_} {t:j_} {a:X_}:(Builtin.copy_ ts t a).Aq P λ_=>True:=by
 unfold Builtin.copy_;split
 .refine Aa (AZ AA) λd=>?_
  split
  .split
   .refine Aa Xh λ_=>Aa DL λ_=>Aa KI λ_=>?_
    split
    .exact Aa Fa λ_=>Ad trivial
    .exact Ad trivial
   .exact Ai
  .exact Ai
 .exact Ai
theorem oD {ts:Array j_} {t:j_} {a:X_}:(Builtin.clear_ ts t a).Aq P λ_=>True:=by
 unfold Builtin.clear_;split
 .refine Aa (AZ AA) λd=>?_
  extract_lets jp
  have b:∀z,(jp z).Aq P λ_=>True:=λz=>Ad trivial
  clear_value jp
  split
  .exact b ()
  .exact b ()
  .exact b ()
  .refine⟨λo c=>?_,show EK P _ (stuck "clear: map expected">>= jp)from Zd IB⟩;cases o<;>first|(cases c;done)|exact(show Sem.Aq P (λ_=>True) (stuck "clear: map expected">>= jp)from Aa Ai λu=>b u)
  .exact Aa ET λ_=>Aa Fa λu=>b u
  .exact Aa Ai λu=>b u
 .exact Ai
theorem PK {a:f_} {n:Nat}:(Builtin.holdsCells a n).JU P:=by
 refine λs=>?_
 cases s<;>trivial
theorem jX {a:f_}:(frozen a).JU P:=λ_=>trivial
theorem YB {a b c:Nat} {base:d_ f_} {x:n_}:(Builtin.mayShare a b c base x).JU P:=by
 unfold Builtin.mayShare
 extract_lets jp
 have d:∀z,(jp z).JU P:=λz=>by
  simp only[jp]
  split
  .trivial
  .split
   .exact QS PK λ_=>trivial
   .trivial
 clear_value jp
 split
 .exact d _
 .exact QS PK λ_=>QS jX λ_=>d _
theorem jf {ts:Array j_} {t:j_} {a:X_}:(Builtin.append_ ts t a).Aq P λ_=>True:=by
 unfold Builtin.append_;split
 .refine Aa (AZ AA) λd=>?_
  split
  .split
   .refine Aa DL λsize=>?_
    extract_lets ju jp1
    have m:∀u,(ju u).EL P:=λu=>rfl
    clear_value ju
    have c:∀z,(jp1 z).Aq P λ_=>True:=λo=>by
     dsimp -zeta only[jp1]
     extract_lets jp2
     have f:∀n,(jp2 n).Aq P λ_=>True:=λn=>by
      dsimp -zeta only[jp2]
      extract_lets appended need jA j4 j3
      have q:appended.Aq P λ_=>True:=by
       simp only[appended]
       exact AL (λ_=>KI) λ_=>AL (λ_=>Ad trivial) λ_=>Aa ET λ_=>Ad trivial
      have p:∀u,(jA u).Aq P λ_=>True:=λu=>Ad trivial
      have h:∀u,(j4 u).Aq P λ_=>True:=λu=>
       Aa Fj λ_=>Aa Eb λ_=>Aa Ua λ_=>Aa KI λ_=>Aa q λ_=>Aa ET λ_=>Aa J6 λ_=>Ad trivial
      clear_value j4
      have g:∀u,(j3 u).Aq P λ_=>True:=λu=>by
       refine Aa Eb λi=>?_
       refine AL (λ_=>Aa (AL (λ_=>A8) λ_=>Sem.EL.bZ (MH YB λb=>?_)) λu=>h u) λ_=>h ()
       split
       .exact MH (e:=mark .noRoom) trivial λu=>m u
       .exact m ()
      clear_value appended jA j3
      refine AL (λ_=>Aa q λnew=>?_) λ_=>Aa Eb λi=>AL (λ_=>Aa A8 λu=>g u) λ_=>g ()
      split
      .exact Aa Fa λu=>p u
      .exact p ()
     clear_value jp2
     refine AL (λ_=>Aa Nh λa=>?_) λ_=>Aa Xh λn=>f n
     extract_lets l jp6 jp5
     have k:∀u,(jp6 u).Aq P λ_=>True:=λu=>Aa (Ad trivial) λn=>f n
     clear_value jp6
     have j:∀u,(jp5 u).Aq P λ_=>True:=λu=>by
      dsimp -zeta only[jp5]
      refine Aa Eb λi=>?_
      exact AL (λ_=>Aa Fj λ_=>Aa A8 λu=>k u) λ_=>k ()
     clear_value jp5
     exact AL (λ_=>Aa A8 λu=>j u) λ_=>j ()
    clear_value jp1
    split
    .exact Aa (AZ AA) λ_=>Aa (Ad trivial) λz=>c z
    .exact Aa (Ad trivial) λz=>c z
   .exact Ai
  .exact Ai
 .exact Ai
end
def Oi (P:l_):Nat->j_->Bool
 |0,_=>false
 |d+1,t=>match P.underlying t with
  |some (.int _)=>match P.info? t with
   |some i=>match i.desc with
    |.named n _=>n != "sync.copyChecker"
    |_=>true
   |none=>true
  |some .bool=>true
  |some .string=>true
  |some (.struct fs)=>fs.all λf=>Oi P d f.type
  |_=>false
section
variable {P:l_}
theorem Xj {α β:Type} {f:α->β->Sem (ForInStep β)}:∀{l:List α} {b:β},(∀a∈l,∀b,(f a b).Aq P λ_=>True)->(forIn l b f).Aq P λ_=>True
 |[],b,_=>Ad trivial
 |a::l,b,h=>by
  rw[List.forIn_cons]
  refine Aa (h a (List.mem_cons_self ..) b) λs=>?_
  cases s with
  |done c=>exact Ad trivial
  |yield c=>exact Xj λa d b=>h a (List.mem_cons_of_mem _ d) b
theorem Vd {α β:Type} {f:α->β->Sem (ForInStep β)} {l:Array α} {b:β} (h:∀a∈l,∀b,(f a b).Aq P λ_=>True):(forIn l b f).Aq P λ_=>True:=by
 rw[<-Array.forIn_toList];exact Xj λa c b=>h a (Array.mem_toList_iff.1 c) b
theorem Vo {d:Nat} {t:j_} {fs:Array Field} (h:Oi P (d+1) t=true) (e:P.underlying t=some (.struct fs)):∀f∈fs,Oi P d f.type=true:=by
 simp only[Oi,e]at h;intro f a;exact Array.all_eq_true'.1 h f a
theorem TZ (hG:P.globals.size=0):∀(k d:Nat) (t:j_) (x y:n_),Oi P k t=true->(Op.equalIn d t x y).Aq P λ_=>True
 |0,d,t,x,y,h=>by cases h
 |k+1,0,t,x,y,h=>rfl
 |k+1,d+1,t,x,y,h=>by
  unfold Op.equalIn
  refine F6 λa c=>?_
  cases a with
  |bool=>split<;>first|contradiction|exact Ad trivial|exact Ai
  |string=>split<;>first|contradiction|exact Ad trivial|exact Ai
  |int w=>
   split<;>first
    |contradiction
    |exact Ad trivial
    |exact Ai
    |exact rfl
    |exact AL (λ_=>Ad trivial) λ_=>Ai
    |skip
   refine C9 (λz=>C9 (λp=>AZ (K:=λ_=>False) ?_) (DT ?_)) (Hw λp=>DT ?_)
   all_goals
    refine Ec Dw λq n=>?_
    subst n
    rw[if_neg (by simp[hG])]
    refine Ec Io λi m=>?_
    simp only[Oi,c,m]at h
    split
    .rename_i e;rw[e]at h;simp at h
    .rfl
  |struct v=>
   have g:=Vo h c
   split<;>first
    |contradiction
    |exact Ai
    |skip
   rename_i e
   injection e with e
   subst e
   refine Aa (AZ Dw) λq=>?_
   extract_lets jp
   have j:∀u,(jp u).Aq P λ_=>True:=λu=>by
    refine Aa (Vd λf l b=>AL (λ_=>Aa IJ λ_=>Aa IJ λ_=>Aa (TZ hG k d f.type _ _ (g f l)) λr=>AL (λ_=>Ad trivial) λ_=>Ad trivial) λ_=>Ad trivial) λs=>?_
    obtain⟨o,_⟩:=s
    cases o<;>exact Ad trivial
   exact AL (λ_=>Aa (EN (by simp)) λu=>j u) λ_=>j ()
  |_=>(simp only[Oi,c]at h;cases h)
theorem Np:∀(k d:Nat) (t:j_) (x y:n_),Oi P k t=true->(Op.eqGuardIn d t x y).Aq P λ_=>True
 |0,d,t,x,y,h=>by cases h
 |k+1,0,t,x,y,h=>rfl
 |k+1,d+1,t,x,y,h=>by
  unfold Op.eqGuardIn
  refine F6 λa g=>?_
  cases a with
  |struct l=>
   have c:=Vo h g
   split<;>first
    |contradiction
    |exact Ad trivial
    |skip
   rename_i e
   injection e with e
   subst e
   refine Aa (Vd λf i b=>AL (λ_=>Aa IJ λ_=>Aa IJ λ_=>Aa (Np k d f.type _ _ (c f i)) λr=>AL (λ_=>Ad trivial) λ_=>Ad trivial) λ_=>Ad trivial) λs=>?_
   obtain⟨j,_⟩:=s
   cases j<;>exact Ad trivial
  |bool=>split<;>first|contradiction|exact Ad trivial
  |string=>split<;>first|contradiction|exact Ad trivial
  |int m=>split<;>first|contradiction|exact Ad trivial
  |_=>(simp only[Oi,g]at h;cases h)
def rM:Operand->Bool
 |.const (.pointer none)=>true
 |.const (.slice none _ _)=>true
 |.const .nilFunc=>true
 |_=>false
def Ws:n_->Bool
 |.pointer none=>true
 |.slice none _ _=>true
 |.nilFunc=>true
 |_=>false
def zH (P:l_) (t:j_):Bool:=match P.underlying t with
 |some (.pointer _)=>true
 |some (.slice _)=>true
 |some (.func _ _ _)=>true
 |_=>false
theorem Yo {t:j_} {x y:n_} {d:Nat} (h:zH P t=true) (hn:Ws x=true\/Ws y=true):(Op.equalIn (d+1) t x y).Aq P λ_=>True:=by
 unfold Op.equalIn;refine F6 λf g=>?_
 cases f with
 |pointer e=>
  split<;>first
   |contradiction
   |exact Ad trivial
   |exact Ai
   |(exfalso;obtain hn|hn:=hn<;>cases hn;done)
 |slice e=>split<;>first|contradiction|exact Ad trivial|exact Ai
 |func a b c=>split<;>first|contradiction|exact Ad trivial|exact Ai
 |_=>(simp only[zH,g]at h;cases h)
theorem TG {x:Operand} (h:rM x=true) (fr:Frame):Ws (fr.eval x)=true:=by
 unfold rM at h;split at h<;>first|rfl|cases h
def PW (P:l_) (t:j_) (x y:Operand):Bool:=Oi P 5 t || (zH P t && (rM x || rM y))
theorem oC (hG:P.globals.size=0) {t:j_} {x y:Operand} {fr:Frame} (h:PW P t x y=true):(Op.equal t (fr.eval x) (fr.eval y)).Aq P λ_=>True:=by
 unfold PW at h;simp only[Bool.or_eq_true,Bool.and_eq_true]at h;obtain h|⟨a,b⟩:=h
 .exact TZ hG 5 _ _ _ _ h
 .exact Yo (d:=9999) a (b.imp (λh=>TG h fr) λh=>TG h fr)
theorem oI (hG:P.globals.size=0) {op:BinOp} (ho:op=.eql\/op=.neq) {t:j_} {x y:Operand} {fr:Frame} (h:PW P t x y=true):(binOp op t (fr.eval x) (fr.eval y)).Aq P λ_=>True:=by
 have c:=oC hG (fr:=fr) h;generalize fr.eval x=a at c ⊢;generalize fr.eval y=b at c ⊢;obtain rfl|rfl:=ho
 .unfold binOp;split<;>first
   |contradiction
   |exact Aa c λ_=>Ad trivial
   |exact AL (λ_=>rfl) λ_=>Qg
   |exact AL (λ_=>rfl) λ_=>JI
   |exact AL (λ_=>rfl) λ_=>Nq
   |exact Iq
 .unfold binOp;split<;>first
   |contradiction
   |exact Aa c λ_=>Ad trivial
   |exact AL (λ_=>rfl) λ_=>Qg
   |exact AL (λ_=>rfl) λ_=>JI
   |exact AL (λ_=>rfl) λ_=>Nq
   |exact Iq
end
section
variable {P:l_}
theorem aQ {op:BinOp} {t:j_} {x y:Operand} {fr:Frame} (h:(op=.eql\/op=.neq)->PW P t x y=true):(eqGuard op t x y (fr.eval x) (fr.eval y)).Aq P λ_=>True:=by
 unfold eqGuard;by_cases g:op=.eql\/op=.neq
 .have d:=h g;unfold PW at d;simp only[Bool.or_eq_true,Bool.and_eq_true]at d;have e:(!(match op with | .eql=>true | .neq=>true|_=>false))=false:=by obtain rfl|rfl:=g<;>rfl
  refine AL (λ_=>Ad trivial) λ_=>?_
  obtain d | ⟨_,f⟩:=d
  .split
   .exact AL (λ_=>Ad trivial) λ_=>Aa (Np 5 _ _ _ _ d) λ_=>AL (λ_=>EN (by simp)) λ_=>Ad trivial
   .exact Aa (AZ Dw) λ_=>Aa (AZ Dw) λ_=>AL (λ_=>Ad trivial) λ_=>Aa (Np 5 _ _ _ _ d) λ_=>AL (λ_=>EN (by simp)) λ_=>Ad trivial
   .exact Ad trivial
  .have c:Ws (fr.eval x)=true\/Ws (fr.eval y)=true:=f.imp (λh=>TG h fr) λh=>TG h fr
   generalize fr.eval x=a at c ⊢;generalize fr.eval y=b at c ⊢;split
   .obtain c|c:=c<;>cases c
   .obtain c|c:=c<;>cases c
   .exact Ad trivial
 .refine AL (λ_=>Ad trivial) λf=>?_
  exfalso;apply g;cases op<;>first|exact .inl rfl|exact .inr rfl|(simp at f;done)
def dX (P:l_) (t:j_):Bool:=match P.underlying t with
 |some (.int _)=>true
 |_=>false
theorem Vy {s:FloatKind} {b:Nat} {k:IntKind}:(Conv.floatToInt s b k).Aq P λ_=>True:=by
 unfold Conv.floatToInt;split
 .exact AL (λ_=>Ad trivial) λ_=>Aa Fj λ_=>Ad trivial
 .exact Aa Fj λ_=>Ad trivial
theorem aT {a b:j_} (ha:dX P a=true) (hb:dX P b=true) {x:n_}:(convert a b x).Aq P λ_=>True:=by
 unfold convert;refine F6 λd f=>F6 λe c=>?_
 unfold dX at ha hb;rw[f]at ha;rw[c]at hb;cases d<;>first|(cases ha;done)|skip
 cases e<;>first|(cases hb;done)|skip
 split<;>first
  |contradiction
  |exact Ad trivial
  |exact Vy
  |exact rfl
theorem Hy:∀(l:List FieldStep) (t:j_) (x:d_ n_),(followBlind l t x).Aq P λ_=>True
 |[],_,_=>Ad trivial
 |s::l,t,x=>by
  unfold followBlind
  refine Aa (AZ AA) λd=>?_
  split
  .split
   .split
    .exact Ad trivial
    .exact Hy l _ _
    .exact Ai
    .exact Ad trivial
    .exact Aa IJ λ_=>Hy l _ _
    .exact Ai
    .exact Hy l _ _
   .exact Ai
  .exact Ai
theorem Q9:∀(n:Nat) (t:j_) (v:n_) (s:String),(nilAhead n t v s).Aq P λ_=>True
 |0,_,_,_=>Ad trivial
 |n+1,t,v,s=>by
  unfold nilAhead
  refine Aa Eb λi=>?_
  split
  .refine Aa (Hy _ _ _) λr=>?_
   split
   .exact Ad trivial
   .split
    .exact Q9 n _ _ _
    .exact Ad trivial
    .exact Ai
    .exact Ad trivial
    .exact Ad trivial
    .refine Aa (AZ AA) λd=>?_
     split<;>exact Ad trivial
  .exact Ai
theorem J7:∀(l:List FieldStep) (t:j_) (x:Place),(follow l t x).Aq P λ_=>True
 |[],_,_=>Ad trivial
 |s::l,t,x=>by
  unfold follow
  refine Aa (AZ AA) λd=>?_
  have b:∀(t:j_) (x:Place),(x.get t).Aq P λ_=>True:=λt x=>by
   cases x with
   |val v=>exact Ad trivial
   |var a=>exact Ht
  split
  .split
   .refine AL (λ_=>Aa (b _ _) λ_=>Aa J8 λ_=>Aa KL λ_=>J7 l _ _) λ_=>?_
    split
    .exact Aa KL λ_=>J7 l _ _
    .exact Aa IJ λ_=>J7 l _ _
    .exact Ai
   .exact Ai
  .exact Ai
theorem TA {t:j_} {x:Place}:(x.get t).Aq P λ_=>True:=by
 cases x with
 |val v=>exact Ad trivial
 |var a=>exact Ht
theorem aH {t:j_} {x a b:n_}:(Builtin.ssaWrapNilChk_ #[t] t #[x,a,b]).Aq P λ_=>True:=by
 cases a<;>first|exact rfl|skip
 cases b<;>first|exact rfl|skip
 cases x<;>first|exact rfl|skip
 rename_i o;cases o with
 |some a=>exact trivial
 |none=>
  refine Aa (e:=choose _) Fj λc=>?_
  extract_lets jp
  have f:∀u,(jp u).Aq P λ_=>True:=λu=>by
   dsimp -zeta only[jp]
   split
   .refine Aa (AZ AA) λd=>?_
    split
    .refine Aa Eb λi=>?_
     split
     .split
      .extract_lets base targs
       split
       .exact A8
       .exact rfl
      .exact Ai
     .exact Ai
    .exact Ai
   .exact Ai
  exact AL (λ_=>Aa A8 λu=>f u) λ_=>f ()
theorem PH {t:j_} {x:Place} {b:Bool} {o:d_ String}:(receiverAt t x b o).Aq P λ_=>True:=by
 unfold receiverAt;refine Aa (AZ AA) λd=>?_
 split
 .exact TA
 .refine Aa TA λq=>?_
  split
  .exact Aa aH λ_=>Aa J8 λ_=>Ht
  .exact Aa (Ad trivial) λ_=>Aa J8 λ_=>Ht
 .exact Ad trivial
 .exact Ai
 .exact TA
theorem UW {t:j_} {v:n_} {p:Array FieldStep} {b:Bool}:(receiverVia t v p b).Aq P λ_=>True:=Aa (J7 _ _ _) λ_=>PH
theorem Vb:∀(n:Nat) (t:j_) (v:n_) (s:String),(method n t v s).Aq P λ_=>True
 |0,_,_,_=>rfl
 |n+1,t,v,s=>by
  unfold method
  refine Aa Eb λi=>?_
  split
  .refine Aa (J7 _ _ _) λr=>?_
   obtain⟨a,b⟩:=r;dsimp only;split
   .refine Aa TA λq=>?_
    split
    .exact Vb n _ _ _
    .exact A8
    .exact Ai
   .exact Aa PH λ_=>Ad trivial
  .exact Ai
/-! ### calls -/
def RJ (P:Program) (L:FuncId->Prop):Prop:=∀f,L f->∃fn,P.funcs[f]?=some fn/\fn.body.isNone=false/\(fn.name== "runtime.NumGoroutine")=false
variable {L:h_->Prop} {bb:Bool}
theorem Yp (hB:RJ P L) {f:h_} (hf:L f) {args:X_}:(callFunc f args).Aq P (EZ L bb):=by
 obtain⟨fn,a,b,c⟩:=hB f hf;unfold callFunc;refine Ec Dw λq d=>?_
 subst d;rw[a];simp only[b,c,Bool.false_eq_true,if_false];exact hf
theorem nY {l:Nat} {args:X_}:(Instr.yield l args).Aq P (EZ L bb):=by
 unfold Instr.yield Instr.getLoop;refine⟨λo b=>?_,λw d a e c _ _ h=>?_⟩
 .cases o<;>first|(cases b;done)|exact rfl
 .simp[Sem.bind,stuck,DK,Bind.bind]at h
theorem Vh {α:Type} {e:Sem α} {w w':o_} {es CG:Array Event} {a:α} (h:e.runT P w es=(.ok a w',CG)):e.run P w=.ok a w':=by
 have:=Sem.runT_eq P e w es;rw[this]at h;exact congrArg Prod.fst h
def J3 (recv:n_) (name:String):Sem (h_×n_):=match recv with
 |.iface t u=>program>>= λq=>method (q.types.size+Made.depth) t u name
 |.nilIface=>runtimePanic .nilDeref
 |_=>stuck "invoke: interface value expected"
theorem Rq (recv:n_) (name:String) (args:X_):callMethod recv name args=(J3 recv name>>= λx=>callFunc x.1 (#[x.2]++args)):=by
 cases recv<;>rfl
theorem Rf {recv:n_} {name:String}:(J3 recv name).Aq P λ_=>True:=by
 unfold J3;split
 .exact Aa (AZ Dw) λ_=>Vb _ _ _ _
 .exact A8
 .exact Ai
theorem Uc {recv:n_} {name:String} {v v1:o_} {x:h_×n_} (h:(J3 recv name).run P v=.ok x v1):∃t u,recv=.iface t u/\(method (P.types.size+Made.depth) t u name).run P v=.ok x v1:=by
 cases recv with
 |iface t u=>exact⟨t,u,rfl,h⟩
 |nilIface=>
  have:(runtimePanic .nilDeref:Sem (h_×n_)).run P v=.ok x v1:=h
  cases this
 |_=>cases (show(stuck "invoke: interface value expected":Sem (FuncId×Value)).run P v=.ok x v1 from h)
theorem JK (hB:RJ P L) {f:h_} (hf:L f\/Ext P f) {args:X_} (v:o_):Ig P (EZ L bb) (callFunc f args) v:=
 hf.elim (λh=>Sem.Aq.here (Yp hB h) v) λh=>aa7 h args v
theorem Vl (hB:RJ P L) {recv:n_} {name:String} {args:X_} {v:o_} (hab:∀t u f r w',recv=.iface t u->(method (P.types.size+Made.depth) t u name).run P v=.ok (f,r) w'->L f\/Ext P f):
  Ig P (EZ L bb) (callMethod recv name args) v:=by
 rw[Rq];refine RN (e1:=J3 recv name) (f:=λx=>callFunc x.1 (#[x.2]++args)) Rf λx v1 c b h=>?_
 obtain⟨t,u,e,a⟩:=Uc (Vh h);exact JK hB (hab t u x.1 x.2 v1 e a) v1
theorem xX (hB:RJ P L) {f:n_} {args:X_} {v:o_} (hab:∀d w',(Deferred.ofValue f args).run P v=.ok d w'->∀g,d.target.leads P w' d.args=some g->L g\/Ext P g):
  Ig P (EZ L bb) (Deferred.ofValue f args>>= λd=>invoke d.target d.args) v:=by
 cases f with
 |nilFunc=>exact Sem.Aq.here (show(invoke .nil args).Aq P (EZ L bb) by simp only[invoke];exact A8) v
 |func fn first cap=>
  have a:=hab ⟨.fn fn cap,first++args⟩ v rfl
  show Ig P (EZ L bb) (invoke (.fn fn cap) (first++args)) v
  simp only at a
  generalize first++args=b at a ⊢
  cases fn with
  |func g=>exact JK hB (a g rfl) v
  |via t c g ptr=>
   simp only[invoke]
   cases b[0]? with
   |none=>exact Sem.Aq.here Ai v
   |some x=>exact RN (e1:=receiverVia t x c ptr) (f:=λy=>callFunc g (#[y]++b.extract 1 b.size)) UW λ_ v1 _ _ _=>JK hB (a g rfl) v1
  |yield l=>exact Sem.Aq.here (show(Instr.yield l b).Aq P (EZ L bb)from nY) v
  |method name=>
   simp only[invoke]
   cases h0:b[0]? with
   |none=>exact Sem.Aq.here Ai v
   |some x=>
    refine Vl hB λt u f r w' e j=>a f ?_
    subst e
    simp only[Target.leads,h0,j]
  |methodOf t name=>
   simp only[invoke]
   cases h0:b[0]? with
   |none=>exact Sem.Aq.here Ai v
   |some x=>
    have e:(underlying t>>= λd=>callMethod (match d with | .interface _=>x|_=>.iface t x) name (b.extract 1 b.size))=((underlying t>>= λd=>J3 (match d with | .interface _=>x|_=>.iface t x) name)>>= λy=>callFunc y.1 (#[y.2]++b.extract 1 b.size)):=by
     rw[bind_assoc]
     congr 1
     funext d
     exact Rq _ _ _
    refine(congrArg (Ig P (EZ L bb) · v) e).mpr (RN (e1:=underlying t>>= λd=>J3 (match d with | .interface _=>x|_=>.iface t x) name) (f:=λy=>callFunc y.1 (#[y.2]++b.extract 1 b.size)) (Aa (AZ AA) λ_=>Rf) λy v1 o n h=>?_)
    have j:=Vh h
    have i:(match P.underlying t with
     |some d=>J3 (match d with | .interface _=>x|_=>.iface t x) name
     |none=>stuck "":Sem (FuncId×Value)).run P v=.ok y v1:=by
     cases hu:P.underlying t with
     |none=>simp[underlying,hu]at j
     |some d=>simpa [underlying,hu]using j
    cases hu:P.underlying t with
    |none=>rw[hu]at i;cases i
    |some d=>
     rw[hu]at i
     obtain⟨p,q,k,m⟩:=Uc i
     refine JK hB (a y.1 ?_) v1
     simp only[Target.leads,h0,hu,Option.map_some]
     cases d<;>(simp only at k ⊢;first
      |(injection k with e1 e2;subst e1 e2;simp only[m];done)
      |(subst k;simp only[m];done))
 |_=>exact Sem.Aq.here (xR (e:=(stuck _:Sem Deferred)) qC) v
end
end Go.Fxa
