/- goOn, from its call to its ret -/
import Derived.Test.YtmhplpfpcnjekaaGreatA14
open Go.Proofs.Tryz
namespace Go.Fxa
open Go.Conc
open Go.ConcN (sumTo upd sumTo_upd upd_ne upd_same)
structure oZ (P:Program) (N:Fence) (m:Nat):Prop where
 boxes:∀(sa:Addr) (n:Int) (v:World) (g:Y_),∀τ d,(S0 P).wpIn N m P (Ends fun tm w'=>∃g' b2 b3,tm=TN 18 (AR g' [(2,pr b2),(3,pr b3)])/\F5 v w'/\v.heap.size<=b2/\v.heap.size<=b3/\b2<w'.heap.size/\b3<w'.heap.size/\b2≠b3/\w'.cell? (S_ b2)=some (.pointer (some sa))/\w'.cell? (S_ b3)=some (.int .i64 n)) ⟨TN 18 (AR g [(0,.pointer (some sa)),(1,.int .i64 n)]),[]⟩ (v.re τ d)
 makes:∀(b2 b3:Nat) (v:World) (g:Y_),∀τ d,(S1 P).wpIn N m P (Ends fun tm w'=>∃g' b5 r q0 q1 q2 q3,tm=TN 18 (AR g' (jh b2 b3 b5))/\F5 v w'/\(∀x∈[b5,r,q0,q1,q2,q3],v.heap.size<=x)/\[b5,r,q0,q1,q2,q3].Nodup/\A7 r #[CK q0,CK q1,CK q2,CK q3] 257 w' 0 0/\w'.cell? (S_ b5)=some (pr r)/\∀q∈[q0,q1,q2,q3],w'.heap[q]?=some (.chan 0 #[] false 0 0 false)) ⟨TN 18 (AR g [(2,pr b2),(3,pr b3)]),[]⟩ (v.re τ d)
structure iO {P:Program} {N:Fence} {m:Nat} {kv:Value} {pa:Addr} {n:Int} (S:N7 P N m kv pa n) where
 B0:World->Prop
 B2:World->Prop
 B3:World->Prop
 t2:Cm B2
 t3:Cm B3
 bring:∀(v:World) (f:Y_),B0 v->∀τ d,(R2 P).wpIn N m P (Ends fun tm w'=>∃f',tm=TN 76 (AR f' (Zi kv pa n Cb))/\B2 w') ⟨TN 76 (AR f (Zi kv pa n Cb)),[]⟩ (v.re τ d)
 clear:∀(v:World) (f:Y_),B2 v->∀τ d,(R3 P).wpIn N m P (Ends fun tm w'=>∃f',tm=TN 76 (AR f' (Zi kv pa n Cb))/\B3 w') ⟨TN 76 (AR f (Zi kv pa n Cb)),[]⟩ (v.re τ d)
 start:∀v v',B3 v->F5 v v'->S.I 0 Cb v'
section
variable {P:Program} {L:FuncId->Prop} {p:FuncId->Oper->Bool} {N:Fence} {m:Nat} {host:FuncId} {Z:Nat->Prop} {Ac:Loc->Prop} {gs:Array Goroutine} {w:World} {sl:Option (W_)} {t:Trace}
theorem Beside.part {Od:Old} {Dq:FuncId} {kd:CallKind} {k:List Item} {ds:List Deferred} {Q:X_->World->Prop} {c:Code} {tmps:X_} {cs:Z_} {v:World} {B:Nat} (W:Rv P L p N host) (hu:EP Ac Z) (hf:Dq=56\/Dq=93\/Dq=97\/Dq=136\/Dq=187) (hkd:(kd==CallKind.early)=false)
  (hc:c∈[R2 P,R3 P,S0 P,S1 P,sU P,sS P,sP P,R16 P,A0 P,sO P,Q3 P,TV P,sQ P]) (hw:∀τ d,c.wpIn N m P (Ends Q) ⟨tmps,[]⟩ (v.re τ d)) (hQ:∀tm,Cm (Q tm)) (Bs:Beside Od P Ac Z B v gs w t) (h0:gs[0]?=some (G (Frame.mk Dq tmps (.code c::k) ds .run kd none) cs)):
  AB P gs w sl t fun AZ w' t'=>∃tm v' B',AZ[0]?=some (G (Frame.mk Dq tm k ds .run kd none) cs)/\Q tm v'/\Beside Od P Ac Z B' v' AZ w' t':=by
 refine(Jk W.fenced hu W.Mq (W.seen Dq hf) hkd (W.ops c hc) VS hw Bs h0).mono fun AZ w' t' ⟨g,v',B',h1,⟨tm,τ,d,hb⟩,_,_,h2⟩=>?_
 rcases hb with⟨rfl,_,_,hq⟩|⟨_,_,he,_⟩
 ·exact⟨tm,v',B',h1,(hQ tm).back hq,h2⟩
 ·cases he
theorem F5.trans {a b c:World} (h:F5 a b) (h':F5 b c):F5 a c:=
 ⟨Nat.le_trans h.1 h'.1,fun x hx=>(h'.2.1 x (Nat.lt_of_lt_of_le hx h.1)).trans (h.2.1 x hx),h'.2.2.1.trans h.2.2.1,h'.2.2.2.trans h.2.2.2⟩
theorem YU {Od:Old} (A:DW P) (W:Rv P L p N host) (M:UG P N m) (ST:oZ P N m) {kv:Value} {pa:Addr} {n:Int} {c0:Frame} {cs:Z_} (hn:n<=1000) (hn0:0<=n) (S:N7 P N m kv pa n) (U:iO S) (hu:EP Ac Z) {v:World} {B:Nat} (hB0:U.B0 v) (Bs:Beside Od P Ac Z B v gs w t)
  (h0:gs[0]?=some (Bv (z0 P kv pa n (c0::cs)))):
  JI P gs w sl t fun AZ w' t'=>∃Z' KO,(∀x,Z x->Z' x)/\EP KO Z'/\Zz Od P KO Z' S.Fin c0 cs AZ w' t':=by
 have K:=A.Ey;refine(Bs.OO h0 (Cy (K.z1a _ _ _ _))).then fun gs1 w1 G6 t1 _ ⟨h1,zt,_⟩=>?_
 rw[show run P 9 (z0 P kv pa n (c0::cs))=z1 P kv pa n (c0::cs)from rfl,at_toldN (l:=Zi kv pa n Cb) (K.z1b _ _ _ _) (K.z1c _ _ _ _) (K.z1d _ _ _ _)]at h1;refine(Beside.part W hu (.inl rfl) rfl (by simp) (U.bring v _ hB0) (fun tm v τ d ⟨f',e,h⟩=>⟨f',e,U.t2 v τ d h⟩) zt h1).then fun gs2 w2 sl2 t2 _ ⟨tm2,v2,B2,h2,⟨f2,e2,hB2⟩,Bs2⟩=>?_
 subst e2;refine(Bs2.OO h2 (Gs (K.z3 (AR f2 (Zi kv pa n Cb)) (c0::cs)))).then fun lV w3 Zh t3 _ ⟨h3,Bs3,_⟩=>?_
 refine(Beside.part W hu (.inl rfl) rfl (by simp) (U.clear v2 f2 hB2) (fun tm v τ d ⟨f',e,h⟩=>⟨f',e,U.t3 v τ d h⟩) Bs3 h3).then fun gs4 w4 JY t4 _ ⟨tm4,v4,B4,h4,⟨f4,e4,hB4⟩,Bs4⟩=>?_
 subst e4;refine(Bs4.OO h4 (Cy (K.z5a kv pa n Cb f4 (c0::cs)))).then fun gs5 w5 xn t5 _ ⟨h5,Bs5,_⟩=>?_
 rw[show run P 8 (f56 (AR f4 (Zi kv pa n Cb)) (c0::cs) (T3 P) [])=z5 P kv pa n Cb f4 (c0::cs)from rfl,at_toldN (l:=[(0,OV pa),(1,.int .i64 n)]) (K.z5b _ _ _ _ _ _) (K.z5c _ _ _ _ _ _) (K.z5d _ _ _ _ _ _)]at h5;refine(Beside.part W hu (.inr (.inl rfl)) rfl (by simp) (ST.boxes (pa.add 5) n v4 _) (fun tm v τ d h=>h) Bs5 h5).then fun yY w6 DT t6 _ ⟨tm6,v6,B6,h6,⟨g6,b2,b3,e6,gr6,k2,k3,l2,l3,k23,c2,c3⟩,Bs6⟩=>?_
 subst e6;refine(Bs6.OO h6 (Gs (K.y1 (AR g6 [(2,pr b2),(3,pr b3)]) (Y4 P kv pa n Cb f4 (c0::cs))))).then fun rQ w7 rO t7 _ ⟨h7,Bs7,_⟩=>?_
 refine(Beside.part W hu (.inr (.inl rfl)) rfl (by simp) (ST.makes b2 b3 v6 g6) (fun tm v τ d h=>h) Bs7 h7).then fun gs8 w8 sl8 t8 _ ⟨tm8,v8,B8,h8,⟨g8,b5,r,q0,q1,q2,q3,e8,gr8,kge,knd,kr,k5,kq⟩,Bs8⟩=>?_
 subst e8;have hZ4:∀x,Z x->x<v4.heap.size:=Bs4.choose_spec.2.1;have T4:Twin Od Z v4 w4:=Bs4.choose_spec.1;obtain⟨q8,T8,hZ8,L8,P8,S8⟩:=Bs8;have ay0:v6.heap.size<=b5/\v6.heap.size<=r/\v6.heap.size<=q0/\v6.heap.size<=q1/\v6.heap.size<=q2/\v6.heap.size<=q3:=⟨kge _ (by simp),kge _ (by simp),kge _ (by simp),kge _ (by simp),kge _ (by simp),kge _ (by simp)⟩;obtain⟨m5,mr,m0,m1,m2,m3⟩:=ay0;simp only[List.nodup_cons,List.mem_cons,List.not_mem_nil,or_false,not_or,List.nodup_nil,and_true,not_false_eq_true]at knd;obtain⟨⟨d5r,d50,d51,d52,d53⟩,⟨dr0,dr1,dr2,dr3⟩,⟨d01,d02,d03⟩,⟨d12,d13⟩,d23⟩:=knd;have g46:=gr6.1;have g68:=gr8.1
 let S9:Ib:=⟨b2,b3,b5,r,q0,q1,q2,q3,OV pa,n⟩
 have hq8:∀q,S9.lF q->v8.heap[q]?=some (.chan 0 #[] false 0 0 false):=fun q h=>kq q (by rcases h with e|e|e|e<;>simp[e,S9])
 have hge:∀x,S9.own x->v4.heap.size<=x:=fun x hx=>by
  simp only[Ib.own,S9]at hx
  omega
 have BC:∀x,S9.own x->x<v8.heap.size:=fun x hx=>by
  have hr:=kr.lt
  have h5:=Jf k5
  have e0:=(Array.getElem?_eq_some_iff.1 (hq8 q0 (.inl rfl))).1
  have e1:=(Array.getElem?_eq_some_iff.1 (hq8 q1 (.inr (.inl rfl)))).1
  have e2:=(Array.getElem?_eq_some_iff.1 (hq8 q2 (.inr (.inr (.inl rfl))))).1
  have e3:=(Array.getElem?_eq_some_iff.1 (hq8 q3 (.inr (.inr (.inr rfl))))).1
  simp only[Ib.own,S9]at hx
  simp only at h5
  omega
 have hnz:∀x,S9.own x->¬Z x:=fun x hx hz=>by have:=hge x hx;have:=hZ4 x hz;omega
 have OK:S9.Ok:=by
  refine⟨fun q hq=>?_,?_,?_⟩
  ·simp only[Ib.lF,S9]at hq;simp only[S9];refine⟨by omega,by omega,?_,?_⟩<;>(rcases hq with e|e|e|e<;>subst e<;>first|exact Ne.symm d50|exact Ne.symm d51|exact Ne.symm d52|exact Ne.symm d53|exact Ne.symm dr0|exact Ne.symm dr1|exact Ne.symm dr2|exact Ne.symm dr3)
  ·simp only[S9];exact⟨by omega,by omega,d5r⟩
  ·exact⟨d01,d02,d03,d12,d13,d23⟩
 have hod:∀x,S9.own x->¬Od.dead x:=fun x hx ho=>by have:=hge x hx;have:=(Array.getElem?_eq_some_iff.1 (T4.Io x ho)).1;omega
 have Xh:∀x,S9.own x->w8.heap[x]?=v8.heap[x]?:=fun x hx=>(T8.same x (hnz x hx) (hod x hx)).symm
 have Bg:A7 r S9.pre 257 w8 0 0:=by unfold A7;rw[Xh r (by simp[Ib.own,S9])];exact kr
 have hcells:S9.cells w8:=by
  refine⟨FO k5 (Xh b5 (by simp[Ib.own,S9])),FO (w:=v8) ?_ (Xh b2 (by simp[Ib.own,S9])),FO (w:=v8) ?_ (Xh b3 (by simp[Ib.own,S9]))⟩
  ·exact FO c2 (gr8.2.1 b2 l2)
  ·exact FO c3 (gr8.2.1 b3 l3)
 have ba6:∀q,S9.lF q->w8.heap[q]?=some (.chan 0 #[] false 0 0 false):=fun q h=>by
  rw[Xh q (by rcases h with e|e|e|e<;>simp[Ib.own,e])];exact hq8 q h
 obtain⟨v9,T9,sz9,am3,os9,ax3⟩:=T8.kill (Z':=fun x=>Z x\/S9.own x) (fun _ h=>.inl h) (fun x hx ho=>hx.elim (T8.TG x ho) fun h=>hod x h ho);have hg9:F5 v4 v9:=by
  refine⟨by omega,fun x hx=>?_,by rw[os9,gr8.2.2.1,gr6.2.2.1],by rw[ax3,gr8.2.2.2,gr6.2.2.2]⟩
  by_cases hz:Z x
  ·rw[T9.dead x (.inl hz) (by omega),T4.dead x hz hx]
  ·have ho:¬S9.own x:=fun ho=>by have:=hge x ho;omega
   rw[am3 x (fun h=>h.elim hz ho),gr8.2.1 x (by omega),gr6.2.1 x hx]
 have hZ9:∀x,(Z x\/S9.own x)->x<v9.heap.size:=fun x hx=>by
  rw[sz9]
  exact hx.elim (hZ8 x) (BC x)
 have hun:EP (fun l=>Ac l\/I8 S9.r S9.pre l) (fun x=>Z x\/S9.own x):=by
  refine⟨fun a h=>?_,fun x h=>?_⟩
  ·rcases h with h|h|h
   ·exact .inl (hu.1 a h)
   ·injection h with h;subst h;exact .inr (by simp[Ib.own,stA])
   ·injection h with h;subst h;exact .inr (by simp[Ib.own,smA])
  ·rcases h with h|h|h
   ·exact .inl (hu.2 x h)
   ·cases h
   ·cases h
 have hss:∀l,S9.Still l->¬(Ac l\/I8 S9.r S9.pre l):=fun l hl h=>by
  rcases h with h|h
  ·have:∃a,l=.cell a/\S9.own a.block:=by rcases hl with e|e|e|e|e|e|e<;>exact⟨_,e,by simp[Ib.own]⟩
   obtain⟨a,rfl,ha⟩:=this;exact hnz _ ha (hu.1 a h)
  ·exact Qt h hl
 have Bs9:Beside Od P (fun l=>Ac l\/I8 S9.r S9.pre l) (fun x=>Z x\/S9.own x) B8 v9 gs8 w8 t8:=⟨q8,T9,hZ9,L8,Past.shun P8 (fun _ h=>.inl h),S8⟩;refine(Bs9.OO h8 (Cy (K.y3a g8 (Y4 P kv pa n Cb f4 (c0::cs)) b2 b3 b5))).then fun gsa wa WC ta _ ⟨ha,Ba,wa8⟩=>?_
 refine(Ba.read ha (K.y3b g8 _ b2 b3 b5 r) (FO hcells.1 (by rw[wa8])) (hss _ (.inl rfl))).then fun gsb wb yL tb _ ⟨hb,Bb,wba⟩=>?_
 refine(Bb.OO hb (Cy (K.y4a g8 _ b2 b3 b5 r))).then fun gsc wc xm tc _ ⟨hc,Bc,wcb⟩=>?_
 have ec:wc.heap=w8.heap:=wcb.trans (wba.trans wa8);have hc':gsc[0]?=some (Bv (y4 P g8 (Y4 P kv pa n Cb f4 (c0::cs)) b2 b3 b5 r)):=hc;rw[K.y4b]at hc';obtain⟨qc,Tc,hZc,Lc,Pc,Sc⟩:=Bc;refine(fD (Z:=fun x=>x=r) (ad9 (A.add _ _ _)) rfl hc' Lc Pc Sc (show A7 r S9.pre 257 wc 0 0 by unfold A7;rw[ec];exact Bg)).then fun gsd wd sld td _ ⟨qd,hd,od,rd,Ld,Pd,Sd⟩=>?_
 have odZ:BO (fun x=>Z x\/S9.own x) wc wd:=⟨od.size,fun x hx=>od.same x (fun e=>hx (.inr (by simp[Ib.own,S9,e]))),od.os,od.output,od.tape⟩;have Bd:Beside Od P (fun l=>Ac l\/I8 S9.r S9.pre l) (fun x=>Z x\/S9.own x) B8 v9 gsd wd td:=⟨qd,Tc.off hZc odZ,hZc,Ld,Pd,Sd⟩;have KSd:S9.KS wd:=by
  refine⟨rd,hcells.keep fun x hx=>?_,fun q hq=>⟨0,?_⟩⟩
  ·rw[od.same x (by rcases hx with e|e|e<;>subst e<;>first|exact OK.br.2.2|exact OK.br.1|exact OK.br.2.1),ec]
  ·rw[od.same q (OK.bq q hq).2.2.2,ec];exact ba6 q hq
 refine(Bd.OO hd (Cy (K.y6a g8 (Y4 P kv pa n Cb f4 (c0::cs)) b2 b3 b5 r))).then fun xI we sle te _ ⟨he,Be,eed⟩=>?_
 have KSe:S9.KS we:=(J9 (s:=S9) (Z:=fun _=>True) (fun _ _=>trivial)).keep wd we (fun x _=>by rw[eed]) KSd;obtain⟨qe,Te,hZe,Le,Pe,Se⟩:=Be;have Ik:0<xI.size:=(Array.getElem?_eq_some_iff.1 he).1;have EV:Env (fun x=>Z x\/S9.own x) (fun l=>Ac l\/I8 S9.r S9.pre l) S9 xI.size:=⟨fun _ h=>.inr h,hun,fun _ h=>.inr h,hss,OK,by omega⟩;obtain⟨fK,hTK,hgK,hcK⟩:=gU (s:=S9) K (K.as4 kv pa n Cb f4 g8 (c0::cs) b2 b3 b5 r q0 q2) (K.as3 kv pa n Cb f4 g8 (c0::cs) b2 b3 b5 r q0 q2) (K.as2 kv pa n Cb f4 g8 (c0::cs) b2 b3 b5 r q0 q2);have R:=Kt (s:=S9);have hw:RW P true S9.KW S9.Still 58 (Bv (Bj (y6 P g8 (Y4 P kv pa n Cb f4 (c0::cs)) b2 b3 b5 r) undef)) (Bv (y10 P kv pa n Cb f4 g8 (c0::cs) b2 b3 b5 r q0 q2)):=
  ((((((RW.Av (K.y7a _ _ _ _ _ _)).trans (RW.at (K.y7b _ _ _ _ _ _) R.c5 R.s5)).trans (RW.Av (K.y8a _ _ _ _ _ _ _ _ _ _ _))).trans (RW.at (K.y8b _ _ _ _ _ _ _ _ _ _ _ q0) R.r0 R.t0)).trans (RW.Av (K.y9a _ _ _ _ _ _ _ _ _ _ _ _))).trans (RW.at (K.y9b _ _ _ _ _ _ _ _ _ _ _ _ q2) R.r2 R.t2)).trans (RW.Av (K.as5 _ _ _ _ _ _ _ _ _ _ _ _ _));have Mk:=RW.seat (k:=0) (home:=(·=gK P S9 fK (c0::cs))) (cases:=KL S9.q0 S9.q2) (shape:=.select) (Jb _) ⟨_,#[],hgK,Jb _,by simp,fun w _=>Gj hcK w⟩ hw;obtain⟨N1,gsf,df,slf,tf,qf,hrf,hzf,hcf,Df⟩:=qU (K:=S9.KW) (K1:=S9.KS) (TT:=Il xI.size S9.r S9.pre) (sl:=sle) (J9 (s:=S9) EV.IL) (fun l hl=>by rcases hl with e|e|e|e|e|e|e<;>subst e<;>rfl) hss he (Jb _) Le Pe Se (fun d=>bO (K.y6b g8 _ b2 b3 b5 r) (we.at d)) (by simp) KSe
  (fun t' hp i a ha ho hk=>by
   have hmem:a.loc.isMemory=true:=by rcases ho with e|e<;>rw[e]<;>rfl
   rcases hp.known i a ha hmem with h|⟨_,h,_⟩|⟨_,h,_⟩
   ·exact h
   ·exact(Qt ho h).elim
   ·rw[hk]at h;cases h.1) (iw KSe) (Jb _) Mk
 have Hf:Holds Od P (fun x=>Z x\/S9.own x) (fun l=>Ac l\/I8 S9.r S9.pre l) S9.Still (Gm xI.size) (fun g=>g=0) xI.size 0 (ByK P S9 xI.size (gK P S9 fK (c0::cs))) (fun g v=>g=Bv (ch0 P b5 b2 b3)/\S.I 0 Cb v) gsf (we.at df) tf:=
  ⟨qf,_,B8,_,v9,hcf,⟨rfl,U.start v4 v9 hB4 hg9⟩,Te.off hZe (BO.at we df),hZe,Df⟩;obtain⟨fb,ac7⟩:=Y1 (main:=xI.size==0) (A.child b5 b2 b3 r q0 q1 q2 q3 (OV pa) n) R;have step2:JI P gsf (we.at df) slf tf (gz Od P (fun l=>Ac l\/I8 S9.r S9.pre l) (fun x=>Z x\/S9.own x) S.Fin c0 cs):=
  (Hf.walk (sl:=slf) gu (fun w a h hs=>GV h hs) hss (ak EV) ac7).then fun gsg wg slg tg _ Hg=>
   (dw (s:=S9) A W M EV S hn rfl n.toNat 0 Cb fb fK gsg wg slg tg (by show(n-0).toNat<=n.toNat;omega) (Int.le_refl _) hn0 hTK Hg).leads
 obtain⟨N2,bb5,w2',sl2',t2',hr2,hq2⟩:=step2;obtain⟨Zf,hZf,hq2⟩:=hq2;exact⟨N1+N2,bb5,w2',sl2',t2',by rw[runNT_add,hrf];exact hr2,Zf,_,fun _ h=>hZf _ (.inl h),⟨fun a h=>hZf _ (hun.1 a h),fun x h=>hZf _ (hun.2 x h)⟩,hq2⟩
end
end Go.Fxa
namespace Go.Fxa
open Go.Conc Go.Proofs
theorem lq:DW prog where
 Ey:=kC
 child:=fun _ _ _ _ _ _ _ _ _ _=>YZ
 ans:=fun _ _ _ _ _ _=>ll
 done:=fun r tm td=>dQ r tm td
 add:=fun r c Y=>lu r c Y
 wait:=fun r c Y=>aN r c Y
 mixed:=by kernel_rfl
 blk:=kZ
 back:=fun _ _ _ _ _ _ _ _ _=>eZ
end Go.Fxa
namespace Go.Fxa
open Go.Conc
end Go.Fxa
namespace Go
open Go.Fxa Go.Conc
def Sem.Im (P:Program) {α:Type}:Sem α->Prop
 | .pure _=>True
 | .load _ _ k=>∀x,(k x).Im P
 | .store _ _ _ k=>k.Im P
 | .new o k=>o.plain=true/\∀r,(k r).Im P
 | .shape _ k=>∀s,(k s).Im P
 | .freeze _ _ k=>k.Im P
 | .frozen _ k=>∀b,(k b).Im P
 | .getObj _ k=>∀o,(k o).Im P
 | .setObj _ o k=>o.plain=true/\k.Im P
 | .choose _ k=>∀n,(k n).Im P
 | .sys _ k=>∀r,(k r).Im P
 | .program k=>(k P).Im P
 | .mark _ k=>k.Im P
 | .halt h=>h.IM=true
end Go
namespace Go.Fxa
open Go.Conc
theorem Ju {P:Program} {α β:Type} {e:Sem α} {f:α->Sem β} (h:e.Im P) (hf:∀a,(f a).DL P):(e>>= f).DL P:=by
 show(e.bind f).DL P
 induction e with
 | pure a=>exact hf a
 | load m a k ih=>exact fun x=>ih x (h x)
 | store m a v k ih=>exact ih h
 | new o k ih=>exact⟨h.1,fun x=>ih x (h.2 x)⟩
 | shape r k ih=>exact fun x=>ih x (h x)
 | freeze a n k ih=>exact ih h
 | frozen a k ih=>exact fun x=>ih x (h x)
 | getObj r k ih=>exact fun x=>ih x (h x)
 | setObj r o k ih=>exact⟨h.1,ih h.2⟩
 | choose q k ih=>exact fun x=>ih x (h x)
 | sys c k ih=>exact fun x=>ih x (h x)
 | program k ih=>exact ih P h
 | mark m k ih=>exact ih h
 | halt h'=>exact h
theorem NI {P:Program} {α β:Type} {e:Sem α} {f:α->Sem β} (h:e.Im P) (hf:∀a,(f a).Im P):(e>>= f).Im P:=by
 show(e.bind f).Im P
 induction e with
 | pure a=>exact hf a
 | load m a k ih=>exact fun x=>ih x (h x)
 | store m a v k ih=>exact ih h
 | new o k ih=>exact⟨h.1,fun x=>ih x (h.2 x)⟩
 | shape r k ih=>exact fun x=>ih x (h x)
 | freeze a n k ih=>exact ih h
 | frozen a k ih=>exact fun x=>ih x (h x)
 | getObj r k ih=>exact fun x=>ih x (h x)
 | setObj r o k ih=>exact⟨h.1,ih h.2⟩
 | choose q k ih=>exact fun x=>ih x (h x)
 | sys c k ih=>exact fun x=>ih x (h x)
 | program k ih=>exact ih P h
 | mark m k ih=>exact ih h
 | halt h'=>exact h
section
variable {P:Program}
theorem Ra {t:TypeId}:(underlying t).Im P:=by
 show Sem.Im P (Sem.program _);show Sem.Im P (match P.underlying t with|some d=>_|none=>_);cases P.underlying t<;>first|trivial|rfl
theorem YX {t:TypeId}:(elemOf t).Im P:=by
 refine NI Ra fun d=>?_
 cases d<;>first|trivial|rfl
theorem P7 {e:RuntimeError} {α:Type}:(runtimePanic e:Sem α).DL P:=by
 refine Ju (e:=program) trivial fun p=>?_
 cases e<;>first
  | exact LX
  | exact Ju YX fun _=>Ju (e:=newVar _ _) ⟨rfl,fun _=>trivial⟩ fun _=>LX
theorem EL {t:TypeId} {α:Type} {f:TypeDesc->Sem α} {K:α->Prop} (h:∀d,P.underlying t=some d->(f d).Am P K):(underlying t>>= f).Am P K:=CX Au h
theorem bI {e:TypeId} {h:Bool} {old:Value}:(Instr.alloc e h old).Am P fun _=>True:=by
 unfold Instr.alloc;refine Aa DX fun z=>?_
 split
 ·exact Aa Oa fun _=>Ad trivial
 ·exact Aa MK fun _=>Ad trivial
theorem pR {e:TypeId} {v:Value}:(Instr.box e v).Am P fun _=>True:=Aa MK fun _=>Ad trivial
theorem CE {t:TypeId}:(sizeOf t).Am P fun _=>True:=AU Kh
theorem CW {t:TypeId}:(typeInfo t).Am P fun _=>True:=AU F8
theorem PQ {n:Nat}:(askRoom n).Am P fun _=>True:=by
 unfold askRoom;exact Ay (fun _=>.inl ⟨rfl,trivial⟩) fun _=>Ad trivial
theorem bE {t:TypeId} {ps:Array (Nat×Value)}:(Instr.build t ps).Am P fun _=>True:=by
 unfold Instr.build;refine Aa DX fun z=>Aa (AU Au) fun d=>?_
 split
 ·refine Aa (Su (fun f=>Aa CE fun _=>Ad trivial) _) fun pl=>?_
  split
  ·exact Ad trivial
  ·exact Ai
 ·refine Aa CE fun n=>?_
  split
  ·exact Ad trivial
  ·exact Ai
 ·exact Ai
theorem Q8 {t:TypeId} {n:Nat} {ps:Array (Nat×Value)}:(Instr.buildSlice t n ps).Am P fun _=>True:=by
 unfold Instr.buildSlice;refine Aa (AU Au) fun d=>?_
 split
 ·refine Aa CE fun size=>?_
  extract_lets jp jp2
  have hj:∀z,(jp z).Am P fun _=>True:=fun z=>by
   simp only[jp]
   split
   ·exact Aa Iz fun _=>Ad trivial
   ·exact Ai
  have hj2:∀z,(jp2 z).Am P fun _=>True:=fun z=>by
   simp only[jp2]
   exact Ay (fun _=>Aa (Ad trivial) fun _=>hj _) fun _=>Aa DX fun _=>Aa (Ad trivial) fun _=>hj _
  exact Ay (fun _=>rfl) fun _=>hj2 ()
 ·exact Ai
theorem Tv {t:TypeId} {l c:Value}:(Instr.makeSlice t l c).Am P fun _=>True:=by
 unfold Instr.makeSlice;refine Aa (AU Au) fun d=>?_
 split
 ·refine Aa JO fun a=>Aa JO fun b=>Aa CW fun i=>?_
  extract_lets bytes tooLarge l' c' jp
  have hj:∀z,(jp z).Am P fun _=>True:=fun z=>by
   simp only[jp]
   refine Aa PQ fun _=>Aa CE fun k=>?_
   exact Ay (fun _=>Aa (Ad trivial) fun _=>Aa Iz fun _=>Ad trivial) fun _=>Aa DX fun _=>Aa (Ad trivial) fun _=>Aa Iz fun _=>Ad trivial
  refine Ay (fun _=>Ay (fun _=>Aa AX fun u=>hj u) fun _=>Ay (fun _=>Aa AX fun u=>hj u) fun _=>Aa Em fun _=>Aa AX fun u=>hj u) fun _=>hj ()
 ·exact Ai
theorem Eg {x:Value} {y:Nat} {c:BoundsCode}:(Instr.sliceBound x y c).Am P fun _=>True:=by
 unfold Instr.sliceBound;refine Aa (AU Jg) fun ki=>?_
 exact Ay (fun _=>Ad trivial) fun _=>EN
theorem Uc {f:Fn} {a b:X_}:(Instr.makeFunc f a b).Am P fun _=>True:=Ad trivial
theorem OM {t:TypeId} {x:Value}:(Instr.makeInterface t x).Am P fun _=>True:=by
 unfold Instr.makeInterface;refine Aa (AU Au) fun d=>?_
 split
 ·exact Ai
 ·exact Ad trivial
theorem V8 {x:Value} {i:Nat}:(Instr.extract x i).Am P fun _=>True:=by
 unfold Instr.extract;split
 ·split
  ·exact Ad trivial
  ·exact Ai
 ·exact Ai
theorem bn {t:TypeId} {x:Value} {i:Nat}:(Instr.field t x i).Am P fun _=>True:=by
 unfold Instr.field;refine Aa (AU Au) fun d=>?_
 split
 ·split
  ·exact Aa bH fun _=>Gp
  ·exact Ai
 ·exact Ai
theorem bf {t:TypeId} {x i:Value}:(Instr.index t x i).Am P fun _=>True:=by
 unfold Instr.index;refine Aa (AU Jg) fun ki=>Aa (AU Au) fun d=>?_
 split
 ·exact Ay (fun _=>Aa CE fun _=>Gp) fun _=>EN
 ·split
  ·exact Ad trivial
  ·exact EN
 ·exact Ai
theorem Yn {a:Addr} {c b:Nat}:(partAt a c b).Am P fun _=>True:=Aa MP fun _=>Aa MP fun _=>Ad trivial
theorem IX {a:Addr} {f:Field}:(fieldPlace a f).Am P fun _=>True:=by
 unfold fieldPlace;exact Aa CE fun _=>Ay (fun _=>Yn) fun _=>Ad trivial
theorem V7 {t:TypeId} {x:Value} {i:Nat}:(Instr.fieldAt t x i).Am P fun _=>True:=by
 unfold Instr.fieldAt;refine Aa (AU Au) fun d=>?_
 split
 ·split
  ·exact Aa F9 fun _=>Aa IX fun _=>Ad trivial
  ·exact Ai
 ·exact Ai
theorem Yo {t:TypeId} {x:Value}:(Instr.loadAt t x).Am P fun _=>True:=Aa F9 fun _=>FP
theorem VY {t:TypeId} {x y:Value}:(Instr.storeAt t x y).Am P fun _=>True:=Aa F9 fun _=>Oa
theorem aY {x:Value}:(Instr.panic x).Am P fun _=>True:=by
 unfold Instr.panic;split
 ·exact LK
 ·have he:(Instr.panicnil).Im P:=by
   unfold Instr.panicnil
   refine fun r=>?_
   cases r<;>first|exact rfl|exact trivial
  exact Sem.DL.WI (Ju he fun n=>by split<;>first|exact LX|exact P7)
 ·exact Ai
theorem EM {b:Bool} {l c:Nat} {x y z:Option Value}:(Instr.sliceBounds b l c x y z).Am P fun _=>True:=by
 unfold Instr.sliceBounds
 extract_lets j1
 have h1:∀k,(j1 k).Am P fun _=>True:=fun k=>by
  cases y<;>cases z<;>cases x<;>simp only[j1]<;>first
   | exact Aa Eg fun _=>Aa Eg fun _=>Ad trivial
   | exact Aa Eg fun _=>Aa (Ad trivial) fun _=>Ad trivial
   | exact Aa (Ad trivial) fun _=>Aa Eg fun _=>Ad trivial
   | exact Aa (Ad trivial) fun _=>Aa (Ad trivial) fun _=>Ad trivial
   | exact Aa Ai fun _=>Aa Eg fun _=>Ad trivial
   | exact Aa Ai fun _=>Aa (Ad trivial) fun _=>Ad trivial
 clear_value j1
 split
 ·exact Aa Eg fun _=>h1 _
 ·exact Aa (Ad trivial) fun _=>h1 _
theorem aV {t:TypeId} {x:Value} {a b c:Option Value}:(Instr.slice t x a b c).Am P fun _=>True:=by
 unfold Instr.slice;refine Aa (AU Au) fun d=>?_
 split
 ·exact Ay (fun _=>Aa Ai fun _=>Aa EM fun _=>Ad trivial) fun _=>Aa EM fun _=>Ad trivial
 ·exact Aa EM fun _=>Aa CE fun _=>Ad trivial
 ·refine Aa IB fun _=>Aa (AU Au) fun d=>?_
  split
  ·exact Aa EM fun _=>Aa CE fun _=>Ad trivial
  ·exact Ai
 ·exact Ai
theorem VZ {t:TypeId} {x:Value} {a b c:Option Value}:(Instr.sliceAt t x a b c).Am P fun _=>True:=by
 unfold Instr.sliceAt;refine Aa (AU Au) fun d=>?_
 split
 ·exact Aa F9 fun _=>Aa EM fun _=>Aa CE fun _=>Ad trivial
 ·exact aV
theorem V4 {t:TypeId} {x i:Value}:(Instr.indexAt t x i).Am P fun _=>True:=by
 unfold Instr.indexAt;refine Aa (AU Jg) fun ki=>Aa (AU Au) fun d=>?_
 extract_lets jp
 have hj:∀z,(jp z).Am P fun _=>True:=fun⟨base,len,elem⟩=>by
  simp only[jp]
  refine Aa (AU Au) fun d'=>?_
  cases base with
  | none=>exact EN
  | some a=>exact Ay (fun _=>Aa CE fun _=>Ad trivial) fun _=>Ay (fun _=>rfl) fun _=>EN
 clear_value jp
 split
 ·exact Aa F9 fun _=>Aa (Ad trivial) fun _=>hj _
 ·exact Aa (Ad trivial) fun _=>hj _
 ·exact Aa Ai fun _=>hj _
theorem pO {ts:Array TypeId} {t:TypeId} {a:X_}:(Builtin.len_ ts t a).Am P fun _=>True:=by
 unfold Builtin.len_;split
 ·refine Aa (AU Au) fun d=>?_
  split
  ·exact Ad trivial
  ·exact Ad trivial
  ·refine Aa (AU Au) fun d=>?_
   split
   ·exact Ad trivial
   ·exact Ai
  ·exact Ad trivial
  ·exact Ad trivial
  ·exact Ad trivial
  ·refine⟨fun o _=>?_,Gh⟩;cases o<;>first|exact Ai|exact Ad trivial
  ·refine⟨fun o _=>?_,Gh⟩;cases o<;>first|exact Ai|exact Ad trivial
  ·exact Ai
 ·exact Ai
theorem pQ {ts:Array TypeId} {t:TypeId} {a:X_}:(Builtin.cap_ ts t a).Am P fun _=>True:=by
 unfold Builtin.cap_;split
 ·refine Aa (AU Au) fun d=>?_
  split
  ·exact Ad trivial
  ·refine Aa (AU Au) fun d=>?_
   split
   ·exact Ad trivial
   ·exact Ai
  ·exact Ad trivial
  ·exact Ad trivial
  ·refine⟨fun o _=>?_,Gh⟩;cases o<;>first|exact Ai|exact Ad trivial
  ·exact Ai
 ·exact Ai
theorem Sv {x:Value}:(Builtin.lenOf x).Am P fun _=>True:=by
 unfold Builtin.lenOf;split<;>first|exact Ad trivial|exact Ai
theorem IW {a b:Nat} {x:Value}:(Builtin.firstCells a b x).Am P fun _=>True:=by
 unfold Builtin.firstCells;split<;>first|exact MZ|exact Ad trivial|exact Ai
theorem jH {ts:Array TypeId} {t:TypeId} {a:X_}:(Builtin.copy_ ts t a).Am P fun _=>True:=by
 unfold Builtin.copy_;split
 ·refine Aa (AU Au) fun d=>?_
  split
  ·split
   ·refine Aa Sv fun _=>Aa CE fun _=>Aa IW fun _=>?_
    split
    ·exact Aa Ef fun _=>Ad trivial
    ·exact Ad trivial
   ·exact Ai
  ·exact Ai
 ·exact Ai
theorem bz {ts:Array TypeId} {t:TypeId} {a:X_}:(Builtin.clear_ ts t a).Am P fun _=>True:=by
 unfold Builtin.clear_;split
 ·refine Aa (AU Au) fun d=>?_
  extract_lets jp
  have hj:∀z,(jp z).Am P fun _=>True:=fun z=>Ad trivial
  clear_value jp
  split
  ·exact hj ()
  ·exact hj ()
  ·exact hj ()
  ·refine⟨fun o ho=>?_,show DK P _ (stuck "clear: map expected">>= jp)from U2 Gh⟩;cases o<;>first|(cases ho;done)|exact(show Sem.Am P (fun _=>True) (stuck "clear: map expected">>= jp)from Aa Ai fun u=>hj u)
  ·exact Aa DX fun _=>Aa Ef fun u=>hj u
  ·exact Aa Ai fun u=>hj u
 ·exact Ai
theorem Me {a:Addr} {n:Nat}:(Builtin.holdsCells a n).Im P:=by
 refine fun s=>?_
 cases s<;>trivial
theorem YW {a:Addr}:(frozen a).Im P:=fun _=>trivial
theorem Uq {a b c:Nat} {base:Option Addr} {x:Value}:(Builtin.mayShare a b c base x).Im P:=by
 unfold Builtin.mayShare
 extract_lets jp
 have hj:∀z,(jp z).Im P:=fun z=>by
  simp only[jp]
  split
  ·trivial
  ·split
   ·exact NI Me fun _=>trivial
   ·trivial
 clear_value jp
 split
 ·exact hj _
 ·exact NI Me fun _=>NI YW fun _=>hj _
theorem Yr {ts:Array TypeId} {t:TypeId} {a:X_}:(Builtin.append_ ts t a).Am P fun _=>True:=by
 unfold Builtin.append_;split
 ·refine Aa (AU Au) fun d=>?_
  split
  ·split
   ·refine Aa CE fun size=>?_
    extract_lets ju jp1
    have hju:∀u,(ju u).DL P:=fun u=>rfl
    clear_value ju
    have hj1:∀z,(jp1 z).Am P fun _=>True:=fun zeros=>by
     dsimp -zeta only[jp1]
     extract_lets jp2
     have hj2:∀n,(jp2 n).Am P fun _=>True:=fun n=>by
      dsimp -zeta only[jp2]
      extract_lets appended need jA j4 j3
      have ha:appended.Am P fun _=>True:=by
       simp only[appended]
       exact Ay (fun _=>IW) fun _=>Ay (fun _=>Ad trivial) fun _=>Aa DX fun _=>Ad trivial
      have hA:∀u,(jA u).Am P fun _=>True:=fun u=>Ad trivial
      have hj4:∀u,(j4 u).Am P fun _=>True:=fun u=>
       Aa Em fun _=>Aa CW fun _=>Aa PQ fun _=>Aa IW fun _=>Aa ha fun _=>Aa DX fun _=>Aa Iz fun _=>Ad trivial
      clear_value j4
      have hj3:∀u,(j3 u).Am P fun _=>True:=fun u=>by
       refine Aa CW fun i=>?_
       refine Ay (fun _=>Aa (Ay (fun _=>AX) fun _=>Sem.DL.WI (Ju Uq fun b=>?_)) fun u=>hj4 u) fun _=>hj4 ()
       split
       ·exact Ju (e:=mark .noRoom) trivial fun u=>hju u
       ·exact hju ()
      clear_value appended jA j3
      refine Ay (fun _=>Aa ha fun new=>?_) fun _=>Aa CW fun i=>Ay (fun _=>Aa AX fun u=>hj3 u) fun _=>hj3 ()
      split
      ·exact Aa Ef fun u=>hA u
      ·exact hA ()
     clear_value jp2
     refine Ay (fun _=>Aa JO fun a=>?_) fun _=>Aa Sv fun n=>hj2 n
     extract_lets l jp6 jp5
     have hj6:∀u,(jp6 u).Am P fun _=>True:=fun u=>Aa (Ad trivial) fun n=>hj2 n
     clear_value jp6
     have hj5:∀u,(jp5 u).Am P fun _=>True:=fun u=>by
      dsimp -zeta only[jp5]
      refine Aa CW fun i=>?_
      exact Ay (fun _=>Aa Em fun _=>Aa AX fun u=>hj6 u) fun _=>hj6 ()
     clear_value jp5
     exact Ay (fun _=>Aa AX fun u=>hj5 u) fun _=>hj5 ()
    clear_value jp1
    split
    ·exact Aa (AU Au) fun _=>Aa (Ad trivial) fun z=>hj1 z
    ·exact Aa (Ad trivial) fun z=>hj1 z
   ·exact Ai
  ·exact Ai
 ·exact Ai
end
def Kw (P:Program):Nat->TypeId->Bool
 | 0,_=>false
 | d+1,t=>match P.underlying t with
  | some (.int _)=>match P.info? t with
   | some i=>match i.desc with
    | .named n _=>n != "sync.copyChecker"
    | _=>true
   | none=>true
  | some .bool=>true
  | some .string=>true
  | some (.struct fs)=>fs.all fun f=>Kw P d f.type
  | _=>false
section
variable {P:Program}
theorem Sy {α β:Type} {f:α->β->Sem (ForInStep β)}:∀{l:List α} {b:β},(∀a∈l,∀b,(f a b).Am P fun _=>True)->(forIn l b f).Am P fun _=>True
 | [],b,_=>Ad trivial
 | a::l,b,h=>by
  rw[List.forIn_cons]
  refine Aa (h a (List.mem_cons_self ..) b) fun s=>?_
  cases s with
  | done b'=>exact Ad trivial
  | yield b'=>exact Sy fun a ha b=>h a (List.mem_cons_of_mem _ ha) b
theorem QL {α β:Type} {f:α->β->Sem (ForInStep β)} {l:Array α} {b:β} (h:∀a∈l,∀b,(f a b).Am P fun _=>True):(forIn l b f).Am P fun _=>True:=by
 rw[<-Array.forIn_toList];exact Sy fun a ha b=>h a (Array.mem_toList_iff.1 ha) b
theorem QT {d:Nat} {t:TypeId} {fs:Array Field} (h:Kw P (d+1) t=true) (e:P.underlying t=some (.struct fs)):∀f∈fs,Kw P d f.type=true:=by
 simp only[Kw,e]at h;intro f hf;exact Array.all_eq_true'.1 h f hf
theorem PO (hG:P.globals.size=0):∀(k d:Nat) (t:TypeId) (x y:Value),Kw P k t=true->(Op.equalIn d t x y).Am P fun _=>True
 | 0,d,t,x,y,h=>by cases h
 | k+1,0,t,x,y,h=>rfl
 | k+1,d+1,t,x,y,h=>by
  unfold Op.equalIn
  refine EL fun desc hd=>?_
  cases desc with
  | bool=>split<;>first|contradiction|exact Ad trivial|exact Ai
  | string=>split<;>first|contradiction|exact Ad trivial|exact Ai
  | int ik=>
   split<;>first
    | contradiction
    | exact Ad trivial
    | exact Ai
    | exact rfl
    | exact Ay (fun _=>Ad trivial) fun _=>Ai
    | skip
   refine Ce (fun z=>Ce (fun z'=>AU (K:=fun _=>False) ?_) (CJ ?_)) (FR fun z'=>CJ ?_)
   all_goals
    refine CX Cq fun q hq=>?_
    subst hq
    rw[if_neg (by simp[hG])]
    refine CX F8 fun i hi=>?_
    simp only[Kw,hd,hi]at h
    split
    ·rename_i e;rw[e]at h;simp at h
    ·rfl
  | struct fs=>
   have hfs:=QT h hd
   split<;>first
    | contradiction
    | exact Ai
    | skip
   rename_i e
   injection e with e
   subst e
   refine Aa (AU Cq) fun q=>?_
   extract_lets jp
   have hj:∀u,(jp u).Am P fun _=>True:=fun u=>by
    refine Aa (QL fun f hf b=>Ay (fun _=>Aa Gp fun _=>Aa Gp fun _=>Aa (PO hG k d f.type _ _ (hfs f hf)) fun r=>Ay (fun _=>Ad trivial) fun _=>Ad trivial) fun _=>Ad trivial) fun s=>?_
    obtain⟨s1,_⟩:=s
    cases s1<;>exact Ad trivial
   exact Ay (fun _=>Aa (DR (by simp)) fun u=>hj u) fun _=>hj ()
  | _=>(simp only[Kw,hd]at h;cases h)
theorem JR:∀(k d:Nat) (t:TypeId) (x y:Value),Kw P k t=true->(Op.eqGuardIn d t x y).Am P fun _=>True
 | 0,d,t,x,y,h=>by cases h
 | k+1,0,t,x,y,h=>rfl
 | k+1,d+1,t,x,y,h=>by
  unfold Op.eqGuardIn
  refine EL fun desc hd=>?_
  cases desc with
  | struct fs=>
   have hfs:=QT h hd
   split<;>first
    | contradiction
    | exact Ad trivial
    | skip
   rename_i e
   injection e with e
   subst e
   refine Aa (QL fun f hf b=>Ay (fun _=>Aa Gp fun _=>Aa Gp fun _=>Aa (JR k d f.type _ _ (hfs f hf)) fun r=>Ay (fun _=>Ad trivial) fun _=>Ad trivial) fun _=>Ad trivial) fun s=>?_
   obtain⟨s1,_⟩:=s
   cases s1<;>exact Ad trivial
  | bool=>split<;>first|contradiction|exact Ad trivial
  | string=>split<;>first|contradiction|exact Ad trivial
  | int ik=>split<;>first|contradiction|exact Ad trivial
  | _=>(simp only[Kw,hd]at h;cases h)
def fU:Operand->Bool
 | .const (.pointer none)=>true
 | .const (.slice none _ _)=>true
 | .const .nilFunc=>true
 | _=>false
def RS:Value->Bool
 | .pointer none=>true
 | .slice none _ _=>true
 | .nilFunc=>true
 | _=>false
def nH (P:Program) (t:TypeId):Bool:=match P.underlying t with
 | some (.pointer _)=>true
 | some (.slice _)=>true
 | some (.func _ _ _)=>true
 | _=>false
theorem Ue {t:TypeId} {x y:Value} {d:Nat} (h:nH P t=true) (hn:RS x=true\/RS y=true):(Op.equalIn (d+1) t x y).Am P fun _=>True:=by
 unfold Op.equalIn;refine EL fun desc hd=>?_
 cases desc with
 | pointer e=>
  split<;>first
   | contradiction
   | exact Ad trivial
   | exact Ai
   | (exfalso;rcases hn with hn|hn<;>cases hn;done)
 | slice e=>split<;>first|contradiction|exact Ad trivial|exact Ai
 | func a b c=>split<;>first|contradiction|exact Ad trivial|exact Ai
 | _=>(simp only[nH,hd]at h;cases h)
theorem Px {x:Operand} (h:fU x=true) (fr:Frame):RS (fr.eval x)=true:=by
 unfold fU at h;split at h<;>first|rfl|cases h
def Mr (P:Program) (t:TypeId) (x y:Operand):Bool:=Kw P 5 t || (nH P t && (fU x || fU y))
theorem bu (hG:P.globals.size=0) {t:TypeId} {x y:Operand} {fr:Frame} (h:Mr P t x y=true):(Op.equal t (fr.eval x) (fr.eval y)).Am P fun _=>True:=by
 unfold Mr at h;simp only[Bool.or_eq_true,Bool.and_eq_true]at h;rcases h with h|⟨h1,h2⟩
 ·exact PO hG 5 _ _ _ _ h
 ·exact Ue (d:=9999) h1 (h2.imp (fun h=>Px h fr) fun h=>Px h fr)
theorem bG (hG:P.globals.size=0) {op:BinOp} (ho:op=.eql\/op=.neq) {t:TypeId} {x y:Operand} {fr:Frame} (h:Mr P t x y=true):(binOp op t (fr.eval x) (fr.eval y)).Am P fun _=>True:=by
 have he:=bu hG (fr:=fr) h;generalize fr.eval x=a at he ⊢;generalize fr.eval y=b at he ⊢;rcases ho with rfl|rfl
 ·unfold binOp;split<;>first
   | contradiction
   | exact Aa he fun _=>Ad trivial
   | exact Ay (fun _=>rfl) fun _=>ML
   | exact Ay (fun _=>rfl) fun _=>Ic
   | exact Ay (fun _=>rfl) fun _=>JS
   | exact Ga
 ·unfold binOp;split<;>first
   | contradiction
   | exact Aa he fun _=>Ad trivial
   | exact Ay (fun _=>rfl) fun _=>ML
   | exact Ay (fun _=>rfl) fun _=>Ic
   | exact Ay (fun _=>rfl) fun _=>JS
   | exact Ga
end
section
variable {P:Program}
theorem V9 {op:BinOp} {t:TypeId} {x y:Operand} {fr:Frame} (h:(op=.eql\/op=.neq)->Mr P t x y=true):(eqGuard op t x y (fr.eval x) (fr.eval y)).Am P fun _=>True:=by
 unfold eqGuard;by_cases ho:op=.eql\/op=.neq
 ·have h':=h ho;unfold Mr at h';simp only[Bool.or_eq_true,Bool.and_eq_true]at h';have e:(!(match op with | .eql=>true | .neq=>true|_=>false))=false:=by rcases ho with rfl|rfl<;>rfl
  refine Ay (fun _=>Ad trivial) fun _=>?_
  rcases h' with h' | ⟨_,hn⟩
  ·split
   ·exact Ay (fun _=>Ad trivial) fun _=>Aa (JR 5 _ _ _ _ h') fun _=>Ay (fun _=>DR (by simp)) fun _=>Ad trivial
   ·exact Aa (AU Cq) fun _=>Aa (AU Cq) fun _=>Ay (fun _=>Ad trivial) fun _=>Aa (JR 5 _ _ _ _ h') fun _=>Ay (fun _=>DR (by simp)) fun _=>Ad trivial
   ·exact Ad trivial
  ·have hv:RS (fr.eval x)=true\/RS (fr.eval y)=true:=hn.imp (fun h=>Px h fr) fun h=>Px h fr
   generalize fr.eval x=a at hv ⊢;generalize fr.eval y=b at hv ⊢;split
   ·rcases hv with hv|hv<;>cases hv
   ·rcases hv with hv|hv<;>cases hv
   ·exact Ad trivial
 ·refine Ay (fun _=>Ad trivial) fun hn=>?_
  exfalso;apply ho;cases op<;>first|exact .inl rfl|exact .inr rfl|(simp at hn;done)
def Xg (P:Program) (t:TypeId):Bool:=match P.underlying t with
 | some (.int _)=>true
 | _=>false
theorem Q7 {s:FloatKind} {b:Nat} {k:IntKind}:(Conv.floatToInt s b k).Am P fun _=>True:=by
 unfold Conv.floatToInt;split
 ·exact Ay (fun _=>Ad trivial) fun _=>Aa Em fun _=>Ad trivial
 ·exact Aa Em fun _=>Ad trivial
theorem Wd {a b:TypeId} (ha:Xg P a=true) (hb:Xg P b=true) {x:Value}:(convert a b x).Am P fun _=>True:=by
 unfold convert;refine EL fun d hd=>EL fun d' Ih=>?_
 unfold Xg at ha hb;rw[hd]at ha;rw[Ih]at hb;cases d<;>first|(cases ha;done)|skip
 cases d'<;>first|(cases hb;done)|skip
 split<;>first
  | contradiction
  | exact Ad trivial
  | exact Q7
  | exact rfl
theorem FT:∀(l:List FieldStep) (t:TypeId) (x:Option Value),(followBlind l t x).Am P fun _=>True
 | [],_,_=>Ad trivial
 | s::l,t,x=>by
  unfold followBlind
  refine Aa (AU Au) fun d=>?_
  split
  ·split
   ·split
    ·exact Ad trivial
    ·exact FT l _ _
    ·exact Ai
    ·exact Ad trivial
    ·exact Aa Gp fun _=>FT l _ _
    ·exact Ai
    ·exact FT l _ _
   ·exact Ai
  ·exact Ai
theorem Ob:∀(n:Nat) (t:TypeId) (v:Value) (s:String),(nilAhead n t v s).Am P fun _=>True
 | 0,_,_,_=>Ad trivial
 | n+1,t,v,s=>by
  unfold nilAhead
  refine Aa CW fun i=>?_
  split
  ·refine Aa (FT _ _ _) fun r=>?_
   split
   ·exact Ad trivial
   ·split
    ·exact Ob n _ _ _
    ·exact Ad trivial
    ·exact Ai
    ·exact Ad trivial
    ·exact Ad trivial
    ·refine Aa (AU Au) fun d=>?_
     split<;>exact Ad trivial
  ·exact Ai
theorem IA:∀(l:List FieldStep) (t:TypeId) (x:Place),(follow l t x).Am P fun _=>True
 | [],_,_=>Ad trivial
 | s::l,t,x=>by
  unfold follow
  refine Aa (AU Au) fun d=>?_
  have hg:∀(t:TypeId) (x:Place),(x.get t).Am P fun _=>True:=fun t x=>by
   cases x with
   | val v=>exact Ad trivial
   | var a=>exact FP
  split
  ·split
   ·refine Ay (fun _=>Aa (hg _ _) fun _=>Aa IB fun _=>Aa IX fun _=>IA l _ _) fun _=>?_
    split
    ·exact Aa IX fun _=>IA l _ _
    ·exact Aa Gp fun _=>IA l _ _
    ·exact Ai
   ·exact Ai
  ·exact Ai
theorem Ps {t:TypeId} {x:Place}:(x.get t).Am P fun _=>True:=by
 cases x with
 | val v=>exact Ad trivial
 | var a=>exact FP
theorem VX {t:TypeId} {x a b:Value}:(Builtin.ssaWrapNilChk_ #[t] t #[x,a,b]).Am P fun _=>True:=by
 cases a<;>first|exact rfl|skip
 cases b<;>first|exact rfl|skip
 cases x<;>first|exact rfl|skip
 rename_i o;cases o with
 | some a=>exact trivial
 | none=>
  refine Aa (e:=choose _) Em fun c=>?_
  extract_lets jp
  have hj:∀u,(jp u).Am P fun _=>True:=fun u=>by
   dsimp -zeta only[jp]
   split
   ·refine Aa (AU Au) fun d=>?_
    split
    ·refine Aa CW fun i=>?_
     split
     ·split
      ·extract_lets base targs
       split
       ·exact AX
       ·exact rfl
      ·exact Ai
     ·exact Ai
    ·exact Ai
   ·exact Ai
  exact Ay (fun _=>Aa AX fun u=>hj u) fun _=>hj ()
theorem Mc {t:TypeId} {x:Place} {b:Bool} {o:Option String}:(receiverAt t x b o).Am P fun _=>True:=by
 unfold receiverAt;refine Aa (AU Au) fun d=>?_
 split
 ·exact Ps
 ·refine Aa Ps fun q=>?_
  split
  ·exact Aa VX fun _=>Aa IB fun _=>FP
  ·exact Aa (Ad trivial) fun _=>Aa IB fun _=>FP
 ·exact Ad trivial
 ·exact Ai
 ·exact Ps
theorem QA {t:TypeId} {v:Value} {p:Array FieldStep} {b:Bool}:(receiverVia t v p b).Am P fun _=>True:=Aa (IA _ _ _) fun _=>Mc
theorem QK:∀(n:Nat) (t:TypeId) (v:Value) (s:String),(method n t v s).Am P fun _=>True
 | 0,_,_,_=>rfl
 | n+1,t,v,s=>by
  unfold method
  refine Aa CW fun i=>?_
  split
  ·refine Aa (IA _ _ _) fun r=>?_
   obtain⟨r1,r2⟩:=r;dsimp only;split
   ·refine Aa Ps fun q=>?_
    split
    ·exact QK n _ _ _
    ·exact AX
    ·exact Ai
   ·exact Aa Mc fun _=>Ad trivial
  ·exact Ai
/-! ### calls -/
def Oz (P:Program) (L:FuncId->Prop):Prop:=∀f,L f->∃fn,P.funcs[f]?=some fn/\fn.body.isNone=false/\(fn.name== "runtime.NumGoroutine")=false
variable {L:FuncId->Prop} {bb:Bool}
theorem Uf (hB:Oz P L) {f:FuncId} (hf:L f) {args:X_}:(callFunc f args).Am P (Ec L bb):=by
 obtain⟨fn,h1,h2,h3⟩:=hB f hf;unfold callFunc;refine CX Cq fun q hq=>?_
 subst hq;rw[h1];simp only[h2,h3,Bool.false_eq_true,if_false];exact hf
theorem aQ {l:Nat} {args:X_}:(Instr.yield l args).Am P (Ec L bb):=by
 unfold Instr.yield Instr.getLoop;refine⟨fun o ho=>?_,fun w es a w' BQ _ _ h=>?_⟩
 ·cases o<;>first|(cases ho;done)|exact rfl
 ·simp[Sem.bind,stuck,CB,Bind.bind]at h
theorem QO {α:Type} {e:Sem α} {w w':World} {es BQ:Array Event} {a:α} (h:e.runT P w es=(.ok a w',BQ)):e.run P w=.ok a w':=by
 have:=Sem.runT_eq P e w es;rw[this]at h;exact congrArg Prod.fst h
def Iy (recv:Value) (name:String):Sem (FuncId×Value):=match recv with
 | .iface t u=>program>>= fun q=>method (q.types.size+Made.depth) t u name
 | .nilIface=>runtimePanic .nilDeref
 | _=>stuck "invoke: interface value expected"
theorem Om (recv:Value) (name:String) (args:X_):callMethod recv name args=(Iy recv name>>= fun x=>callFunc x.1 (#[x.2]++args)):=by
 cases recv<;>rfl
theorem Oc {recv:Value} {name:String}:(Iy recv name).Am P fun _=>True:=by
 unfold Iy;split
 ·exact Aa (AU Cq) fun _=>QK _ _ _ _
 ·exact AX
 ·exact Ai
theorem PS {recv:Value} {name:String} {v v1:World} {x:FuncId×Value} (h:(Iy recv name).run P v=.ok x v1):∃t u,recv=.iface t u/\(method (P.types.size+Made.depth) t u name).run P v=.ok x v1:=by
 cases recv with
 | iface t u=>exact⟨t,u,rfl,h⟩
 | nilIface=>
  have:(runtimePanic .nilDeref:Sem (FuncId×Value)).run P v=.ok x v1:=h
  cases this
 | _=>cases (show(stuck "invoke: interface value expected":Sem (FuncId×Value)).run P v=.ok x v1 from h)
theorem Ig (hB:Oz P L) {f:FuncId} (hf:L f\/Ext P f) {args:X_} (v:World):FY P (Ec L bb) (callFunc f args) v:=
 hf.elim (fun h=>Sem.Am.here (Uf hB h) v) fun h=>qZ h args v
theorem QR (hB:Oz P L) {recv:Value} {name:String} {args:X_} {v:World} (hab:∀t u f r w',recv=.iface t u->(method (P.types.size+Made.depth) t u name).run P v=.ok (f,r) w'->L f\/Ext P f):
  FY P (Ec L bb) (callMethod recv name args) v:=by
 rw[Om];refine OA (e1:=Iy recv name) (f:=fun x=>callFunc x.1 (#[x.2]++args)) Oc fun x v1 es JX h=>?_
 obtain⟨t,u,e,hr⟩:=PS (QO h);exact Ig hB (hab t u x.1 x.2 v1 e hr) v1
theorem kX (hB:Oz P L) {f:Value} {args:X_} {v:World} (hab:∀d w',(Deferred.ofValue f args).run P v=.ok d w'->∀g,d.target.leads P w' d.args=some g->L g\/Ext P g):
  FY P (Ec L bb) (Deferred.ofValue f args>>= fun d=>invoke d.target d.args) v:=by
 cases f with
 | nilFunc=>exact Sem.Am.here (show(invoke .nil args).Am P (Ec L bb) by simp only[invoke];exact AX) v
 | func fn first cap=>
  have hab':=hab ⟨.fn fn cap,first++args⟩ v rfl
  show FY P (Ec L bb) (invoke (.fn fn cap) (first++args)) v
  simp only at hab'
  generalize first++args=ar at hab' ⊢
  cases fn with
  | func g=>exact Ig hB (hab' g rfl) v
  | via t path g ptr=>
   simp only[invoke]
   cases ar[0]? with
   | none=>exact Sem.Am.here Ai v
   | some x=>exact OA (e1:=receiverVia t x path ptr) (f:=fun y=>callFunc g (#[y]++ar.extract 1 ar.size)) QA fun _ v1 _ _ _=>Ig hB (hab' g rfl) v1
  | yield l=>exact Sem.Am.here (show(Instr.yield l ar).Am P (Ec L bb)from aQ) v
  | method name=>
   simp only[invoke]
   cases h0:ar[0]? with
   | none=>exact Sem.Am.here Ai v
   | some x=>
    refine QR hB fun t u f r w' e hr=>hab' f ?_
    subst e
    simp only[Target.leads,h0,hr]
  | methodOf t name=>
   simp only[invoke]
   cases h0:ar[0]? with
   | none=>exact Sem.Am.here Ai v
   | some x=>
    have e:(underlying t>>= fun d=>callMethod (match d with | .interface _=>x|_=>.iface t x) name (ar.extract 1 ar.size))=((underlying t>>= fun d=>Iy (match d with | .interface _=>x|_=>.iface t x) name)>>= fun y=>callFunc y.1 (#[y.2]++ar.extract 1 ar.size)):=by
     rw[bind_assoc]
     congr 1
     funext d
     exact Om _ _ _
    refine(congrArg (FY P (Ec L bb) · v) e).mpr (OA (e1:=underlying t>>= fun d=>Iy (match d with | .interface _=>x|_=>.iface t x) name) (f:=fun y=>callFunc y.1 (#[y.2]++ar.extract 1 ar.size)) (Aa (AU Au) fun _=>Oc) fun y v1 es JX h=>?_)
    have hr:=QO h
    have FW:(match P.underlying t with
     | some d=>Iy (match d with | .interface _=>x|_=>.iface t x) name
     | none=>stuck "":Sem (FuncId×Value)).run P v=.ok y v1:=by
     cases hu:P.underlying t with
     | none=>simp[underlying,hu]at hr
     | some d=>simpa [underlying,hu]using hr
    cases hu:P.underlying t with
    | none=>rw[hu]at FW;cases FW
    | some d=>
     rw[hu]at FW
     obtain⟨t',u',e',hm⟩:=PS FW
     refine Ig hB (hab' y.1 ?_) v1
     simp only[Target.leads,h0,hu,Option.map_some]
     cases d<;>(simp only at e' ⊢;first
      | (injection e' with e1 e2;subst e1 e2;simp only[hm];done)
      | (subst e';simp only[hm];done))
 | _=>exact Sem.Am.here (kT (e:=(stuck _:Sem Deferred)) dV) v
end
end Go.Fxa
