/- The close of 'quit'; and the g -/
import Derived.Test.YtmhplpfpcnjekaaGreatA07
namespace Go.Fxa
open Go.Conc
open Go.ConcN (sumTo upd sumTo_upd upd_ne upd_same)
section
variable {P:l_} {Z:Nat->Prop} {Ac Still:Loc->Prop} {Mem Ai:Nat->Prop} {r:Nat} {pre:X_} {ty:j_} {c B:Nat} {t:Trace} {o:QJ} {w0:Bool} {X:o_->Prop} {Ph:Bool->Nat->m_->o_->Trace->Prop} {K K1:o_->Prop} {TT:Trace->Prop} {cC:Array CommCase} {home:m_->Prop} {kq cq kR:Nat} {zq:n_}
theorem Y8 (hSo:∀x,¬Still (.obj x)) (hc:cq<B):∀e∈closeEvents cq,Yr Ac Still B e:=by
 intro e b;simp only[closeEvents,List.mem_toArray,r_,List.not_mem_nil,or_false]at b;obtain rfl|rfl:=b
 .refine⟨λx a=>?_,by simp,by simp,hc,by simp⟩;obtain rfl:=x_ a;exact⟨λc=>(hSo _ c).elim,λ_=>by simp⟩
 .exact⟨λx a=>(by cases a),by simp,by simp,hc,by simp⟩
theorem Jd {w:o_} {d x k:Nat} {cl:Bool}:((w.at d).setChan x 0 #[] cl k k false).heap.size=w.heap.size:=by simp[World.setChan,World.at]
theorem Lu (hz:Z cq) (w:o_) (d k:Nat) (cl:Bool):BZ Z w ((w.at d).setChan cq 0 #[] cl k k false):=by
 refine⟨by simp[World.setChan,World.at],λx a=>?_,rfl,rfl,rfl⟩;have:cq≠x:=λe=>a (e ▸ hz)
 simp[World.setChan,World.at,z_ this]
theorem pF (L1:QP Z Still K1) (hK1:∀w,K1 w->K w) (hT:YD Ac Still c TT) (hc:c≠0) (hSo:∀x,¬Still (.obj x)) (hzC:∀cc∈cC,∀c z,cc=rcase c z->Z c) (hLc:Ai c)
  (hTT:∀t,TT t->JO c r pre t) (bu2:∀w,K1 w->Bh r pre ty w KK 0) (hKq:∀w k,K w->K (w.setChan cq 0 #[] true k k false)) (hrq:r≠cq)
  (hkq:cC[kq]?=some (rcase cq zq)) (hoq:∀(m:Nat) cc,m≠kq->cC[m]?=some cc->cc.chan≠.chan (some cq))
  (aw0:∀g₂,home g₂->Gs P false K Still cC .select home 0 { parked g₂ cC .select with status:=.running })
  {a a':m_} (hwake:mayWake P a=true) (ha':a'.status=.running) (Bi:a.status=.running)
  (hclose:∀(w1:o_) k,K1 w1->w1.heap[cq]?=some (.chan 0 #[] false k k false)->∀d,stepG P true a (w1.at d)=.go a' ((w1.at d).setChan cq 0 #[] true k k false) (closeEvents cq))
  {n:Nat} {gs:Array m_} {w:o_} {sl:d_ (W_)} {q:Nat->Nat} (h0:gs[0]?=some a) (D:Duo P Ac Still (λg=>g=0\/g=c) Ai B 0 c (NT P (c==0) K K1 TT Still cC .select home) n gs w t q):
  AA P gs w sl t λA7 w' t'=>∃q' n' B',A7[0]?=some a'/\BZ Z w w'/\B<=B'/\Duo P Ac Still (λg=>g=0) Ai B' 0 c (Ce P c r pre ty o (lL P c r pre ty o K Still cC home kq cq zq kR) (λ_=>True) false) n' A7 w' t' q':=by
 have U:(c==0)=false:=by simpa using hc
 refine go_duo (Ko:=λg=>g=0) (Loose':=Ai) (VB L1 hK1 hT hzC (.inr rfl) hLc) h0 Bi D (λg W=>.inl W) λO F w1 Cj n1 b1 Y ho hB A d=>?_
 obtain⟨⟨T,XK⟩,s,Pv⟩:=hB;rw[U]at Pv;obtain⟨f,z',k,e',y⟩:=s _ (Array.mem_of_getElem? hkq);have:f=cq:=by simp[rcase]at e';exact e'.1.symm
 subst this;have N:Z f:=hzC _ (Array.mem_of_getElem? hkq) _ _ rfl;have V:f<O:=by have:=(y_.1 y).1;omega
 have FW:=Y8 (Ac:=Ac) (Still:=Still) hSo V;have S:=(A.own (fn:=a.frame.fn) (pos:=a.frame.place) FW).fewer (Ko:=λg=>g=0) λg W=>.inl W
 have Q:Meek Ac Still c (MemOp.ofEvents 0 a.frame.fn a.frame.place (closeEvents f)):=E8 (Ne.symm hc) FW;have j:∀x,x≠f->((w1.at d).setChan f 0 #[] true k k false).heap[x]?=w1.heap[x]?:=λx X=>by
  simp[World.setChan,World.at,z_ (Ne.symm X)]
 have l:((w1.at d).setChan f 0 #[] true k k false).heap[f]?=some (.chan 0 #[] true k k false):=by
  have:=(y_.1 y).1
  simp[World.setChan,World.at,this]
 have p:zS ((w1.at d).setChan f 0 #[] true k k false) cC kq f zq:=by
  refine⟨hkq,⟨k,l⟩,λm cc hm Es=>?_⟩
  obtain⟨c2,z2,k2,e2,h2⟩:=s cc (Array.mem_of_getElem? Es)
  refine⟨c2,z2,k2,e2,?_⟩
  rw[j c2 (λe=>hoq m cc hm Es (by rw[e2,e];rfl))]
  exact h2
 have J:Bh r pre ty ((w1.at d).setChan f 0 #[] true k k false) (if false=true then KK+1 else KK) 0:=by
  unfold Bh;rw[j r hrq];exact bu2 _ T
 have H:Deaf (Y++MemOp.ofEvents 0 a.frame.fn a.frame.place (closeEvents f)) c=0:=by
  rw[Deaf_other Y (g':=0) (Ne.symm hc) _ ofEvents_g];exact A.hears c (.inr rfl)
 have M:Q9 Still c (Y++MemOp.ofEvents 0 a.frame.fn a.frame.place (closeEvents f)):=by
  refine Q9.app (λi x X C hS=>A.wrote i x X C ⟨hS,hT.ss _ hS⟩ c (.inr rfl)) λop s b G E=>(((Q op s).2.1 b G).1 E).1
 have jC:K ((w1.at d).setChan f 0 #[] true k k false):=hKq _ _ (hK1 _ (L1.keep w1 (w1.at d) (λ_ _=>rfl) T));refine⟨a',(w1.at d).setChan f 0 #[] true k k false,closeEvents f,O,hclose w1 k T y d,w_ _,by rw[Jd];exact Cj,S,Ce P c r pre ty o (lL P c r pre ty o K Still cC home kq f zq kR) (λ_=>True) false,?_⟩;have I:=(hTT _ XK).calm (Ac:=KD r pre) (Still:=Still) (c:=c) (λ_ h=>h) (u:=MemOp.ofEvents 0 a.frame.fn a.frame.place (closeEvents f)) (λop s=>by
  refine⟨(Q op s).1,λb G=>?_,(Q op s).2.2⟩
  have h1:=((Q op s).2.1 b G).1
  obtain⟨e,he,rfl⟩:=Go.Conc.mem_ofEvents s
  simp only[closeEvents,List.mem_toArray,r_,List.not_mem_nil,or_false]at he
  obtain rfl|rfl:=he
  .obtain rfl:=x_ G;exact⟨λE=>⟨(h1 E).1,λC=>by obtain e|e:=C<;>cases e⟩,λ_=>by simp⟩
  .cases G)
 obtain⟨rfl,g₂,rfl,hh,hr⟩|⟨k2,rfl,E,C⟩:=Pv
 .refine⟨_,.inl ⟨0,rfl,I,jC,p,J,H,M,?_⟩,λA7 q' n' L v R DJ=>.now ⟨q',n',O,v,(ho.trans (Lu N w1 d k true)),F,R⟩⟩;have C:woken P a a' ((w1.at d).setChan f 0 #[] true k k false) (parked g₂ cC .select)={ parked g₂ cC .select with status:=.running }:=by
   unfold woken
   simp only[hwake,ha',Bool.true_and]
   rw[if_pos (by decide)]
   exact again_some_closed hkq l
  rw[C];exact⟨rfl,aw0 g₂ hh⟩
 .refine⟨_,.inl ⟨k2,rfl,I,jC,p,J,H,M,?_⟩,λA7 q' n' L v R DJ=>.now ⟨q',n',O,v,(ho.trans (Lu N w1 d k true)),F,R⟩⟩;rw[woken_run E];exact⟨E,C⟩
theorem wC {Z0:Nat->Prop} {X2:o_->Prop} (H:LQ P Z0 Ac Still Ai c r pre ty o Ph X) (O:NU P r pre ty o) (hZ0:Z0 r) (hW:∀l,KD r pre l->Ac l/\¬Still l) (hc:c≠0) (hSo:∀x,¬Still (.obj x)) (hzq:Z cq) (hqn:¬Z0 cq)
  {a a':m_} (Bi:a.status=.running) {k:Nat} (bu1:∀w,X2 w->w.heap[cq]?=some (.chan 0 #[] false k k false)) (hclose:∀(w1:o_),w1.heap[cq]?=some (.chan 0 #[] false k k false)->∀d,stepG P true a (w1.at d)=.go a' ((w1.at d).setChan cq 0 #[] true k k false) (closeEvents cq))
  {n:Nat} {gs:Array m_} {w:o_} {sl:d_ (W_)} {q:Nat->Nat} (h0:gs[0]?=some a)
  (OB:Gp P Z Ac Still (λB t=>PX Ac Still (λg=>g=0) Ai B 0 t) c (λn g w t=>Ce P c r pre ty o Ph X false n g w t/\X2 w))
  (D:Duo P Ac Still (λg=>g=0) Ai B 0 c (λn g w t=>Ce P c r pre ty o Ph X false n g w t/\X2 w) n gs w t q):
  AA P gs w sl t λA7 w' t'=>∃q' n' B',A7[0]?=some a'/\BZ Z w w'/\B<=B'/\Duo P Ac Still (λg=>g=0) Ai B' 0 c (Ce P c r pre ty o Ph X false) n' A7 w' t' q':=by
 refine go_duo (Ko:=λg=>g=0) (Loose':=Ai) OB h0 Bi D (λg K=>.inl K) λh j w1 E N y R L J p d=>?_
 obtain⟨b,G⟩:=J;have f:=bu1 _ G;have m:cq<h:=by have:=(y_.1 f).1;omega
 have u:=Y8 (Ac:=Ac) (Still:=Still) hSo m;have I:Meek Ac Still c (MemOp.ofEvents 0 a.frame.fn a.frame.place (closeEvents cq)):=E8 (Ne.symm hc) u;have v:=Oj (w0:=false) (Mem:=λg=>g=0) H O hZ0 hW hc (λe=>hc e);have z:I5 Z0 w1 ((w1.at d).setChan cq 0 #[] true k k false):=λx M=>by
  have C:cq≠x:=λe=>hqn (e ▸ M)
  simp[World.setChan,World.at,z_ C]
 refine⟨a',(w1.at d).setChan cq 0 #[] true k k false,closeEvents cq,h,hclose w1 f d,w_ _,by rw[Jd];exact E,p.own u,Ce P c r pre ty o Ph X false,N,?_,λA7 q' n' A i F Q=>.now ⟨q',n',h,i,(L.trans (Lu hzq w1 d k true)),j,F⟩⟩;have s:woken P a a' ((w1.at d).setChan cq 0 #[] true k k false) y=y:=woken_of_again (v.again b _ z);rw[s];exact v.calm _ _ b z I
end
def FH (P:l_) (c r:Nat) (pre:X_) (ty:j_) (X:o_->Prop) (sm:Int) (n:Nat) (g:m_) (w:o_) (t:Trace):Prop:=
 JO c r pre t/\∃m,QuitsD P n (Deaf t c) g/\(Bh r pre ty w 0 sm/\X w)/\NI c r pre m t
def ab5 (P:l_) (r:Nat) (pre:X_) (ty:j_) (J9 g:m_):Prop:=
 ∃k1 gE gE' k2 gQ gQ' k3,J5 P (Dj r pre ty) true k1 g gE/\gE.status=.running/\(∀w,stepG P true gE w=.go gE' w #[KL])/\J5 P (Dj r pre ty) true k2 gE' gQ/\gQ.status=.running/\(∀w,stepG P true gQ w=.go gQ' w #[Qn (stA r pre)])/\J5 P (Dj r pre ty) true k3 gQ' J9
def yZ (P:l_) (r:Nat) (pre:X_) (ty:j_) (J9 g:m_):Prop:=
 ∃k gL gL0,J5 P (Dj r pre ty) true k g gL/\gL.status=.running/\(∀w,w.cell? (stA r pre)=some (.int .u64 0)->stepG P true gL w=.go gL0 w #[⟨.cell (stA r pre),false,true⟩])/\ab5 P r pre ty J9 gL0
section
variable {P:l_} {Z:Nat->Prop} {Ac Still:Loc->Prop} {Mem Ai:Nat->Prop} {r:Nat} {pre:X_} {ty:j_} {c:Nat} {o:QJ} {w0:Bool} {sm:Int} {J9:m_} {X:o_->Prop} {Ob:Loc->Prop}
theorem qN {w w':o_} {st:Int} (hX:Uk Z r X) (hZ:Z r) (h:Bh r pre ty w st sm/\X w) (hk:I5 Z w w'):Bh r pre ty w' st sm/\X w':=⟨h.1.keep hZ hk,hX _ _ h.2 λx _ a=>hk x a⟩
theorem Sm (hX:Uk Z r X) (hZ:Z r) (hW:∀l,KD r pre l->Ac l/\¬Still l) (hc:c≠0) (hM:¬Mem c):Gp P Z Ac Still (λB t=>PX Ac Still Mem Ai B 0 t) c (FH P c r pre ty X sm) where
 status:=by
  rintro n g w t ⟨_,m,f,_⟩
  cases n with
  |zero=>exact .inr (.inr f.1)
  |succ n=>exact f.status.elim (λx=>.inl ⟨x,by omega⟩) λx=>.inr (.inr x)
 again:=by
  rintro n g w t ⟨_,m,f,_⟩ M _
  exact again_running _ f.status
 calm:=by
  rintro n g w t M u ⟨k,m,f,s,p⟩ J v
  have H:Deaf (t++u) c=Deaf t c:=Deaf_quiet λop A d=>by
   have y:=(v op A).1
   obtain⟨g,fn,pos,j⟩:=op
   simp only at y
   cases j with
   |mark L=>cases L<;>simp[deafStep,y]
   |_=>rfl
  exact⟨k.calm (λl K=>(hW l K).1) v,m,by rw[H];exact f,qN hX hZ s J,p.calm v⟩
 step:=by
  rintro n g w t B ⟨k,m,f,s,p⟩ h D G d
  have o:(c==0)=false:=by simpa using hc
  rw[o]
  cases n with
  |zero=>rw[f.1]at h;cases h
  |succ n=>
   obtain⟨I,_⟩|⟨_,F,E,a,C,q⟩:=f
   .rw[I]at h;cases h
   .refine .inl ⟨n,F,w.at d,E,by omega,C _,BZ.at w d,⟨B,w_ _,G,RZ D hM (λe i=>⟨touch_mute (a e i),low_mute (a e i) B⟩)⟩,EU k (λe i b z=>by rw[touch_mute (a e i)]at z;cases z),m,?_,qN hX hZ s (λ_ _=>rfl),Qu p (Ux a _)⟩;rw[Deaf_own];exact q
def Joined (P:l_) (Z:Nat->Prop) (Ac:Loc->Prop) (X:o_->Prop) (B:Nat) (J9:m_) (w:o_) (A7:Array m_) (w':o_) (t':Trace):Prop:=
 ∃(q':Nat->Nat) (B':Nat),A7[0]?=some J9/\BZ Z w w'/\B<=B'/\Leavers P t' A7 q'/\Past Ac B' t'/\w'.heap.size<=B'/\X w'
theorem Y3 (hS0:∀l,Ac l->¬Still l->Ob l) (hX:Uk Z r X) (hZ:Z r) (hW:∀l,KD r pre l->Ac l/\¬Still l) (hc:c≠0) {g:m_} (hF:ab5 P r pre ty J9 g) {n B:Nat} {gs:Array m_} {w:o_} {sl:d_ (W_)} {t:Trace} {q:Nat->Nat}
  (h0:gs[0]?=some g) (D:Duo P Ac Still (λ_=>False) (λg=>g=c) B 0 c (EJ 1 (FH P c r pre ty X 0)) n gs w t q):AA P gs w sl t (Joined P Z Ob X B J9 w):=by
 obtain⟨k1,N,U,k2,s,V,k3,s1,hE,S,s2,hQ,C,s3⟩:=hF;have R:∀δ n b w t,EJ δ (FH P c r pre ty X 0) n b w t->∀d,Dj r pre ty (w.at d):=λδ n b w t h d=>h.1.2.choose_spec.2.1.1.is d
 have z:∀δ L,Gp P Z Ac Still (λB t=>PX Ac Still (λ_=>False) L B 0 t) c (EJ δ (FH P c r pre ty X 0)):=λδ L=>Sr hc (Sm hX hZ hW hc id)
 refine(GM (R 1) (z 1 _) k1 s1 h0 D).bind λgs1 w1 Jg t1 hz1 ⟨q1,n1,B1,h1,o1,b1,D1⟩=>?_
 refine go_duo (Ko:=λ_=>False) (Loose':=λg=>g=c) (z 1 _) h1 hE D1 (λ_ o=>o.elim) λBp hBp w2 J n2 x2 t2 o2 u hp2 d=>?_
 have hd2:Deaf (t2++MemOp.ofEvents 0 N.frame.fn N.frame.place #[KL]) 0=0:=by rw[Deaf_own,u.2];rfl
 have Y:FH P c r pre ty X 0 n2 x2 (w2.at d) (t2++MemOp.ofEvents 0 N.frame.fn N.frame.place #[KL]):=by
  obtain⟨hN,m,hq,hr,hm⟩:=u.1
  refine⟨EU hN (λe f b E=>by simp at f;subst f;cases E),m,?_,qN hX hZ hr (λ_ _=>rfl),hm.app (λop p=>?_) (λk op b hk o _=>?_)⟩
  .rw[Deaf_other t2 (g':=0) (Ne.symm hc) _ ofEvents_g];exact hq
  .obtain⟨e,f,rfl⟩:=Go.Conc.mem_ofEvents p;simp at f;subst f;simp[KL,MemAct.ofEvent]
  .have:=ofEvents_g op (Array.mem_of_getElem? hk);omega
 refine⟨U,w2.at d,#[KL],Bp,S _,w_ _,J,hp2.appMute ofEvents_g (λop p=>by obtain⟨e,f,rfl⟩:=Go.Conc.mem_ofEvents p;simp at f;subst f;rfl) (λx=>x.elim) (λop p=>by obtain⟨e,f,rfl⟩:=Go.Conc.mem_ofEvents p;simp at f;subst f;trivial),
  EJ 0 (FH P c r pre ty X 0),n2,⟨?_,hd2⟩,λgs3 q3 n3 hz3 h3 D3 sl3=>?_⟩
 .have BI:=(Sm (P:=P) (Z:=Z) (Ac:=Ac) (Still:=Still) (Mem:=λ_=>False) (Ai:=λg=>g=c) (ty:=ty) (sm:=0) hX hZ hW hc id).again u.1 (w2.at d) (λ_ _=>rfl);rw[woken_of_again BI];exact Y
 refine(GM (R 0) (z 0 _) k2 s2 h3 D3).bind λgs4 w4 sl4 t4 hz4 ⟨q4,n4,B4,h4,o4,b4,D4⟩=>?_
 refine go_duo (Ko:=λ_=>False) (Loose':=λg=>g=c/\g≠c) (z 0 _) h4 hQ D4 (λ_ o=>o.elim) λQ hBq O K n5 x5 t5 o5 W ϳ M=>?_
 obtain⟨⟨A,m,H,v,j⟩,F⟩:=W;have hrB:(stA r pre).block<Q:=by have:=v.1.lt;show r<Q;omega
 have G:MemOp.ofEvents 0 s.frame.fn s.frame.place #[Qn (stA r pre)]=#[{ g:=0,fn:=s.frame.fn,pos:=s.frame.place,act:=.mark (.acquire (stA r pre)) }]:=by
  rw[ofEvents_eq];simp[Qn,MemAct.ofEvent]
 obtain⟨op,p,hog,hoa⟩:=j.at_;have hpx:=ϳ.acquire (a:=stA r pre) F p hog hoa j.heard (λi b hi hgi _ _ _=>by
  obtain Bv|hge:=Nat.lt_or_ge i m
  .exact .inl Bv
  .obtain⟨x1,x2,x3⟩:=j.after i b hge hi hgi;exact .inr ⟨(hW _ x1).1,⟨x2,(hW _ x1).2⟩,x3⟩) j.norel s.frame.fn s.frame.place hrB
 have T:FH P c r pre ty X 0 n5 x5 (O.at M) (t5++MemOp.ofEvents 0 s.frame.fn s.frame.place #[Qn (stA r pre)]):=by
  refine⟨EU A (λe f b E=>by simp at f;subst f;cases E),m,?_,qN hX hZ v (λ_ _=>rfl),j.app (λop p=>?_) (λk op b hk o _=>?_)⟩
  .rw[Deaf_other t5 (g':=0) (Ne.symm hc) _ ofEvents_g];exact H
  .obtain⟨e,f,rfl⟩:=Go.Conc.mem_ofEvents p;simp at f;subst f;simp[Qn,MemAct.ofEvent]
  .have:=ofEvents_g op (Array.mem_of_getElem? hk);omega
 have I:=(Sm (P:=P) (Z:=Z) (Ac:=Ac) (Still:=Still) (Mem:=λ_=>False) (Ai:=λg=>g=c) (ty:=ty) (sm:=0) hX hZ hW hc id).again ⟨A,m,H,v,j⟩ (O.at M) (λ_ _=>rfl);refine⟨V,O.at M,#[Qn (stA r pre)],Q,C _,w_ _,K,by rw[G];exact hpx,EJ 0 (FH P c r pre ty X 0),n5,⟨by rw[woken_of_again I];exact T,by rw[Deaf_own,F];rfl⟩,λgs6 q6 n6 hz6 h6 D6 sl6=>?_⟩;refine(GM (R 0) (z 0 _) k3 s3 h6 D6).mono λgs7 w7 t7 ⟨q7,n7,B7,h7,o7,b7,y⟩=>?_
 obtain⟨b,E,⟨hN7,m7,hq7,hr7,hm7⟩,hd7⟩:=y.idle;refine⟨upd q7 c n7,B7,h7,o1.trans (o2.trans ((BZ.at w2 d).trans (o4.trans (o5.trans ((BZ.at O M).trans o7))))),by omega,⟨λi g hi o=>?_,y.above⟩,y.tr.toPast hd7 (λg o=>o.2 o.1) hS0,y.size,hr7.2⟩;by_cases e:i=c
 .subst e;rw[E]at o;obtain rfl:=x_ o;rw[upd_same];exact hq7
 .rw[upd_ne q7 n7 e];exact y.F6 i g (by omega) e o
theorem Tf {B:Nat} (hW:∀l,KD r pre l->Ac l/\¬Still l) (hr:r<B) {a:f_} (ha:KD r pre (.cell a)) (hb:a.block=r) (wr:Bool):Yr Ac Still B ⟨.cell a,wr,true⟩:=by
 refine⟨λx c=>?_,by simp,by simp,?_,by simp⟩
 .obtain rfl:=x_ c;exact⟨λb=>((hW _ ha).2 b).elim,λ_=>by simp⟩
 .show a.block<B;omega
theorem Xj (hS0:∀l,Ac l->¬Still l->Ob l) (hX:Uk Z r X) (hZ:Z r) (hW:∀l,KD r pre l->Ac l/\¬Still l) (hc:c≠0) {g:m_} (hF:yZ P r pre ty J9 g) {n B:Nat} {gs:Array m_} {w:o_} {sl:d_ (W_)} {t:Trace} {q:Nat->Nat}
  (h0:gs[0]?=some g) (D:Duo P Ac Still (λ_=>False) (λg=>g=c) B 0 c (EJ 1 (FH P c r pre ty X 0)) n gs w t q):AA P gs w sl t (Joined P Z Ob X B J9 w):=by
 obtain⟨k,gL,p,W,K,f,s⟩:=hF;have E:∀δ n b w t,EJ δ (FH P c r pre ty X 0) n b w t->∀d,Dj r pre ty (w.at d):=λδ n b w t h d=>h.1.2.choose_spec.2.1.1.is d
 have m:∀δ,Gp P Z Ac Still (λB t=>PX Ac Still (λ_=>False) (λg=>g=c) B 0 t) c (EJ δ (FH P c r pre ty X 0)):=λδ=>Sr hc (Sm hX hZ hW hc id)
 refine(GM (E 1) (m 1) k W h0 D).bind λF w1 Jg t1 M ⟨q1,n1,B1,H,T,b1,A⟩=>?_
 refine go_duo (Ko:=λ_=>False) (Loose':=λg=>g=c) (m 1) H K A (λ_ L=>L.elim) λo J w2 j S x2 t2 U a u d=>?_
 have i:Bh r pre ty w2 0 0:=a.1.2.choose_spec.2.1.1;have v:r<o:=by have:=i.lt;omega
 have x:∀e∈#[(⟨.cell (stA r pre),false,true⟩:Event)],Yr Ac Still o e:=by
  intro e y
  simp at y;subst y
  exact Tf hW v (.inl rfl) rfl false
 refine⟨p,w2.at d,_,o,f _ (i.keep hZ (λ_ _=>rfl)).cellSt,w_ _,j,u.own x,EJ 1 (FH P c r pre ty X 0),S,?_,λG q3 n3 N I C Y=>?_⟩
 .rw[woken_of_again ((m 1).again a (w2.at d) (λ_ _=>rfl))];exact(m 1).calm (w2.at d) _ a (λ_ _=>rfl) (E8 (Ne.symm hc) x)
 .refine(Y3 hS0 hX hZ hW hc s I C).mono λA7 w' t' ⟨V,z,O,Q,j3,R⟩=>⟨V,z,O,T.trans (U.trans ((BZ.at w2 d).trans Q)),by omega,R⟩
end
end Go.Fxa
namespace Go.Fxa
open Go.Conc
open Go.ConcN (sumTo upd sumTo_upd upd_ne upd_same)
set_option maxRecDepth 1000000
set_option maxHeartbeats 0
def V7 (a:f_):Event:=⟨.mark (.write a),false,true⟩
section
variable {P:l_} {Z:Nat->Prop} {Ac Still:Loc->Prop} {Mem Ai:Nat->Prop} {r:Nat} {pre:X_} {ty:j_} {c:Nat} {o:QJ} {Ph:Bool->Nat->m_->o_->Trace->Prop} {X:o_->Prop}
theorem Yf {g:m_} (h:g.status≠.blocked\/g.offers=none) (x:Nat) (b:Bool):offersAt g x b=[]:=by
 obtain h|h:=h
 .exact offersAt_of_not_blocked h _ _
 .unfold offersAt;rw[h];cases g.status<;>rfl
theorem MO {gs:Array m_} {i x:Nat} {send:Bool} (hb:∀k g,k≠i->gs[k]?=some g->g.status≠.blocked\/g.offers=none):partners (gs.setIfInBounds i ph) x send=[]:=by
 refine partners_nil λk g c=>?_
 obtain⟨rfl,rfl⟩|⟨b,a⟩:=getElem?_stand gs i k g c
 .exact offersAt_ph _ _
 .exact Yf (hb k g b a) _ _
theorem SQ {g g':m_} {k:Nat} (h:J5 P (Dj r pre ty) false (k+1) g g') {w:o_} (hJ:Dj r pre ty w):∃g1,stepG P false g w=.go g1 w #[]:=by
 obtain⟨_,g1,a,_⟩:=h;exact⟨g1,a w hJ⟩
theorem uV (H:LQ P Z Ac Still Ai c r pre ty o Ph X) (O:NU P r pre ty o) (hZ:Z r) {n:Nat} {g g':m_} {w w':o_} {t:Trace} {d:Nat} {es:Array Event} {st st':Int} (h:Ce P c r pre ty o Ph X true n g w t)
  (h0:Bh r pre ty w st 0) (hs:stepG P false g (w.at d)=.go g' w' es) (h1:Bh r pre ty w' st' 1):mayWake P g=true/\g'.status=.running:=by
 have p:I5 Z w (w.at d):=λ_ _=>rfl
 have b:∀{q:Array Event} {j:m_},stepG P false g (w.at d)=.go j (w.at d) q->False:=by
  intro q j u
  rw[u]at hs
  injection hs with _ v _
  subst v
  exact absurd ((h0.keep hZ p).eq h1).2 (by decide)
 have s:∀{q:Array Event} {j:m_} {x:Int},stepG P false g (w.at d)=.go j ((w.at d).setCell (stA r pre) (.int .u64 x)) q->False:=by
  intro q j x u
  rw[u]at hs
  injection hs with _ v _
  subst v
  exact absurd (((h0.keep hZ p).setSt x).eq h1).2 (by decide)
 obtain h|⟨⟨_,⟨k,rfl,a,i,_⟩|⟨m,k,rfl,a,i,_,_⟩|⟨m,k,rfl,a,i,_,_⟩|⟨v,_⟩|⟨_,m,k,rfl,a,i,_,_⟩|⟨_,m,k,rfl,a,i,_,_⟩|⟨_,m,_,i,_⟩⟩,_⟩:=h
 .exact(H.low h hs h1).elim
 .cases k with
  |zero=>obtain rfl:g=o.gR:=a;exact(b (O.rel _)).elim
  |succ k=>obtain⟨j,e⟩:=SQ a (i.is d);exact(b e).elim
 .cases k with
  |zero=>obtain rfl:g=o.gD:=a;exact(b (O.XG _)).elim
  |succ k=>obtain⟨j,e⟩:=SQ a (i.is d);exact(b e).elim
 .cases k with
  |zero=>
   obtain rfl:g=o.gA:=a
   have f:=i.keep hZ p
   simp only[if_true]at f
   exact(s (O.add1 _ f.cellSt f.Pz)).elim
  |succ k=>obtain⟨j,e⟩:=SQ a (i.is d);exact(b e).elim
 .cases v
 .cases k with
  |zero=>
   obtain rfl:g=o.gS:=a
   have f:=i.keep hZ p
   exact(s (O.sto _ f.cellSt f.Pz)).elim
  |succ k=>obtain⟨_,j,l,_,e,_⟩:=a;exact(b (e _ (i.keep hZ p))).elim
 .cases k with
  |zero=>
   obtain rfl:g=o.gP:=a
   have f:=i.keep hZ p
   have u:=O.sem _ f.cellSm f.kC
   rw[u]at hs
   injection hs with y _ _
   subst y
   exact O.wake
  |succ k=>obtain⟨j,e⟩:=SQ a (i.is d);exact(b e).elim
 .exact absurd (h0.eq i).2 (by decide)
theorem pK (H:LQ P Z Ac Still Ai c r pre ty o Ph X) (O:NU P r pre ty o) {n:Nat} {g:m_} {w:o_} {t:Trace} {st:Int} (h:Ce P c r pre ty o Ph X true n g w t) (h0:Bh r pre ty w st 0):g.status=.running:=by
 obtain h|⟨⟨_,⟨k,rfl,a,_⟩|⟨m,k,rfl,a,_⟩|⟨m,k,rfl,a,_⟩|⟨d,_⟩|⟨_,m,k,rfl,a,_⟩|⟨_,m,k,rfl,a,_⟩|⟨_,m,_,b,_⟩⟩,_⟩:=h
 .exact(H.status h).1
 .exact a.status O.runs.1
 .exact a.status O.runs.2.1
 .exact a.status O.runs.2.2.1
 .cases d
 .exact a.status O.runs.2.2.2.1
 .exact a.status O.runs.2.2.2.2
 .exact absurd (h0.eq b).2 (by decide)
theorem ZH (H:LQ P Z Ac Still Ai c r pre ty o Ph X) {n:Nat} {g:m_} {w:o_} {t:Trace} (h:Ce P c r pre ty o Ph X true n g w t):(∃st,Bh r pre ty w st 0)\/FH P c r pre ty X 1 n g w t:=by
 obtain h|⟨⟨d,⟨k,rfl,b,a,_⟩|⟨m,k,rfl,b,a,_⟩|⟨m,k,rfl,b,a,_⟩|⟨j,_⟩|⟨_,m,k,rfl,b,a,_⟩|⟨_,m,k,rfl,b,a,_⟩|⟨_,m,i,a,f⟩⟩,e⟩:=h
 .exact .inl ⟨_,H.run h⟩
 .exact .inl ⟨_,a⟩
 .exact .inl ⟨_,a⟩
 .exact .inl ⟨_,a⟩
 .cases j
 .exact .inl ⟨_,a⟩
 .exact .inl ⟨_,a⟩
 .exact .inr ⟨d,m,i,⟨a,e⟩,f⟩
theorem ac2 {B:Nat} (hW:∀l,KD r pre l->Ac l/\¬Still l) (hr:r<B) {t:Trace} (H:PX Ac Still (λ_=>False) Ai B 0 t) (fn:h_) (pos:String):PX Ac Still (λ_=>False) Ai B 0 (t++MemOp.ofEvents 0 fn pos (semEvents (smA r pre))):=by
 refine H.appH ofEvents_g (λop d b c=>?_) (λx=>x.elim) (λop d=>?_)
 .obtain⟨e,a,rfl⟩:=Go.Conc.mem_ofEvents d;simp only[semEvents,List.mem_toArray,r_,List.not_mem_nil,or_false]at a;obtain rfl|rfl|rfl|rfl:=a
  .cases c
  .obtain rfl:=x_ c;exact⟨λf=>((hW _ (.inr rfl)).2 f).elim,λ_=>by simp⟩
  .obtain rfl:=x_ c;exact⟨λf=>((hW _ (.inr rfl)).2 f).elim,λ_=>by simp⟩
  .cases c
 .obtain⟨e,a,rfl⟩:=Go.Conc.mem_ofEvents d;simp only[semEvents,List.mem_toArray,r_,List.not_mem_nil,or_false]at a;obtain rfl|rfl|rfl|rfl:=a
  .trivial
  .exact hr
  .exact hr
  .trivial
theorem Λ (HP:LQ P Z Ac Still (fun g=>g=c) c r pre ty o Ph X) (O:NU P r pre ty o) (hZ:Z r) (hW:∀l,KD r pre l->Ac l/\¬Still l) (hc:c≠0) (OC:Gp P Z Ac Still (fun B t=>PX Ac Still (fun _=>False) (fun g=>g=c) B 0 t) c (Ce P c r pre ty o Ph X true))
  {fr:Frame} {cs:Z_} {ϰ:m_} (hhit:∀w,w.cell? (smA r pre)=some (.int .u32 1)->w.frozen? (smA r pre)=false->stepG P true (G fr cs) w=.go ϰ (w.setCell (smA r pre) (.int .u32 0)) (semEvents (smA r pre)))
  (hmiss:∀w,w.cell? (smA r pre)=some (.int .u32 0)->stepG P true (G fr cs) w=.go { G fr cs with status:=.blocked } w #[]):
  ∀(M n:Nat) (gs:Array m_) (a:m_) (w:o_) (sl:d_ (W_)) (t:Trace) (q:Nat->Nat) (B:Nat),2*(n+sumTo gs.size q)+(if a.status=.running then 1 else 0)<M->gs[0]?=some a->(a=G fr cs\/(a={ G fr cs with status:=.blocked }/\∃st,Bh r pre ty w st 0))->
   Duo P Ac Still (λ_=>False) (λg=>g=c) B 0 c (EJ 1 (Ce P c r pre ty o Ph X true)) n gs w t q->
   AA P gs w sl t λA7 w' t'=>∃q' n' B',B<=B'/\A7[0]?=some ϰ/\BZ Z w w'/\Duo P Ac Still (λ_=>False) (λg=>g=c) B' 0 c (EJ 1 (FH P c r pre ty X 0)) n' A7 w' t' q':=by
 have OD:=Sr (δ:=1) hc OC;intro M
 induction M with
 |zero=>intro n gs a w sl t q B hX;omega
 |succ M ih=>
  intro n gs a w sl t q B hX W ha D
  obtain⟨b,hb,Y⟩:=D.idle
  have hcl:c<gs.size:=(y_.1 hb).1
  have h0l:0<gs.size:=(y_.1 W).1
  have bu0:a.status=.running\/a.status=.blocked:=by obtain rfl|⟨rfl,_⟩:=ha<;>simp[G]
  have bk6:a.offers=none:=by obtain rfl|⟨rfl,_⟩:=ha<;>rfl
  have haw:∀g∈gs,awake g:=by
   intro g hg
   obtain⟨i,H,rfl⟩:=Array.mem_iff_getElem.1 hg
   have Hl:=v_ H
   by_cases e1:i=0
   .subst e1;rw[W]at Hl;rw[<-x_ Hl];exact awake_of (bu0.imp id .inl)
   .by_cases e2:i=c
    .subst e2;rw[hb]at Hl;rw[<-x_ Hl];exact awake_of ((OD.status Y).elim (λx=>.inl x.1) .inr)
    .exact awake_of ((D.F6 i _ e1 e2 Hl).status.elim .inl λx=>.inr (.inr x))
  have hsome:∃(i:Nat) (g:m_),gs[i]?=some g/\g.status=.running:=by
   obtain rfl|⟨rfl,st,A⟩:=ha
   .exact⟨0,_,W,rfl⟩
   .exact⟨c,b,hb,pK HP O Y.1 A⟩
  obtain⟨i,g,d,K,H,hg,BI⟩:=crowd_pick (P:=P) (w:=w) (sl:=sl) haw hsome;have Bv:i<gs.size:=(y_.1 H).1;have R:I5 Z w (w.at d):=λ_ _=>rfl
  by_cases e1:i=0
  ·
   subst e1;obtain rfl:g=a:=(by rw[W]at H;exact(x_ H).symm);obtain rfl:g=G fr cs:=by
    obtain h|⟨rfl,_⟩:=ha
    .exact h
    .cases hg
   obtain⟨st,A⟩|v:=ZH HP Y.1
   ·
    have J:=runT_crowd_go (P:=P) (sl:=K) (i:=0) H (show stepG P (0==0) (G fr cs) (w.at d)=_ from hmiss _ (A.keep hZ R).cellSm);have hnw:∀x,woken P (G fr cs) { G fr cs with status:=.blocked } (w.at d) x=x:=λx=>by unfold woken;simp
    have hmap:(gs.map (woken P (G fr cs) { G fr cs with status:=.blocked } (w.at d)))=gs:=by
     have:woken P (G fr cs) { G fr cs with status:=.blocked } (w.at d)=id:=funext hnw
     rw[this];simp
    rw[hmap]at J;have E:(gs.setIfInBounds 0 { G fr cs with status:=.blocked }).size=gs.size:=(by simp);obtain⟨N,A7,w',U,t',S,T,q',n',B',jB,j1,j2,j3⟩:=ih n (gs.setIfInBounds 0 { G fr cs with status:=.blocked }) { G fr cs with status:=.blocked } (w.at d) K t q B (by rw[E];simp[G]at hX ⊢;omega) (by simp[h0l]) (.inr ⟨rfl,st,A.keep hZ R⟩)
     ⟨D.ne,D.zero,D.mem,⟨b,by rw[z_ (Ne.symm hc)];exact hb,by have:=OD.calm (w.at d) #[] Y R (λop p=>by simp at p);simpa using this⟩,λx y F u f=>by
      rw[z_ (Ne.symm F)]at f
      exact D.F6 x y F u f,λx f=>D.above x (by simpa using f),D.tr,D.size⟩;refine⟨N+1,A7,w',U,t',?_,T.trans E,q',n',B',jB,j1,(BZ.at w d).trans j2,j3⟩;simp only[runNT,BI,J];rw[DC];exact S
   ·
    obtain⟨hN,m,Q,⟨A,hXw⟩,hm⟩:=v;have hrd:=A.keep hZ R;have J:=runT_crowd_go (P:=P) (sl:=K) (i:=0) H (show stepG P (0==0) (G fr cs) (w.at d)=_ from hhit _ hrd.cellSm hrd.kC);have hbw:woken P (G fr cs) ϰ ((w.at d).setCell (smA r pre) (.int .u32 0)) b=b:=woken_of_again (again_running _ Q.status);have hlow:r<B:=(by have:=A.lt;have:=D.size;omega);have L:=Oh (w:=w) (a:=smA r pre) hZ (.int .u32 0) d;refine⟨1,(gs.map (woken P (G fr cs) ϰ ((w.at d).setCell (smA r pre) (.int .u32 0)))).setIfInBounds 0 ϰ,(w.at d).setCell (smA r pre) (.int .u32 0),K,t++MemOp.ofEvents 0 (G fr cs).frame.fn (G fr cs).frame.place (semEvents (smA r pre)),by simp only[runNT,BI,J],by simp,q,n,B,w_ _,by simp[h0l],L,⟨D.ne,D.zero,D.mem,⟨b,by rw[z_ (Ne.symm hc),Array.getElem?_map,hb];simp[hbw],?_,?_⟩,λx y F u f=>?_,λx f=>?_,ac2 hW hlow D.tr _ _,by rw[G7];exact D.size⟩⟩
    .refine⟨hN.app λop p x f hw=>?_,m,?_,⟨hrd.setSm 0,HP.keep _ _ hXw λx f _=>?_⟩,hm.app (λop p=>?_) (λk op x hk hg' _=>?_)⟩
     .obtain⟨e,he,rfl⟩:=Go.Conc.mem_ofEvents p;simp only[semEvents,List.mem_toArray,r_,List.not_mem_nil,or_false]at he;obtain rfl|rfl|rfl|rfl:=he
      .cases f
      .obtain rfl:=x_ f;simp
      .obtain rfl:=x_ f;simp
      .cases f
     .rw[Deaf_other t (g':=0) (Ne.symm hc) _ ofEvents_g];exact Q
     .simp[World.setCell,World.at,smA,Array.getElem?_modify,Ne.symm f]
     .obtain⟨e,he,rfl⟩:=Go.Conc.mem_ofEvents p;simp only[semEvents,List.mem_toArray,r_,List.not_mem_nil,or_false]at he;obtain rfl|rfl|rfl|rfl:=he<;>simp[MemAct.ofEvent]
     .have:=ofEvents_g op (Array.mem_of_getElem? hk);omega
    .rw[Deaf_own,Y.2];rfl
    .rw[z_ (Ne.symm F),Array.getElem?_map]at f;obtain⟨z,hz,rfl⟩:=Option.map_eq_some_iff.1 f;have hqx:=D.F6 x z F u hz;rw[woken_quitsD hqx,Deaf_other t (g':=0) (Ne.symm F) _ ofEvents_g];exact hqx
    .rw[Deaf_other t (g':=0) (by simp at f;omega) _ ofEvents_g];exact D.above x (by simpa using f)
  ·
   have wok:∀(x x':m_) (w':o_),woken P x x' w' a=a\/woken P x x' w' a=G fr cs:=by
    intro x x' w'
    obtain rfl|⟨rfl,_⟩:=ha
    .exact .inl (woken_run rfl)
    .unfold woken;split
     .right;rfl
     .left;rfl
   have bz8:(if a.status=.running then 1 else 0)<=1:=by split<;>omega
   have zG:∀x:m_,(if x.status=.running then 1 else 0)<=1:=λx=>by split<;>omega
   by_cases e2:i=c
   .subst e2;obtain rfl:g=b:=(by rw[hb]at H;exact(x_ H).symm);have ug:∀k y,k≠i->gs[k]?=some y->y.status≠.blocked\/y.offers=none:=by
     intro k y hk hy
     by_cases e3:k=0
     .subst e3;rw[W]at hy;rw[<-x_ hy];exact .inr bk6
     .have:=(D.F6 k y e3 hk hy).status;obtain h1|h1:=this<;>exact .inl (by rw[h1];simp)
    have hi0:(i==0)=false:=(by simpa using hc);obtain⟨n',g',w',V,hn,hgo,L,⟨Bu,hBu,hsu,IU⟩,I⟩|⟨n',j,cases,shape,V,hn,Ip,p,IU,I⟩|⟨n',j,cases,shape,V,k,cx,z,cap,s,rr,tm,hn,Ip,hk,hcl',p,IU,I⟩:=OD.step Y hg D.tr D.size d
    .have J:=runT_crowd_go (P:=P) (sl:=K) (i:=i) H hgo;have E:((gs.map (woken P g g' w')).setIfInBounds i g').size=gs.size:=(by simp);obtain⟨N,A7,KY,U,t',S,T,q',C,B',jB,j1,j2,j3⟩:=ih n' ((gs.map (woken P g g' w')).setIfInBounds i g') (woken P g g' w' a) w' K (t++MemOp.ofEvents i g.frame.fn g.frame.place V) q Bu (by rw[E];have:=zG (woken P g g' w' a);omega)
      (by rw[z_ hc,Array.getElem?_map,W];rfl) (by
       obtain rfl|⟨rfl,st,A⟩:=ha
       .exact .inl (woken_run rfl)
       .obtain hr0|v:=ZH HP I.1
        .obtain e|e:=wok g g' w'
         .exact .inr ⟨e,hr0⟩
         .exact .inl e
        .obtain⟨_,m,_,⟨He,_⟩,_⟩:=v;rw[hi0]at hgo;obtain⟨hwk,hgr⟩:=uV HP O hZ Y.1 A hgo He;refine .inl ?_;unfold woken;simp only[hwk,hgr,Bool.true_and];rw[if_pos (by decide)]
         rfl)
      ⟨D.ne,D.zero,D.mem,⟨g',by simp[Bv],I⟩,λx y F u f=>by
       rw[z_ (Ne.symm u),Array.getElem?_map]at f
       obtain⟨z,hz,rfl⟩:=Option.map_eq_some_iff.1 f
       have Q:=D.F6 x z F u hz
       rw[woken_quitsD Q,Deaf_other t (Ne.symm u) _ ofEvents_g];exact Q,λx f=>by
       rw[Deaf_other t (g':=i) (by simp at f;omega) _ ofEvents_g];exact D.above x (by simpa using f),IU,hsu⟩
     exact⟨N+1,A7,KY,U,t',by simp only[runNT,BI,J];exact S,T.trans E,q',C,B',Nat.le_trans hBu jB,j1,L.trans j2,j3⟩
    .have J:=crowd_waits (P:=P) (sl:=K) (i:=i) H Ip (λcc Es=>by
      obtain⟨c',z,k,rfl,hc'⟩:=p cc Es
      exact ways_recv_none (show(w.at d).heap[c']?=_ from hc') (MO ug));have E:(gs.setIfInBounds i (parked j cases shape)).size=gs.size:=(by simp);obtain⟨N,A7,KY,U,t',S,T,q',C,B',jB,j1,j2,j3⟩:=ih n' (gs.setIfInBounds i (parked j cases shape)) a (w.at d) K (t++MemOp.ofEvents i g.frame.fn g.frame.place V) q B (by rw[E];omega)
      (by rw[z_ hc];exact W) (ha.imp id λ⟨e,st,A⟩=>⟨e,st,A.keep hZ R⟩)
      ⟨D.ne,D.zero,D.mem,⟨_,by simp[Bv],I⟩,λx y F u f=>by
       rw[z_ (Ne.symm u)]at f
       rw[Deaf_other t (Ne.symm u) _ ofEvents_g];exact D.F6 x y F u f,λx f=>by
       rw[Deaf_other t (g':=i) (by simp at f;omega) _ ofEvents_g];exact D.above x (by simpa using f),IU,D.size⟩;exact⟨N+1,A7,KY,U,t',by simp only[runNT,BI,J];exact S,T.trans E,q',C,B',jB,j1,(BZ.at w d).trans j2,j3⟩
    .have J:=crowd_sel_recv_closed (P:=P) (sl:=K) (i:=i) H Ip hk (λm cc hm Es=>by
      obtain⟨c',z',k',rfl,hc'⟩:=p m cc hm Es
      exact ways_recv_none (show(w.at d).heap[c']?=_ from hc') (MO ug)) (show(w.at d).heap[cx]?=_ from hcl') (MO ug);have E:(gs.setIfInBounds i (Conc.served j (commResult cases shape k z false))).size=gs.size:=(by simp);have hg1:∀op∈MemOp.ofEvents i g.frame.fn g.frame.place V++#[{ g:=i,fn:=j.frame.fn,pos:=j.frame.place,act:=.recvClosed cx }],op.g=i:=by
      intro op p
      obtain p|p:=Array.mem_append.1 p
      .exact ofEvents_g op p
      .simp at p;subst p;rfl
     obtain⟨N,A7,KY,U,t',S,T,q',C,B',jB,j1,j2,j3⟩:=ih n' (gs.setIfInBounds i (Conc.served j (commResult cases shape k z false))) a (w.at d) K (t++(MemOp.ofEvents i g.frame.fn g.frame.place V++#[{ g:=i,fn:=j.frame.fn,pos:=j.frame.place,act:=.recvClosed cx }])) q B (by rw[E];omega)
      (by rw[z_ hc];exact W) (ha.imp id λ⟨e,st,A⟩=>⟨e,st,A.keep hZ R⟩)
      ⟨D.ne,D.zero,D.mem,⟨_,by simp[Bv],I⟩,λx y F u f=>by
       rw[z_ (Ne.symm u)]at f
       rw[Deaf_other t (Ne.symm u) _ hg1];exact D.F6 x y F u f,λx f=>by
       rw[Deaf_other t (g':=i) (by simp at f;omega) _ hg1];exact D.above x (by simpa using f),IU,D.size⟩;exact⟨N+1,A7,KY,U,t',by simp only[runNT,BI,J];exact S,T.trans E,q',C,B',jB,j1,(BZ.at w d).trans j2,j3⟩
   .have Q:=D.F6 i g e1 e2 H;have hi0:(i==0)=false:=(by simp;omega);cases hqi:q i with
    |zero=>rw[hqi]at Q;rw[Q.1]at hg;cases hg
    |succ k=>
     rw[hqi]at Q
     obtain⟨hf,_⟩|⟨_,g',V,hm,hstp,hq'⟩:=Q
     .rw[hf]at hg;cases hg
     have J:=runT_crowd_go (P:=P) (sl:=K) (i:=i) H (by rw[hi0];exact hstp (w.at d));have E:((gs.map (woken P g g' (w.at d))).setIfInBounds i g').size=gs.size:=(by simp);have hsum:sumTo gs.size (upd q i k)+(k+1)=sumTo gs.size q+k:=by
      have:=sumTo_upd q k id Bv
      simpa [hqi]using this
     have hmute:∀op∈MemOp.ofEvents i g.frame.fn g.frame.place V,op.act.touch?=none:=λop p=>by obtain⟨e,he,rfl⟩:=Go.Conc.mem_ofEvents p;exact touch_mute (hm e he)
     obtain⟨N,A7,KY,U,t',S,T,q',C,B',jB,j1,j2,j3⟩:=ih n ((gs.map (woken P g g' (w.at d))).setIfInBounds i g') (woken P g g' (w.at d) a) (w.at d) K (t++MemOp.ofEvents i g.frame.fn g.frame.place V) (upd q i k) B (by rw[E];have:=zG (woken P g g' (w.at d) a);omega)
      (by rw[z_ e1,Array.getElem?_map,W];rfl) (by
       obtain rfl|⟨rfl,st,A⟩:=ha
       .exact .inl (woken_run rfl)
       .obtain e|e:=wok g g' (w.at d)
        .exact .inr ⟨e,st,A.keep hZ R⟩
        .exact .inl e)
      ⟨D.ne,D.zero,D.mem,⟨b,by
       rw[z_ e2,Array.getElem?_map,hb]
       simp only[Option.map_some,Option.some.injEq]
       exact woken_of_again (OD.again Y (w.at d) R),OD.calm (w.at d) _ Y R (Oq e2 e1 hm)⟩,λx y F u f=>by
       by_cases e3:i=x
       .subst e3;rw[Array.getElem?_setIfInBounds_self_of_lt (by simpa using Bv)]at f;obtain rfl:=x_ f;rw[upd_same,Deaf_own];exact hq'
       .rw[z_ e3,Array.getElem?_map]at f;obtain⟨z,hz,rfl⟩:=Option.map_eq_some_iff.1 f;have hqj:=D.F6 x z F u hz;rw[woken_quitsD hqj,upd_ne q k (Ne.symm e3),Deaf_other t e3 _ ofEvents_g];exact hqj,λx f=>by
       rw[Deaf_other t (g':=i) (by simp at f;omega) _ ofEvents_g];exact D.above x (by simpa using f),D.tr.appMute ofEvents_g hmute (λx=>x.elim) (λop p=>by obtain⟨e,he,rfl⟩:=Go.Conc.mem_ofEvents p;exact low_mute (hm e he) B),D.size⟩
     exact⟨N+1,A7,KY,U,t',by simp only[runNT,BI,J];exact S,T.trans E,q',C,B',jB,j1,(BZ.at w d).trans j2,j3⟩
end
end Go.Fxa
