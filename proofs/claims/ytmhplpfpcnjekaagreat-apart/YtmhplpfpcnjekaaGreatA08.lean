/- The close of 'quit'; and the g -/
import Derived.Test.YtmhplpfpcnjekaaGreatA07
namespace Go.Fxa
open Go.Conc
open Go.ConcN (sumTo upd sumTo_upd upd_ne upd_same)
section
variable {P:Program} {Z:Nat->Prop} {Ac Still:Loc->Prop} {Mem Ak:Nat->Prop} {r:Nat} {pre:X_} {ty:TypeId} {c B:Nat} {t:Trace} {o:NR} {w0:Bool} {X:World->Prop} {Ph:Bool->Nat->Goroutine->World->Trace->Prop} {K K1:World->Prop} {TT:Trace->Prop} {cC:Array CommCase} {home:Goroutine->Prop} {kq cq kR:Nat} {zq:Value}
theorem Vg (hSo:∀x,¬Still (.obj x)) (hc:cq<B):∀e∈closeEvents cq,Ux Ac Still B e:=by
 intro e he;simp only[closeEvents,List.mem_toArray,List.mem_cons,List.not_mem_nil,or_false]at he;rcases he with rfl|rfl
 ·refine⟨fun x hx=>?_,by simp,by simp,hc,by simp⟩;obtain rfl:=Option.some.inj hx;exact⟨fun hs=>(hSo _ hs).elim,fun _=>by simp⟩
 ·exact⟨fun x hx=>(by cases hx),by simp,by simp,hc,by simp⟩
theorem GY {w:World} {d x k:Nat} {cl:Bool}:((w.at d).setChan x 0 #[] cl k k false).heap.size=w.heap.size:=by simp[World.setChan,World.at]
theorem Jr (hz:Z cq) (w:World) (d k:Nat) (cl:Bool):BO Z w ((w.at d).setChan cq 0 #[] cl k k false):=by
 refine⟨by simp[World.setChan,World.at],fun x hx=>?_,rfl,rfl,rfl⟩;have:cq≠x:=fun e=>hx (e ▸ hz)
 simp[World.setChan,World.at,Array.getElem?_setIfInBounds_ne this]
theorem dY (L1:N9 Z Still K1) (hK1:∀w,K1 w->K w) (hT:UH Ac Still c TT) (hc:c≠0) (hSo:∀x,¬Still (.obj x)) (hzC:∀cc∈cC,∀c z,cc=rcase c z->Z c) (hLc:Ak c)
  (hTT:∀t,TT t->Il c r pre t) (bb4:∀w,K1 w->A7 r pre ty w KK 0) (hKq:∀w k,K w->K (w.setChan cq 0 #[] true k k false)) (hrq:r≠cq)
  (hkq:cC[kq]?=some (rcase cq zq)) (hoq:∀(m:Nat) cc,m≠kq->cC[m]?=some cc->cc.chan≠.chan (some cq))
  (ac6:∀g₂,home g₂->Fu P false K Still cC .select home 0 { parked g₂ cC .select with status:=.running })
  {a a':Goroutine} (hwake:mayWake P a=true) (ha':a'.status=.running) (Bg:a.status=.running)
  (hclose:∀(w1:World) k,K1 w1->w1.heap[cq]?=some (.chan 0 #[] false k k false)->∀d,stepG P true a (w1.at d)=.go a' ((w1.at d).setChan cq 0 #[] true k k false) (closeEvents cq))
  {n:Nat} {gs:Array Goroutine} {w:World} {sl:Option (W_)} {q:Nat->Nat} (h0:gs[0]?=some a) (D:Duo P Ac Still (fun g=>g=0\/g=c) Ak B 0 c (KD P (c==0) K K1 TT Still cC .select home) n gs w t q):
  AB P gs w sl t fun AZ w' t'=>∃q' n' B',AZ[0]?=some a'/\BO Z w w'/\B<=B'/\Duo P Ac Still (fun g=>g=0) Ak B' 0 c (BP P c r pre ty o (aJ P c r pre ty o K Still cC home kq cq zq kR) (fun _=>True) false) n' AZ w' t' q':=by
 have hc0:(c==0)=false:=by simpa using hc
 refine go_duo (IQ:=fun g=>g=0) (Loose':=Ak) (Rl L1 hK1 hT hzC (.inr rfl) hLc) h0 Bg D (fun g hg=>.inl hg) fun Bz hBz w1 BA n1 b1 t1 ho hB hpx d=>?_
 obtain⟨⟨hK,TJ⟩,AO,Mk⟩:=hB;rw[hc0]at Mk;obtain⟨c',z',k,e',hch⟩:=AO _ (Array.mem_of_getElem? hkq);have:c'=cq:=by simp[rcase]at e';exact e'.1.symm
 subst this;have hzq:Z c':=hzC _ (Array.mem_of_getElem? hkq) _ _ rfl;have hcB:c'<Bz:=by have:=(Array.getElem?_eq_some_iff.1 hch).1;omega
 have EY:=Vg (Ac:=Ac) (Still:=Still) hSo hcB;have ay9:=(hpx.own (fn:=a.frame.fn) (pos:=a.frame.place) EY).fewer (IQ:=fun g=>g=0) fun g hg=>.inl hg
 have UA:Ry Ac Still c (MemOp.ofEvents 0 a.frame.fn a.frame.place (closeEvents c')):=Ej (Ne.symm hc) EY;have hsame:∀x,x≠c'->((w1.at d).setChan c' 0 #[] true k k false).heap[x]?=w1.heap[x]?:=fun x hx=>by
  simp[World.setChan,World.at,Array.getElem?_setIfInBounds_ne (Ne.symm hx)]
 have hself:((w1.at d).setChan c' 0 #[] true k k false).heap[c']?=some (.chan 0 #[] true k k false):=by
  have:=(Array.getElem?_eq_some_iff.1 hch).1
  simp[World.setChan,World.at,this]
 have yg:o6 ((w1.at d).setChan c' 0 #[] true k k false) cC kq c' zq:=by
  refine⟨hkq,⟨k,hself⟩,fun m cc hm Fa=>?_⟩
  obtain⟨c2,z2,k2,e2,h2⟩:=AO cc (Array.mem_of_getElem? Fa)
  refine⟨c2,z2,k2,e2,?_⟩
  rw[hsame c2 (fun e=>hoq m cc hm Fa (by rw[e2,e];rfl))]
  exact h2
 have hrn:A7 r pre ty ((w1.at d).setChan c' 0 #[] true k k false) (if false=true then KK+1 else KK) 0:=by
  unfold A7;rw[hsame r hrq];exact bb4 _ hK
 have hdf:Deaf (t1++MemOp.ofEvents 0 a.frame.fn a.frame.place (closeEvents c')) c=0:=by
  rw[Deaf_other t1 (g':=0) (Ne.symm hc) _ ofEvents_g];exact hpx.hears c (.inr rfl)
 have hwr:Ov Still c (t1++MemOp.ofEvents 0 a.frame.fn a.frame.place (closeEvents c')):=by
  refine Ov.app (fun i x hx hw hS=>hpx.wrote i x hx hw ⟨hS,hT.ss _ hS⟩ c (.inr rfl)) fun op AO b hb hs=>(((UA op AO).2.1 b hb).1 hs).1
 have iY:K ((w1.at d).setChan c' 0 #[] true k k false):=hKq _ _ (hK1 _ (L1.keep w1 (w1.at d) (fun _ _=>rfl) hK));refine⟨a',(w1.at d).setChan c' 0 #[] true k k false,closeEvents c',Bz,hclose w1 k hK hch d,Nat.le_refl _,by rw[GY];exact BA,ay9,BP P c r pre ty o (aJ P c r pre ty o K Still cC home kq c' zq kR) (fun _=>True) false,?_⟩;have hno:=(hTT _ TJ).calm (Ac:=I8 r pre) (Still:=Still) (c:=c) (fun _ h=>h) (u:=MemOp.ofEvents 0 a.frame.fn a.frame.place (closeEvents c')) (fun op AO=>by
  refine⟨(UA op AO).1,fun b hb=>?_,(UA op AO).2.2⟩
  have h1:=((UA op AO).2.1 b hb).1
  obtain⟨e,he,rfl⟩:=Go.Conc.mem_ofEvents AO
  simp only[closeEvents,List.mem_toArray,List.mem_cons,List.not_mem_nil,or_false]at he
  rcases he with rfl|rfl
  ·obtain rfl:=Option.some.inj hb;exact⟨fun hs=>⟨(h1 hs).1,fun hw=>by rcases hw with e|e<;>cases e⟩,fun _=>by simp⟩
  ·cases hb)
 rcases Mk with⟨rfl,g₂,rfl,hh,hr⟩|⟨k2,rfl,hs,hw⟩
 ·refine⟨_,.inl ⟨0,rfl,hno,iY,yg,hrn,hdf,hwr,?_⟩,fun AZ q' n' hsz' h0' D' Cz=>.now ⟨q',n',Bz,h0',(ho.trans (Jr hzq w1 d k true)),hBz,D'⟩⟩;have hw:woken P a a' ((w1.at d).setChan c' 0 #[] true k k false) (parked g₂ cC .select)={ parked g₂ cC .select with status:=.running }:=by
   unfold woken
   simp only[hwake,ha',Bool.true_and]
   rw[if_pos (by decide)]
   exact again_some_closed hkq hself
  rw[hw];exact⟨rfl,ac6 g₂ hh⟩
 ·refine⟨_,.inl ⟨k2,rfl,hno,iY,yg,hrn,hdf,hwr,?_⟩,fun AZ q' n' hsz' h0' D' Cz=>.now ⟨q',n',Bz,h0',(ho.trans (Jr hzq w1 d k true)),hBz,D'⟩⟩;rw[woken_run hs];exact⟨hs,hw⟩
theorem kU {Z0:Nat->Prop} {X2:World->Prop} (H:JF P Z0 Ac Still Ak c r pre ty o Ph X) (O:KE P r pre ty o) (hZ0:Z0 r) (hW:∀l,I8 r pre l->Ac l/\¬Still l) (hc:c≠0) (hSo:∀x,¬Still (.obj x)) (hzq:Z cq) (hqn:¬Z0 cq)
  {a a':Goroutine} (Bg:a.status=.running) {k:Nat} (ba9:∀w,X2 w->w.heap[cq]?=some (.chan 0 #[] false k k false)) (hclose:∀(w1:World),w1.heap[cq]?=some (.chan 0 #[] false k k false)->∀d,stepG P true a (w1.at d)=.go a' ((w1.at d).setChan cq 0 #[] true k k false) (closeEvents cq))
  {n:Nat} {gs:Array Goroutine} {w:World} {sl:Option (W_)} {q:Nat->Nat} (h0:gs[0]?=some a)
  (OB:Fp P Z Ac Still (fun B t=>PX Ac Still (fun g=>g=0) Ak B 0 t) c (fun n g w t=>BP P c r pre ty o Ph X false n g w t/\X2 w))
  (D:Duo P Ac Still (fun g=>g=0) Ak B 0 c (fun n g w t=>BP P c r pre ty o Ph X false n g w t/\X2 w) n gs w t q):
  AB P gs w sl t fun AZ w' t'=>∃q' n' B',AZ[0]?=some a'/\BO Z w w'/\B<=B'/\Duo P Ac Still (fun g=>g=0) Ak B' 0 c (BP P c r pre ty o Ph X false) n' AZ w' t' q':=by
 refine go_duo (IQ:=fun g=>g=0) (Loose':=Ak) OB h0 Bg D (fun g hg=>.inl hg) fun Bz hBz w1 BA n1 b1 t1 ho hB hpx d=>?_
 obtain⟨hTl,Ia⟩:=hB;have hch:=ba9 _ Ia;have hcB:cq<Bz:=by have:=(Array.getElem?_eq_some_iff.1 hch).1;omega
 have EY:=Vg (Ac:=Ac) (Still:=Still) hSo hcB;have UA:Ry Ac Still c (MemOp.ofEvents 0 a.frame.fn a.frame.place (closeEvents cq)):=Ej (Ne.symm hc) EY;have OT:=KU (w0:=false) (Mem:=fun g=>g=0) H O hZ0 hW hc (fun e=>hc e);have hk:GK Z0 w1 ((w1.at d).setChan cq 0 #[] true k k false):=fun x hx=>by
  have BN:cq≠x:=fun e=>hqn (e ▸ hx)
  simp[World.setChan,World.at,Array.getElem?_setIfInBounds_ne BN]
 refine⟨a',(w1.at d).setChan cq 0 #[] true k k false,closeEvents cq,Bz,hclose w1 hch d,Nat.le_refl _,by rw[GY];exact BA,hpx.own EY,BP P c r pre ty o Ph X false,n1,?_,fun AZ q' n' hsz' h0' D' Cz=>.now ⟨q',n',Bz,h0',(ho.trans (Jr hzq w1 d k true)),hBz,D'⟩⟩;have hwk:woken P a a' ((w1.at d).setChan cq 0 #[] true k k false) b1=b1:=woken_of_again (OT.again hTl _ hk);rw[hwk];exact OT.calm _ _ hTl hk UA
end
def EE (P:Program) (c r:Nat) (pre:X_) (ty:TypeId) (X:World->Prop) (sm:Int) (n:Nat) (g:Goroutine) (w:World) (t:Trace):Prop:=
 Il c r pre t/\∃m,QuitsD P n (Deaf t c) g/\(A7 r pre ty w 0 sm/\X w)/\Kr c r pre m t
def tZ (P:Program) (r:Nat) (pre:X_) (ty:TypeId) (IP g:Goroutine):Prop:=
 ∃k1 gE gE' k2 gQ gQ' k3,IJ P (Cv r pre ty) true k1 g gE/\gE.status=.running/\(∀w,stepG P true gE w=.go gE' w #[Jd])/\IJ P (Cv r pre ty) true k2 gE' gQ/\gQ.status=.running/\(∀w,stepG P true gQ w=.go gQ' w #[Nn (stA r pre)])/\IJ P (Cv r pre ty) true k3 gQ' IP
def om (P:Program) (r:Nat) (pre:X_) (ty:TypeId) (IP g:Goroutine):Prop:=
 ∃k gL gL0,IJ P (Cv r pre ty) true k g gL/\gL.status=.running/\(∀w,w.cell? (stA r pre)=some (.int .u64 0)->stepG P true gL w=.go gL0 w #[⟨.cell (stA r pre),false,true⟩])/\tZ P r pre ty IP gL0
section
variable {P:Program} {Z:Nat->Prop} {Ac Still:Loc->Prop} {Mem Ak:Nat->Prop} {r:Nat} {pre:X_} {ty:TypeId} {c:Nat} {o:NR} {w0:Bool} {sm:Int} {IP:Goroutine} {X:World->Prop} {KN:Loc->Prop}
theorem fV {w w':World} {st:Int} (hX:Ql Z r X) (hZ:Z r) (h:A7 r pre ty w st sm/\X w) (hk:GK Z w w'):A7 r pre ty w' st sm/\X w':=⟨h.1.keep hZ hk,hX _ _ h.2 fun x _ hz=>hk x hz⟩
theorem Pb (hX:Ql Z r X) (hZ:Z r) (hW:∀l,I8 r pre l->Ac l/\¬Still l) (hc:c≠0) (hM:¬Mem c):Fp P Z Ac Still (fun B t=>PX Ac Still Mem Ak B 0 t) c (EE P c r pre ty X sm) where
 status:=by
  rintro n g w t ⟨_,m,hq,_⟩
  cases n with
  | zero=>exact .inr (.inr hq.1)
  | succ n=>exact hq.status.elim (fun x=>.inl ⟨x,by omega⟩) fun x=>.inr (.inr x)
 again:=by
  rintro n g w t ⟨_,m,hq,_⟩ w' _
  exact again_running _ hq.status
 calm:=by
  rintro n g w t w' u ⟨hN,m,hq,hr,hm⟩ hk hu
  have hd:Deaf (t++u) c=Deaf t c:=Deaf_quiet fun op AO d=>by
   have BN:=(hu op AO).1
   obtain⟨g,fn,pos,act⟩:=op
   simp only at BN
   cases act with
   | mark mm=>cases mm<;>simp[deafStep,BN]
   | _=>rfl
  exact⟨hN.calm (fun l hl=>(hW l hl).1) hu,m,by rw[hd];exact hq,fV hX hZ hr hk,hm.calm hu⟩
 step:=by
  rintro n g w t B ⟨hN,m,hq,hr,hm⟩ Bg Gw hB d
  have hc0:(c==0)=false:=by simpa using hc
  rw[hc0]
  cases n with
  | zero=>rw[hq.1]at Bg;cases Bg
  | succ n=>
   rcases hq with⟨hf,_⟩|⟨_,g',es,hmu,BH,hq'⟩
   ·rw[hf]at Bg;cases Bg
   ·refine .inl ⟨n,g',w.at d,es,by omega,BH _,BO.at w d,⟨B,Nat.le_refl _,hB,O1 Gw hM (fun e he=>⟨touch_mute (hmu e he),low_mute (hmu e he) B⟩)⟩,Ee hN (fun e he b hb=>by rw[touch_mute (hmu e he)]at hb;cases hb),m,?_,fV hX hZ hr (fun _ _=>rfl),Nv hm (Qv hmu _)⟩;rw[Deaf_own];exact hq'
def Joined (P:Program) (Z:Nat->Prop) (Ac:Loc->Prop) (X:World->Prop) (B:Nat) (IP:Goroutine) (w:World) (AZ:Array Goroutine) (w':World) (t':Trace):Prop:=
 ∃(q':Nat->Nat) (B':Nat),AZ[0]?=some IP/\BO Z w w'/\B<=B'/\Leavers P t' AZ q'/\Past Ac B' t'/\w'.heap.size<=B'/\X w'
theorem Vb (hS0:∀l,Ac l->¬Still l->KN l) (hX:Ql Z r X) (hZ:Z r) (hW:∀l,I8 r pre l->Ac l/\¬Still l) (hc:c≠0) {g:Goroutine} (hF:tZ P r pre ty IP g) {n B:Nat} {gs:Array Goroutine} {w:World} {sl:Option (W_)} {t:Trace} {q:Nat->Nat}
  (h0:gs[0]?=some g) (D:Duo P Ac Still (fun _=>False) (fun g=>g=c) B 0 c (DU 1 (EE P c r pre ty X 0)) n gs w t q):AB P gs w sl t (Joined P Z KN X B IP w):=by
 obtain⟨k1,gE,gE',k2,gQ,gQ',k3,s1,hE,ba0,s2,hQ,hacq,s3⟩:=hF;have JB:∀δ n b w t,DU δ (EE P c r pre ty X 0) n b w t->∀d,Cv r pre ty (w.at d):=fun δ n b w t h d=>h.1.2.choose_spec.2.1.1.is d
 have OB:∀δ L,Fp P Z Ac Still (fun B t=>PX Ac Still (fun _=>False) L B 0 t) c (DU δ (EE P c r pre ty X 0)):=fun δ L=>Pf hc (Pb hX hZ hW hc id)
 refine(FJ (JB 1) (OB 1 _) k1 s1 h0 D).bind fun gs1 w1 G6 t1 hz1 ⟨q1,n1,B1,h1,o1,b1,D1⟩=>?_
 refine go_duo (IQ:=fun _=>False) (Loose':=fun g=>g=c) (OB 1 _) h1 hE D1 (fun _ hg=>hg.elim) fun Bp hBp w2 hsz2 n2 x2 t2 o2 hB2 hp2 d=>?_
 have hd2:Deaf (t2++MemOp.ofEvents 0 gE.frame.fn gE.frame.place #[Jd]) 0=0:=by rw[Deaf_own,hB2.2];rfl
 have hby:EE P c r pre ty X 0 n2 x2 (w2.at d) (t2++MemOp.ofEvents 0 gE.frame.fn gE.frame.place #[Jd]):=by
  obtain⟨hN,m,hq,hr,hm⟩:=hB2.1
  refine⟨Ee hN (fun e he b hb=>by simp at he;subst he;cases hb),m,?_,fV hX hZ hr (fun _ _=>rfl),hm.app (fun op AO=>?_) (fun k op b hk hg _=>?_)⟩
  ·rw[Deaf_other t2 (g':=0) (Ne.symm hc) _ ofEvents_g];exact hq
  ·obtain⟨e,he,rfl⟩:=Go.Conc.mem_ofEvents AO;simp at he;subst he;simp[Jd,MemAct.ofEvent]
  ·have:=ofEvents_g op (Array.mem_of_getElem? hk);omega
 refine⟨gE',w2.at d,#[Jd],Bp,ba0 _,Nat.le_refl _,hsz2,hp2.appMute ofEvents_g (fun op AO=>by obtain⟨e,he,rfl⟩:=Go.Conc.mem_ofEvents AO;simp at he;subst he;rfl) (fun x=>x.elim) (fun op AO=>by obtain⟨e,he,rfl⟩:=Go.Conc.mem_ofEvents AO;simp at he;subst he;trivial),
  DU 0 (EE P c r pre ty X 0),n2,⟨?_,hd2⟩,fun lV q3 n3 hz3 h3 D3 Zh=>?_⟩
 ·have BH:=(Pb (P:=P) (Z:=Z) (Ac:=Ac) (Still:=Still) (Mem:=fun _=>False) (Ak:=fun g=>g=c) (ty:=ty) (sm:=0) hX hZ hW hc id).again hB2.1 (w2.at d) (fun _ _=>rfl);rw[woken_of_again BH];exact hby
 refine(FJ (JB 0) (OB 0 _) k2 s2 h3 D3).bind fun gs4 w4 JY t4 hz4 ⟨q4,n4,B4,h4,o4,b4,D4⟩=>?_
 refine go_duo (IQ:=fun _=>False) (Loose':=fun g=>g=c/\g≠c) (OB 0 _) h4 hQ D4 (fun _ hg=>hg.elim) fun Bq hBq w5 hsz5 n5 x5 t5 o5 hB5 rZ d5=>?_
 obtain⟨⟨hN5,m,hq5,hr5,si⟩,hd5⟩:=hB5;have hrB:(stA r pre).block<Bq:=by have:=hr5.1.lt;show r<Bq;omega
 have hops:MemOp.ofEvents 0 gQ.frame.fn gQ.frame.place #[Nn (stA r pre)]=#[{ g:=0,fn:=gQ.frame.fn,pos:=gQ.frame.place,act:=.mark (.acquire (stA r pre)) }]:=by
  rw[ofEvents_eq];simp[Nn,MemAct.ofEvent]
 obtain⟨op,AO,hog,hoa⟩:=si.at_;have hpx:=rZ.acquire (a:=stA r pre) hd5 AO hog hoa si.heard (fun i b hi hgi _ _ _=>by
  rcases Nat.lt_or_ge i m with BC|hge
  ·exact .inl BC
  ·obtain⟨x1,x2,x3⟩:=si.after i b hge hi hgi;exact .inr ⟨(hW _ x1).1,⟨x2,(hW _ x1).2⟩,x3⟩) si.norel gQ.frame.fn gQ.frame.place hrB
 have ba7:EE P c r pre ty X 0 n5 x5 (w5.at d5) (t5++MemOp.ofEvents 0 gQ.frame.fn gQ.frame.place #[Nn (stA r pre)]):=by
  refine⟨Ee hN5 (fun e he b hb=>by simp at he;subst he;cases hb),m,?_,fV hX hZ hr5 (fun _ _=>rfl),si.app (fun op AO=>?_) (fun k op b hk hg _=>?_)⟩
  ·rw[Deaf_other t5 (g':=0) (Ne.symm hc) _ ofEvents_g];exact hq5
  ·obtain⟨e,he,rfl⟩:=Go.Conc.mem_ofEvents AO;simp at he;subst he;simp[Nn,MemAct.ofEvent]
  ·have:=ofEvents_g op (Array.mem_of_getElem? hk);omega
 have Zu:=(Pb (P:=P) (Z:=Z) (Ac:=Ac) (Still:=Still) (Mem:=fun _=>False) (Ak:=fun g=>g=c) (ty:=ty) (sm:=0) hX hZ hW hc id).again ⟨hN5,m,hq5,hr5,si⟩ (w5.at d5) (fun _ _=>rfl);refine⟨gQ',w5.at d5,#[Nn (stA r pre)],Bq,hacq _,Nat.le_refl _,hsz5,by rw[hops];exact hpx,DU 0 (EE P c r pre ty X 0),n5,⟨by rw[woken_of_again Zu];exact ba7,by rw[Deaf_own,hd5];rfl⟩,fun yY q6 n6 hz6 h6 D6 DT=>?_⟩;refine(FJ (JB 0) (OB 0 _) k3 s3 h6 D6).mono fun rQ w7 t7 ⟨q7,n7,B7,h7,o7,b7,D7⟩=>?_
 obtain⟨b,hb,⟨hN7,m7,hq7,hr7,hm7⟩,hd7⟩:=D7.idle;refine⟨upd q7 c n7,B7,h7,o1.trans (o2.trans ((BO.at w2 d).trans (o4.trans (o5.trans ((BO.at w5 d5).trans o7))))),by omega,⟨fun i g hi hg=>?_,D7.above⟩,D7.tr.toPast hd7 (fun g hg=>hg.2 hg.1) hS0,D7.size,hr7.2⟩;by_cases e:i=c
 ·subst e;rw[hb]at hg;obtain rfl:=Option.some.inj hg;rw[upd_same];exact hq7
 ·rw[upd_ne q7 n7 e];exact D7.EZ i g (by omega) e hg
theorem PG {B:Nat} (hW:∀l,I8 r pre l->Ac l/\¬Still l) (hr:r<B) {a:Addr} (ha:I8 r pre (.cell a)) (hb:a.block=r) (wr:Bool):Ux Ac Still B ⟨.cell a,wr,true⟩:=by
 refine⟨fun x hx=>?_,by simp,by simp,?_,by simp⟩
 ·obtain rfl:=Option.some.inj hx;exact⟨fun hs=>((hW _ ha).2 hs).elim,fun _=>by simp⟩
 ·show a.block<B;omega
theorem Tg (hS0:∀l,Ac l->¬Still l->KN l) (hX:Ql Z r X) (hZ:Z r) (hW:∀l,I8 r pre l->Ac l/\¬Still l) (hc:c≠0) {g:Goroutine} (hF:om P r pre ty IP g) {n B:Nat} {gs:Array Goroutine} {w:World} {sl:Option (W_)} {t:Trace} {q:Nat->Nat}
  (h0:gs[0]?=some g) (D:Duo P Ac Still (fun _=>False) (fun g=>g=c) B 0 c (DU 1 (EE P c r pre ty X 0)) n gs w t q):AB P gs w sl t (Joined P Z KN X B IP w):=by
 obtain⟨k,gL,gL0,s1,hL,hload,hF0⟩:=hF;have JB:∀δ n b w t,DU δ (EE P c r pre ty X 0) n b w t->∀d,Cv r pre ty (w.at d):=fun δ n b w t h d=>h.1.2.choose_spec.2.1.1.is d
 have OB:∀δ,Fp P Z Ac Still (fun B t=>PX Ac Still (fun _=>False) (fun g=>g=c) B 0 t) c (DU δ (EE P c r pre ty X 0)):=fun δ=>Pf hc (Pb hX hZ hW hc id)
 refine(FJ (JB 1) (OB 1) k s1 h0 D).bind fun gs1 w1 G6 t1 hz1 ⟨q1,n1,B1,h1,o1,b1,D1⟩=>?_
 refine go_duo (IQ:=fun _=>False) (Loose':=fun g=>g=c) (OB 1) h1 hL D1 (fun _ hg=>hg.elim) fun Bp hBp w2 hsz2 n2 x2 t2 o2 hB2 hp2 d=>?_
 have hr2:A7 r pre ty w2 0 0:=hB2.1.2.choose_spec.2.1.1;have hrB:r<Bp:=by have:=hr2.lt;omega
 have EY:∀e∈#[(⟨.cell (stA r pre),false,true⟩:Event)],Ux Ac Still Bp e:=by
  intro e he
  simp at he;subst he
  exact PG hW hrB (.inl rfl) rfl false
 refine⟨gL0,w2.at d,_,Bp,hload _ (hr2.keep hZ (fun _ _=>rfl)).cellSt,Nat.le_refl _,hsz2,hp2.own EY,DU 1 (EE P c r pre ty X 0),n2,?_,fun lV q3 n3 hz3 h3 D3 Zh=>?_⟩
 ·rw[woken_of_again ((OB 1).again hB2 (w2.at d) (fun _ _=>rfl))];exact(OB 1).calm (w2.at d) _ hB2 (fun _ _=>rfl) (Ej (Ne.symm hc) EY)
 ·refine(Vb hS0 hX hZ hW hc hF0 h3 D3).mono fun AZ w' t' ⟨q',B',j1,j2,j3,j4⟩=>⟨q',B',j1,o1.trans (o2.trans ((BO.at w2 d).trans j2)),by omega,j4⟩
end
end Go.Fxa
namespace Go.Fxa
open Go.Conc
open Go.ConcN (sumTo upd sumTo_upd upd_ne upd_same)
set_option maxRecDepth 1000000
set_option maxHeartbeats 0
def RO (a:Addr):Event:=⟨.mark (.write a),false,true⟩
section
variable {P:Program} {Z:Nat->Prop} {Ac Still:Loc->Prop} {Mem Ak:Nat->Prop} {r:Nat} {pre:X_} {ty:TypeId} {c:Nat} {o:NR} {Ph:Bool->Nat->Goroutine->World->Trace->Prop} {X:World->Prop}
theorem Uk {g:Goroutine} (h:g.status≠.blocked\/g.offers=none) (x:Nat) (b:Bool):offersAt g x b=[]:=by
 rcases h with h|h
 ·exact offersAt_of_not_blocked h _ _
 ·unfold offersAt;rw[h];cases g.status<;>rfl
theorem JU {gs:Array Goroutine} {i x:Nat} {send:Bool} (hb:∀k g,k≠i->gs[k]?=some g->g.status≠.blocked\/g.offers=none):partners (gs.setIfInBounds i ph) x send=[]:=by
 refine partners_nil fun k g hk=>?_
 rcases getElem?_stand gs i k g hk with⟨rfl,rfl⟩|⟨BN,hk'⟩
 ·exact offersAt_ph _ _
 ·exact Uk (hb k g BN hk') _ _
theorem Pw {g g':Goroutine} {k:Nat} (h:IJ P (Cv r pre ty) false (k+1) g g') {w:World} (hJ:Cv r pre ty w):∃g1,stepG P false g w=.go g1 w #[]:=by
 obtain⟨_,g1,h1,_⟩:=h;exact⟨g1,h1 w hJ⟩
theorem jR (H:JF P Z Ac Still Ak c r pre ty o Ph X) (O:KE P r pre ty o) (hZ:Z r) {n:Nat} {g g':Goroutine} {w w':World} {t:Trace} {d:Nat} {es:Array Event} {st st':Int} (h:BP P c r pre ty o Ph X true n g w t)
  (h0:A7 r pre ty w st 0) (hs:stepG P false g (w.at d)=.go g' w' es) (h1:A7 r pre ty w' st' 1):mayWake P g=true/\g'.status=.running:=by
 have Cw:GK Z w (w.at d):=fun _ _=>rfl
 have same:∀{BQ:Array Event} {g1:Goroutine},stepG P false g (w.at d)=.go g1 (w.at d) BQ->False:=by
  intro BQ g1 he
  rw[he]at hs
  injection hs with _ hw _
  subst hw
  exact absurd ((h0.keep hZ Cw).eq h1).2 (by decide)
 have xR:∀{BQ:Array Event} {g1:Goroutine} {x:Int},stepG P false g (w.at d)=.go g1 ((w.at d).setCell (stA r pre) (.int .u64 x)) BQ->False:=by
  intro BQ g1 x he
  rw[he]at hs
  injection hs with _ hw _
  subst hw
  exact absurd (((h0.keep hZ Cw).setSt x).eq h1).2 (by decide)
 rcases h with h|⟨⟨_,⟨k,rfl,hsl,hr,_⟩|⟨m,k,rfl,hsl,hr,_,_⟩|⟨m,k,rfl,hsl,hr,_,_⟩|⟨hw,_⟩|⟨_,m,k,rfl,hsl,hr,_,_⟩|⟨_,m,k,rfl,hsl,hr,_,_⟩|⟨_,m,_,hr,_⟩⟩,_⟩
 ·exact(H.low h hs h1).elim
 ·cases k with
  | zero=>obtain rfl:g=o.gR:=hsl;exact(same (O.rel _)).elim
  | succ k=>obtain⟨g1,e⟩:=Pw hsl (hr.is d);exact(same e).elim
 ·cases k with
  | zero=>obtain rfl:g=o.gD:=hsl;exact(same (O.TG _)).elim
  | succ k=>obtain⟨g1,e⟩:=Pw hsl (hr.is d);exact(same e).elim
 ·cases k with
  | zero=>
   obtain rfl:g=o.gA:=hsl
   have hrd:=hr.keep hZ Cw
   simp only[if_true]at hrd
   exact(xR (O.add1 _ hrd.cellSt hrd.Mm)).elim
  | succ k=>obtain⟨g1,e⟩:=Pw hsl (hr.is d);exact(same e).elim
 ·cases hw
 ·cases k with
  | zero=>
   obtain rfl:g=o.gS:=hsl
   have hrd:=hr.keep hZ Cw
   exact(xR (O.sto _ hrd.cellSt hrd.Mm)).elim
  | succ k=>obtain⟨_,g1,l,_,e,_⟩:=hsl;exact(same (e _ (hr.keep hZ Cw))).elim
 ·cases k with
  | zero=>
   obtain rfl:g=o.gP:=hsl
   have hrd:=hr.keep hZ Cw
   have he:=O.sem _ hrd.cellSm hrd.ZP
   rw[he]at hs
   injection hs with hg _ _
   subst hg
   exact O.wake
  | succ k=>obtain⟨g1,e⟩:=Pw hsl (hr.is d);exact(same e).elim
 ·exact absurd (h0.eq hr).2 (by decide)
theorem eG (H:JF P Z Ac Still Ak c r pre ty o Ph X) (O:KE P r pre ty o) {n:Nat} {g:Goroutine} {w:World} {t:Trace} {st:Int} (h:BP P c r pre ty o Ph X true n g w t) (h0:A7 r pre ty w st 0):g.status=.running:=by
 rcases h with h|⟨⟨_,⟨k,rfl,hs,_⟩|⟨m,k,rfl,hs,_⟩|⟨m,k,rfl,hs,_⟩|⟨hw,_⟩|⟨_,m,k,rfl,hs,_⟩|⟨_,m,k,rfl,hs,_⟩|⟨_,m,_,hr,_⟩⟩,_⟩
 ·exact(H.status h).1
 ·exact hs.status O.runs.1
 ·exact hs.status O.runs.2.1
 ·exact hs.status O.runs.2.2.1
 ·cases hw
 ·exact hs.status O.runs.2.2.2.1
 ·exact hs.status O.runs.2.2.2.2
 ·exact absurd (h0.eq hr).2 (by decide)
theorem VJ (H:JF P Z Ac Still Ak c r pre ty o Ph X) {n:Nat} {g:Goroutine} {w:World} {t:Trace} (h:BP P c r pre ty o Ph X true n g w t):(∃st,A7 r pre ty w st 0)\/EE P c r pre ty X 1 n g w t:=by
 rcases h with h|⟨⟨hN,⟨k,rfl,hs,hr,_⟩|⟨m,k,rfl,hs,hr,_⟩|⟨m,k,rfl,hs,hr,_⟩|⟨hw,_⟩|⟨_,m,k,rfl,hs,hr,_⟩|⟨_,m,k,rfl,hs,hr,_⟩|⟨_,m,hq,hr,hm⟩⟩,hX⟩
 ·exact .inl ⟨_,H.run h⟩
 ·exact .inl ⟨_,hr⟩
 ·exact .inl ⟨_,hr⟩
 ·exact .inl ⟨_,hr⟩
 ·cases hw
 ·exact .inl ⟨_,hr⟩
 ·exact .inl ⟨_,hr⟩
 ·exact .inr ⟨hN,m,hq,⟨hr,hX⟩,hm⟩
theorem uo {B:Nat} (hW:∀l,I8 r pre l->Ac l/\¬Still l) (hr:r<B) {t:Trace} (H:PX Ac Still (fun _=>False) Ak B 0 t) (fn:FuncId) (pos:String):PX Ac Still (fun _=>False) Ak B 0 (t++MemOp.ofEvents 0 fn pos (semEvents (smA r pre))):=by
 refine H.appH ofEvents_g (fun op AO b hb=>?_) (fun x=>x.elim) (fun op AO=>?_)
 ·obtain⟨e,he,rfl⟩:=Go.Conc.mem_ofEvents AO;simp only[semEvents,List.mem_toArray,List.mem_cons,List.not_mem_nil,or_false]at he;rcases he with rfl|rfl|rfl|rfl
  ·cases hb
  ·obtain rfl:=Option.some.inj hb;exact⟨fun hs=>((hW _ (.inr rfl)).2 hs).elim,fun _=>by simp⟩
  ·obtain rfl:=Option.some.inj hb;exact⟨fun hs=>((hW _ (.inr rfl)).2 hs).elim,fun _=>by simp⟩
  ·cases hb
 ·obtain⟨e,he,rfl⟩:=Go.Conc.mem_ofEvents AO;simp only[semEvents,List.mem_toArray,List.mem_cons,List.not_mem_nil,or_false]at he;rcases he with rfl|rfl|rfl|rfl
  ·trivial
  ·exact hr
  ·exact hr
  ·trivial
theorem pY (HP:JF P Z Ac Still (fun g=>g=c) c r pre ty o Ph X) (O:KE P r pre ty o) (hZ:Z r) (hW:∀l,I8 r pre l->Ac l/\¬Still l) (hc:c≠0) (OC:Fp P Z Ac Still (fun B t=>PX Ac Still (fun _=>False) (fun g=>g=c) B 0 t) c (BP P c r pre ty o Ph X true))
  {fr:Frame} {cs:Z_} {rX:Goroutine} (hhit:∀w,w.cell? (smA r pre)=some (.int .u32 1)->w.frozen? (smA r pre)=false->stepG P true (G fr cs) w=.go rX (w.setCell (smA r pre) (.int .u32 0)) (semEvents (smA r pre)))
  (hmiss:∀w,w.cell? (smA r pre)=some (.int .u32 0)->stepG P true (G fr cs) w=.go { G fr cs with status:=.blocked } w #[]):
  ∀(M n:Nat) (gs:Array Goroutine) (a:Goroutine) (w:World) (sl:Option (W_)) (t:Trace) (q:Nat->Nat) (B:Nat),2*(n+sumTo gs.size q)+(if a.status=.running then 1 else 0)<M->gs[0]?=some a->(a=G fr cs\/(a={ G fr cs with status:=.blocked }/\∃st,A7 r pre ty w st 0))->
   Duo P Ac Still (fun _=>False) (fun g=>g=c) B 0 c (DU 1 (BP P c r pre ty o Ph X true)) n gs w t q->
   AB P gs w sl t fun AZ w' t'=>∃q' n' B',B<=B'/\AZ[0]?=some rX/\BO Z w w'/\Duo P Ac Still (fun _=>False) (fun g=>g=c) B' 0 c (DU 1 (EE P c r pre ty X 0)) n' AZ w' t' q':=by
 have OD:=Pf (δ:=1) hc OC;intro M
 induction M with
 | zero=>intro n gs a w sl t q B hX;omega
 | succ M ih=>
  intro n gs a w sl t q B hX h0 ha D
  obtain⟨b,hb,hB⟩:=D.idle
  have hcl:c<gs.size:=(Array.getElem?_eq_some_iff.1 hb).1
  have h0l:0<gs.size:=(Array.getElem?_eq_some_iff.1 h0).1
  have ba8:a.status=.running\/a.status=.blocked:=by rcases ha with rfl|⟨rfl,_⟩<;>simp[G]
  have ao1:a.offers=none:=by rcases ha with rfl|⟨rfl,_⟩<;>rfl
  have haw:∀g∈gs,awake g:=by
   intro g hg
   obtain⟨i,hi,rfl⟩:=Array.mem_iff_getElem.1 hg
   have Gz:=Array.getElem?_eq_getElem hi
   by_cases e1:i=0
   ·subst e1;rw[h0]at Gz;rw[<-Option.some.inj Gz];exact awake_of (ba8.imp id .inl)
   ·by_cases e2:i=c
    ·subst e2;rw[hb]at Gz;rw[<-Option.some.inj Gz];exact awake_of ((OD.status hB).elim (fun x=>.inl x.1) .inr)
    ·exact awake_of ((D.EZ i _ e1 e2 Gz).status.elim .inl fun x=>.inr (.inr x))
  have hsome:∃(i:Nat) (g:Goroutine),gs[i]?=some g/\g.status=.running:=by
   rcases ha with rfl|⟨rfl,st,hr⟩
   ·exact⟨0,_,h0,rfl⟩
   ·exact⟨c,b,hb,eG HP O hB.1 hr⟩
  obtain⟨i,g,d,Cz,hi,hg,BH⟩:=crowd_pick (P:=P) (w:=w) (sl:=sl) haw hsome;have BC:i<gs.size:=(Array.getElem?_eq_some_iff.1 hi).1;have Cw:GK Z w (w.at d):=fun _ _=>rfl
  by_cases e1:i=0
  ·
   subst e1;obtain rfl:g=a:=(by rw[h0]at hi;exact(Option.some.inj hi).symm);obtain rfl:g=G fr cs:=by
    rcases ha with h|⟨rfl,_⟩
    ·exact h
    ·cases hg
   rcases VJ HP hB.1 with⟨st,hr⟩|hdone
   ·
    have BD:=runT_crowd_go (P:=P) (sl:=Cz) (i:=0) hi (show stepG P (0==0) (G fr cs) (w.at d)=_ from hmiss _ (hr.keep hZ Cw).cellSm);have hnw:∀x,woken P (G fr cs) { G fr cs with status:=.blocked } (w.at d) x=x:=fun x=>by unfold woken;simp
    have hmap:(gs.map (woken P (G fr cs) { G fr cs with status:=.blocked } (w.at d)))=gs:=by
     have:woken P (G fr cs) { G fr cs with status:=.blocked } (w.at d)=id:=funext hnw
     rw[this];simp
    rw[hmap]at BD;have BA:(gs.setIfInBounds 0 { G fr cs with status:=.blocked }).size=gs.size:=(by simp);obtain⟨N,AZ,w',Gd,t',FW,FD,q',n',B',jB,j1,j2,j3⟩:=ih n (gs.setIfInBounds 0 { G fr cs with status:=.blocked }) { G fr cs with status:=.blocked } (w.at d) Cz t q B (by rw[BA];simp[G]at hX ⊢;omega) (by simp[h0l]) (.inr ⟨rfl,st,hr.keep hZ Cw⟩)
     ⟨D.ne,D.zero,D.mem,⟨b,by rw[Array.getElem?_setIfInBounds_ne (Ne.symm hc)];exact hb,by have:=OD.calm (w.at d) #[] hB Cw (fun op AO=>by simp at AO);simpa using this⟩,fun x y IK Ia hx=>by
      rw[Array.getElem?_setIfInBounds_ne (Ne.symm IK)]at hx
      exact D.EZ x y IK Ia hx,fun x hx=>D.above x (by simpa using hx),D.tr,D.size⟩;refine⟨N+1,AZ,w',Gd,t',?_,FD.trans BA,q',n',B',jB,j1,(BO.at w d).trans j2,j3⟩;simp only[runNT,BH,BD];rw[CG];exact FW
   ·
    obtain⟨hN,m,hq,⟨hr,hXw⟩,hm⟩:=hdone;have hrd:=hr.keep hZ Cw;have BD:=runT_crowd_go (P:=P) (sl:=Cz) (i:=0) hi (show stepG P (0==0) (G fr cs) (w.at d)=_ from hhit _ hrd.cellSm hrd.ZP);have hbw:woken P (G fr cs) rX ((w.at d).setCell (smA r pre) (.int .u32 0)) b=b:=woken_of_again (again_running _ hq.status);have hlow:r<B:=(by have:=hr.lt;have:=D.size;omega);have hoff:=KR (w:=w) (a:=smA r pre) hZ (.int .u32 0) d;refine⟨1,(gs.map (woken P (G fr cs) rX ((w.at d).setCell (smA r pre) (.int .u32 0)))).setIfInBounds 0 rX,(w.at d).setCell (smA r pre) (.int .u32 0),Cz,t++MemOp.ofEvents 0 (G fr cs).frame.fn (G fr cs).frame.place (semEvents (smA r pre)),by simp only[runNT,BH,BD],by simp,q,n,B,Nat.le_refl _,by simp[h0l],hoff,⟨D.ne,D.zero,D.mem,⟨b,by rw[Array.getElem?_setIfInBounds_ne (Ne.symm hc),Array.getElem?_map,hb];simp[hbw],?_,?_⟩,fun x y IK Ia hx=>?_,fun x hx=>?_,uo hW hlow D.tr _ _,by rw[FQ];exact D.size⟩⟩
    ·refine⟨hN.app fun op AO x hx hw=>?_,m,?_,⟨hrd.setSm 0,HP.keep _ _ hXw fun x hx _=>?_⟩,hm.app (fun op AO=>?_) (fun k op x hk hg' _=>?_)⟩
     ·obtain⟨e,he,rfl⟩:=Go.Conc.mem_ofEvents AO;simp only[semEvents,List.mem_toArray,List.mem_cons,List.not_mem_nil,or_false]at he;rcases he with rfl|rfl|rfl|rfl
      ·cases hx
      ·obtain rfl:=Option.some.inj hx;simp
      ·obtain rfl:=Option.some.inj hx;simp
      ·cases hx
     ·rw[Deaf_other t (g':=0) (Ne.symm hc) _ ofEvents_g];exact hq
     ·simp[World.setCell,World.at,smA,Array.getElem?_modify,Ne.symm hx]
     ·obtain⟨e,he,rfl⟩:=Go.Conc.mem_ofEvents AO;simp only[semEvents,List.mem_toArray,List.mem_cons,List.not_mem_nil,or_false]at he;rcases he with rfl|rfl|rfl|rfl<;>simp[MemAct.ofEvent]
     ·have:=ofEvents_g op (Array.mem_of_getElem? hk);omega
    ·rw[Deaf_own,hB.2];rfl
    ·rw[Array.getElem?_setIfInBounds_ne (Ne.symm IK),Array.getElem?_map]at hx;obtain⟨z,hz,rfl⟩:=Option.map_eq_some_iff.1 hx;have hqx:=D.EZ x z IK Ia hz;rw[woken_quitsD hqx,Deaf_other t (g':=0) (Ne.symm IK) _ ofEvents_g];exact hqx
    ·rw[Deaf_other t (g':=0) (by simp at hx;omega) _ ofEvents_g];exact D.above x (by simpa using hx)
  ·
   have wok:∀(x x':Goroutine) (w':World),woken P x x' w' a=a\/woken P x x' w' a=G fr cs:=by
    intro x x' w'
    rcases ha with rfl|⟨rfl,_⟩
    ·exact .inl (woken_run rfl)
    ·unfold woken;split
     ·right;rfl
     ·left;rfl
   have bi0:(if a.status=.running then 1 else 0)<=1:=by split<;>omega
   have oK:∀x:Goroutine,(if x.status=.running then 1 else 0)<=1:=fun x=>by split<;>omega
   by_cases e2:i=c
   ·subst e2;obtain rfl:g=b:=(by rw[hb]at hi;exact(Option.some.inj hi).symm);have iW:∀k y,k≠i->gs[k]?=some y->y.status≠.blocked\/y.offers=none:=by
     intro k y hk hy
     by_cases e3:k=0
     ·subst e3;rw[h0]at hy;rw[<-Option.some.inj hy];exact .inr ao1
     ·have:=(D.EZ k y e3 hk hy).status;rcases this with h1|h1<;>exact .inl (by rw[h1];simp)
    have hi0:(i==0)=false:=(by simpa using hc);rcases OD.step hB hg D.tr D.size d with⟨n',g',w',es,hn,hgo,hoff,⟨Bu,hBu,hsu,Gw⟩,hB'⟩|⟨n',g₂,cases,shape,es,hn,GA,AO,Gw,hB'⟩|⟨n',g₂,cases,shape,es,k,cx,z,cap,s,rr,tm,hn,GA,hk,hcl',AO,Gw,hB'⟩
    ·have BD:=runT_crowd_go (P:=P) (sl:=Cz) (i:=i) hi hgo;have BA:((gs.map (woken P g g' w')).setIfInBounds i g').size=gs.size:=(by simp);obtain⟨N,AZ,Jl,Gd,t',FW,FD,q',n'',B',jB,j1,j2,j3⟩:=ih n' ((gs.map (woken P g g' w')).setIfInBounds i g') (woken P g g' w' a) w' Cz (t++MemOp.ofEvents i g.frame.fn g.frame.place es) q Bu (by rw[BA];have:=oK (woken P g g' w' a);omega)
      (by rw[Array.getElem?_setIfInBounds_ne hc,Array.getElem?_map,h0];rfl) (by
       rcases ha with rfl|⟨rfl,st,hr⟩
       ·exact .inl (woken_run rfl)
       ·rcases VJ HP hB'.1 with hr0|hdone
        ·rcases wok g g' w' with e|e
         ·exact .inr ⟨e,hr0⟩
         ·exact .inl e
        ·obtain⟨_,m,_,⟨Gy,_⟩,_⟩:=hdone;rw[hi0]at hgo;obtain⟨hwk,hgr⟩:=jR HP O hZ hB.1 hr hgo Gy;refine .inl ?_;unfold woken;simp only[hwk,hgr,Bool.true_and];rw[if_pos (by decide)]
         rfl)
      ⟨D.ne,D.zero,D.mem,⟨g',by simp[BC],hB'⟩,fun x y IK Ia hx=>by
       rw[Array.getElem?_setIfInBounds_ne (Ne.symm Ia),Array.getElem?_map]at hx
       obtain⟨z,hz,rfl⟩:=Option.map_eq_some_iff.1 hx
       have hq:=D.EZ x z IK Ia hz
       rw[woken_quitsD hq,Deaf_other t (Ne.symm Ia) _ ofEvents_g];exact hq,fun x hx=>by
       rw[Deaf_other t (g':=i) (by simp at hx;omega) _ ofEvents_g];exact D.above x (by simpa using hx),Gw,hsu⟩
     exact⟨N+1,AZ,Jl,Gd,t',by simp only[runNT,BH,BD];exact FW,FD.trans BA,q',n'',B',Nat.le_trans hBu jB,j1,hoff.trans j2,j3⟩
    ·have BD:=crowd_waits (P:=P) (sl:=Cz) (i:=i) hi GA (fun cc Fa=>by
      obtain⟨c',z,k,rfl,hc'⟩:=AO cc Fa
      exact ways_recv_none (show(w.at d).heap[c']?=_ from hc') (JU iW));have BA:(gs.setIfInBounds i (parked g₂ cases shape)).size=gs.size:=(by simp);obtain⟨N,AZ,Jl,Gd,t',FW,FD,q',n'',B',jB,j1,j2,j3⟩:=ih n' (gs.setIfInBounds i (parked g₂ cases shape)) a (w.at d) Cz (t++MemOp.ofEvents i g.frame.fn g.frame.place es) q B (by rw[BA];omega)
      (by rw[Array.getElem?_setIfInBounds_ne hc];exact h0) (ha.imp id fun⟨e,st,hr⟩=>⟨e,st,hr.keep hZ Cw⟩)
      ⟨D.ne,D.zero,D.mem,⟨_,by simp[BC],hB'⟩,fun x y IK Ia hx=>by
       rw[Array.getElem?_setIfInBounds_ne (Ne.symm Ia)]at hx
       rw[Deaf_other t (Ne.symm Ia) _ ofEvents_g];exact D.EZ x y IK Ia hx,fun x hx=>by
       rw[Deaf_other t (g':=i) (by simp at hx;omega) _ ofEvents_g];exact D.above x (by simpa using hx),Gw,D.size⟩;exact⟨N+1,AZ,Jl,Gd,t',by simp only[runNT,BH,BD];exact FW,FD.trans BA,q',n'',B',jB,j1,(BO.at w d).trans j2,j3⟩
    ·have BD:=crowd_sel_recv_closed (P:=P) (sl:=Cz) (i:=i) hi GA hk (fun m cc hm Fa=>by
      obtain⟨c',z',k',rfl,hc'⟩:=AO m cc hm Fa
      exact ways_recv_none (show(w.at d).heap[c']?=_ from hc') (JU iW)) (show(w.at d).heap[cx]?=_ from hcl') (JU iW);have BA:(gs.setIfInBounds i (Conc.served g₂ (commResult cases shape k z false))).size=gs.size:=(by simp);have hg1:∀op∈MemOp.ofEvents i g.frame.fn g.frame.place es++#[{ g:=i,fn:=g₂.frame.fn,pos:=g₂.frame.place,act:=.recvClosed cx }],op.g=i:=by
      intro op AO
      rcases Array.mem_append.1 AO with AO|AO
      ·exact ofEvents_g op AO
      ·simp at AO;subst AO;rfl
     obtain⟨N,AZ,Jl,Gd,t',FW,FD,q',n'',B',jB,j1,j2,j3⟩:=ih n' (gs.setIfInBounds i (Conc.served g₂ (commResult cases shape k z false))) a (w.at d) Cz (t++(MemOp.ofEvents i g.frame.fn g.frame.place es++#[{ g:=i,fn:=g₂.frame.fn,pos:=g₂.frame.place,act:=.recvClosed cx }])) q B (by rw[BA];omega)
      (by rw[Array.getElem?_setIfInBounds_ne hc];exact h0) (ha.imp id fun⟨e,st,hr⟩=>⟨e,st,hr.keep hZ Cw⟩)
      ⟨D.ne,D.zero,D.mem,⟨_,by simp[BC],hB'⟩,fun x y IK Ia hx=>by
       rw[Array.getElem?_setIfInBounds_ne (Ne.symm Ia)]at hx
       rw[Deaf_other t (Ne.symm Ia) _ hg1];exact D.EZ x y IK Ia hx,fun x hx=>by
       rw[Deaf_other t (g':=i) (by simp at hx;omega) _ hg1];exact D.above x (by simpa using hx),Gw,D.size⟩;exact⟨N+1,AZ,Jl,Gd,t',by simp only[runNT,BH,BD];exact FW,FD.trans BA,q',n'',B',jB,j1,(BO.at w d).trans j2,j3⟩
   ·have hq:=D.EZ i g e1 e2 hi;have hi0:(i==0)=false:=(by simp;omega);cases hqi:q i with
    | zero=>rw[hqi]at hq;rw[hq.1]at hg;cases hg
    | succ k=>
     rw[hqi]at hq
     rcases hq with⟨hf,_⟩|⟨_,g',es,hm,hstp,hq'⟩
     ·rw[hf]at hg;cases hg
     have BD:=runT_crowd_go (P:=P) (sl:=Cz) (i:=i) hi (by rw[hi0];exact hstp (w.at d));have BA:((gs.map (woken P g g' (w.at d))).setIfInBounds i g').size=gs.size:=(by simp);have hsum:sumTo gs.size (upd q i k)+(k+1)=sumTo gs.size q+k:=by
      have:=sumTo_upd q k id BC
      simpa [hqi]using this
     have hmute:∀op∈MemOp.ofEvents i g.frame.fn g.frame.place es,op.act.touch?=none:=fun op AO=>by obtain⟨e,he,rfl⟩:=Go.Conc.mem_ofEvents AO;exact touch_mute (hm e he)
     obtain⟨N,AZ,Jl,Gd,t',FW,FD,q',n'',B',jB,j1,j2,j3⟩:=ih n ((gs.map (woken P g g' (w.at d))).setIfInBounds i g') (woken P g g' (w.at d) a) (w.at d) Cz (t++MemOp.ofEvents i g.frame.fn g.frame.place es) (upd q i k) B (by rw[BA];have:=oK (woken P g g' (w.at d) a);omega)
      (by rw[Array.getElem?_setIfInBounds_ne e1,Array.getElem?_map,h0];rfl) (by
       rcases ha with rfl|⟨rfl,st,hr⟩
       ·exact .inl (woken_run rfl)
       ·rcases wok g g' (w.at d)with e|e
        ·exact .inr ⟨e,st,hr.keep hZ Cw⟩
        ·exact .inl e)
      ⟨D.ne,D.zero,D.mem,⟨b,by
       rw[Array.getElem?_setIfInBounds_ne e2,Array.getElem?_map,hb]
       simp only[Option.map_some,Option.some.injEq]
       exact woken_of_again (OD.again hB (w.at d) Cw),OD.calm (w.at d) _ hB Cw (Lg e2 e1 hm)⟩,fun x y IK Ia hx=>by
       by_cases e3:i=x
       ·subst e3;rw[Array.getElem?_setIfInBounds_self_of_lt (by simpa using BC)]at hx;obtain rfl:=Option.some.inj hx;rw[upd_same,Deaf_own];exact hq'
       ·rw[Array.getElem?_setIfInBounds_ne e3,Array.getElem?_map]at hx;obtain⟨z,hz,rfl⟩:=Option.map_eq_some_iff.1 hx;have hqj:=D.EZ x z IK Ia hz;rw[woken_quitsD hqj,upd_ne q k (Ne.symm e3),Deaf_other t e3 _ ofEvents_g];exact hqj,fun x hx=>by
       rw[Deaf_other t (g':=i) (by simp at hx;omega) _ ofEvents_g];exact D.above x (by simpa using hx),D.tr.appMute ofEvents_g hmute (fun x=>x.elim) (fun op AO=>by obtain⟨e,he,rfl⟩:=Go.Conc.mem_ofEvents AO;exact low_mute (hm e he) B),D.size⟩
     exact⟨N+1,AZ,Jl,Gd,t',by simp only[runNT,BH,BD];exact FW,FD.trans BA,q',n'',B',jB,j1,(BO.at w d).trans j2,j3⟩
end
end Go.Fxa
