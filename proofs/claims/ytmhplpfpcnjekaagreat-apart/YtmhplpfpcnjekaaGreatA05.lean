/- A holder and one bystander, be -/
import Derived.Test.YtmhplpfpcnjekaaGreatA03
import Derived.Test.YtmhplpfpcnjekaaGreatA04
namespace Go.Fxa
open Go.Conc
open Go.ConcN (sumTo upd sumTo_upd upd_ne upd_same)
structure BO (Z:Nat->Prop) (w w1:World):Prop where
 size:w.heap.size<=w1.heap.size
 same:∀r,¬Z r->w1.heap[r]?=w.heap[r]?
 os:w1.os=w.os
 output:w1.output=w.output
 tape:w1.tape=w.tape
def GK (Z:Nat->Prop) (w w1:World):Prop:=∀r,Z r->w1.heap[r]?=w.heap[r]?
def Ux (Ac Still:Loc->Prop) (B:Nat) (e:Event):Prop:=
 (∀x,(MemAct.ofEvent e).touch?=some x->(Still x.loc->x.write=false/\¬Ac x.loc)/\(Ac x.loc->x.kind≠.plain))/\e.loc≠.mark .disable/\e.loc≠.mark .enable/\(MemAct.ofEvent e).low B/\∀a,e.loc≠.mark (.release a)
def ET (w:World) (cc:CommCase):Prop:=∃c z k,cc=rcase c z/\w.heap[c]?=some (.chan 0 #[] false k k false)
def Ry (Ac Still:Loc->Prop) (j:Nat) (u:Trace):Prop:=∀op∈u,op.g≠j/\(∀b,op.act.touch?=some b->(Still b.loc->b.write=false/\¬Ac b.loc)/\(Ac b.loc->b.kind≠.plain))/\(∀a,op.act≠.mark (.release a))/\(op.act=.mark .disable\/op.act=.mark .enable->op.g≠0)
def aj6 (Tr:Nat->Trace->Prop) (B:Nat) (w:World) (t:Trace):Prop:=∃B',B<=B'/\w.heap.size<=B'/\Tr B' t
structure Fp (P:Program) (Z:Nat->Prop) (Ac Still:Loc->Prop) (Tr:Nat->Trace->Prop) (j:Nat) (By:Nat->Goroutine->World->Trace->Prop):Prop where
 status:∀{n g w t},By n g w t->(g.status=.running/\0<n)\/g.status=.blocked\/g.status=.finished
 again:∀{n g w t},By n g w t->∀w',GK Z w w'->g.again w'=g
 calm:∀{n g w t} (w':World) (u:Trace),By n g w t->GK Z w w'->Ry Ac Still j u->By n g w' (t++u)
 step:∀{n g w t B},By n g w t->g.status=.running->Tr B t->w.heap.size<=B->∀d,
  (∃n' g' w' es,n'<n/\stepG P (j==0) g (w.at d)=.go g' w' es/\BO Z w w'/\aj6 Tr B w' (t++MemOp.ofEvents j g.frame.fn g.frame.place es)/\By n' g' w' (t++MemOp.ofEvents j g.frame.fn g.frame.place es))\/
  (∃n' g₂ cases shape es,n'<n/\stepG P (j==0) g (w.at d)=.comm g₂ cases true shape (w.at d) es/\(∀cc∈cases,ET w cc)/\Tr B (t++MemOp.ofEvents j g.frame.fn g.frame.place es)/\
   By n' (parked g₂ cases shape) (w.at d) (t++MemOp.ofEvents j g.frame.fn g.frame.place es))\/
  (∃n' g₂ cases shape es k c z cap s r tm,n'<n/\stepG P (j==0) g (w.at d)=.comm g₂ cases true shape (w.at d) es/\cases[k]?=some (rcase c z)/\w.heap[c]?=some (.chan cap #[] true s r tm)/\(∀(m:Nat) cc,m≠k->cases[m]?=some cc->ET w cc)/\
   Tr B (t++(MemOp.ofEvents j g.frame.fn g.frame.place es++#[{ g:=j,fn:=g₂.frame.fn,pos:=g₂.frame.place,act:=.recvClosed c }]))/\
   By n' (Conc.served g₂ (commResult cases shape k z false)) (w.at d) (t++(MemOp.ofEvents j g.frame.fn g.frame.place es++#[{ g:=j,fn:=g₂.frame.fn,pos:=g₂.frame.place,act:=.recvClosed c }])))
structure Duo (P:Program) (Ac Still:Loc->Prop) (Mem Ak:Nat->Prop) (B h j:Nat) (By:Nat->Goroutine->World->Trace->Prop) (n:Nat) (gs:Array Goroutine) (w:World) (t:Trace) (q:Nat->Nat):Prop where
 ne:h≠j
 zero:h=0\/j=0
 mem:∀g,Mem g->g=h\/g=j
 idle:∃b,gs[j]?=some b/\By n b w t
 EZ:∀i g,i≠h->i≠j->gs[i]?=some g->QuitsD P (q i) (Deaf t i) g
 above:∀i,gs.size<=i->Deaf t i=0
 tr:PX Ac Still Mem Ak B h t
 size:w.heap.size<=B
section
variable {P:Program} {Z:Nat->Prop} {Ac Still:Loc->Prop} {Mem Ak:Nat->Prop} {h j:Nat} {By:Nat->Goroutine->World->Trace->Prop}
theorem BO.refl (w:World):BO Z w w:=⟨Nat.le_refl _,fun _ _=>rfl,rfl,rfl,rfl⟩
theorem BO.at (w:World) (d:Nat):BO Z w (w.at d):=⟨Nat.le_refl _,fun _ _=>rfl,rfl,rfl,rfl⟩
theorem BO.trans {w w1 w2:World} (h:BO Z w w1) (h':BO Z w1 w2):BO Z w w2:=
 ⟨Nat.le_trans h.size h'.size,fun r hr=>(h'.same r hr).trans (h.same r hr),h'.os.trans h.os,h'.output.trans h.output,h'.tape.trans h.tape⟩
theorem BO.aa8 {w w1:World} (h:BO Z w w1) (hZ:∀r,Z r->r<w.heap.size):w1.heap.size=w.heap.size:=by
 refine Nat.le_antisymm (Nat.le_of_not_lt fun BC=>?_) h.size;have e:=h.same w.heap.size fun hz=>Nat.lt_irrefl _ (hZ _ hz)
 rw[Array.getElem?_eq_none (Nat.le_refl _),Array.getElem?_eq_getElem BC]at e;cases e
theorem Twin.off {Od:Old} {v w w1:World} (T:Twin Od Z v w) (hZ:∀r,Z r->r<v.heap.size) (h:BO Z w w1):Twin Od Z v w1:=
 ⟨T.size.trans (h.aa8 (by rw[<-T.size];exact hZ)).symm,fun r hr ho=>(T.same r hr ho).trans (h.same r hr).symm,T.dead,T.plain,T.os.trans h.os.symm,T.output.trans h.output.symm,T.Io,fun r ho=>(h.same r (T.TG r ho)).trans (T.kept r ho),T.TG⟩
theorem Ux.mono {B B':Nat} (hB:B<=B') {e:Event} (h:Ux Ac Still B e):Ux Ac Still B' e:=⟨h.1,h.2.1,h.2.2.1,MemAct.low_mono hB h.2.2.2.1,h.2.2.2.2⟩
theorem ofEvents_g {i:Nat} {fn:FuncId} {pos:String} {es:Array Event}:∀op∈MemOp.ofEvents i fn pos es,op.g=i:=fun op AO=>by
 obtain⟨e,_,rfl⟩:=Go.Conc.mem_ofEvents AO;rfl
theorem PX.own {B:Nat} {t:Trace} (H:PX Ac Still Mem Ak B h t) {fn:FuncId} {pos:String} {es:Array Event} (Ex:∀e∈es,Ux Ac Still B e):PX Ac Still Mem Ak B h (t++MemOp.ofEvents h fn pos es):=by
 refine H.appH ofEvents_g (fun op AO b hb=>by obtain⟨e,he,rfl⟩:=Go.Conc.mem_ofEvents AO;exact(Ex e he).1 b hb) (fun _=>?_) (fun op AO=>by obtain⟨e,he,rfl⟩:=Go.Conc.mem_ofEvents AO;exact(Ex e he).2.2.2.1);rw[Deaf_own];exact deafBehind_still (fun e he=>⟨(Ex e he).2.1,(Ex e he).2.2.1⟩) _
theorem Ej {B i:Nat} {fn:FuncId} {pos:String} {es:Array Event} (BN:i≠j) (Ex:∀e∈es,Ux Ac Still B e):Ry Ac Still j (MemOp.ofEvents i fn pos es):=by
 intro op AO;refine⟨by rw[ofEvents_g op AO];exact BN,?_⟩;obtain⟨e,he,rfl⟩:=Go.Conc.mem_ofEvents AO;refine⟨fun b hb=>(Ex e he).1 b hb,fun a ha=>?_,fun ha=>?_⟩
 ·have:=(Ex e he).2.2.2.2 a;obtain⟨loc,wr,sy⟩:=e;cases loc with
  | obj r=>cases wr<;>cases sy<;>simp[MemAct.ofEvent]at ha
  | mark m=>simp[MemAct.ofEvent]at ha;subst ha;exact this rfl
  | _=>simp[MemAct.ofEvent]at ha
 ·exfalso;have h1:=(Ex e he).2.1;have h2:=(Ex e he).2.2.1;obtain⟨loc,wr,sy⟩:=e;cases loc with
  | obj r=>cases wr<;>cases sy<;>simp[MemAct.ofEvent]at ha
  | mark m=>simp[MemAct.ofEvent]at ha;rcases ha with rfl|rfl;exact h1 rfl;exact h2 rfl
  | _=>simp[MemAct.ofEvent]at ha
theorem Lg {i:Nat} {fn:FuncId} {pos:String} {es:Array Event} (BN:i≠j) (hi:i≠0) (Ex:∀e∈es,e.mute=true):Ry Ac Still j (MemOp.ofEvents i fn pos es):=by
 intro op AO;refine⟨by rw[ofEvents_g op AO];exact BN,?_⟩;obtain⟨e,he,rfl⟩:=Go.Conc.mem_ofEvents AO;refine⟨fun b hb=>(by rw[touch_mute (Ex e he)]at hb;cases hb),fun a ha=>?_,fun _=>hi⟩;have:=Ex e he;obtain⟨loc,wr,sy⟩:=e;cases loc with
 | obj r=>simp[Event.mute]at this
 | mark m=>simp[MemAct.ofEvent]at ha;subst ha;simp[Event.mute]at this
 | _=>simp[Event.mute]at this
theorem Ew {gs:Array Goroutine} {i c:Nat} {send:Bool} (hb:∀k g,k≠i->gs[k]?=some g->g.status≠.blocked):partners (gs.setIfInBounds i ph) c send=[]:=by
 refine partners_nil fun k g hk=>?_
 rcases getElem?_stand gs i k g hk with⟨rfl,rfl⟩|⟨BN,hk'⟩
 ·exact offersAt_ph _ _
 ·exact offersAt_of_not_blocked (hb k g BN hk') _ _
theorem Wm (O:Fp P Z Ac Still (fun B t=>PX Ac Still Mem Ak B h t) j By) {l9:Goroutine->World->Prop}:∀(M n:Nat) (gs:Array Goroutine) (a:Goroutine) (w:World) (sl:Option (W_)) (t:Trace) (q:Nat->Nat) (B:Nat),
  n+sumTo gs.size q<=M->gs[h]?=some a->a.status=.running->Duo P Ac Still Mem Ak B h j By n gs w t q->
  (∀w1,BO Z w w1->∃a' w' es B',stepG P (h==0) a w1=.go a' w' es/\B<=B'/\(∀e∈es,Ux Ac Still B' e)/\GK Z w1 w'/\w'.heap.size<=B'/\l9 a' w')->
  ∃(N:Nat) (AZ:Array Goroutine) (a':Goroutine) (w':World) (Cz:Option (W_)) (t':Trace) (q':Nat->Nat) (n' B':Nat),
   runNT P N (crowd gs w sl) t=(.next (crowd AZ w' Cz),t')/\AZ.size=gs.size/\AZ[h]?=some a'/\l9 a' w'/\B<=B'/\Duo P Ac Still Mem Ak B' h j By n' AZ w' t' q':=by
 intro M
 induction M with
 | zero=>
  intro n gs a w sl t q B hM h0 Bg D I5
  obtain⟨b,hb,hB⟩:=D.idle
  have haw:∀g∈gs,awake g:=by
   intro g hg
   obtain⟨i,hi,rfl⟩:=Array.mem_iff_getElem.1 hg
   have Gz:=Array.getElem?_eq_getElem hi
   by_cases e1:i=h
   ·subst e1;rw[h0]at Gz;rw[<-Option.some.inj Gz];exact awake_of (.inl Bg)
   ·by_cases e2:i=j
    ·subst e2;rw[hb]at Gz;rw[<-Option.some.inj Gz];exact awake_of ((O.status hB).elim (fun x=>.inl x.1) .inr)
    ·exact awake_of ((D.EZ i _ e1 e2 Gz).status.elim .inl fun x=>.inr (.inr x))
  obtain⟨i,g,d,Cz,hi,hg,BH⟩:=crowd_pick (P:=P) (w:=w) (sl:=sl) haw ⟨h,a,h0,Bg⟩;have BC:i<gs.size:=(Array.getElem?_eq_some_iff.1 hi).1;by_cases e1:i=h
  ·subst e1;obtain rfl:g=a:=(by rw[h0]at hi;exact(Option.some.inj hi).symm);obtain⟨a',w',es,B',hgo,hBB,EY,hkz,BA,hK⟩:=I5 (w.at d) (BO.at w d);have BD:=runT_crowd_go (P:=P) (sl:=Cz) (i:=i) hi hgo;have hjl:j<gs.size:=(Array.getElem?_eq_some_iff.1 hb).1;refine⟨1,(gs.map (woken P g a' w')).setIfInBounds i a',a',w',Cz,t++MemOp.ofEvents i g.frame.fn g.frame.place es,q,n,B',by simp only[runNT,BH,BD],by simp,by simp[BC],hK,hBB,⟨D.ne,D.zero,D.mem,⟨b,?_,O.calm w' _ hB hkz (Ej D.ne EY)⟩,fun k x G8 Kn hx=>?_,fun k hk=>?_,(D.tr.mono hBB).own EY,BA⟩⟩
   ·rw[Array.getElem?_setIfInBounds_ne D.ne,Array.getElem?_map,hb];simp only[Option.map_some,Option.some.injEq];exact woken_of_again (O.again hB w' hkz)
   ·rw[Array.getElem?_setIfInBounds_ne (Ne.symm G8),Array.getElem?_map]at hx;obtain⟨y,hy,rfl⟩:=Option.map_eq_some_iff.1 hx;have hq:=D.EZ k y G8 Kn hy;rw[woken_quitsD hq,Deaf_other t (Ne.symm G8) _ ofEvents_g];exact hq
   ·rw[Deaf_other t (g':=i) (by simp at hk;omega) _ ofEvents_g];exact D.above k (by simpa using hk)
  ·exfalso;by_cases e2:i=j
   ·subst e2;obtain rfl:g=b:=(by rw[hb]at hi;exact(Option.some.inj hi).symm);rcases O.status hB with⟨_,hn⟩|h1|h1
    ·omega
    ·rw[h1]at hg;cases hg
    ·rw[h1]at hg;cases hg
   ·have hq:=D.EZ i g e1 e2 hi;have hz:q i=0:=by
     have hs:sumTo gs.size (upd q i 0)+q i=sumTo gs.size q+0:=by
      have:=sumTo_upd q 0 id BC
      simpa using this
     omega
    rw[hz]at hq;rw[hq.1]at hg;cases hg
 | succ M ih=>
  intro n gs a w sl t q B hM h0 Bg D I5
  obtain⟨b,hb,hB⟩:=D.idle
  have haw:∀g∈gs,awake g:=by
   intro g hg
   obtain⟨i,hi,rfl⟩:=Array.mem_iff_getElem.1 hg
   have Gz:=Array.getElem?_eq_getElem hi
   by_cases e1:i=h
   ·subst e1;rw[h0]at Gz;rw[<-Option.some.inj Gz];exact awake_of (.inl Bg)
   ·by_cases e2:i=j
    ·subst e2;rw[hb]at Gz;rw[<-Option.some.inj Gz];exact awake_of ((O.status hB).elim (fun x=>.inl x.1) .inr)
    ·exact awake_of ((D.EZ i _ e1 e2 Gz).status.elim .inl fun x=>.inr (.inr x))
  obtain⟨i,g,d,Cz,hi,hg,BH⟩:=crowd_pick (P:=P) (w:=w) (sl:=sl) haw ⟨h,a,h0,Bg⟩;have BC:i<gs.size:=(Array.getElem?_eq_some_iff.1 hi).1;by_cases e1:i=h
  ·subst e1;obtain rfl:g=a:=(by rw[h0]at hi;exact(Option.some.inj hi).symm);obtain⟨a',w',es,B',hgo,hBB,EY,hkz,BA,hK⟩:=I5 (w.at d) (BO.at w d);have BD:=runT_crowd_go (P:=P) (sl:=Cz) (i:=i) hi hgo;refine⟨1,(gs.map (woken P g a' w')).setIfInBounds i a',a',w',Cz,t++MemOp.ofEvents i g.frame.fn g.frame.place es,q,n,B',by simp only[runNT,BH,BD],by simp,by simp[BC],hK,hBB,⟨D.ne,D.zero,D.mem,⟨b,?_,O.calm w' _ hB hkz (Ej D.ne EY)⟩,fun k x G8 Kn hx=>?_,fun k hk=>?_,(D.tr.mono hBB).own EY,BA⟩⟩
   ·rw[Array.getElem?_setIfInBounds_ne D.ne,Array.getElem?_map,hb];simp only[Option.map_some,Option.some.injEq];exact woken_of_again (O.again hB w' hkz)
   ·rw[Array.getElem?_setIfInBounds_ne (Ne.symm G8),Array.getElem?_map]at hx;obtain⟨y,hy,rfl⟩:=Option.map_eq_some_iff.1 hx;have hq:=D.EZ k y G8 Kn hy;rw[woken_quitsD hq,Deaf_other t (Ne.symm G8) _ ofEvents_g];exact hq
   ·rw[Deaf_other t (g':=i) (by simp at hk;omega) _ ofEvents_g];exact D.above k (by simpa using hk)
  ·by_cases e2:i=j
   ·subst e2;obtain rfl:g=b:=(by rw[hb]at hi;exact(Option.some.inj hi).symm);have iW:∀k y,k≠i->gs[k]?=some y->y.status≠.blocked:=by
     intro k y hk hy
     by_cases e3:k=h
     ·subst e3;rw[h0]at hy;rw[<-Option.some.inj hy,Bg];simp
     ·have:=(D.EZ k y e3 hk hy).status;rcases this with h1|h1<;>rw[h1]<;>simp
    rcases O.step hB hg D.tr D.size d with⟨n',g',w',es,hn,hgo,hoff,⟨Bu,hBu,hsu,Gw⟩,hB'⟩|⟨n',g₂,cases,shape,es,hn,GA,AO,Gw,hB'⟩|⟨n',g₂,cases,shape,es,k,c,z,cap,s,r,tm,hn,GA,hk,hcl,AO,Gw,hB'⟩
    ·have BD:=runT_crowd_go (P:=P) (sl:=Cz) (i:=i) hi hgo;have BA:((gs.map (woken P g g' w')).setIfInBounds i g').size=gs.size:=(by simp);obtain⟨N,AZ,a'',Jl,Gd,t',q',n'',B',hr,FD,h0',hS,hB2,D'⟩:=ih n' ((gs.map (woken P g g' w')).setIfInBounds i g') a w' Cz (t++MemOp.ofEvents i g.frame.fn g.frame.place es) q Bu (by rw[BA];omega)
      (by rw[Array.getElem?_setIfInBounds_ne e1,Array.getElem?_map,h0];simp[woken_run Bg]) Bg
      ⟨D.ne,D.zero,D.mem,⟨g',by simp[BC],hB'⟩,fun k x G8 Kn hx=>by
       rw[Array.getElem?_setIfInBounds_ne (Ne.symm Kn),Array.getElem?_map]at hx
       obtain⟨y,hy,rfl⟩:=Option.map_eq_some_iff.1 hx
       have hq:=D.EZ k y G8 Kn hy
       rw[woken_quitsD hq,Deaf_other t (Ne.symm Kn) _ ofEvents_g]
       exact hq,fun k hk=>by
       rw[Deaf_other t (g':=i) (by simp at hk;omega) _ ofEvents_g]
       exact D.above k (by simpa using hk),Gw,hsu⟩
      (fun w1 hw1=>by
       obtain⟨a',w2,es2,B2,k1,k2,k3,k4,k5,k6⟩:=I5 w1 (hoff.trans hw1)
       exact⟨a',w2,es2,max B2 Bu,k1,Nat.le_max_right ..,fun e he=>(k3 e he).mono (Nat.le_max_left ..),k4,Nat.le_trans k5 (Nat.le_max_left ..),k6⟩);exact⟨N+1,AZ,a'',Jl,Gd,t',q',n'',B',by simp only[runNT,BH,BD];exact hr,FD.trans BA,h0',hS,Nat.le_trans hBu hB2,D'⟩
    ·have BD:=crowd_waits (P:=P) (sl:=Cz) (i:=i) hi GA (fun cc Fa=>by
      obtain⟨c,z,k,rfl,hc⟩:=AO cc Fa
      exact ways_recv_none (show(w.at d).heap[c]?=_ from hc) (Ew iW));have BA:(gs.setIfInBounds i (parked g₂ cases shape)).size=gs.size:=(by simp);obtain⟨N,AZ,a'',Jl,Gd,t',q',n'',B',hr,FD,h0',hS,hB2,D'⟩:=ih n' (gs.setIfInBounds i (parked g₂ cases shape)) a (w.at d) Cz (t++MemOp.ofEvents i g.frame.fn g.frame.place es) q B (by rw[BA];omega)
      (by rw[Array.getElem?_setIfInBounds_ne e1];exact h0) Bg
      ⟨D.ne,D.zero,D.mem,⟨_,by simp[BC],hB'⟩,fun k x G8 Kn hx=>by
       rw[Array.getElem?_setIfInBounds_ne (Ne.symm Kn)]at hx
       rw[Deaf_other t (Ne.symm Kn) _ ofEvents_g]
       exact D.EZ k x G8 Kn hx,fun k hk=>by
       rw[Deaf_other t (g':=i) (by simp at hk;omega) _ ofEvents_g]
       exact D.above k (by simpa using hk),Gw,D.size⟩
      (fun w1 hw1=>I5 w1 ((BO.at w d).trans hw1));exact⟨N+1,AZ,a'',Jl,Gd,t',q',n'',B',by simp only[runNT,BH,BD];exact hr,FD.trans BA,h0',hS,hB2,D'⟩
    ·have BD:=crowd_sel_recv_closed (P:=P) (sl:=Cz) (i:=i) hi GA hk (fun m cc hm Fa=>by
      obtain⟨c',z',k',rfl,hc⟩:=AO m cc hm Fa
      exact ways_recv_none (show(w.at d).heap[c']?=_ from hc) (Ew iW)) (show(w.at d).heap[c]?=_ from hcl) (Ew iW);have BA:(gs.setIfInBounds i (Conc.served g₂ (commResult cases shape k z false))).size=gs.size:=(by simp);have hg1:∀op∈MemOp.ofEvents i g.frame.fn g.frame.place es++#[{ g:=i,fn:=g₂.frame.fn,pos:=g₂.frame.place,act:=.recvClosed c }],op.g=i:=by
      intro op AO
      rcases Array.mem_append.1 AO with AO|AO
      ·exact ofEvents_g op AO
      ·simp at AO;subst AO;rfl
     obtain⟨N,AZ,a'',Jl,Gd,t',q',n'',B',hr,FD,h0',hS,hB2,D'⟩:=ih n' (gs.setIfInBounds i (Conc.served g₂ (commResult cases shape k z false))) a (w.at d) Cz (t++(MemOp.ofEvents i g.frame.fn g.frame.place es++#[{ g:=i,fn:=g₂.frame.fn,pos:=g₂.frame.place,act:=.recvClosed c }])) q B (by rw[BA];omega)
      (by rw[Array.getElem?_setIfInBounds_ne e1];exact h0) Bg
      ⟨D.ne,D.zero,D.mem,⟨_,by simp[BC],hB'⟩,fun k x G8 Kn hx=>by
       rw[Array.getElem?_setIfInBounds_ne (Ne.symm Kn)]at hx
       rw[Deaf_other t (Ne.symm Kn) _ hg1]
       exact D.EZ k x G8 Kn hx,fun k hk=>by
       rw[Deaf_other t (g':=i) (by simp at hk;omega) _ hg1]
       exact D.above k (by simpa using hk),Gw,D.size⟩
      (fun w1 hw1=>I5 w1 ((BO.at w d).trans hw1));exact⟨N+1,AZ,a'',Jl,Gd,t',q',n'',B',by simp only[runNT,BH,BD];exact hr,FD.trans BA,h0',hS,hB2,D'⟩
   ·have Ik:i≠0:=by rcases D.zero with e|e<;>omega
    have hq:=D.EZ i g e1 e2 hi;have hi0:(i==0)=false:=(by simp;omega);cases hqi:q i with
    | zero=>rw[hqi]at hq;rw[hq.1]at hg;cases hg
    | succ k=>
     rw[hqi]at hq
     rcases hq with⟨hf,_⟩|⟨_,g',es,hm,hstp,hq'⟩
     ·rw[hf]at hg;cases hg
     have BD:=runT_crowd_go (P:=P) (sl:=Cz) (i:=i) hi (by rw[hi0];exact hstp (w.at d));have BA:((gs.map (woken P g g' (w.at d))).setIfInBounds i g').size=gs.size:=(by simp);have hsum:sumTo gs.size (upd q i k)+(k+1)=sumTo gs.size q+k:=by
      have:=sumTo_upd q k id BC
      simpa [hqi]using this
     have hmute:∀op∈MemOp.ofEvents i g.frame.fn g.frame.place es,op.act.touch?=none:=fun op AO=>by obtain⟨e,he,rfl⟩:=Go.Conc.mem_ofEvents AO;exact touch_mute (hm e he)
     have Gw:PX Ac Still Mem Ak B h (t++MemOp.ofEvents i g.frame.fn g.frame.place es):=by
      refine(D.tr.fewer (IQ:=fun g=>Mem g/\g≠i) fun g hg=>hg.1).appMute ofEvents_g hmute (fun x=>(x.2 rfl).elim) (fun op AO=>by obtain⟨e,he,rfl⟩:=Go.Conc.mem_ofEvents AO;exact low_mute (hm e he) B) |> fun H=>⟨H.clean,H.known,fun x y hx hw hS g hg=>?_,fun g hg=>?_,H.seen⟩
      ·obtain⟨op,AO,zM⟩:=touch_of hx;rcases getElem?_append_cases AO with⟨_,Fj⟩|⟨_,G7⟩
       ·exact(D.tr.wrote x y (by rw[touchAt_of Fj];exact zM) hw hS g hg).app _
       ·rw[hmute op G7]at zM;cases zM
      ·by_cases e3:g=i
       ·subst e3;exact((D.mem g hg).elim e1 e2).elim
       ·rw[Deaf_other t (Ne.symm e3) _ ofEvents_g];exact D.tr.hears g hg
     obtain⟨N,AZ,a'',Jl,Gd,t',q',n'',B',hr,FD,h0',hS,hB2,D'⟩:=ih n ((gs.map (woken P g g' (w.at d))).setIfInBounds i g') a (w.at d) Cz (t++MemOp.ofEvents i g.frame.fn g.frame.place es) (upd q i k) B (by rw[BA];omega)
      (by rw[Array.getElem?_setIfInBounds_ne e1,Array.getElem?_map,h0];simp[woken_run Bg]) Bg
      ⟨D.ne,D.zero,D.mem,⟨b,by
       rw[Array.getElem?_setIfInBounds_ne e2,Array.getElem?_map,hb]
       simp only[Option.map_some,Option.some.injEq]
       exact woken_of_again (O.again hB (w.at d) fun _ _=>rfl),O.calm (w.at d) _ hB (fun _ _=>rfl) (Lg e2 Ik hm)⟩,fun x y IK Ia hx=>by
       by_cases e3:i=x
       ·subst e3;rw[Array.getElem?_setIfInBounds_self_of_lt (by simpa using BC)]at hx;obtain rfl:=Option.some.inj hx;rw[upd_same,Deaf_own];exact hq'
       ·rw[Array.getElem?_setIfInBounds_ne e3,Array.getElem?_map]at hx;obtain⟨z,hz,rfl⟩:=Option.map_eq_some_iff.1 hx;have hqj:=D.EZ x z IK Ia hz;rw[woken_quitsD hqj,upd_ne q k (Ne.symm e3),Deaf_other t e3 _ ofEvents_g];exact hqj,fun x hx=>by
       rw[Deaf_other t (g':=i) (by simp at hx;omega) _ ofEvents_g];exact D.above x (by simpa using hx),Gw,D.size⟩
      (fun w1 hw1=>I5 w1 ((BO.at w d).trans hw1))
     exact⟨N+1,AZ,a'',Jl,Gd,t',q',n'',B',by simp only[runNT,BH,BD];exact hr,FD.trans BA,h0',hS,hB2,D'⟩
end
section
variable {P:Program} {Z:Nat->Prop} {Ac Still:Loc->Prop} {Mem Ak:Nat->Prop} {h j:Nat} {By:Nat->Goroutine->World->Trace->Prop}
theorem vN (hu:EP Ac Z) (hs:EP Still Z) {n B:Nat} (hn:n<=B) {e:Event} (he:rT Z n e):Ux Ac Still B e:=by
 have h1:=VR hu hn he;have h2:=VR hs hn he;refine⟨fun x hx=>⟨fun BH=>?_,fun hsh=>h1.1 x hx hsh⟩,h1.2.1,h1.2.2.1,h1.2.2.2,fun a ha=>?_⟩
 case refine_2=>
  rcases he with⟨a,e1,_⟩|⟨r,e1,_⟩|e1|⟨f,e1⟩<;>rw[e1]at ha<;>cases ha
 exfalso;obtain⟨loc,wr,sy⟩:=e;rcases he with⟨a,e1,e2,_⟩|⟨r,e1,e2,_⟩|e1|⟨f,e1⟩
 ·simp only at e1;subst e1;simp only[MemAct.ofEvent,MemAct.touch?]at hx;obtain rfl:=Option.some.inj hx;exact e2 (hs.1 _ BH)
 ·simp only at e1;subst e1;cases wr<;>cases sy<;>simp only[MemAct.ofEvent,MemAct.touch?]at hx<;>first
   | (obtain rfl:=Option.some.inj hx
      exact e2 (hs.2 _ BH))
   | (cases hx;done)
 all_goals
  simp only at e1;subst e1
  simp[MemAct.ofEvent,MemAct.touch?]at hx
def AB (P:Program) (gs:Array Goroutine) (w:World) (sl:Option (W_)) (t:Trace) (Q:Array Goroutine->World->Trace->Prop):Prop:=
 ∃N AZ w' Cz t',runNT P N (crowd gs w sl) t=(.next (crowd AZ w' Cz),t')/\AZ.size=gs.size/\Q AZ w' t'
theorem AB.now {gs:Array Goroutine} {w:World} {sl:Option (W_)} {t:Trace} {Q:Array Goroutine->World->Trace->Prop} (hq:Q gs w t):AB P gs w sl t Q:=⟨0,gs,w,sl,t,rfl,rfl,hq⟩
theorem AB.bind {gs:Array Goroutine} {w:World} {sl:Option (W_)} {t:Trace} {Q Q':Array Goroutine->World->Trace->Prop} (hq:AB P gs w sl t Q) (hk:∀AZ w' Cz t',AZ.size=gs.size->Q AZ w' t'->AB P AZ w' Cz t' Q'):AB P gs w sl t Q':=by
 obtain⟨N,gs1,w1,G6,t1,hr,hs,h1⟩:=hq;obtain⟨N2,gs2,w2,sl2,t2,hr2,hs2,h2⟩:=hk gs1 w1 G6 t1 hs h1;refine⟨N+N2,gs2,w2,sl2,t2,?_,hs2.trans hs,h2⟩;rw[runNT_add,hr];exact hr2
theorem AB.mono {gs:Array Goroutine} {w:World} {sl:Option (W_)} {t:Trace} {Q Q':Array Goroutine->World->Trace->Prop} (hq:AB P gs w sl t Q) (hk:∀AZ w' t',Q AZ w' t'->Q' AZ w' t'):AB P gs w sl t Q':=by
 obtain⟨N,gs1,w1,G6,t1,hr,hs,h1⟩:=hq;exact⟨N,gs1,w1,G6,t1,hr,hs,hk _ _ _ h1⟩
end
/-! ### a seat -/
def EvR (Still:Loc->Prop) (e:Event):Prop:=∃a,e=⟨.cell a,false,false⟩/\Still (.cell a)
def Fu (P:Program) (main:Bool) (K:World->Prop) (Still:Loc->Prop) (cases:Array CommCase) (shape:CommShape) (home:Goroutine->Prop):Nat->Goroutine->Prop
 | 0,g=>∃g₂ es,home g₂/\g₂.status=.running/\(∀e∈es,EvR Still e)/\∀w,K w->stepG P main g w=.comm g₂ cases true shape w es
 | k+1,g=>∃g' es,(g'.status=.running)/\(∀e∈es,EvR Still e)/\(∀w,K w->stepG P main g w=.go g' w es)/\Fu P main K Still cases shape home k g'
structure N9 (Z:Nat->Prop) (Still:Loc->Prop) (K:World->Prop):Prop where
 keep:∀w w',GK Z w w'->K w->K w'
 still:∀w a,K w->Still (.cell a)->a.block<w.heap.size
structure UH (Ac Still:Loc->Prop) (j:Nat) (TT:Trace->Prop):Prop where
 ss:∀l,Still l->¬Ac l
 calm:∀t u,TT t->Ry Ac Still j u->TT (t++u)
 reads:∀t u,TT t->(∀op∈u,∀b,op.act.touch?=some b->b.write=false/\Still b.loc)->TT (t++u)
def KD (P:Program) (main:Bool) (K K1:World->Prop) (TT:Trace->Prop) (Still:Loc->Prop) (cases:Array CommCase) (shape:CommShape) (home:Goroutine->Prop) (n:Nat) (g:Goroutine) (w:World) (t:Trace):Prop:=
 (K1 w/\TT t)/\(∀cc∈cases,ET w cc)/\((n=0/\∃g₂,g=parked g₂ cases shape/\home g₂/\g₂.status=.running)\/(∃k,n=k+1/\g.status=.running/\Fu P main K Still cases shape home k g))
section
variable {P:Program} {Z:Nat->Prop} {Ac Still:Loc->Prop} {Mem Ak:Nat->Prop} {h j:Nat} {K K1:World->Prop} {TT:Trace->Prop} {cases:Array CommCase} {shape:CommShape} {home:Goroutine->Prop}
theorem QQ {w w':World} (hz:∀cc∈cases,∀c z,cc=rcase c z->Z c) (hk:GK Z w w') (ho:∀cc∈cases,ET w cc):∀cc∈cases,ET w' cc:=fun cc Fa=>by
 obtain⟨c,z,k,e,hc⟩:=ho cc Fa;exact⟨c,z,k,e,by rw[hk c (hz cc Fa c z e)];exact hc⟩
theorem FM {B i:Nat} {fn:FuncId} {pos:String} {es:Array Event} {w:World} (L:N9 Z Still K) (hK:K w) (hB:w.heap.size<=B) (Ex:∀e∈es,EvR Still e):
  (∀op∈MemOp.ofEvents i fn pos es,∀b,op.act.touch?=some b->b.write=false/\Still b.loc)/\(∀t,Deaf (t++MemOp.ofEvents i fn pos es) i=Deaf t i)/\(∀op∈MemOp.ofEvents i fn pos es,op.act.low B):=by
 refine⟨fun op AO b hb=>?_,fun t=>?_,fun op AO=>?_⟩
 ·obtain⟨e,he,rfl⟩:=Go.Conc.mem_ofEvents AO;obtain⟨a,rfl,hs⟩:=Ex e he;simp only[MemAct.ofEvent,MemAct.touch?]at hb;obtain rfl:=Option.some.inj hb;exact⟨rfl,hs⟩
 ·rw[Deaf_own];exact deafBehind_still (fun e he=>by obtain⟨a,rfl,_⟩:=Ex e he;exact⟨by simp,by simp⟩) _
 ·obtain⟨e,he,rfl⟩:=Go.Conc.mem_ofEvents AO;obtain⟨a,rfl,hs⟩:=Ex e he;have:=L.still w a hK hs;simp only[MemAct.ofEvent,MemAct.low,Loc.low];omega
theorem Rl (L:N9 Z Still K1) (hK1:∀w,K1 w->K w) (hT:UH Ac Still j TT) (hz:∀cc∈cases,∀c z,cc=rcase c z->Z c) (hM:Mem j) (hL:Ak j):
  Fp P Z Ac Still (fun B t=>PX Ac Still Mem Ak B h t) j (KD P (j==0) K K1 TT Still cases shape home) where
 status:=by
  rintro n g w t ⟨_,_,⟨rfl,g₂,rfl,_⟩|⟨k,rfl,hs,_⟩⟩
  ·exact .inr (.inl rfl)
  ·exact .inl ⟨hs,by omega⟩
 again:=by
  rintro n g w t ⟨_,ho,⟨rfl,g₂,rfl,_⟩|⟨k,rfl,hs,_⟩⟩ w' hk
  ·refine again_all_open fun cc Fa=>?_
   obtain⟨c,z,k,e,hc⟩:=QQ hz hk ho cc Fa;exact⟨c,z,0,#[],k,k,false,e,hc⟩
  ·exact again_running _ (.inl hs)
 calm:=by
  rintro n g w t w' u ⟨⟨hK,TJ⟩,ho,hs⟩ hk hu
  exact⟨⟨L.keep w w' hk hK,hT.calm t u TJ hu⟩,QQ hz hk ho,hs⟩
 step:=by
  rintro n g w t B ⟨⟨hK,TJ⟩,ho,⟨rfl,g₂,rfl,_⟩|⟨k,rfl,hs,hw⟩⟩ Bg Gw hB d
  ·cases Bg
  ·have Rh:K1 (w.at d):=L.keep w (w.at d) (fun _ _=>rfl) hK;cases k with
   | zero=>
    obtain⟨g₂,es,hh,hr,Ex,BH⟩:=hw
    obtain⟨r1,r2,r3⟩:=FM (B:=B) (i:=j) (fn:=g.frame.fn) (pos:=g.frame.place) L hK hB Ex
    exact .inr (.inl ⟨0,g₂,cases,shape,es,by omega,BH _ (hK1 _ Rh),ho,PX.appRead hT.ss Gw hM hL ofEvents_g r1 (r2 t) r3,⟨Rh,hT.reads t _ TJ r1⟩,ho,.inl ⟨rfl,g₂,rfl,hh,hr⟩⟩)
   | succ k=>
    obtain⟨g',es,hr,Ex,BH,hw'⟩:=hw
    obtain⟨r1,r2,r3⟩:=FM (B:=B) (i:=j) (fn:=g.frame.fn) (pos:=g.frame.place) L hK hB Ex
    exact .inl ⟨k+1,g',w.at d,es,by omega,BH _ (hK1 _ Rh),BO.at w d,⟨B,Nat.le_refl _,hB,PX.appRead hT.ss Gw hM hL ofEvents_g r1 (r2 t) r3⟩,⟨Rh,hT.reads t _ TJ r1⟩,ho,.inr ⟨k,rfl,hr,hw'⟩⟩
end
end Go.Fxa
