/- The holder gives: a send, alon -/
import Derived.Test.YtmhplpfpcnjekaaGreatA05
namespace Go.Fxa
open Go.Conc
open Go.ConcN (sumTo upd sumTo_upd upd_ne upd_same)
theorem fB {g:Goroutine} {w:World} {cs:Array CommCase} {sh:CommShape} (h:∀cc∈cs,∃c cap buf s r tm,cc.chan=.chan (some c)/\w.heap[c]?=some (.chan cap buf false s r tm)):(parked g cs sh).again w=parked g cs sh:=by
 simp[Goroutine.again,parked];intro x hx;obtain⟨c,cap,buf,s,r,tm,e,hc⟩:=h cs[x] (Array.getElem_mem hx);rw[e];simp[hc]
theorem Oh {g:Goroutine} {cs:Array CommCase} {sh:CommShape} {k c:Nat} {v z:Value} (hk:cs[k]?=some (scase c v z)) (hu:∀(m:Nat) (cc:CommCase),m≠k->cs[m]?=some cc->cc.chan≠.chan (some c)):offersAt (parked g cs sh) c true=[k]:=by
 have hf:(cs.zipIdx.toList.filter fun x:CommCase×Nat=>x.1.send.isSome==true && (match x.1.chan with | .chan (some r')=>r'==c|_=>false))=[(scase c v z,k)]:=by
  have hz:∀m:Nat,cs.zipIdx.toList[m]?=(cs[m]?).map fun x=>(x,m):=by intro m;simp
  have key:=filter_map_one (fun x:CommCase×Nat=>x) (fun x:CommCase×Nat=>x.1.send.isSome==true && (match x.1.chan with | .chan (some r')=>r'==c|_=>false)) cs.zipIdx.toList k (scase c v z,k) (by rw[hz,hk];rfl) (by simp[scase]) (by
   intro m x hm hx
   rw[hz]at hx
   cases e:cs[m]? with
   | none=>rw[e]at hx;cases hx
   | some y=>
    rw[e]at hx
    simp only[Option.map_some,Option.some.injEq]at hx
    subst hx
    have:=hu m y hm e
    simp only[Bool.and_eq_false_iff]
    refine .inr ?_
    split
    ·rename_i r' he;rw[beq_eq_false_iff_ne];intro e';subst e';exact this he
    ·rfl)
  simpa using key
 unfold offersAt;exact congrArg (List.map fun x:CommCase×Nat=>x.2) hf
section
variable {P:Program} {Z:Nat->Prop} {Ac Still:Loc->Prop} {Mem Ak:Nat->Prop} {h j:Nat} {K K1:World->Prop} {TT:Trace->Prop} {cJ cH:Array CommCase} {Rt TD:CommShape} {home:Goroutine->Prop} {kh kj c:Nat} {v z zj:Value} {a₂:Goroutine}
structure RN (Z:Nat->Prop) (cH cJ:Array CommCase) (kh kj c:Nat) (v z zj:Value):Prop where
 hkh:cH[kh]?=some (scase c v z)
 yO:∀(m:Nat) cc,m≠kh->cH[m]?=some cc->∃c' z',cc=rcase c' z'/\c'≠c/\Z c'
 hkj:cJ[kj]?=some (rcase c zj)
 hoj:∀(m:Nat) cc,m≠kj->cJ[m]?=some cc->cc.chan≠.chan (some c)
 hrj:∀cc∈cJ,∃c z,cc=rcase c z/\Z c
def Met (P:Program) (TT:Trace->Prop) (Ac Still:Loc->Prop) (Mem Ak:Nat->Prop) (B h j:Nat) (cH cJ:Array CommCase) (TD Rt:CommShape) (home:Goroutine->Prop) (kh kj c:Nat) (v:Value) (a₂:Goroutine) (w:World) (AZ:Array Goroutine) (w':World) (t':Trace):Prop:=
 ∃(q':Nat->Nat) (g₂:Goroutine) (d k:Nat),AZ[h]?=some (Conc.served a₂ (commResult cH TD kh undef false))/\AZ[j]?=some (Conc.served g₂ (commResult cJ Rt kj v true))/\home g₂/\g₂.status=.running/\w.heap[c]?=some (.chan 0 #[] false k k false)/\w'=(w.at d).setChan c 0 #[] false (k+1) (k+1) false/\
  (∀i g,i≠h->i≠j->AZ[i]?=some g->QuitsD P (q' i) (Deaf t' i) g)/\(∀i,AZ.size<=i->Deaf t' i=0)/\PX Ac Still Mem (fun g=>Ak g/\g≠j) B j t'/\TT t'/\PX Ac Still Mem Ak B h t'
theorem RN.ab2 (M:RN Z cH cJ kh kj c v z zj) {w:World} (hJ:∀cc∈cJ,ET w cc) (hH:∀(m:Nat) cc,m≠kh->cH[m]?=some cc->ET w cc):∀cc∈cH,∃c cap buf s r tm,cc.chan=.chan (some c)/\w.heap[c]?=some (.chan cap buf false s r tm):=by
 intro cc Fa;obtain⟨m,hm,rfl⟩:=Array.mem_iff_getElem.1 Fa;have hm':=Array.getElem?_eq_getElem hm;by_cases e:m=kh
 ·subst e;rw[M.hkh]at hm';rw[<-Option.some.inj hm'];obtain⟨c',z',k,e',hc⟩:=hJ _ (Array.mem_of_getElem? M.hkj);have:c'=c:=by simp[rcase]at e';exact e'.1.symm
  subst this;exact⟨c',0,#[],k,k,false,rfl,hc⟩
 ·obtain⟨c',z',k,e',hc⟩:=hH m _ e hm';rw[e'];exact⟨c',0,#[],k,k,false,rfl,hc⟩
theorem RN.chan (M:RN Z cH cJ kh kj c v z zj) {w:World} (hJ:∀cc∈cJ,ET w cc):∃k,w.heap[c]?=some (.chan 0 #[] false k k false):=by
 obtain⟨c',z',k,e',hc⟩:=hJ _ (Array.mem_of_getElem? M.hkj);have:c'=c:=by simp[rcase]at e';exact e'.1.symm
 subst this;exact⟨k,hc⟩
theorem Met.Uz {B d:Nat} {w:World} {AZ:Array Goroutine} {w':World} {t':Trace} (H:Met P TT Ac Still Mem Ak B h j cH cJ TD Rt home kh kj c v a₂ (w.at d) AZ w' t'):Met P TT Ac Still Mem Ak B h j cH cJ TD Rt home kh kj c v a₂ w AZ w' t':=by
 obtain⟨q',g₂,d',k,h1,h2,h3,h4,h5,h6,h7⟩:=H;exact⟨q',g₂,d',k,h1,h2,h3,h4,h5,h6,h7⟩
theorem kI (L:N9 Z Still K1) (hK1:∀w,K1 w->K w) (hT:UH Ac Still j TT) (M:RN Z cH cJ kh kj c v z zj) (hMh:Mem h) (hMj:Mem j) (Uv:Ak j):∀(X k:Nat) (gs:Array Goroutine) (b:Goroutine) (w:World) (sl:Option (W_)) (t:Trace) (q:Nat->Nat) (B:Nat),k+sumTo gs.size q<=X->h≠j->(h=0\/j=0)->(∀g,Mem g->g=h\/g=j)->
  gs[h]?=some (parked a₂ cH TD)->gs[j]?=some b->b.status=.running->K1 w->TT t->(∀cc∈cJ,ET w cc)->(∀(m:Nat) cc,m≠kh->cH[m]?=some cc->ET w cc)->Fu P (j==0) K Still cJ Rt home k b->
  (∀i g,i≠h->i≠j->gs[i]?=some g->QuitsD P (q i) (Deaf t i) g)->(∀i,gs.size<=i->Deaf t i=0)->PX Ac Still Mem Ak B h t->w.heap.size<=B->
  AB P gs w sl t (Met P TT Ac Still Mem Ak B h j cH cJ TD Rt home kh kj c v a₂ w):=by
 intro X
 induction X with
 | zero=>
  intro k gs b w sl t q B hX BN hz hmem hh hj hb hK TJ Vm lC hw hlv hab Gw hB
  have hjl:j<gs.size:=(Array.getElem?_eq_some_iff.1 hj).1
  have haw:∀g∈gs,awake g:=by
   intro g hg
   obtain⟨i,hi,rfl⟩:=Array.mem_iff_getElem.1 hg
   have Gz:=Array.getElem?_eq_getElem hi
   by_cases e1:i=h
   ·subst e1;rw[hh]at Gz;rw[<-Option.some.inj Gz];exact awake_of (.inr (.inl rfl))
   ·by_cases e2:i=j
    ·subst e2;rw[hj]at Gz;rw[<-Option.some.inj Gz];exact awake_of (.inl hb)
    ·exact awake_of ((hlv i _ e1 e2 Gz).status.elim .inl fun x=>.inr (.inr x))
  obtain⟨i,g,d,Cz,hi,hg,BH⟩:=crowd_pick (P:=P) (w:=w) (sl:=sl) haw ⟨j,b,hj,hb⟩;have BC:i<gs.size:=(Array.getElem?_eq_some_iff.1 hi).1;have e1:i≠h:=by intro e;subst e;rw[hh]at hi;rw[<-Option.some.inj hi]at hg;cases hg
  by_cases e2:i=j
  ·subst e2;obtain rfl:g=b:=(by rw[hj]at hi;exact(Option.some.inj hi).symm);obtain rfl:k=0:=(by omega);obtain⟨g₂,es,hhome,hr,Ex,GA⟩:=hw;have Rh:K1 (w.at d):=L.keep w (w.at d) (fun _ _=>rfl) hK;obtain⟨kc,hc⟩:=M.chan Vm;have hother:∀x y,x≠h->(gs.setIfInBounds i ph)[x]?=some y->∀c' b',offersAt y c' b'=[]:=by
    intro x y hx hy c' b'
    rcases getElem?_stand gs i x y hy with⟨rfl,rfl⟩|⟨hxi,hy'⟩
    ·exact offersAt_ph _ _
    ·exact offersAt_of_not_blocked (by rcases(hlv x y hx hxi hy').status with h1|h1<;>rw[h1]<;>simp) _ _
   have mI:(gs.setIfInBounds i ph)[h]?=some (parked a₂ cH TD):=stand_get (Ne.symm e1) hh;have BD:=Nb (P:=P) (sl:=Cz) (i:=i) (j:=h) (w₁:=w.at d) hi (GA _ (hK1 _ Rh)) M.hkj (fun m cc hm Fa=>by
     obtain⟨c',z',k',rfl,hc'⟩:=Vm cc (Array.mem_of_getElem? Fa)
     refine ways_recv_none (show(w.at d).heap[c']?=_ from hc') (partners_nil fun x y hy=>?_)
     by_cases hx:x=h
     ·subst hx;rw[mI]at hy;rw[<-Option.some.inj hy];have zT:c'≠c:=fun e=>M.hoj m _ hm Fa (by rw[e];rfl)
      have:(cH.zipIdx.toList.filter fun x:CommCase×Nat=>x.1.send.isSome==true && (match x.1.chan with | .chan (some r')=>r'==c' | _=>false))=[]:=by
       rw[List.filter_eq_nil_iff]
       rintro⟨cc,m'⟩ hm'
       have hm2:=mem_of_zipIdx hm'
       by_cases em:m'=kh
       ·subst em;rw[M.hkh]at hm2;rw[<-Option.some.inj hm2];simp[scase];exact fun e=>zT e.symm
       ·obtain⟨c2,z2,rfl,_,_⟩:=M.yO m' cc em hm2;simp[rcase]
      exact congrArg (List.map fun x:CommCase×Nat=>x.2) this
     ·exact hother x y hx hy _ _) (show(w.at d).heap[c]?=_ from hc) (Ne.symm e1) hh M.hkh (by
     rw[partners_one mI (fun x y hx hy=>hother x y hx hy _ _),Oh M.hkh (fun m cc hm Fa=>by
      obtain⟨c2,z2,rfl,hne2,_⟩:=M.yO m cc hm Fa;simp[rcase];exact hne2)]
     rfl)
   obtain⟨r1,r2,r3⟩:=FM (B:=B) (i:=i) (fn:=g.frame.fn) (pos:=g.frame.place) L hK hB Ex;have hcB:c<B:=(by have:=(Array.getElem?_eq_some_iff.1 hc).1;omega);have TQ:=PX.appRead hT.ss Gw hMj Uv ofEvents_g r1 (r2 t) r3;have mH:=TQ.give hMh hMj a₂.frame.fn a₂.frame.place g₂.frame.fn g₂.frame.place kc 0 hcB;have hsize:((gs.setIfInBounds h (Conc.served a₂ (commResult cH TD kh undef false))).setIfInBounds i (Conc.served g₂ (commResult cJ Rt kj v true))).size=gs.size:=(by simp);have hhl:h<gs.size:=(Array.getElem?_eq_some_iff.1 hh).1;have hdeaf:∀x,x≠h->x≠i->Deaf (t++(MemOp.ofEvents i g.frame.fn g.frame.place es++met h i a₂.frame.fn a₂.frame.place g₂.frame.fn g₂.frame.place c kc 0)) x=Deaf t x:=by
    intro x h1 h2
    rw[<-Array.append_assoc,Deaf_quiet (met_quiet _ _ _ _ _ _ _ _ _ x),Deaf_other t (Ne.symm h2) _ ofEvents_g]
   refine⟨1,_,_,Cz,t++(MemOp.ofEvents i g.frame.fn g.frame.place es++met h i a₂.frame.fn a₂.frame.place g₂.frame.fn g₂.frame.place c kc 0),by simp only[runNT,BH,BD,met],hsize,q,g₂,d,kc,?_,?_,hhome,hr,hc,rfl,fun x y IK Ia hy=>?_,fun x hx=>?_,?_,?_,?_⟩
   ·rw[Array.getElem?_setIfInBounds_ne e1,Array.getElem?_setIfInBounds_self_of_lt hhl]
   ·rw[Array.getElem?_setIfInBounds_self_of_lt (by simpa using BC)]
   ·rw[Array.getElem?_setIfInBounds_ne (Ne.symm Ia),Array.getElem?_setIfInBounds_ne (Ne.symm IK)]at hy;rw[hdeaf x IK Ia];exact hlv x y IK Ia hy
   ·rw[hsize]at hx;rw[hdeaf x (by omega) (by omega)];exact hab x hx
   ·rw[<-Array.append_assoc];exact mH
   ·rw[<-Array.append_assoc];exact hT.reads _ _ (hT.reads t _ TJ r1) (fun op AO b hb=>by rw[met_mute _ _ _ _ _ _ _ _ _ op AO]at hb;cases hb)
   ·rw[<-Array.append_assoc];exact TQ.VO a₂.frame.fn a₂.frame.place g₂.frame.fn g₂.frame.place kc 0 hcB
  ·exfalso;have hq:=hlv i g e1 e2 hi;have hz0:q i=0:=by
    have hs:sumTo gs.size (upd q i 0)+q i=sumTo gs.size q+0:=by
     have:=sumTo_upd q 0 id BC
     simpa using this
    omega
   rw[hz0]at hq;rw[hq.1]at hg;cases hg
 | succ X ih=>
  intro k gs b w sl t q B hX BN hz hmem hh hj hb hK TJ Vm lC hw hlv hab Gw hB
  have hjl:j<gs.size:=(Array.getElem?_eq_some_iff.1 hj).1
  by_cases hz1:k+sumTo gs.size q<=X
  ·exact ih k gs b w sl t q B hz1 BN hz hmem hh hj hb hK TJ Vm lC hw hlv hab Gw hB
  have haw:∀g∈gs,awake g:=by
   intro g hg
   obtain⟨i,hi,rfl⟩:=Array.mem_iff_getElem.1 hg
   have Gz:=Array.getElem?_eq_getElem hi
   by_cases e1:i=h
   ·subst e1;rw[hh]at Gz;rw[<-Option.some.inj Gz];exact awake_of (.inr (.inl rfl))
   ·by_cases e2:i=j
    ·subst e2;rw[hj]at Gz;rw[<-Option.some.inj Gz];exact awake_of (.inl hb)
    ·exact awake_of ((hlv i _ e1 e2 Gz).status.elim .inl fun x=>.inr (.inr x))
  obtain⟨i,g,d,Cz,hi,hg,BH⟩:=crowd_pick (P:=P) (w:=w) (sl:=sl) haw ⟨j,b,hj,hb⟩;have BC:i<gs.size:=(Array.getElem?_eq_some_iff.1 hi).1;have e1:i≠h:=by intro e;subst e;rw[hh]at hi;rw[<-Option.some.inj hi]at hg;cases hg
  have I6:∀x x':Goroutine,woken P x x' (w.at d) (parked a₂ cH TD)=parked a₂ cH TD:=fun x x'=>woken_of_again (fB (M.ab2 (w:=w.at d) Vm lC))
  have Rh:K1 (w.at d):=L.keep w (w.at d) (fun _ _=>rfl) hK;by_cases e2:i=j
  ·subst e2;obtain rfl:g=b:=(by rw[hj]at hi;exact(Option.some.inj hi).symm);cases k with
   | zero=>
    obtain⟨g₂,es,hhome,hr,Ex,GA⟩:=hw
    obtain⟨kc,hc⟩:=M.chan Vm
    have hother:∀x y,x≠h->(gs.setIfInBounds i ph)[x]?=some y->∀c' b',offersAt y c' b'=[]:=by
     intro x y hx hy c' b'
     rcases getElem?_stand gs i x y hy with⟨rfl,rfl⟩|⟨hxi,hy'⟩
     ·exact offersAt_ph _ _
     ·exact offersAt_of_not_blocked (by rcases(hlv x y hx hxi hy').status with h1|h1<;>rw[h1]<;>simp) _ _
    have mI:(gs.setIfInBounds i ph)[h]?=some (parked a₂ cH TD):=stand_get (Ne.symm e1) hh;have BD:=Nb (P:=P) (sl:=Cz) (i:=i) (j:=h) (w₁:=w.at d) hi (GA _ (hK1 _ Rh)) M.hkj (fun m cc hm Fa=>by
      obtain⟨c',z',k',rfl,hc'⟩:=Vm cc (Array.mem_of_getElem? Fa)
      refine ways_recv_none (show(w.at d).heap[c']?=_ from hc') (partners_nil fun x y hy=>?_)
      by_cases hx:x=h
      ·subst hx;rw[mI]at hy;rw[<-Option.some.inj hy];have zT:c'≠c:=fun e=>M.hoj m _ hm Fa (by rw[e];rfl)
       have:(cH.zipIdx.toList.filter fun x:CommCase×Nat=>x.1.send.isSome==true && (match x.1.chan with | .chan (some r')=>r'==c' | _=>false))=[]:=by
        rw[List.filter_eq_nil_iff]
        rintro⟨cc,m'⟩ hm'
        have hm2:=mem_of_zipIdx hm'
        by_cases em:m'=kh
        ·subst em;rw[M.hkh]at hm2;rw[<-Option.some.inj hm2];simp[scase];exact fun e=>zT e.symm
        ·obtain⟨c2,z2,rfl,_,_⟩:=M.yO m' cc em hm2;simp[rcase]
       exact congrArg (List.map fun x:CommCase×Nat=>x.2) this
      ·exact hother x y hx hy _ _) (show(w.at d).heap[c]?=_ from hc) (Ne.symm e1) hh M.hkh (by
      rw[partners_one mI (fun x y hx hy=>hother x y hx hy _ _),Oh M.hkh (fun m cc hm Fa=>by
       obtain⟨c2,z2,rfl,hne2,_⟩:=M.yO m cc hm Fa;simp[rcase];exact hne2)]
      rfl)
    obtain⟨r1,r2,r3⟩:=FM (B:=B) (i:=i) (fn:=g.frame.fn) (pos:=g.frame.place) L hK hB Ex;have hcB:c<B:=(by have:=(Array.getElem?_eq_some_iff.1 hc).1;omega);have TQ:=PX.appRead hT.ss Gw hMj Uv ofEvents_g r1 (r2 t) r3;have mH:=TQ.give hMh hMj a₂.frame.fn a₂.frame.place g₂.frame.fn g₂.frame.place kc 0 hcB;have hsize:((gs.setIfInBounds h (Conc.served a₂ (commResult cH TD kh undef false))).setIfInBounds i (Conc.served g₂ (commResult cJ Rt kj v true))).size=gs.size:=(by simp);have hhl:h<gs.size:=(Array.getElem?_eq_some_iff.1 hh).1;have hdeaf:∀x,x≠h->x≠i->Deaf (t++(MemOp.ofEvents i g.frame.fn g.frame.place es++met h i a₂.frame.fn a₂.frame.place g₂.frame.fn g₂.frame.place c kc 0)) x=Deaf t x:=by
     intro x h1 h2
     rw[<-Array.append_assoc,Deaf_quiet (met_quiet _ _ _ _ _ _ _ _ _ x),Deaf_other t (Ne.symm h2) _ ofEvents_g]
    refine⟨1,_,_,Cz,t++(MemOp.ofEvents i g.frame.fn g.frame.place es++met h i a₂.frame.fn a₂.frame.place g₂.frame.fn g₂.frame.place c kc 0),by simp only[runNT,BH,BD,met],hsize,q,g₂,d,kc,?_,?_,hhome,hr,hc,rfl,fun x y IK Ia hy=>?_,fun x hx=>?_,?_,?_,?_⟩
    ·rw[Array.getElem?_setIfInBounds_ne e1,Array.getElem?_setIfInBounds_self_of_lt hhl]
    ·rw[Array.getElem?_setIfInBounds_self_of_lt (by simpa using BC)]
    ·rw[Array.getElem?_setIfInBounds_ne (Ne.symm Ia),Array.getElem?_setIfInBounds_ne (Ne.symm IK)]at hy;rw[hdeaf x IK Ia];exact hlv x y IK Ia hy
    ·rw[hsize]at hx;rw[hdeaf x (by omega) (by omega)];exact hab x hx
    ·rw[<-Array.append_assoc];exact mH
    ·rw[<-Array.append_assoc];exact hT.reads _ _ (hT.reads t _ TJ r1) (fun op AO b hb=>by rw[met_mute _ _ _ _ _ _ _ _ _ op AO]at hb;cases hb)
    ·rw[<-Array.append_assoc];exact TQ.VO a₂.frame.fn a₂.frame.place g₂.frame.fn g₂.frame.place kc 0 hcB
   | succ k=>
    obtain⟨g',es,hr,Ex,hgo,hw'⟩:=hw
    have BD:=runT_crowd_go (P:=P) (sl:=Cz) (i:=i) hi (hgo _ (hK1 _ Rh))
    have BA:((gs.map (woken P g g' (w.at d))).setIfInBounds i g').size=gs.size:=by simp
    obtain⟨r1,r2,r3⟩:=FM (B:=B) (i:=i) (fn:=g.frame.fn) (pos:=g.frame.place) L hK hB Ex
    obtain⟨N,AZ,w',Gd,t',FW,FD,hQ⟩:=ih k ((gs.map (woken P g g' (w.at d))).setIfInBounds i g') g' (w.at d) Cz (t++MemOp.ofEvents i g.frame.fn g.frame.place es) q B (by rw[BA];omega) BN hz hmem
     (by rw[Array.getElem?_setIfInBounds_ne e1,Array.getElem?_map,hh];simp[I6]) (by simp[BC]) hr Rh (hT.reads t _ TJ r1) Vm lC hw' (fun x y IK Ia hy=>by
      rw[Array.getElem?_setIfInBounds_ne (Ne.symm Ia),Array.getElem?_map]at hy
      obtain⟨y',hy',rfl⟩:=Option.map_eq_some_iff.1 hy
      have hq:=hlv x y' IK Ia hy'
      rw[woken_quitsD hq,Deaf_other t (Ne.symm Ia) _ ofEvents_g];exact hq) (fun x hx=>by
      rw[Deaf_other t (g':=i) (by simp at hx;omega) _ ofEvents_g];exact hab x (by simpa using hx))
     (PX.appRead hT.ss Gw hMj Uv ofEvents_g r1 (r2 t) r3) hB
    exact⟨N+1,AZ,w',Gd,t',by simp only[runNT,BH,BD];exact FW,FD.trans BA,hQ.Uz⟩
  ·have Ik:i≠0:=by rcases hz with e|e<;>omega
   have hq:=hlv i g e1 e2 hi;have hi0:(i==0)=false:=(by simp;omega);cases hqi:q i with
   | zero=>rw[hqi]at hq;rw[hq.1]at hg;cases hg
   | succ kk=>
    rw[hqi]at hq
    rcases hq with⟨hf,_⟩|⟨_,g',es,hm,hstp,hq'⟩
    ·rw[hf]at hg;cases hg
    have BD:=runT_crowd_go (P:=P) (sl:=Cz) (i:=i) hi (by rw[hi0];exact hstp (w.at d));have BA:((gs.map (woken P g g' (w.at d))).setIfInBounds i g').size=gs.size:=(by simp);have hsum:sumTo gs.size (upd q i kk)+(kk+1)=sumTo gs.size q+kk:=by
     have:=sumTo_upd q kk id BC
     simpa [hqi]using this
    have hmute:∀op∈MemOp.ofEvents i g.frame.fn g.frame.place es,op.act.touch?=none:=fun op AO=>by obtain⟨e,he,rfl⟩:=Go.Conc.mem_ofEvents AO;exact touch_mute (hm e he)
    have hnm:¬Mem i:=fun Gz=>(hmem i Gz).elim e1 e2
    obtain⟨N,AZ,w',Gd,t',FW,FD,hQ⟩:=ih k ((gs.map (woken P g g' (w.at d))).setIfInBounds i g') b (w.at d) Cz (t++MemOp.ofEvents i g.frame.fn g.frame.place es) (upd q i kk) B (by rw[BA];omega) BN hz hmem
     (by rw[Array.getElem?_setIfInBounds_ne e1,Array.getElem?_map,hh];simp[I6]) (by rw[Array.getElem?_setIfInBounds_ne e2,Array.getElem?_map,hj];simp[woken_run hb]) hb Rh (hT.calm t _ TJ (Lg e2 Ik hm)) Vm lC hw (fun x y IK Ia hx=>by
       by_cases e3:i=x
       ·subst e3;rw[Array.getElem?_setIfInBounds_self_of_lt (by simpa using BC)]at hx;obtain rfl:=Option.some.inj hx;rw[upd_same,Deaf_own];exact hq'
       ·rw[Array.getElem?_setIfInBounds_ne e3,Array.getElem?_map]at hx;obtain⟨z,hz,rfl⟩:=Option.map_eq_some_iff.1 hx;have hqj:=hlv x z IK Ia hz;rw[woken_quitsD hqj,upd_ne q kk (Ne.symm e3),Deaf_other t e3 _ ofEvents_g];exact hqj) (fun x hx=>by
       rw[Deaf_other t (g':=i) (by simp at hx;omega) _ ofEvents_g];exact hab x (by simpa using hx))
     (Gw.appMute ofEvents_g hmute (fun x=>(hnm x).elim) (fun op AO=>by obtain⟨e,he,rfl⟩:=Go.Conc.mem_ofEvents AO;exact low_mute (hm e he) B)) hB
    exact⟨N+1,AZ,w',Gd,t',by simp only[runNT,BH,BD];exact FW,FD.trans BA,hQ.Uz⟩
theorem Sg (L:N9 Z Still K1) (hK1:∀w,K1 w->K w) (hT:UH Ac Still j TT) (M:RN Z cH cJ kh kj c v z zj) (hMh:Mem h) (hMj:Mem j) (Uv:Ak j) {es:Array Event}:∀(X n:Nat) (gs:Array Goroutine) (a:Goroutine) (w:World) (sl:Option (W_)) (t:Trace) (q:Nat->Nat) (B:Nat),
  n+sumTo gs.size q<X->gs[h]?=some a->a.status=.running->Duo P Ac Still Mem Ak B h j (KD P (j==0) K K1 TT Still cJ Rt home) n gs w t q->(∀(m:Nat) cc,m≠kh->cH[m]?=some cc->ET w cc)->
  (∀d,stepG P (h==0) a (w.at d)=.comm a₂ cH true TD (w.at d) es)->(∀e∈es,Ux Ac Still B e)->AB P gs w sl t (Met P TT Ac Still Mem Ak B h j cH cJ TD Rt home kh kj c v a₂ w):=by
 have hzJ:∀cc∈cJ,∀c z,cc=rcase c z->Z c:=fun cc Fa c z e=>by
  obtain⟨c',z',e',hz⟩:=M.hrj cc Fa
  rw[e]at e'
  have:c=c':=by simp[rcase]at e';exact e'.1
  rw[this];exact hz
 have hsJ:∀cc∈cJ,cc.send=none:=fun cc Fa=>by obtain⟨c',z',e',_⟩:=M.hrj cc Fa;rw[e'];rfl
 intro X
 induction X with
 | zero=>intro n gs a w sl t q B hX;omega
 | succ X ih=>
  intro n gs a w sl t q B hX h0 Bg D lC GA Ex
  obtain⟨b,hb,xH⟩:=D.idle
  have O:Fp P Z Ac Still (fun B t=>PX Ac Still Mem Ak B h t) j (KD P (j==0) K K1 TT Still cJ Rt home):=Rl L hK1 hT hzJ hMj Uv
  have BN:=D.ne
  have haw:∀g∈gs,awake g:=by
   intro g hg
   obtain⟨i,hi,rfl⟩:=Array.mem_iff_getElem.1 hg
   have Gz:=Array.getElem?_eq_getElem hi
   by_cases e1:i=h
   ·subst e1;rw[h0]at Gz;rw[<-Option.some.inj Gz];exact awake_of (.inl Bg)
   ·by_cases e2:i=j
    ·subst e2;rw[hb]at Gz;rw[<-Option.some.inj Gz];exact awake_of ((O.status xH).elim (fun x=>.inl x.1) .inr)
    ·exact awake_of ((D.EZ i _ e1 e2 Gz).status.elim .inl fun x=>.inr (.inr x))
  obtain⟨i,g,d,Cz,hi,hg,BH⟩:=crowd_pick (P:=P) (w:=w) (sl:=sl) haw ⟨h,a,h0,Bg⟩;have BC:i<gs.size:=(Array.getElem?_eq_some_iff.1 hi).1;have hjl:j<gs.size:=(Array.getElem?_eq_some_iff.1 hb).1;have hhl:h<gs.size:=(Array.getElem?_eq_some_iff.1 h0).1;obtain⟨⟨hK,TJ⟩,Vm,Mk⟩:=xH;have Rh:K1 (w.at d):=L.keep w (w.at d) (fun _ _=>rfl) hK;by_cases e1:i=h
  ·subst e1;obtain rfl:g=a:=(by rw[h0]at hi;exact(Option.some.inj hi).symm);have hother:∀x y,x≠j->(gs.setIfInBounds i ph)[x]?=some y->∀c' b',offersAt y c' b'=[]:=by
    intro x y hx hy c' b'
    rcases getElem?_stand gs i x y hy with⟨rfl,rfl⟩|⟨hxi,hy'⟩
    ·exact offersAt_ph _ _
    ·exact offersAt_of_not_blocked (by rcases(D.EZ x y hxi hx hy').status with h1|h1<;>rw[h1]<;>simp) _ _
   have zJ:(gs.setIfInBounds i ph)[j]?=some b:=stand_get (Ne.symm BN) hb;rcases Mk with⟨rfl,g₂,rfl,hhome,hr⟩|⟨k,rfl,hbr,NW⟩
   ·
    obtain⟨kc,hc⟩:=M.chan Vm;have BD:=Tx (P:=P) (sl:=Cz) (i:=i) (j:=j) (w₁:=w.at d) hi (GA d) M.hkh (fun m cc hm Fa=>by
      obtain⟨c',z',k',rfl,hc'⟩:=lC m cc hm Fa
      refine ways_recv_none (show(w.at d).heap[c']?=_ from hc') (partners_nil fun x y hy=>?_)
      by_cases hx:x=j
      ·subst hx;rw[zJ]at hy;rw[<-Option.some.inj hy];exact offersAt_parked_sends hsJ _
      ·exact hother x y hx hy _ _) (show(w.at d).heap[c]?=_ from hc) (Ne.symm BN) hb M.hkj (by
      rw[partners_one zJ (fun x y hx hy=>hother x y hx hy _ _),offersAt_parked_at M.hkj M.hoj]
      rfl)
    have hcB:c<B:=(by have:=(Array.getElem?_eq_some_iff.1 hc).1;have:=D.size;omega);have TQ:=D.tr.own (fn:=g.frame.fn) (pos:=g.frame.place) Ex;have mH:=TQ.give hMh hMj a₂.frame.fn a₂.frame.place g₂.frame.fn g₂.frame.place kc 0 hcB;have hsize:((gs.setIfInBounds j (Conc.served g₂ (commResult cJ Rt kj v true))).setIfInBounds i (Conc.served a₂ (commResult cH TD kh undef false))).size=gs.size:=(by simp);have hdeaf:∀x,x≠i->x≠j->Deaf (t++(MemOp.ofEvents i g.frame.fn g.frame.place es++met i j a₂.frame.fn a₂.frame.place g₂.frame.fn g₂.frame.place c kc 0)) x=Deaf t x:=by
     intro x h1 h2
     rw[<-Array.append_assoc,Deaf_quiet (met_quiet _ _ _ _ _ _ _ _ _ x),Deaf_other t (Ne.symm h1) _ ofEvents_g]
    refine⟨1,_,_,Cz,t++(MemOp.ofEvents i g.frame.fn g.frame.place es++met i j a₂.frame.fn a₂.frame.place g₂.frame.fn g₂.frame.place c kc 0),by simp only[runNT,BH,BD,met],hsize,q,g₂,d,kc,?_,?_,hhome,hr,hc,rfl,fun x y IK Ia hy=>?_,fun x hx=>?_,?_,?_,?_⟩
    ·rw[Array.getElem?_setIfInBounds_self_of_lt (by simpa using BC)]
    ·rw[Array.getElem?_setIfInBounds_ne BN,Array.getElem?_setIfInBounds_self_of_lt hjl]
    ·rw[Array.getElem?_setIfInBounds_ne (Ne.symm IK),Array.getElem?_setIfInBounds_ne (Ne.symm Ia)]at hy;rw[hdeaf x IK Ia];exact D.EZ x y IK Ia hy
    ·rw[hsize]at hx;rw[hdeaf x (by omega) (by omega)];exact D.above x hx
    ·rw[<-Array.append_assoc];exact mH
    ·rw[<-Array.append_assoc];exact hT.reads _ _ (hT.calm t _ TJ (Ej BN Ex)) (fun op AO b hb=>by rw[met_mute _ _ _ _ _ _ _ _ _ op AO]at hb;cases hb)
    ·rw[<-Array.append_assoc];exact TQ.VO a₂.frame.fn a₂.frame.place g₂.frame.fn g₂.frame.place kc 0 hcB
   ·
    obtain⟨kc,hc⟩:=M.chan Vm;have iB:∀(x:Nat) (y:Goroutine),(gs.setIfInBounds i ph)[x]?=some y->∀c' b',offersAt y c' b'=[]:=by
     intro x y hy c' b'
     by_cases hx:x=j
     ·subst hx;rw[zJ]at hy;rw[<-Option.some.inj hy];exact offersAt_of_not_blocked (by rw[hbr];simp) _ _
     ·exact hother x y hx hy c' b'
    have BD:=crowd_waits (P:=P) (sl:=Cz) (i:=i) (w₁:=w.at d) hi (GA d) (fun cc Fa=>by
     obtain⟨m,hm,rfl⟩:=Array.mem_iff_getElem.1 Fa
     have hm':=Array.getElem?_eq_getElem hm
     by_cases em:m=kh
     ·subst em;rw[M.hkh]at hm';rw[<-Option.some.inj hm'];exact ways_send_none (show(w.at d).heap[c]?=_ from hc) (by simp) (partners_nil fun x y hy=>iB x y hy _ _)
     ·obtain⟨c',z',k',e',hc'⟩:=lC m _ em hm';rw[e'];exact ways_recv_none (show(w.at d).heap[c']?=_ from hc') (partners_nil fun x y hy=>iB x y hy _ _))
    have BA:(gs.setIfInBounds i (parked a₂ cH TD)).size=gs.size:=(by simp);obtain⟨N,AZ,w',Gd,t',FW,FD,hQ⟩:=kI (P:=P) (home:=home) (Rt:=Rt) (TD:=TD) (a₂:=a₂) L hK1 hT M hMh hMj Uv (k+sumTo gs.size q) k (gs.setIfInBounds i (parked a₂ cH TD)) b (w.at d) Cz (t++MemOp.ofEvents i g.frame.fn g.frame.place es) q B (by rw[BA];omega) BN D.zero D.mem
     (by rw[Array.getElem?_setIfInBounds_self_of_lt BC]) (by rw[Array.getElem?_setIfInBounds_ne BN];exact hb) hbr Rh (hT.calm t _ TJ (Ej BN Ex)) Vm lC NW (fun x y IK Ia hy=>by
      rw[Array.getElem?_setIfInBounds_ne (Ne.symm IK)]at hy
      rw[Deaf_other t (Ne.symm IK) _ ofEvents_g];exact D.EZ x y IK Ia hy) (fun x hx=>by
      rw[BA]at hx
      rw[Deaf_other t (g':=i) (by omega) _ ofEvents_g];exact D.above x hx)
     (D.tr.own Ex) D.size;exact⟨N+1,AZ,w',Gd,t',by simp only[runNT,BH,BD];exact FW,FD.trans BA,hQ.Uz⟩
  ·by_cases e2:i=j
   ·subst e2;obtain rfl:g=b:=(by rw[hb]at hi;exact(Option.some.inj hi).symm);rcases Mk with⟨rfl,g₂,rfl,hhome,hr⟩|⟨k,rfl,hbr,NW⟩
    ·cases hg
    ·cases k with
     | zero=>
      obtain⟨g₂,BQ,hhome,hr,hes',ba5⟩:=NW
      obtain⟨r1,r2,r3⟩:=FM (B:=B) (i:=i) (fn:=g.frame.fn) (pos:=g.frame.place) L hK D.size hes'
      have iW:∀k y,k≠i->gs[k]?=some y->y.status≠.blocked:=by
       intro k y hk hy
       by_cases e3:k=h
       ·subst e3;rw[h0]at hy;rw[<-Option.some.inj hy,Bg];simp
       ·have:=(D.EZ k y e3 hk hy).status;rcases this with h1|h1<;>rw[h1]<;>simp
      have BD:=crowd_waits (P:=P) (sl:=Cz) (i:=i) (w₁:=w.at d) hi (ba5 _ (hK1 _ Rh)) (fun cc Fa=>by
       obtain⟨c',z',k',rfl,hc'⟩:=Vm cc Fa
       exact ways_recv_none (show(w.at d).heap[c']?=_ from hc') (Ew iW));have BA:(gs.setIfInBounds i (parked g₂ cJ Rt)).size=gs.size:=(by simp);obtain⟨N,AZ,w',Gd,t',FW,FD,hQ⟩:=ih 0 (gs.setIfInBounds i (parked g₂ cJ Rt)) a (w.at d) Cz (t++MemOp.ofEvents i g.frame.fn g.frame.place BQ) q B (by rw[BA];omega)
       (by rw[Array.getElem?_setIfInBounds_ne (Ne.symm BN)];exact h0) Bg
       ⟨BN,D.zero,D.mem,⟨_,Array.getElem?_setIfInBounds_self_of_lt BC,⟨Rh,hT.reads t _ TJ r1⟩,Vm,.inl ⟨rfl,g₂,rfl,hhome,hr⟩⟩,fun x y IK Ia hy=>by
        rw[Array.getElem?_setIfInBounds_ne (Ne.symm Ia)]at hy
        rw[Deaf_other t (Ne.symm Ia) _ ofEvents_g];exact D.EZ x y IK Ia hy,fun x hx=>by
        rw[BA]at hx
        rw[Deaf_other t (g':=i) (by omega) _ ofEvents_g];exact D.above x hx,PX.appRead hT.ss D.tr hMj Uv ofEvents_g r1 (r2 t) r3,D.size⟩ lC (fun d'=>GA d') Ex;exact⟨N+1,AZ,w',Gd,t',by simp only[runNT,BH,BD];exact FW,FD.trans BA,hQ.Uz⟩
     | succ k=>
      obtain⟨g',BQ,hr,hes',hgo',hw'⟩:=NW
      obtain⟨r1,r2,r3⟩:=FM (B:=B) (i:=i) (fn:=g.frame.fn) (pos:=g.frame.place) L hK D.size hes'
      have BD:=runT_crowd_go (P:=P) (sl:=Cz) (i:=i) hi (hgo' _ (hK1 _ Rh))
      have BA:((gs.map (woken P g g' (w.at d))).setIfInBounds i g').size=gs.size:=by simp
      obtain⟨N,AZ,w',Gd,t',FW,FD,hQ⟩:=ih (k+1) ((gs.map (woken P g g' (w.at d))).setIfInBounds i g') a (w.at d) Cz (t++MemOp.ofEvents i g.frame.fn g.frame.place BQ) q B (by rw[BA];omega)
       (by rw[Array.getElem?_setIfInBounds_ne (Ne.symm BN),Array.getElem?_map,h0];simp[woken_run Bg]) Bg
       ⟨BN,D.zero,D.mem,⟨g',by simp[BC],⟨Rh,hT.reads t _ TJ r1⟩,Vm,.inr ⟨k,rfl,hr,hw'⟩⟩,fun x y IK Ia hy=>by
        rw[Array.getElem?_setIfInBounds_ne (Ne.symm Ia),Array.getElem?_map]at hy
        obtain⟨y',hy',rfl⟩:=Option.map_eq_some_iff.1 hy
        have hq:=D.EZ x y' IK Ia hy'
        rw[woken_quitsD hq,Deaf_other t (Ne.symm Ia) _ ofEvents_g];exact hq,fun x hx=>by
        rw[BA]at hx
        rw[Deaf_other t (g':=i) (by omega) _ ofEvents_g];exact D.above x hx,PX.appRead hT.ss D.tr hMj Uv ofEvents_g r1 (r2 t) r3,D.size⟩ lC (fun d'=>GA d') Ex
      exact⟨N+1,AZ,w',Gd,t',by simp only[runNT,BH,BD];exact FW,FD.trans BA,hQ.Uz⟩
   ·have Ik:i≠0:=by rcases D.zero with e|e<;>omega
    have hq:=D.EZ i g e1 e2 hi;have hi0:(i==0)=false:=(by simp;omega);cases hqi:q i with
    | zero=>rw[hqi]at hq;rw[hq.1]at hg;cases hg
    | succ kk=>
     rw[hqi]at hq
     rcases hq with⟨hf,_⟩|⟨_,g',BQ,hm,hstp,hq'⟩
     ·rw[hf]at hg;cases hg
     have BD:=runT_crowd_go (P:=P) (sl:=Cz) (i:=i) hi (by rw[hi0];exact hstp (w.at d));have BA:((gs.map (woken P g g' (w.at d))).setIfInBounds i g').size=gs.size:=(by simp);have hsum:sumTo gs.size (upd q i kk)+(kk+1)=sumTo gs.size q+kk:=by
      have:=sumTo_upd q kk id BC
      simpa [hqi]using this
     have hmute:∀op∈MemOp.ofEvents i g.frame.fn g.frame.place BQ,op.act.touch?=none:=fun op AO=>by obtain⟨e,he,rfl⟩:=Go.Conc.mem_ofEvents AO;exact touch_mute (hm e he)
     have hnm:¬Mem i:=fun Gz=>(D.mem i Gz).elim e1 e2
     have ah7:KD P (j==0) K K1 TT Still cJ Rt home n b w t:=⟨⟨hK,TJ⟩,Vm,Mk⟩;obtain⟨N,AZ,w',Gd,t',FW,FD,hQ⟩:=ih n ((gs.map (woken P g g' (w.at d))).setIfInBounds i g') a (w.at d) Cz (t++MemOp.ofEvents i g.frame.fn g.frame.place BQ) (upd q i kk) B (by rw[BA];omega)
      (by rw[Array.getElem?_setIfInBounds_ne e1,Array.getElem?_map,h0];simp[woken_run Bg]) Bg
      ⟨BN,D.zero,D.mem,⟨b,by
       rw[Array.getElem?_setIfInBounds_ne e2,Array.getElem?_map,hb]
       simp only[Option.map_some,Option.some.injEq]
       exact woken_of_again (O.again ah7 (w.at d) fun _ _=>rfl),O.calm (w.at d) _ ah7 (fun _ _=>rfl) (Lg e2 Ik hm)⟩,fun x y IK Ia hx=>by
       by_cases e3:i=x
       ·subst e3;rw[Array.getElem?_setIfInBounds_self_of_lt (by simpa using BC)]at hx;obtain rfl:=Option.some.inj hx;rw[upd_same,Deaf_own];exact hq'
       ·rw[Array.getElem?_setIfInBounds_ne e3,Array.getElem?_map]at hx;obtain⟨z,hz,rfl⟩:=Option.map_eq_some_iff.1 hx;have hqj:=D.EZ x z IK Ia hz;rw[woken_quitsD hqj,upd_ne q kk (Ne.symm e3),Deaf_other t e3 _ ofEvents_g];exact hqj,fun x hx=>by
       rw[Deaf_other t (g':=i) (by simp at hx;omega) _ ofEvents_g];exact D.above x (by simpa using hx),D.tr.appMute ofEvents_g hmute (fun x=>(hnm x).elim) (fun op AO=>by obtain⟨e,he,rfl⟩:=Go.Conc.mem_ofEvents AO;exact low_mute (hm e he) B),D.size⟩ lC (fun d'=>GA d') Ex
     exact⟨N+1,AZ,w',Gd,t',by simp only[runNT,BH,BD];exact FW,FD.trans BA,hQ.Uz⟩
end
section
variable {P:Program} {Z:Nat->Prop} {Ac Still:Loc->Prop} {Mem Ak:Nat->Prop} {h j:Nat} {By:Nat->Goroutine->World->Trace->Prop}
theorem Ui:∀(X:Nat) (gs:Array Goroutine) (a:Goroutine) (w:World) (sl:Option (W_)) (t:Trace) (q:Nat->Nat) (B:Nat),sumTo gs.size q<X->gs[0]?=some a->a.status=.running->Leavers P t gs q->Past Ac B t->
  ∃(N:Nat) (AZ:Array Goroutine) (d0 d:Nat) (sl0 Cz:Option (W_)) (t':Trace) (q':Nat->Nat),runNT P N (crowd gs w sl) t=(.next (crowd AZ (w.at d0) sl0),t')/\AZ.size=gs.size/\AZ[0]?=some a/\
   stepT P (crowd AZ (w.at d0) sl0)=runT P (crowd AZ (w.at d) Cz) 0/\Leavers P t' AZ q'/\Past Ac B t':=by
 intro X
 induction X with
 | zero=>intro gs a w sl t q B hX;omega
 | succ X ih=>
  intro gs a w sl t q B hX h0 Bg hL hP
  have haw:∀g∈gs,awake g:=by
   intro g hg
   obtain⟨i,hi,rfl⟩:=Array.mem_iff_getElem.1 hg
   rcases Nat.eq_zero_or_pos i with rfl|Ik
   ·have:gs[0]=a:=(by simpa [Array.getElem?_eq_getElem hi]using h0);rw[this];exact awake_of (.inl Bg)
   ·exact awake_of ((hL.old i _ Ik (Array.getElem?_eq_getElem hi)).status.elim .inl fun x=>.inr (.inr x))
  obtain⟨i,g,d,Cz,hi,hg,BH⟩:=crowd_pick (P:=P) (w:=w) (sl:=sl) haw ⟨0,a,h0,Bg⟩;have BC:i<gs.size:=(Array.getElem?_eq_some_iff.1 hi).1;rcases Nat.eq_zero_or_pos i with rfl|Ik
  ·exact⟨0,gs,w.drawn,d,sl,Cz,t,q,rfl,rfl,h0,BH,hL,hP⟩
  ·have hq:=hL.old i g Ik hi;have hi0:(i==0)=false:=(by simp;omega);cases hqi:q i with
   | zero=>rw[hqi]at hq;rw[hq.1]at hg;cases hg
   | succ k=>
    rw[hqi]at hq
    rcases hq with⟨hf,_⟩|⟨_,g',es,hm,hstp,hq'⟩
    ·rw[hf]at hg;cases hg
    have BD:=runT_crowd_go (P:=P) (sl:=Cz) (i:=i) hi (by rw[hi0];exact hstp (w.at d));have BA:((gs.map (woken P g g' (w.at d))).setIfInBounds i g').size=gs.size:=(by simp);have hsum:sumTo gs.size (upd q i k)+(k+1)=sumTo gs.size q+k:=by
     have:=sumTo_upd q k id BC
     simpa [hqi]using this
    obtain⟨N,AZ,d0,d1,sl0,G6,t',q',hr,FD,h0',hst',hL',hP'⟩:=ih ((gs.map (woken P g g' (w.at d))).setIfInBounds i g') a (w.at d) Cz (t++MemOp.ofEvents i g.frame.fn g.frame.place es) (upd q i k) B (by rw[BA];omega)
     (by
      have BN:i≠0:=by omega
      rw[Array.getElem?_setIfInBounds_ne BN,Array.getElem?_map,h0]
      simp[woken_run Bg]) Bg
     ⟨fun x y hx hy=>by
      by_cases hji:i=x
      ·subst hji;rw[Array.getElem?_setIfInBounds_self_of_lt (by simpa using BC)]at hy;obtain rfl:=Option.some.inj hy;rw[upd_same,Deaf_own];exact hq'
      ·rw[Array.getElem?_setIfInBounds_ne hji,Array.getElem?_map]at hy;obtain⟨z,hz,rfl⟩:=Option.map_eq_some_iff.1 hy;have hqj:=hL.old x z hx hz;rw[woken_quitsD hqj,upd_ne q k (Ne.symm hji),Deaf_other t hji _ ofEvents_g];exact hqj,fun x hx=>by
      rw[Deaf_other t (g':=i) (by simp at hx;omega) _ ofEvents_g];exact hL.above x (by simpa using hx)⟩
     (hP.mute (by omega) hm)
    exact⟨N+1,AZ,d0,d1,sl0,G6,t',q',by simp only[runNT,BH,BD];exact hr,FD.trans BA,h0',hst',hL',hP'⟩
theorem bQ {gs:Array Goroutine} {w w':World} {sl:Option (W_)} {i:Nat} {g g' child:Goroutine} {es:Array Event} (hi:gs[i]?=some g) (hs:stepG P (i==0) g w=.spawn g' child w' es):
  runT P (crowd gs w sl) i=(.next (crowd ((gs.setIfInBounds i g').push child) w' sl),MemOp.ofEvents i g.frame.fn g.frame.place es++#[{ g:=i,fn:=g.frame.fn,pos:=g.frame.place,act:=.go gs.size },{ g:=gs.size,fn:=child.frame.fn,pos:=g.frame.place,act:=.start }]):=by
 obtain⟨BC,rfl⟩:=Array.getElem?_eq_some_iff.1 hi;have hsw:=swapAt_of_lt BC { (default:Goroutine)with status:=.finished };show runT P { world:=w,gs:=gs,rest:={ timers:=#[],alone:=none,slice:=sl } } i=_;unfold runT;simp only[hsw,hs,GStep.es];simp[crowd,Array.setIfInBounds,BC];apply Array.ext';simp
theorem qU {K K1:World->Prop} {TT:Trace->Prop} {cJ:Array CommCase} {Rt:CommShape} {home:Goroutine->Prop} {k B:Nat} {gs:Array Goroutine} {a a' child:Goroutine} {w:World} {sl:Option (W_)} {t:Trace} {q:Nat->Nat} {es:Array Event}
  (L:N9 Z Still K1) (hS:∀l,Still l->l.isMemory=true) (hSS:∀l,Still l->¬Ac l) (h0:gs[0]?=some a) (Bg:a.status=.running) (hL:Leavers P t gs q) (hP:Past Ac B t) (hB:w.heap.size<=B)
  (hgo:∀d,stepG P true a (w.at d)=.spawn a' child (w.at d) es) (Ex:∀e∈es,Ux Ac Still B e) (iY:K1 w) (TJ:∀t',PX Ac Still (fun g=>g=0\/g=gs.size) (fun g=>g=0) B gs.size t'->TT t') (Vm:∀cc∈cJ,ET w cc) (hrun':a'.status=.running) (NW:Fu P true K Still cJ Rt home k a'):
  ∃(N:Nat) (AZ:Array Goroutine) (d:Nat) (Cz:Option (W_)) (t':Trace) (q':Nat->Nat),runNT P N (crowd gs w sl) t=(.next (crowd AZ (w.at d) Cz),t')/\AZ.size=gs.size+1/\AZ[gs.size]?=some child/\
   Duo P Ac Still (fun g=>g=0\/g=gs.size) (fun g=>g=0) B gs.size 0 (KD P true K K1 TT Still cJ Rt home) (k+1) AZ (w.at d) t' q':=by
 have Ik:0<gs.size:=(Array.getElem?_eq_some_iff.1 h0).1;obtain⟨N,gs1,d0,d,sl0,G6,t1,q1,hr,hs1,h01,BH,hL1,hP1⟩:=Ui (P:=P) (Ac:=Ac) (sumTo gs.size q+1) gs a w sl t q B (by omega) h0 Bg hL hP;have BD:=bQ (P:=P) (sl:=G6) (i:=0) h01 (show stepG P (0==0) a (w.at d)=_ from hgo d);have hPX:PX Ac Still (fun g=>g=0) (fun _=>False) B 0 t1:=PX.ofPast hP1 hS hSS;have hc0:Deaf (t1++MemOp.ofEvents 0 a.frame.fn a.frame.place es) gs.size=0:=by
  rw[Deaf_other t1 (g':=0) (by omega) _ ofEvents_g]
  exact hL1.above gs.size (by omega)
 have ah6:=((hPX.own (fn:=a.frame.fn) (pos:=a.frame.place) Ex).born (c:=gs.size) rfl hc0 a.frame.fn a.frame.place child.frame.fn).loosen (Loose':=fun g=>g=0) (fun _ hf=>hf.elim);have hq2:∀g,Deaf (t1++MemOp.ofEvents 0 a.frame.fn a.frame.place es++#[{ g:=0,fn:=a.frame.fn,pos:=a.frame.place,act:=.go gs.size },{ g:=gs.size,fn:=child.frame.fn,pos:=a.frame.place,act:=.start }]) g=Deaf (t1++MemOp.ofEvents 0 a.frame.fn a.frame.place es) g:=fun g=>Deaf_quiet (by
  intro op AO d
  simp only[List.mem_toArray,List.mem_cons,List.not_mem_nil,or_false]at AO
  rcases AO with rfl|rfl<;>rfl)
 rw[hs1]at BD;refine⟨N+1,(gs1.setIfInBounds 0 a').push child,d,G6,t1++(MemOp.ofEvents 0 a.frame.fn a.frame.place es++#[{ g:=0,fn:=a.frame.fn,pos:=a.frame.place,act:=.go gs.size },{ g:=gs.size,fn:=child.frame.fn,pos:=a.frame.place,act:=.start }]),q1,runNT_succ_of hr (BH.trans BD),by simp[hs1],?_,?_⟩
 ·rw[Array.getElem?_push];simp[hs1]
 ·rw[<-Array.append_assoc];refine⟨by omega,.inr rfl,fun g hg=>hg.elim .inr .inl,⟨a',?_,?_⟩,fun i g hi1 hi2 hg=>?_,fun i hi=>?_,ah6,hB⟩
  ·rw[Array.getElem?_push];simp[hs1,Ik];omega
  ·refine⟨⟨L.keep w (w.at d) (fun _ _=>rfl) iY,?_⟩,Vm,.inr ⟨k,rfl,hrun',NW⟩⟩;exact TJ _ ah6
  ·have BC:i<gs.size:=by
    have:=(Array.getElem?_eq_some_iff.1 hg).1
    simp[hs1]at this;omega
   rw[Array.getElem?_push,if_neg (by simp[hs1];omega),Array.getElem?_setIfInBounds_ne (Ne.symm hi2)]at hg;rw[hq2,Deaf_other t1 (Ne.symm hi2) _ ofEvents_g];exact hL1.old i g (by omega) hg
  ·simp[hs1]at hi;rw[hq2,Deaf_other t1 (g':=0) (by omega) _ ofEvents_g];exact hL1.above i (by omega)
end
section
variable {P:Program} {Z:Nat->Prop} {Ac Still:Loc->Prop} {Mem Ak:Nat->Prop} {h j:Nat} {By:Nat->Goroutine->World->Trace->Prop}
theorem bZ (O:Fp P Z Ac Still (fun B t=>PX Ac Still Mem Ak B h t) j By):∀(X n:Nat) (gs:Array Goroutine) (a:Goroutine) (w:World) (sl:Option (W_)) (t:Trace) (q:Nat->Nat) (B:Nat),
  n+sumTo gs.size q<X->gs[h]?=some a->a.status=.running->Duo P Ac Still Mem Ak B h j By n gs w t q->
  ∃(N:Nat) (AZ:Array Goroutine) (w':World) (d:Nat) (sl0 Cz:Option (W_)) (t':Trace) (q':Nat->Nat) (n':Nat),
   runNT P N (crowd gs w sl) t=(.next (crowd AZ w' sl0),t')/\AZ.size=gs.size/\AZ[h]?=some a/\BO Z w w'/\(∃B',B<=B'/\Duo P Ac Still Mem Ak B' h j By n' AZ w' t' q')/\stepT P (crowd AZ w' sl0)=runT P (crowd AZ (w'.at d) Cz) h:=by
 intro X
 induction X with
 | zero=>intro n gs a w sl t q B hX;omega
 | succ X ih=>
  intro n gs a w sl t q B hX h0 Bg D
  obtain⟨b,hb,hB⟩:=D.idle
  have haw:∀g∈gs,awake g:=by
   intro g hg
   obtain⟨i,hi,rfl⟩:=Array.mem_iff_getElem.1 hg
   have Gz:=Array.getElem?_eq_getElem hi
   by_cases e1:i=h
   ·subst e1;rw[h0]at Gz;rw[<-Option.some.inj Gz];exact awake_of (.inl Bg)
   ·by_cases e2:i=j
    ·subst e2;rw[hb]at Gz;rw[<-Option.some.inj Gz];exact awake_of ((O.status hB).elim (fun x=>.inl x.1) .inr)
    ·exact awake_of ((D.EZ i _ e1 e2 Gz).status.elim .inl fun x=>.inr (.inr x))
  obtain⟨i,g,d,Cz,hi,hg,BH⟩:=crowd_pick (P:=P) (w:=w) (sl:=sl) haw ⟨h,a,h0,Bg⟩;have BC:i<gs.size:=(Array.getElem?_eq_some_iff.1 hi).1;by_cases e1:i=h
  ·subst e1;exact⟨0,gs,w,d,sl,Cz,t,q,n,rfl,rfl,h0,BO.refl w,⟨B,Nat.le_refl _,D⟩,BH⟩
  ·by_cases e2:i=j
   ·subst e2;obtain rfl:g=b:=(by rw[hb]at hi;exact(Option.some.inj hi).symm);have iW:∀k y,k≠i->gs[k]?=some y->y.status≠.blocked:=by
     intro k y hk hy
     by_cases e3:k=h
     ·subst e3;rw[h0]at hy;rw[<-Option.some.inj hy,Bg];simp
     ·have:=(D.EZ k y e3 hk hy).status;rcases this with h1|h1<;>rw[h1]<;>simp
    rcases O.step hB hg D.tr D.size d with⟨n',g',w',es,hn,hgo,hoff,⟨Bu,hBu,hsu,Gw⟩,hB'⟩|⟨n',g₂,cases,shape,es,hn,GA,AO,Gw,hB'⟩|⟨n',g₂,cases,shape,es,k,c,z,cap,s,r,tm,hn,GA,hk,hcl,AO,Gw,hB'⟩
    ·have BD:=runT_crowd_go (P:=P) (sl:=Cz) (i:=i) hi hgo;have BA:((gs.map (woken P g g' w')).setIfInBounds i g').size=gs.size:=(by simp);obtain⟨N,AZ,Jl,d',sl0,G6,t',q',n'',hr,FD,h0',ho',D',hst'⟩:=ih n' ((gs.map (woken P g g' w')).setIfInBounds i g') a w' Cz (t++MemOp.ofEvents i g.frame.fn g.frame.place es) q Bu (by rw[BA];omega)
      (by rw[Array.getElem?_setIfInBounds_ne e1,Array.getElem?_map,h0];simp[woken_run Bg]) Bg
      ⟨D.ne,D.zero,D.mem,⟨g',by simp[BC],hB'⟩,fun k x G8 Kn hx=>by
       rw[Array.getElem?_setIfInBounds_ne (Ne.symm Kn),Array.getElem?_map]at hx
       obtain⟨y,hy,rfl⟩:=Option.map_eq_some_iff.1 hx
       have hq:=D.EZ k y G8 Kn hy
       rw[woken_quitsD hq,Deaf_other t (Ne.symm Kn) _ ofEvents_g]
       exact hq,fun k hk=>by
       rw[Deaf_other t (g':=i) (by simp at hk;omega) _ ofEvents_g]
       exact D.above k (by simpa using hk),Gw,hsu⟩;exact⟨N+1,AZ,Jl,d',sl0,G6,t',q',n'',by simp only[runNT,BH,BD];exact hr,FD.trans BA,h0',hoff.trans ho',let ⟨B',h1,h2⟩:=D';⟨B',Nat.le_trans hBu h1,h2⟩,hst'⟩
    ·have BD:=crowd_waits (P:=P) (sl:=Cz) (i:=i) hi GA (fun cc Fa=>by
      obtain⟨c,z,k,rfl,hc⟩:=AO cc Fa
      exact ways_recv_none (show(w.at d).heap[c]?=_ from hc) (Ew iW));have BA:(gs.setIfInBounds i (parked g₂ cases shape)).size=gs.size:=(by simp);obtain⟨N,AZ,Jl,d',sl0,G6,t',q',n'',hr,FD,h0',ho',D',hst'⟩:=ih n' (gs.setIfInBounds i (parked g₂ cases shape)) a (w.at d) Cz (t++MemOp.ofEvents i g.frame.fn g.frame.place es) q B (by rw[BA];omega)
      (by rw[Array.getElem?_setIfInBounds_ne e1];exact h0) Bg
      ⟨D.ne,D.zero,D.mem,⟨_,by simp[BC],hB'⟩,fun k x G8 Kn hx=>by
       rw[Array.getElem?_setIfInBounds_ne (Ne.symm Kn)]at hx
       rw[Deaf_other t (Ne.symm Kn) _ ofEvents_g]
       exact D.EZ k x G8 Kn hx,fun k hk=>by
       rw[Deaf_other t (g':=i) (by simp at hk;omega) _ ofEvents_g]
       exact D.above k (by simpa using hk),Gw,D.size⟩;exact⟨N+1,AZ,Jl,d',sl0,G6,t',q',n'',by simp only[runNT,BH,BD];exact hr,FD.trans BA,h0',(BO.at w d).trans ho',D',hst'⟩
    ·have BD:=crowd_sel_recv_closed (P:=P) (sl:=Cz) (i:=i) hi GA hk (fun m cc hm Fa=>by
      obtain⟨c',z',k',rfl,hc⟩:=AO m cc hm Fa
      exact ways_recv_none (show(w.at d).heap[c']?=_ from hc) (Ew iW)) (show(w.at d).heap[c]?=_ from hcl) (Ew iW);have BA:(gs.setIfInBounds i (Conc.served g₂ (commResult cases shape k z false))).size=gs.size:=(by simp);have hg1:∀op∈MemOp.ofEvents i g.frame.fn g.frame.place es++#[{ g:=i,fn:=g₂.frame.fn,pos:=g₂.frame.place,act:=.recvClosed c }],op.g=i:=by
      intro op AO
      rcases Array.mem_append.1 AO with AO|AO
      ·exact ofEvents_g op AO
      ·simp at AO;subst AO;rfl
     obtain⟨N,AZ,Jl,d',sl0,G6,t',q',n'',hr,FD,h0',ho',D',hst'⟩:=ih n' (gs.setIfInBounds i (Conc.served g₂ (commResult cases shape k z false))) a (w.at d) Cz (t++(MemOp.ofEvents i g.frame.fn g.frame.place es++#[{ g:=i,fn:=g₂.frame.fn,pos:=g₂.frame.place,act:=.recvClosed c }])) q B (by rw[BA];omega)
      (by rw[Array.getElem?_setIfInBounds_ne e1];exact h0) Bg
      ⟨D.ne,D.zero,D.mem,⟨_,by simp[BC],hB'⟩,fun k x G8 Kn hx=>by
       rw[Array.getElem?_setIfInBounds_ne (Ne.symm Kn)]at hx
       rw[Deaf_other t (Ne.symm Kn) _ hg1]
       exact D.EZ k x G8 Kn hx,fun k hk=>by
       rw[Deaf_other t (g':=i) (by simp at hk;omega) _ hg1]
       exact D.above k (by simpa using hk),Gw,D.size⟩;exact⟨N+1,AZ,Jl,d',sl0,G6,t',q',n'',by simp only[runNT,BH,BD];exact hr,FD.trans BA,h0',(BO.at w d).trans ho',D',hst'⟩
   ·have Ik:i≠0:=by rcases D.zero with e|e<;>omega
    have hq:=D.EZ i g e1 e2 hi;have hi0:(i==0)=false:=(by simp;omega);cases hqi:q i with
    | zero=>rw[hqi]at hq;rw[hq.1]at hg;cases hg
    | succ k=>
     rw[hqi]at hq
     rcases hq with⟨hf,_⟩|⟨_,g',es,hm,hstp,hq'⟩
     ·rw[hf]at hg;cases hg
     have BD:=runT_crowd_go (P:=P) (sl:=Cz) (i:=i) hi (by rw[hi0];exact hstp (w.at d));have BA:((gs.map (woken P g g' (w.at d))).setIfInBounds i g').size=gs.size:=(by simp);have hsum:sumTo gs.size (upd q i k)+(k+1)=sumTo gs.size q+k:=by
      have:=sumTo_upd q k id BC
      simpa [hqi]using this
     have hmute:∀op∈MemOp.ofEvents i g.frame.fn g.frame.place es,op.act.touch?=none:=fun op AO=>by obtain⟨e,he,rfl⟩:=Go.Conc.mem_ofEvents AO;exact touch_mute (hm e he)
     have hnm:¬Mem i:=fun Gz=>(D.mem i Gz).elim e1 e2
     obtain⟨N,AZ,Jl,d',sl0,G6,t',q',n'',hr,FD,h0',ho',D',hst'⟩:=ih n ((gs.map (woken P g g' (w.at d))).setIfInBounds i g') a (w.at d) Cz (t++MemOp.ofEvents i g.frame.fn g.frame.place es) (upd q i k) B (by rw[BA];omega)
      (by rw[Array.getElem?_setIfInBounds_ne e1,Array.getElem?_map,h0];simp[woken_run Bg]) Bg
      ⟨D.ne,D.zero,D.mem,⟨b,by
       rw[Array.getElem?_setIfInBounds_ne e2,Array.getElem?_map,hb]
       simp only[Option.map_some,Option.some.injEq]
       exact woken_of_again (O.again hB (w.at d) fun _ _=>rfl),O.calm (w.at d) _ hB (fun _ _=>rfl) (Lg e2 Ik hm)⟩,fun x y IK Ia hx=>by
       by_cases e3:i=x
       ·subst e3;rw[Array.getElem?_setIfInBounds_self_of_lt (by simpa using BC)]at hx;obtain rfl:=Option.some.inj hx;rw[upd_same,Deaf_own];exact hq'
       ·rw[Array.getElem?_setIfInBounds_ne e3,Array.getElem?_map]at hx;obtain⟨z,hz,rfl⟩:=Option.map_eq_some_iff.1 hx;have hqj:=D.EZ x z IK Ia hz;rw[woken_quitsD hqj,upd_ne q k (Ne.symm e3),Deaf_other t e3 _ ofEvents_g];exact hqj,fun x hx=>by
       rw[Deaf_other t (g':=i) (by simp at hx;omega) _ ofEvents_g];exact D.above x (by simpa using hx),D.tr.appMute ofEvents_g hmute (fun x=>(hnm x).elim) (fun op AO=>by obtain⟨e,he,rfl⟩:=Go.Conc.mem_ofEvents AO;exact low_mute (hm e he) B),D.size⟩
     exact⟨N+1,AZ,Jl,d',sl0,G6,t',q',n'',by simp only[runNT,BH,BD];exact hr,FD.trans BA,h0',(BO.at w d).trans ho',D',hst'⟩
theorem go_duo (O:Fp P Z Ac Still (fun B t=>PX Ac Still Mem Ak B h t) j By) {IQ Loose':Nat->Prop} {n B0:Nat} {gs:Array Goroutine} {a:Goroutine} {w:World} {sl:Option (W_)} {t:Trace} {q:Nat->Nat} {Q:Array Goroutine->World->Trace->Prop}
  (h0:gs[h]?=some a) (Bg:a.status=.running) (D:Duo P Ac Still Mem Ak B0 h j By n gs w t q) (hM':∀g,IQ g->g=h\/g=j)
  (I5:∀B,B0<=B->∀w1:World,w1.heap.size<=B->∀n1 b1 t1,BO Z w w1->By n1 b1 w1 t1->PX Ac Still Mem Ak B h t1->∀d,∃a' w' es B',stepG P (h==0) a (w1.at d)=.go a' w' es/\B<=B'/\w'.heap.size<=B'/\
   PX Ac Still IQ Loose' B' h (t1++MemOp.ofEvents h a.frame.fn a.frame.place es)/\∃(By':Nat->Goroutine->World->Trace->Prop) (n2:Nat),By' n2 (woken P a a' w' b1) w' (t1++MemOp.ofEvents h a.frame.fn a.frame.place es)/\
   ∀AZ q' n',AZ.size=gs.size->AZ[h]?=some a'->Duo P Ac Still IQ Loose' B' h j By' n' AZ w' (t1++MemOp.ofEvents h a.frame.fn a.frame.place es) q'->∀Cz,AB P AZ w' Cz (t1++MemOp.ofEvents h a.frame.fn a.frame.place es) Q):AB P gs w sl t Q:=by
 obtain⟨N,gs1,w1,d,sl0,G6,t1,q1,n1,hr,hs1,h1,ho,⟨B,hB0,D1⟩,BH⟩:=bZ O (n+sumTo gs.size q+1) n gs a w sl t q B0 (by omega) h0 Bg D;obtain⟨b,hb,hB⟩:=D1.idle;obtain⟨a',w',es,B',hgo,hBB,BA,hpx,By',n2,hby,hk⟩:=I5 B hB0 w1 D1.size n1 b t1 ho hB D1.tr d;have BC:h<gs1.size:=(Array.getElem?_eq_some_iff.1 h1).1;have BD:=runT_crowd_go (P:=P) (sl:=G6) (i:=h) h1 hgo;have hsz1:((gs1.map (woken P a a' w')).setIfInBounds h a').size=gs.size:=by simp[hs1]
 obtain⟨N2,gs2,w2,sl2,t2,hr2,hs2,hQ⟩:=hk ((gs1.map (woken P a a' w')).setIfInBounds h a') q1 n2 hsz1 (by simp[BC]) ⟨D1.ne,D1.zero,hM',⟨_,by rw[Array.getElem?_setIfInBounds_ne D1.ne,Array.getElem?_map,hb];rfl,hby⟩,fun k x G8 Kn hx=>by
   rw[Array.getElem?_setIfInBounds_ne (Ne.symm G8),Array.getElem?_map]at hx
   obtain⟨y,hy,rfl⟩:=Option.map_eq_some_iff.1 hx
   have hq:=D1.EZ k y G8 Kn hy
   rw[woken_quitsD hq,Deaf_other t1 (Ne.symm G8) _ ofEvents_g]
   exact hq,fun k hk=>by
   rw[hsz1,<-hs1]at hk
   rw[Deaf_other t1 (g':=h) (by omega) _ ofEvents_g]
   exact D1.above k hk,hpx,BA⟩ G6;refine⟨N+1+N2,gs2,w2,sl2,t2,?_,hs2.trans hsz1,hQ⟩;rw[runNT_add,runNT_succ_of hr (BH.trans BD)];exact hr2
end
end Go.Fxa
