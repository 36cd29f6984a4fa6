/- The holder gives: a send, alon -/
import Derived.Test.YtmhplpfpcnjekaaGreatA05
namespace Go.Fxa
open Go.Conc
open Go.ConcN (sumTo upd sumTo_upd upd_ne upd_same)
theorem qi {g:m_} {w:o_} {cs:Array CommCase} {sh:CommShape} (h:∀cc∈cs,∃c cap buf s r tm,cc.chan=.chan (some c)/\w.heap[c]?=some (.chan cap buf false s r tm)):(parked g cs sh).again w=parked g cs sh:=by
 simp[Goroutine.again,parked];intro x b;obtain⟨c,cap,buf,s,r,tm,e,a⟩:=h cs[x] (Array.getElem_mem b);rw[e];simp[a]
theorem QV {g:m_} {cs:Array CommCase} {sh:CommShape} {k c:Nat} {v z:n_} (hk:cs[k]?=some (scase c v z)) (hu:∀(m:Nat) (cc:CommCase),m≠k->cs[m]?=some cc->cc.chan≠.chan (some c)):offersAt (parked g cs sh) c true=[k]:=by
 have i:(cs.zipIdx.toList.filter λx:CommCase×Nat=>x.1.send.isSome==true && (match x.1.chan with | .chan (some b)=>b==c|_=>false))=[(scase c v z,k)]:=by
  have d:∀m:Nat,cs.zipIdx.toList[m]?=(cs[m]?).map λx=>(x,m):=by intro m;simp
  have key:=filter_map_one (λx:CommCase×Nat=>x) (λx:CommCase×Nat=>x.1.send.isSome==true && (match x.1.chan with | .chan (some b)=>b==c|_=>false)) cs.zipIdx.toList k (scase c v z,k) (by rw[d,hk];rfl) (by simp[scase]) (by
   intro m x j a
   rw[d]at a
   cases e:cs[m]? with
   |none=>rw[e]at a;cases a
   |some y=>
    rw[e]at a
    simp only[Option.map_some,Option.some.injEq]at a
    subst a
    have:=hu m y j e
    simp only[Bool.and_eq_false_iff]
    refine .inr ?_
    split
    .rename_i b h;rw[beq_eq_false_iff_ne];intro f;subst f;exact this h
    .rfl)
  simpa using key
 unfold offersAt;exact congrArg (List.map λx:CommCase×Nat=>x.2) i
section
variable {P:l_} {Z:Nat->Prop} {Ac Still:Loc->Prop} {Mem Ai:Nat->Prop} {h j:Nat} {K K1:o_->Prop} {TT:Trace->Prop} {cJ cH:Array CommCase} {VP XC:CommShape} {home:m_->Prop} {kh kj c:Nat} {v z zj:n_} {a₂:m_}
structure V4 (Z:Nat->Prop) (cH cJ:Array CommCase) (kh kj c:Nat) (v z zj:n_):Prop where
 hkh:cH[kh]?=some (scase c v z)
 hoh:∀(m:Nat) cc,m≠kh->cH[m]?=some cc->∃c' z',cc=rcase c' z'/\c'≠c/\Z c'
 hkj:cJ[kj]?=some (rcase c zj)
 hoj:∀(m:Nat) cc,m≠kj->cJ[m]?=some cc->cc.chan≠.chan (some c)
 hrj:∀cc∈cJ,∃c z,cc=rcase c z/\Z c
def Met (P:l_) (TT:Trace->Prop) (Ac Still:Loc->Prop) (Mem Ai:Nat->Prop) (B h j:Nat) (cH cJ:Array CommCase) (XC VP:CommShape) (home:m_->Prop) (kh kj c:Nat) (v:n_) (a₂:m_) (w:o_) (A7:Array m_) (w':o_) (t':Trace):Prop:=
 ∃(q':Nat->Nat) (g₂:m_) (d k:Nat),A7[h]?=some (Conc.served a₂ (commResult cH XC kh undef false))/\A7[j]?=some (Conc.served g₂ (commResult cJ VP kj v true))/\home g₂/\g₂.status=.running/\w.heap[c]?=some (.chan 0 #[] false k k false)/\w'=(w.at d).setChan c 0 #[] false (k+1) (k+1) false/\
  (∀i g,i≠h->i≠j->A7[i]?=some g->QuitsD P (q' i) (Deaf t' i) g)/\(∀i,A7.size<=i->Deaf t' i=0)/\PX Ac Still Mem (λg=>Ai g/\g≠j) B j t'/\TT t'/\PX Ac Still Mem Ai B h t'
theorem V4.au8 (M:V4 Z cH cJ kh kj c v z zj) {w:o_} (hJ:∀cc∈cJ,FY w cc) (hH:∀(m:Nat) cc,m≠kh->cH[m]?=some cc->FY w cc):∀cc∈cH,∃c cap buf s r tm,cc.chan=.chan (some c)/\w.heap[c]?=some (.chan cap buf false s r tm):=by
 intro cc g;obtain⟨m,h,rfl⟩:=Array.mem_iff_getElem.1 g;have a:=v_ h;by_cases e:m=kh
 .subst e;rw[M.hkh]at a;rw[<-x_ a];obtain⟨b,i,k,d,f⟩:=hJ _ (Array.mem_of_getElem? M.hkj);have:b=c:=by simp[rcase]at d;exact d.1.symm
  subst this;exact⟨b,0,#[],k,k,false,rfl,f⟩
 .obtain⟨b,i,k,d,f⟩:=hH m _ e a;rw[d];exact⟨b,0,#[],k,k,false,rfl,f⟩
theorem V4.chan (M:V4 Z cH cJ kh kj c v z zj) {w:o_} (hJ:∀cc∈cJ,FY w cc):∃k,w.heap[c]?=some (.chan 0 #[] false k k false):=by
 obtain⟨b,e,k,a,d⟩:=hJ _ (Array.mem_of_getElem? M.hkj);have:b=c:=by simp[rcase]at a;exact a.1.symm
 subst this;exact⟨k,d⟩
theorem Met.Yv {B d:Nat} {w:o_} {A7:Array m_} {w':o_} {t':Trace} (H:Met P TT Ac Still Mem Ai B h j cH cJ XC VP home kh kj c v a₂ (w.at d) A7 w' t'):Met P TT Ac Still Mem Ai B h j cH cJ XC VP home kh kj c v a₂ w A7 w' t':=by
 obtain⟨o,a,b,k,e,f,g,i,l,m,n⟩:=H;exact⟨o,a,b,k,e,f,g,i,l,m,n⟩
theorem vO (L:QP Z Still K1) (hK1:∀w,K1 w->K w) (hT:YD Ac Still j TT) (M:V4 Z cH cJ kh kj c v z zj) (hMh:Mem h) (hMj:Mem j) (ji:Ai j):∀(X k:Nat) (gs:Array m_) (b:m_) (w:o_) (sl:d_ (W_)) (t:Trace) (q:Nat->Nat) (B:Nat),k+sumTo gs.size q<=X->h≠j->(h=0\/j=0)->(∀g,Mem g->g=h\/g=j)->
  gs[h]?=some (parked a₂ cH XC)->gs[j]?=some b->b.status=.running->K1 w->TT t->(∀cc∈cJ,FY w cc)->(∀(m:Nat) cc,m≠kh->cH[m]?=some cc->FY w cc)->Gs P (j==0) K Still cJ VP home k b->
  (∀i g,i≠h->i≠j->gs[i]?=some g->QuitsD P (q i) (Deaf t i) g)->(∀i,gs.size<=i->Deaf t i=0)->PX Ac Still Mem Ai B h t->w.heap.size<=B->
  AA P gs w sl t (Met P TT Ac Still Mem Ai B h j cH cJ XC VP home kh kj c v a₂ w):=by
 intro X
 induction X with
 |zero=>
  intro k gs b w sl t q B hX Cf hz u F R E hK XK Zc wX hw n J IU hB
  have hjl:j<gs.size:=(y_.1 R).1
  have haw:∀g∈gs,awake g:=by
   intro g A
   obtain⟨i,s,rfl⟩:=Array.mem_iff_getElem.1 A
   have G:=v_ s
   by_cases e1:i=h
   .subst e1;rw[F]at G;rw[<-x_ G];exact awake_of (.inr (.inl rfl))
   .by_cases e2:i=j
    .subst e2;rw[R]at G;rw[<-x_ G];exact awake_of (.inl E)
    .exact awake_of ((n i _ e1 e2 G).status.elim .inl λx=>.inr (.inr x))
  obtain⟨i,g,d,DJ,s,A,BI⟩:=crowd_pick (P:=P) (w:=w) (sl:=sl) haw ⟨j,b,R,E⟩;have Bv:i<gs.size:=(y_.1 s).1;have e1:i≠h:=by intro e;subst e;rw[F]at s;rw[<-x_ s]at A;cases A
  by_cases e2:i=j
  .subst e2;obtain rfl:g=b:=(by rw[R]at s;exact(x_ s).symm);obtain rfl:k=0:=(by omega);obtain⟨a,W,C,hr,Fv,Ip⟩:=hw;have Vx:K1 (w.at d):=L.keep w (w.at d) (λ_ _=>rfl) hK;obtain⟨V,hc⟩:=M.chan Zc;have l:∀x y,x≠h->(gs.setIfInBounds i ph)[x]?=some y->∀I b',offersAt y I b'=[]:=by
    intro x y f o I b'
    obtain⟨rfl,rfl⟩|⟨hxi,U⟩:=getElem?_stand gs i x y o
    .exact offersAt_ph _ _
    .exact offersAt_of_not_blocked (by obtain h1|h1:=(n x y f hxi U).status<;>rw[h1]<;>simp) _ _
   have xU:(gs.setIfInBounds i ph)[h]?=some (parked a₂ cH XC):=stand_get (Ne.symm e1) F;have BG:=Qh (P:=P) (sl:=DJ) (i:=i) (j:=h) (w₁:=w.at d) s (Ip _ (hK1 _ Vx)) M.hkj (λm cc S Es=>by
     obtain⟨I,z',k',rfl,hc'⟩:=Zc cc (Array.mem_of_getElem? Es)
     refine ways_recv_none (show(w.at d).heap[I]?=_ from hc') (partners_nil λx y o=>?_)
     by_cases f:x=h
     .subst f;rw[xU]at o;rw[<-x_ o];have aq8:I≠c:=λe=>M.hoj m _ S Es (by rw[e];rfl)
      have:(cH.zipIdx.toList.filter λx:CommCase×Nat=>x.1.send.isSome==true && (match x.1.chan with | .chan (some r')=>r'==I | _=>false))=[]:=by
       rw[List.filter_eq_nil_iff]
       rintro⟨cc,m'⟩ hm'
       have D:=mem_of_zipIdx hm'
       by_cases em:m'=kh
       .subst em;rw[M.hkh]at D;rw[<-x_ D];simp[scase];exact λe=>aq8 e.symm
       .obtain⟨c2,z2,rfl,_,_⟩:=M.hoh m' cc em D;simp[rcase]
      exact congrArg (List.map λx:CommCase×Nat=>x.2) this
     .exact l x y f o _ _) (show(w.at d).heap[c]?=_ from hc) (Ne.symm e1) F M.hkh (by
     rw[partners_one xU (λx y f o=>l x y f o _ _),QV M.hkh (λm cc S Es=>by
      obtain⟨c2,z2,rfl,T,_⟩:=M.hoh m cc S Es;simp[rcase];exact T)]
     rfl)
   obtain⟨r1,r2,r3⟩:=GY (B:=B) (i:=i) (fn:=g.frame.fn) (pos:=g.frame.place) L hK hB Fv;have Q:c<B:=(by have:=(y_.1 hc).1;omega);have XP:=PX.appRead hT.ss IU hMj ji ofEvents_g r1 (r2 t) r3;have xR:=XP.give hMh hMj a₂.frame.fn a₂.frame.place a.frame.fn a.frame.place V 0 Q;have r:((gs.setIfInBounds h (Conc.served a₂ (commResult cH XC kh undef false))).setIfInBounds i (Conc.served a (commResult cJ VP kj v true))).size=gs.size:=(by simp);have hhl:h<gs.size:=(y_.1 F).1;have p:∀x,x≠h->x≠i->Deaf (t++(MemOp.ofEvents i g.frame.fn g.frame.place W++met h i a₂.frame.fn a₂.frame.place a.frame.fn a.frame.place c V 0)) x=Deaf t x:=by
    intro x h1 h2
    rw[<-Array.append_assoc,Deaf_quiet (met_quiet _ _ _ _ _ _ _ _ _ x),Deaf_other t (Ne.symm h2) _ ofEvents_g]
   refine⟨1,_,_,DJ,t++(MemOp.ofEvents i g.frame.fn g.frame.place W++met h i a₂.frame.fn a₂.frame.place a.frame.fn a.frame.place c V 0),by simp only[runNT,BI,BG,met],r,q,a,d,V,?_,?_,C,hr,hc,rfl,λx y O H o=>?_,λx f=>?_,?_,?_,?_⟩
   .rw[z_ e1,Array.getElem?_setIfInBounds_self_of_lt hhl]
   .rw[Array.getElem?_setIfInBounds_self_of_lt (by simpa using Bv)]
   .rw[z_ (Ne.symm H),z_ (Ne.symm O)]at o;rw[p x O H];exact n x y O H o
   .rw[r]at f;rw[p x (by omega) (by omega)];exact J x f
   .rw[<-Array.append_assoc];exact xR
   .rw[<-Array.append_assoc];exact hT.reads _ _ (hT.reads t _ XK r1) (λop AO b E=>by rw[met_mute _ _ _ _ _ _ _ _ _ op AO]at E;cases E)
   .rw[<-Array.append_assoc];exact XP.ZL a₂.frame.fn a₂.frame.place a.frame.fn a.frame.place V 0 Q
  .exfalso;have Y:=n i g e1 e2 s;have hz0:q i=0:=by
    have hs:sumTo gs.size (upd q i 0)+q i=sumTo gs.size q+0:=by
     have:=sumTo_upd q 0 id Bv
     simpa using this
    omega
   rw[hz0]at Y;rw[Y.1]at A;cases A
 |succ X ih=>
  intro k gs b w sl t q B hX Cf hz u F R E hK XK Zc wX hw n J IU hB
  have hjl:j<gs.size:=(y_.1 R).1
  by_cases hz1:k+sumTo gs.size q<=X
  .exact ih k gs b w sl t q B hz1 Cf hz u F R E hK XK Zc wX hw n J IU hB
  have haw:∀g∈gs,awake g:=by
   intro g A
   obtain⟨i,s,rfl⟩:=Array.mem_iff_getElem.1 A
   have G:=v_ s
   by_cases e1:i=h
   .subst e1;rw[F]at G;rw[<-x_ G];exact awake_of (.inr (.inl rfl))
   .by_cases e2:i=j
    .subst e2;rw[R]at G;rw[<-x_ G];exact awake_of (.inl E)
    .exact awake_of ((n i _ e1 e2 G).status.elim .inl λx=>.inr (.inr x))
  obtain⟨i,g,d,DJ,s,A,BI⟩:=crowd_pick (P:=P) (w:=w) (sl:=sl) haw ⟨j,b,R,E⟩;have Bv:i<gs.size:=(y_.1 s).1;have e1:i≠h:=by intro e;subst e;rw[F]at s;rw[<-x_ s]at A;cases A
  have Ky:∀x x':m_,woken P x x' (w.at d) (parked a₂ cH XC)=parked a₂ cH XC:=λx x'=>woken_of_again (qi (M.au8 (w:=w.at d) Zc wX))
  have Vx:K1 (w.at d):=L.keep w (w.at d) (λ_ _=>rfl) hK;by_cases e2:i=j
  .subst e2;obtain rfl:g=b:=(by rw[R]at s;exact(x_ s).symm);cases k with
   |zero=>
    obtain⟨a,W,C,hr,Fv,Ip⟩:=hw
    obtain⟨V,hc⟩:=M.chan Zc
    have l:∀x y,x≠h->(gs.setIfInBounds i ph)[x]?=some y->∀I b',offersAt y I b'=[]:=by
     intro x y f o I b'
     obtain⟨rfl,rfl⟩|⟨hxi,U⟩:=getElem?_stand gs i x y o
     .exact offersAt_ph _ _
     .exact offersAt_of_not_blocked (by obtain h1|h1:=(n x y f hxi U).status<;>rw[h1]<;>simp) _ _
    have xU:(gs.setIfInBounds i ph)[h]?=some (parked a₂ cH XC):=stand_get (Ne.symm e1) F;have BG:=Qh (P:=P) (sl:=DJ) (i:=i) (j:=h) (w₁:=w.at d) s (Ip _ (hK1 _ Vx)) M.hkj (λm cc S Es=>by
      obtain⟨I,z',k',rfl,hc'⟩:=Zc cc (Array.mem_of_getElem? Es)
      refine ways_recv_none (show(w.at d).heap[I]?=_ from hc') (partners_nil λx y o=>?_)
      by_cases f:x=h
      .subst f;rw[xU]at o;rw[<-x_ o];have aq8:I≠c:=λe=>M.hoj m _ S Es (by rw[e];rfl)
       have:(cH.zipIdx.toList.filter λx:CommCase×Nat=>x.1.send.isSome==true && (match x.1.chan with | .chan (some r')=>r'==I | _=>false))=[]:=by
        rw[List.filter_eq_nil_iff]
        rintro⟨cc,m'⟩ hm'
        have D:=mem_of_zipIdx hm'
        by_cases em:m'=kh
        .subst em;rw[M.hkh]at D;rw[<-x_ D];simp[scase];exact λe=>aq8 e.symm
        .obtain⟨c2,z2,rfl,_,_⟩:=M.hoh m' cc em D;simp[rcase]
       exact congrArg (List.map λx:CommCase×Nat=>x.2) this
      .exact l x y f o _ _) (show(w.at d).heap[c]?=_ from hc) (Ne.symm e1) F M.hkh (by
      rw[partners_one xU (λx y f o=>l x y f o _ _),QV M.hkh (λm cc S Es=>by
       obtain⟨c2,z2,rfl,T,_⟩:=M.hoh m cc S Es;simp[rcase];exact T)]
      rfl)
    obtain⟨r1,r2,r3⟩:=GY (B:=B) (i:=i) (fn:=g.frame.fn) (pos:=g.frame.place) L hK hB Fv;have Q:c<B:=(by have:=(y_.1 hc).1;omega);have XP:=PX.appRead hT.ss IU hMj ji ofEvents_g r1 (r2 t) r3;have xR:=XP.give hMh hMj a₂.frame.fn a₂.frame.place a.frame.fn a.frame.place V 0 Q;have r:((gs.setIfInBounds h (Conc.served a₂ (commResult cH XC kh undef false))).setIfInBounds i (Conc.served a (commResult cJ VP kj v true))).size=gs.size:=(by simp);have hhl:h<gs.size:=(y_.1 F).1;have p:∀x,x≠h->x≠i->Deaf (t++(MemOp.ofEvents i g.frame.fn g.frame.place W++met h i a₂.frame.fn a₂.frame.place a.frame.fn a.frame.place c V 0)) x=Deaf t x:=by
     intro x h1 h2
     rw[<-Array.append_assoc,Deaf_quiet (met_quiet _ _ _ _ _ _ _ _ _ x),Deaf_other t (Ne.symm h2) _ ofEvents_g]
    refine⟨1,_,_,DJ,t++(MemOp.ofEvents i g.frame.fn g.frame.place W++met h i a₂.frame.fn a₂.frame.place a.frame.fn a.frame.place c V 0),by simp only[runNT,BI,BG,met],r,q,a,d,V,?_,?_,C,hr,hc,rfl,λx y O H o=>?_,λx f=>?_,?_,?_,?_⟩
    .rw[z_ e1,Array.getElem?_setIfInBounds_self_of_lt hhl]
    .rw[Array.getElem?_setIfInBounds_self_of_lt (by simpa using Bv)]
    .rw[z_ (Ne.symm H),z_ (Ne.symm O)]at o;rw[p x O H];exact n x y O H o
    .rw[r]at f;rw[p x (by omega) (by omega)];exact J x f
    .rw[<-Array.append_assoc];exact xR
    .rw[<-Array.append_assoc];exact hT.reads _ _ (hT.reads t _ XK r1) (λop AO b E=>by rw[met_mute _ _ _ _ _ _ _ _ _ op AO]at E;cases E)
    .rw[<-Array.append_assoc];exact XP.ZL a₂.frame.fn a₂.frame.place a.frame.fn a.frame.place V 0 Q
   |succ k=>
    obtain⟨g',W,hr,Fv,hgo,hw'⟩:=hw
    have BG:=runT_crowd_go (P:=P) (sl:=DJ) (i:=i) s (hgo _ (hK1 _ Vx))
    have Cj:((gs.map (woken P g g' (w.at d))).setIfInBounds i g').size=gs.size:=by simp
    obtain⟨r1,r2,r3⟩:=GY (B:=B) (i:=i) (fn:=g.frame.fn) (pos:=g.frame.place) L hK hB Fv
    obtain⟨N,A7,w',Ir,t',Gq,Hw,hQ⟩:=ih k ((gs.map (woken P g g' (w.at d))).setIfInBounds i g') g' (w.at d) DJ (t++MemOp.ofEvents i g.frame.fn g.frame.place W) q B (by rw[Cj];omega) Cf hz u
     (by rw[z_ e1,Array.getElem?_map,F];simp[Ky]) (by simp[Bv]) hr Vx (hT.reads t _ XK r1) Zc wX hw' (λx y O H o=>by
      rw[z_ (Ne.symm H),Array.getElem?_map]at o
      obtain⟨y',U,rfl⟩:=Option.map_eq_some_iff.1 o
      have Y:=n x y' O H U
      rw[woken_quitsD Y,Deaf_other t (Ne.symm H) _ ofEvents_g];exact Y) (λx f=>by
      rw[Deaf_other t (g':=i) (by simp at f;omega) _ ofEvents_g];exact J x (by simpa using f))
     (PX.appRead hT.ss IU hMj ji ofEvents_g r1 (r2 t) r3) hB
    exact⟨N+1,A7,w',Ir,t',by simp only[runNT,BI,BG];exact Gq,Hw.trans Cj,hQ.Yv⟩
  .have IY:i≠0:=by obtain e|e:=hz<;>omega
   have Y:=n i g e1 e2 s;have hi0:(i==0)=false:=(by simp;omega);cases hqi:q i with
   |zero=>rw[hqi]at Y;rw[Y.1]at A;cases A
   |succ kk=>
    rw[hqi]at Y
    obtain⟨hf,_⟩|⟨_,g',W,S,hstp,hq'⟩:=Y
    .rw[hf]at A;cases A
    have BG:=runT_crowd_go (P:=P) (sl:=DJ) (i:=i) s (by rw[hi0];exact hstp (w.at d));have Cj:((gs.map (woken P g g' (w.at d))).setIfInBounds i g').size=gs.size:=(by simp);have hsum:sumTo gs.size (upd q i kk)+(kk+1)=sumTo gs.size q+kk:=by
     have:=sumTo_upd q kk id Bv
     simpa [hqi]using this
    have hmute:∀op∈MemOp.ofEvents i g.frame.fn g.frame.place W,op.act.touch?=none:=λop AO=>by obtain⟨e,he,rfl⟩:=Go.Conc.mem_ofEvents AO;exact touch_mute (S e he)
    have hnm:¬Mem i:=λG=>(u i G).elim e1 e2
    obtain⟨N,A7,w',Ir,t',Gq,Hw,hQ⟩:=ih k ((gs.map (woken P g g' (w.at d))).setIfInBounds i g') b (w.at d) DJ (t++MemOp.ofEvents i g.frame.fn g.frame.place W) (upd q i kk) B (by rw[Cj];omega) Cf hz u
     (by rw[z_ e1,Array.getElem?_map,F];simp[Ky]) (by rw[z_ e2,Array.getElem?_map,R];simp[woken_run E]) E Vx (hT.calm t _ XK (Oq e2 IY S)) Zc wX hw (λx y O H f=>by
       by_cases e3:i=x
       .subst e3;rw[Array.getElem?_setIfInBounds_self_of_lt (by simpa using Bv)]at f;obtain rfl:=x_ f;rw[upd_same,Deaf_own];exact hq'
       .rw[z_ e3,Array.getElem?_map]at f;obtain⟨z,hz,rfl⟩:=Option.map_eq_some_iff.1 f;have hqj:=n x z O H hz;rw[woken_quitsD hqj,upd_ne q kk (Ne.symm e3),Deaf_other t e3 _ ofEvents_g];exact hqj) (λx f=>by
       rw[Deaf_other t (g':=i) (by simp at f;omega) _ ofEvents_g];exact J x (by simpa using f))
     (IU.appMute ofEvents_g hmute (λx=>(hnm x).elim) (λop AO=>by obtain⟨e,he,rfl⟩:=Go.Conc.mem_ofEvents AO;exact low_mute (S e he) B)) hB
    exact⟨N+1,A7,w',Ir,t',by simp only[runNT,BI,BG];exact Gq,Hw.trans Cj,hQ.Yv⟩
theorem WB (L:QP Z Still K1) (hK1:∀w,K1 w->K w) (hT:YD Ac Still j TT) (M:V4 Z cH cJ kh kj c v z zj) (hMh:Mem h) (hMj:Mem j) (ji:Ai j) {es:Array Event}:∀(X n:Nat) (gs:Array m_) (a:m_) (w:o_) (sl:d_ (W_)) (t:Trace) (q:Nat->Nat) (B:Nat),
  n+sumTo gs.size q<X->gs[h]?=some a->a.status=.running->Duo P Ac Still Mem Ai B h j (NT P (j==0) K K1 TT Still cJ VP home) n gs w t q->(∀(m:Nat) cc,m≠kh->cH[m]?=some cc->FY w cc)->
  (∀d,stepG P (h==0) a (w.at d)=.comm a₂ cH true XC (w.at d) es)->(∀e∈es,Yr Ac Still B e)->AA P gs w sl t (Met P TT Ac Still Mem Ai B h j cH cJ XC VP home kh kj c v a₂ w):=by
 have hzJ:∀cc∈cJ,∀c z,cc=rcase c z->Z c:=λcc U c z e=>by
  obtain⟨A,z',e',hz⟩:=M.hrj cc U
  rw[e]at e'
  have:c=A:=by simp[rcase]at e';exact e'.1
  rw[this];exact hz
 have hsJ:∀cc∈cJ,cc.send=none:=λcc U=>by obtain⟨A,z',e',_⟩:=M.hrj cc U;rw[e'];rfl
 intro X
 induction X with
 |zero=>intro n gs a w sl t q B hX;omega
 |succ X ih=>
  intro n gs a w sl t q B hX W V D wX Ip Fv
  obtain⟨b,S,hBy⟩:=D.idle
  have O:Gp P Z Ac Still (λB t=>PX Ac Still Mem Ai B h t) j (NT P (j==0) K K1 TT Still cJ VP home):=VB L hK1 hT hzJ hMj ji
  have G:=D.ne
  have haw:∀g∈gs,awake g:=by
   intro g hg
   obtain⟨i,F,rfl⟩:=Array.mem_iff_getElem.1 hg
   have Hl:=v_ F
   by_cases e1:i=h
   .subst e1;rw[W]at Hl;rw[<-x_ Hl];exact awake_of (.inl V)
   .by_cases e2:i=j
    .subst e2;rw[S]at Hl;rw[<-x_ Hl];exact awake_of ((O.status hBy).elim (λx=>.inl x.1) .inr)
    .exact awake_of ((D.F6 i _ e1 e2 Hl).status.elim .inl λx=>.inr (.inr x))
  obtain⟨i,g,d,R,F,hg,BI⟩:=crowd_pick (P:=P) (w:=w) (sl:=sl) haw ⟨h,a,W,V⟩;have Bv:i<gs.size:=(y_.1 F).1;have hjl:j<gs.size:=(y_.1 S).1;have hhl:h<gs.size:=(y_.1 W).1;obtain⟨⟨hK,XK⟩,Zc,Pv⟩:=hBy;have Vx:K1 (w.at d):=L.keep w (w.at d) (λ_ _=>rfl) hK;by_cases e1:i=h
  .subst e1;obtain rfl:g=a:=(by rw[W]at F;exact(x_ F).symm);have r:∀x y,x≠j->(gs.setIfInBounds i ph)[x]?=some y->∀A b',offersAt y A b'=[]:=by
    intro x y o l A b'
    obtain⟨rfl,rfl⟩|⟨hxi,hy'⟩:=getElem?_stand gs i x y l
    .exact offersAt_ph _ _
    .exact offersAt_of_not_blocked (by obtain h1|h1:=(D.F6 x y hxi o hy').status<;>rw[h1]<;>simp) _ _
   have aq1:(gs.setIfInBounds i ph)[j]?=some b:=stand_get (Ne.symm G) S;obtain⟨rfl,f,rfl,p,hr⟩|⟨k,rfl,hbr,s⟩:=Pv
   ·
    obtain⟨kc,hc⟩:=M.chan Zc;have T:=Xv (P:=P) (sl:=R) (i:=i) (j:=j) (w₁:=w.at d) F (Ip d) M.hkh (λm cc hm U=>by
      obtain⟨A,z',k',rfl,H⟩:=wX m cc hm U
      refine ways_recv_none (show(w.at d).heap[A]?=_ from H) (partners_nil λx y l=>?_)
      by_cases o:x=j
      .subst o;rw[aq1]at l;rw[<-x_ l];exact offersAt_parked_sends hsJ _
      .exact r x y o l _ _) (show(w.at d).heap[c]?=_ from hc) (Ne.symm G) S M.hkj (by
      rw[partners_one aq1 (λx y o l=>r x y o l _ _),offersAt_parked_at M.hkj M.hoj]
      rfl)
    have hcB:c<B:=(by have:=(y_.1 hc).1;have:=D.size;omega);have XP:=D.tr.own (fn:=g.frame.fn) (pos:=g.frame.place) Fv;have xR:=XP.give hMh hMj a₂.frame.fn a₂.frame.place f.frame.fn f.frame.place kc 0 hcB;have Q:((gs.setIfInBounds j (Conc.served f (commResult cJ VP kj v true))).setIfInBounds i (Conc.served a₂ (commResult cH XC kh undef false))).size=gs.size:=(by simp);have I:∀x,x≠i->x≠j->Deaf (t++(MemOp.ofEvents i g.frame.fn g.frame.place es++met i j a₂.frame.fn a₂.frame.place f.frame.fn f.frame.place c kc 0)) x=Deaf t x:=by
     intro x h1 h2
     rw[<-Array.append_assoc,Deaf_quiet (met_quiet _ _ _ _ _ _ _ _ _ x),Deaf_other t (Ne.symm h1) _ ofEvents_g]
    refine⟨1,_,_,R,t++(MemOp.ofEvents i g.frame.fn g.frame.place es++met i j a₂.frame.fn a₂.frame.place f.frame.fn f.frame.place c kc 0),by simp only[runNT,BI,T,met],Q,q,f,d,kc,?_,?_,p,hr,hc,rfl,λx y E u l=>?_,λx o=>?_,?_,?_,?_⟩
    .rw[Array.getElem?_setIfInBounds_self_of_lt (by simpa using Bv)]
    .rw[z_ G,Array.getElem?_setIfInBounds_self_of_lt hjl]
    .rw[z_ (Ne.symm E),z_ (Ne.symm u)]at l;rw[I x E u];exact D.F6 x y E u l
    .rw[Q]at o;rw[I x (by omega) (by omega)];exact D.above x o
    .rw[<-Array.append_assoc];exact xR
    .rw[<-Array.append_assoc];exact hT.reads _ _ (hT.calm t _ XK (E8 G Fv)) (λop AO b S=>by rw[met_mute _ _ _ _ _ _ _ _ _ op AO]at S;cases S)
    .rw[<-Array.append_assoc];exact XP.ZL a₂.frame.fn a₂.frame.place f.frame.fn f.frame.place kc 0 hcB
   ·
    obtain⟨kc,hc⟩:=M.chan Zc;have sH:∀(x:Nat) (y:m_),(gs.setIfInBounds i ph)[x]?=some y->∀A b',offersAt y A b'=[]:=by
     intro x y l A b'
     by_cases o:x=j
     .subst o;rw[aq1]at l;rw[<-x_ l];exact offersAt_of_not_blocked (by rw[hbr];simp) _ _
     .exact r x y o l A b'
    have T:=crowd_waits (P:=P) (sl:=R) (i:=i) (w₁:=w.at d) F (Ip d) (λcc U=>by
     obtain⟨m,hm,rfl⟩:=Array.mem_iff_getElem.1 U
     have hm':=v_ hm
     by_cases em:m=kh
     .subst em;rw[M.hkh]at hm';rw[<-x_ hm'];exact ways_send_none (show(w.at d).heap[c]?=_ from hc) (by simp) (partners_nil λx y l=>sH x y l _ _)
     .obtain⟨A,z',k',e',H⟩:=wX m _ em hm';rw[e'];exact ways_recv_none (show(w.at d).heap[A]?=_ from H) (partners_nil λx y l=>sH x y l _ _))
    have C:(gs.setIfInBounds i (parked a₂ cH XC)).size=gs.size:=(by simp);obtain⟨N,Y,w',Ir,t',Gq,Hw,hQ⟩:=vO (P:=P) (home:=home) (VP:=VP) (XC:=XC) (a₂:=a₂) L hK1 hT M hMh hMj ji (k+sumTo gs.size q) k (gs.setIfInBounds i (parked a₂ cH XC)) b (w.at d) R (t++MemOp.ofEvents i g.frame.fn g.frame.place es) q B (by rw[C];omega) G D.zero D.mem
     (by rw[Array.getElem?_setIfInBounds_self_of_lt Bv]) (by rw[z_ G];exact S) hbr Vx (hT.calm t _ XK (E8 G Fv)) Zc wX s (λx y E u l=>by
      rw[z_ (Ne.symm E)]at l
      rw[Deaf_other t (Ne.symm E) _ ofEvents_g];exact D.F6 x y E u l) (λx o=>by
      rw[C]at o
      rw[Deaf_other t (g':=i) (by omega) _ ofEvents_g];exact D.above x o)
     (D.tr.own Fv) D.size;exact⟨N+1,Y,w',Ir,t',by simp only[runNT,BI,T];exact Gq,Hw.trans C,hQ.Yv⟩
  .by_cases e2:i=j
   .subst e2;obtain rfl:g=b:=(by rw[S]at F;exact(x_ F).symm);obtain⟨rfl,f,rfl,p,hr⟩|⟨k,rfl,hbr,s⟩:=Pv
    .cases hg
    .cases k with
     |zero=>
      obtain⟨f,Cm,p,hr,J,bt7⟩:=s
      obtain⟨r1,r2,r3⟩:=GY (B:=B) (i:=i) (fn:=g.frame.fn) (pos:=g.frame.place) L hK D.size J
      have ug:∀k y,k≠i->gs[k]?=some y->y.status≠.blocked:=by
       intro k y hk l
       by_cases e3:k=h
       .subst e3;rw[W]at l;rw[<-x_ l,V];simp
       .have:=(D.F6 k y e3 hk l).status;obtain h1|h1:=this<;>rw[h1]<;>simp
      have T:=crowd_waits (P:=P) (sl:=R) (i:=i) (w₁:=w.at d) F (bt7 _ (hK1 _ Vx)) (λcc U=>by
       obtain⟨A,z',k',rfl,H⟩:=Zc cc U
       exact ways_recv_none (show(w.at d).heap[A]?=_ from H) (Fq ug));have C:(gs.setIfInBounds i (parked f cJ VP)).size=gs.size:=(by simp);obtain⟨N,Y,w',Ir,t',Gq,Hw,hQ⟩:=ih 0 (gs.setIfInBounds i (parked f cJ VP)) a (w.at d) R (t++MemOp.ofEvents i g.frame.fn g.frame.place Cm) q B (by rw[C];omega)
       (by rw[z_ (Ne.symm G)];exact W) V
       ⟨G,D.zero,D.mem,⟨_,Array.getElem?_setIfInBounds_self_of_lt Bv,⟨Vx,hT.reads t _ XK r1⟩,Zc,.inl ⟨rfl,f,rfl,p,hr⟩⟩,λx y E u l=>by
        rw[z_ (Ne.symm u)]at l
        rw[Deaf_other t (Ne.symm u) _ ofEvents_g];exact D.F6 x y E u l,λx o=>by
        rw[C]at o
        rw[Deaf_other t (g':=i) (by omega) _ ofEvents_g];exact D.above x o,PX.appRead hT.ss D.tr hMj ji ofEvents_g r1 (r2 t) r3,D.size⟩ wX (λd'=>Ip d') Fv;exact⟨N+1,Y,w',Ir,t',by simp only[runNT,BI,T];exact Gq,Hw.trans C,hQ.Yv⟩
     |succ k=>
      obtain⟨g',Cm,hr,J,hgo',hw'⟩:=s
      obtain⟨r1,r2,r3⟩:=GY (B:=B) (i:=i) (fn:=g.frame.fn) (pos:=g.frame.place) L hK D.size J
      have T:=runT_crowd_go (P:=P) (sl:=R) (i:=i) F (hgo' _ (hK1 _ Vx))
      have C:((gs.map (woken P g g' (w.at d))).setIfInBounds i g').size=gs.size:=by simp
      obtain⟨N,Y,w',Ir,t',Gq,Hw,hQ⟩:=ih (k+1) ((gs.map (woken P g g' (w.at d))).setIfInBounds i g') a (w.at d) R (t++MemOp.ofEvents i g.frame.fn g.frame.place Cm) q B (by rw[C];omega)
       (by rw[z_ (Ne.symm G),Array.getElem?_map,W];simp[woken_run V]) V
       ⟨G,D.zero,D.mem,⟨g',by simp[Bv],⟨Vx,hT.reads t _ XK r1⟩,Zc,.inr ⟨k,rfl,hr,hw'⟩⟩,λx y E u l=>by
        rw[z_ (Ne.symm u),Array.getElem?_map]at l
        obtain⟨y',hy',rfl⟩:=Option.map_eq_some_iff.1 l
        have hq:=D.F6 x y' E u hy'
        rw[woken_quitsD hq,Deaf_other t (Ne.symm u) _ ofEvents_g];exact hq,λx o=>by
        rw[C]at o
        rw[Deaf_other t (g':=i) (by omega) _ ofEvents_g];exact D.above x o,PX.appRead hT.ss D.tr hMj ji ofEvents_g r1 (r2 t) r3,D.size⟩ wX (λd'=>Ip d') Fv
      exact⟨N+1,Y,w',Ir,t',by simp only[runNT,BI,T];exact Gq,Hw.trans C,hQ.Yv⟩
   .have IY:i≠0:=by obtain e|e:=D.zero<;>omega
    have hq:=D.F6 i g e1 e2 F;have hi0:(i==0)=false:=(by simp;omega);cases hqi:q i with
    |zero=>rw[hqi]at hq;rw[hq.1]at hg;cases hg
    |succ kk=>
     rw[hqi]at hq
     obtain⟨hf,_⟩|⟨_,g',Cm,hm,hstp,hq'⟩:=hq
     .rw[hf]at hg;cases hg
     have T:=runT_crowd_go (P:=P) (sl:=R) (i:=i) F (by rw[hi0];exact hstp (w.at d));have C:((gs.map (woken P g g' (w.at d))).setIfInBounds i g').size=gs.size:=(by simp);have hsum:sumTo gs.size (upd q i kk)+(kk+1)=sumTo gs.size q+kk:=by
      have:=sumTo_upd q kk id Bv
      simpa [hqi]using this
     have hmute:∀op∈MemOp.ofEvents i g.frame.fn g.frame.place Cm,op.act.touch?=none:=λop AO=>by obtain⟨e,he,rfl⟩:=Go.Conc.mem_ofEvents AO;exact touch_mute (hm e he)
     have hnm:¬Mem i:=λHl=>(D.mem i Hl).elim e1 e2
     have ba3:NT P (j==0) K K1 TT Still cJ VP home n b w t:=⟨⟨hK,XK⟩,Zc,Pv⟩;obtain⟨N,Y,w',Ir,t',Gq,Hw,hQ⟩:=ih n ((gs.map (woken P g g' (w.at d))).setIfInBounds i g') a (w.at d) R (t++MemOp.ofEvents i g.frame.fn g.frame.place Cm) (upd q i kk) B (by rw[C];omega)
      (by rw[z_ e1,Array.getElem?_map,W];simp[woken_run V]) V
      ⟨G,D.zero,D.mem,⟨b,by
       rw[z_ e2,Array.getElem?_map,S]
       simp only[Option.map_some,Option.some.injEq]
       exact woken_of_again (O.again ba3 (w.at d) λ_ _=>rfl),O.calm (w.at d) _ ba3 (λ_ _=>rfl) (Oq e2 IY hm)⟩,λx y E u o=>by
       by_cases e3:i=x
       .subst e3;rw[Array.getElem?_setIfInBounds_self_of_lt (by simpa using Bv)]at o;obtain rfl:=x_ o;rw[upd_same,Deaf_own];exact hq'
       .rw[z_ e3,Array.getElem?_map]at o;obtain⟨z,hz,rfl⟩:=Option.map_eq_some_iff.1 o;have hqj:=D.F6 x z E u hz;rw[woken_quitsD hqj,upd_ne q kk (Ne.symm e3),Deaf_other t e3 _ ofEvents_g];exact hqj,λx o=>by
       rw[Deaf_other t (g':=i) (by simp at o;omega) _ ofEvents_g];exact D.above x (by simpa using o),D.tr.appMute ofEvents_g hmute (λx=>(hnm x).elim) (λop AO=>by obtain⟨e,he,rfl⟩:=Go.Conc.mem_ofEvents AO;exact low_mute (hm e he) B),D.size⟩ wX (λd'=>Ip d') Fv
     exact⟨N+1,Y,w',Ir,t',by simp only[runNT,BI,T];exact Gq,Hw.trans C,hQ.Yv⟩
end
section
variable {P:l_} {Z:Nat->Prop} {Ac Still:Loc->Prop} {Mem Ai:Nat->Prop} {h j:Nat} {By:Nat->m_->o_->Trace->Prop}
theorem Yd:∀(X:Nat) (gs:Array m_) (a:m_) (w:o_) (sl:d_ (W_)) (t:Trace) (q:Nat->Nat) (B:Nat),sumTo gs.size q<X->gs[0]?=some a->a.status=.running->Leavers P t gs q->Past Ac B t->
  ∃(N:Nat) (A7:Array m_) (d0 d:Nat) (sl0 DJ:d_ (W_)) (t':Trace) (q':Nat->Nat),runNT P N (crowd gs w sl) t=(.next (crowd A7 (w.at d0) sl0),t')/\A7.size=gs.size/\A7[0]?=some a/\
   stepT P (crowd A7 (w.at d0) sl0)=runT P (crowd A7 (w.at d) DJ) 0/\Leavers P t' A7 q'/\Past Ac B t':=by
 intro X
 induction X with
 |zero=>intro gs a w sl t q B R;omega
 |succ X W=>
  intro gs a w sl t q B R n m f I
  have C:∀g∈gs,awake g:=by
   intro g c
   obtain⟨i,e,rfl⟩:=Array.mem_iff_getElem.1 c
   obtain rfl|s:=Nat.eq_zero_or_pos i
   .have:gs[0]=a:=(by simpa [v_ e]using n);rw[this];exact awake_of (.inl m)
   .exact awake_of ((f.old i _ s (v_ e)).status.elim .inl λx=>.inr (.inr x))
  obtain⟨i,g,d,DJ,e,c,F⟩:=crowd_pick (P:=P) (w:=w) (sl:=sl) C ⟨0,a,n,m⟩;have G:i<gs.size:=(y_.1 e).1;obtain rfl|s:=Nat.eq_zero_or_pos i
  .exact⟨0,gs,w.drawn,d,sl,DJ,t,q,rfl,rfl,n,F,f,I⟩
  .have o:=f.old i g s e;have D:(i==0)=false:=(by simp;omega);cases hqi:q i with
   |zero=>rw[hqi]at o;rw[o.1]at c;cases c
   |succ k=>
    rw[hqi]at o
    obtain⟨S,_⟩|⟨_,g',Q,T,l,E⟩:=o
    .rw[S]at c;cases c
    have K:=runT_crowd_go (P:=P) (sl:=DJ) (i:=i) e (by rw[D];exact l (w.at d));have H:((gs.map (woken P g g' (w.at d))).setIfInBounds i g').size=gs.size:=(by simp);have J:sumTo gs.size (upd q i k)+(k+1)=sumTo gs.size q+k:=by
     have:=sumTo_upd q k id G
     simpa [hqi]using this
    obtain⟨N,A7,d0,d1,sl0,O,t',q',U,M,u,j,v,A⟩:=W ((gs.map (woken P g g' (w.at d))).setIfInBounds i g') a (w.at d) DJ (t++MemOp.ofEvents i g.frame.fn g.frame.place Q) (upd q i k) B (by rw[H];omega)
     (by
      have L:i≠0:=by omega
      rw[z_ L,Array.getElem?_map,n]
      simp[woken_run m]) m
     ⟨λx y p r=>by
      by_cases b:i=x
      .subst b;rw[Array.getElem?_setIfInBounds_self_of_lt (by simpa using G)]at r;obtain rfl:=x_ r;rw[upd_same,Deaf_own];exact E
      .rw[z_ b,Array.getElem?_map]at r;obtain⟨z,V,rfl⟩:=Option.map_eq_some_iff.1 r;have h:=f.old x z p V;rw[woken_quitsD h,upd_ne q k (Ne.symm b),Deaf_other t b _ ofEvents_g];exact h,λx p=>by
      rw[Deaf_other t (g':=i) (by simp at p;omega) _ ofEvents_g];exact f.above x (by simpa using p)⟩
     (I.mute (by omega) T)
    exact⟨N+1,A7,d0,d1,sl0,O,t',q',by simp only[runNT,F,K];exact U,M.trans H,u,j,v,A⟩
theorem nG {gs:Array m_} {w w':o_} {sl:d_ (W_)} {i:Nat} {g g' child:m_} {es:Array Event} (hi:gs[i]?=some g) (hs:stepG P (i==0) g w=.spawn g' child w' es):
  runT P (crowd gs w sl) i=(.next (crowd ((gs.setIfInBounds i g').push child) w' sl),MemOp.ofEvents i g.frame.fn g.frame.place es++#[{ g:=i,fn:=g.frame.fn,pos:=g.frame.place,act:=.go gs.size },{ g:=gs.size,fn:=child.frame.fn,pos:=g.frame.place,act:=.start }]):=by
 obtain⟨b,rfl⟩:=y_.1 hi;have a:=swapAt_of_lt b { (default:m_)with status:=.finished };show runT P { world:=w,gs:=gs,rest:={ timers:=#[],alone:=none,slice:=sl } } i=_;unfold runT;simp only[a,hs,GStep.es];simp[crowd,Array.setIfInBounds,b];apply Array.ext';simp
theorem ϐ {K K1:o_->Prop} {TT:Trace->Prop} {cJ:Array CommCase} {VP:CommShape} {home:m_->Prop} {k B:Nat} {gs:Array m_} {a a' child:m_} {w:o_} {sl:d_ (W_)} {t:Trace} {q:Nat->Nat} {es:Array Event}
  (L:QP Z Still K1) (hS:∀l,Still l->l.isMemory=true) (hSS:∀l,Still l->¬Ac l) (h0:gs[0]?=some a) (Bi:a.status=.running) (hL:Leavers P t gs q) (hP:Past Ac B t) (hB:w.heap.size<=B)
  (hgo:∀d,stepG P true a (w.at d)=.spawn a' child (w.at d) es) (Fv:∀e∈es,Yr Ac Still B e) (jC:K1 w) (XK:∀t',PX Ac Still (λg=>g=0\/g=gs.size) (λg=>g=0) B gs.size t'->TT t') (Zc:∀cc∈cJ,FY w cc) (hrun':a'.status=.running) (hwalk:Gs P true K Still cJ VP home k a'):
  ∃(N:Nat) (A7:Array m_) (d:Nat) (DJ:d_ (W_)) (t':Trace) (q':Nat->Nat),runNT P N (crowd gs w sl) t=(.next (crowd A7 (w.at d) DJ),t')/\A7.size=gs.size+1/\A7[gs.size]?=some child/\
   Duo P Ac Still (λg=>g=0\/g=gs.size) (λg=>g=0) B gs.size 0 (NT P true K K1 TT Still cJ VP home) (k+1) A7 (w.at d) t' q':=by
 have C:0<gs.size:=(y_.1 h0).1;obtain⟨N,p,J,d,H,z,f,q1,G,b,r,A,h,s⟩:=Yd (P:=P) (Ac:=Ac) (sumTo gs.size q+1) gs a w sl t q B (by omega) h0 Bi hL hP;have y:=nG (P:=P) (sl:=z) (i:=0) r (show stepG P (0==0) a (w.at d)=_ from hgo d);have u:PX Ac Still (λg=>g=0) (λ_=>False) B 0 f:=PX.ofPast s hS hSS;have v:Deaf (f++MemOp.ofEvents 0 a.frame.fn a.frame.place es) gs.size=0:=by
  rw[Deaf_other f (g':=0) (by omega) _ ofEvents_g]
  exact h.above gs.size (by omega)
 have j:=((u.own (fn:=a.frame.fn) (pos:=a.frame.place) Fv).born (c:=gs.size) rfl v a.frame.fn a.frame.place child.frame.fn).loosen (Loose':=λg=>g=0) (λ_ D=>D.elim);have o:∀g,Deaf (f++MemOp.ofEvents 0 a.frame.fn a.frame.place es++#[{ g:=0,fn:=a.frame.fn,pos:=a.frame.place,act:=.go gs.size },{ g:=gs.size,fn:=child.frame.fn,pos:=a.frame.place,act:=.start }]) g=Deaf (f++MemOp.ofEvents 0 a.frame.fn a.frame.place es) g:=λg=>Deaf_quiet (by
  intro op x d
  simp only[List.mem_toArray,r_,List.not_mem_nil,or_false]at x
  obtain rfl|rfl:=x<;>rfl)
 rw[b]at y;refine⟨N+1,(p.setIfInBounds 0 a').push child,d,z,f++(MemOp.ofEvents 0 a.frame.fn a.frame.place es++#[{ g:=0,fn:=a.frame.fn,pos:=a.frame.place,act:=.go gs.size },{ g:=gs.size,fn:=child.frame.fn,pos:=a.frame.place,act:=.start }]),q1,runNT_succ_of G (A.trans y),by simp[b],?_,?_⟩
 .rw[Array.getElem?_push];simp[b]
 .rw[<-Array.append_assoc];refine⟨by omega,.inr rfl,λg m=>m.elim .inr .inl,⟨a',?_,?_⟩,λi g F n m=>?_,λi E=>?_,j,hB⟩
  .rw[Array.getElem?_push];simp[b,C];omega
  .refine⟨⟨L.keep w (w.at d) (λ_ _=>rfl) jC,?_⟩,Zc,.inr ⟨k,rfl,hrun',hwalk⟩⟩;exact XK _ j
  .have I:i<gs.size:=by
    have:=(y_.1 m).1
    simp[b]at this;omega
   rw[Array.getElem?_push,if_neg (by simp[b];omega),z_ (Ne.symm n)]at m;rw[o,Deaf_other f (Ne.symm n) _ ofEvents_g];exact h.old i g (by omega) m
  .simp[b]at E;rw[o,Deaf_other f (g':=0) (by omega) _ ofEvents_g];exact h.above i (by omega)
end
section
variable {P:l_} {Z:Nat->Prop} {Ac Still:Loc->Prop} {Mem Ai:Nat->Prop} {h j:Nat} {By:Nat->m_->o_->Trace->Prop}
theorem nX (O:Gp P Z Ac Still (fun B t=>PX Ac Still Mem Ai B h t) j By):∀(X n:Nat) (gs:Array m_) (a:m_) (w:o_) (sl:d_ (W_)) (t:Trace) (q:Nat->Nat) (B:Nat),
  n+sumTo gs.size q<X->gs[h]?=some a->a.status=.running->Duo P Ac Still Mem Ai B h j By n gs w t q->
  ∃(N:Nat) (A7:Array m_) (w':o_) (d:Nat) (sl0 DJ:d_ (W_)) (t':Trace) (q':Nat->Nat) (n':Nat),
   runNT P N (crowd gs w sl) t=(.next (crowd A7 w' sl0),t')/\A7.size=gs.size/\A7[h]?=some a/\BZ Z w w'/\(∃B',B<=B'/\Duo P Ac Still Mem Ai B' h j By n' A7 w' t' q')/\stepT P (crowd A7 w' sl0)=runT P (crowd A7 (w'.at d) DJ) h:=by
 intro X
 induction X with
 |zero=>intro n gs a w sl t q B hX;omega
 |succ X ih=>
  intro n gs a w sl t q B hX K I D
  obtain⟨b,hb,hB⟩:=D.idle
  have haw:∀g∈gs,awake g:=by
   intro g V
   obtain⟨i,H,rfl⟩:=Array.mem_iff_getElem.1 V
   have Q:=v_ H
   by_cases e1:i=h
   .subst e1;rw[K]at Q;rw[<-x_ Q];exact awake_of (.inl I)
   .by_cases e2:i=j
    .subst e2;rw[hb]at Q;rw[<-x_ Q];exact awake_of ((O.status hB).elim (λx=>.inl x.1) .inr)
    .exact awake_of ((D.F6 i _ e1 e2 Q).status.elim .inl λx=>.inr (.inr x))
  obtain⟨i,g,d,DJ,H,V,BI⟩:=crowd_pick (P:=P) (w:=w) (sl:=sl) haw ⟨h,a,K,I⟩;have Bv:i<gs.size:=(y_.1 H).1;by_cases e1:i=h
  .subst e1;exact⟨0,gs,w,d,sl,DJ,t,q,n,rfl,rfl,K,BZ.refl w,⟨B,w_ _,D⟩,BI⟩
  .by_cases e2:i=j
   .subst e2;obtain rfl:g=b:=(by rw[hb]at H;exact(x_ H).symm);have ug:∀k y,k≠i->gs[k]?=some y->y.status≠.blocked:=by
     intro k y C hy
     by_cases e3:k=h
     .subst e3;rw[K]at hy;rw[<-x_ hy,I];simp
     .have:=(D.F6 k y e3 C hy).status;obtain h1|h1:=this<;>rw[h1]<;>simp
    obtain⟨n',g',w',J,hn,hgo,hoff,⟨Bu,hBu,hsu,IU⟩,G⟩|⟨n',f,cases,shape,J,hn,Ip,A,IU,G⟩|⟨n',f,cases,shape,J,k,c,z,cap,s,r,tm,hn,Ip,C,hcl,A,IU,G⟩:=O.step hB V D.tr D.size d
    .have L:=runT_crowd_go (P:=P) (sl:=DJ) (i:=i) H hgo;have E:((gs.map (woken P g g' w')).setIfInBounds i g').size=gs.size:=(by simp);obtain⟨N,A7,T,U,sl0,S,t',q',v,hr,R,p,u,M,l⟩:=ih n' ((gs.map (woken P g g' w')).setIfInBounds i g') a w' DJ (t++MemOp.ofEvents i g.frame.fn g.frame.place J) q Bu (by rw[E];omega)
      (by rw[z_ e1,Array.getElem?_map,K];simp[woken_run I]) I
      ⟨D.ne,D.zero,D.mem,⟨g',by simp[Bv],G⟩,λk x MX F o=>by
       rw[z_ (Ne.symm F),Array.getElem?_map]at o
       obtain⟨y,hy,rfl⟩:=Option.map_eq_some_iff.1 o
       have Y:=D.F6 k y MX F hy
       rw[woken_quitsD Y,Deaf_other t (Ne.symm F) _ ofEvents_g]
       exact Y,λk C=>by
       rw[Deaf_other t (g':=i) (by simp at C;omega) _ ofEvents_g]
       exact D.above k (by simpa using C),IU,hsu⟩;exact⟨N+1,A7,T,U,sl0,S,t',q',v,by simp only[runNT,BI,L];exact hr,R.trans E,p,hoff.trans u,let ⟨B',h1,h2⟩:=M;⟨B',Nat.le_trans hBu h1,h2⟩,l⟩
    .have L:=crowd_waits (P:=P) (sl:=DJ) (i:=i) H Ip (λcc Es=>by
      obtain⟨c,z,k,rfl,hc⟩:=A cc Es
      exact ways_recv_none (show(w.at d).heap[c]?=_ from hc) (Fq ug));have E:(gs.setIfInBounds i (parked f cases shape)).size=gs.size:=(by simp);obtain⟨N,A7,T,U,sl0,S,t',q',v,hr,R,p,u,M,l⟩:=ih n' (gs.setIfInBounds i (parked f cases shape)) a (w.at d) DJ (t++MemOp.ofEvents i g.frame.fn g.frame.place J) q B (by rw[E];omega)
      (by rw[z_ e1];exact K) I
      ⟨D.ne,D.zero,D.mem,⟨_,by simp[Bv],G⟩,λk x MX F o=>by
       rw[z_ (Ne.symm F)]at o
       rw[Deaf_other t (Ne.symm F) _ ofEvents_g]
       exact D.F6 k x MX F o,λk C=>by
       rw[Deaf_other t (g':=i) (by simp at C;omega) _ ofEvents_g]
       exact D.above k (by simpa using C),IU,D.size⟩;exact⟨N+1,A7,T,U,sl0,S,t',q',v,by simp only[runNT,BI,L];exact hr,R.trans E,p,(BZ.at w d).trans u,M,l⟩
    .have L:=crowd_sel_recv_closed (P:=P) (sl:=DJ) (i:=i) H Ip C (λm cc hm Es=>by
      obtain⟨c',z',k',rfl,hc⟩:=A m cc hm Es
      exact ways_recv_none (show(w.at d).heap[c']?=_ from hc) (Fq ug)) (show(w.at d).heap[c]?=_ from hcl) (Fq ug);have E:(gs.setIfInBounds i (Conc.served f (commResult cases shape k z false))).size=gs.size:=(by simp);have hg1:∀op∈MemOp.ofEvents i g.frame.fn g.frame.place J++#[{ g:=i,fn:=f.frame.fn,pos:=f.frame.place,act:=.recvClosed c }],op.g=i:=by
      intro op A
      obtain A|A:=Array.mem_append.1 A
      .exact ofEvents_g op A
      .simp at A;subst A;rfl
     obtain⟨N,A7,T,U,sl0,S,t',q',v,hr,R,p,u,M,l⟩:=ih n' (gs.setIfInBounds i (Conc.served f (commResult cases shape k z false))) a (w.at d) DJ (t++(MemOp.ofEvents i g.frame.fn g.frame.place J++#[{ g:=i,fn:=f.frame.fn,pos:=f.frame.place,act:=.recvClosed c }])) q B (by rw[E];omega)
      (by rw[z_ e1];exact K) I
      ⟨D.ne,D.zero,D.mem,⟨_,by simp[Bv],G⟩,λk x MX F o=>by
       rw[z_ (Ne.symm F)]at o
       rw[Deaf_other t (Ne.symm F) _ hg1]
       exact D.F6 k x MX F o,λk C=>by
       rw[Deaf_other t (g':=i) (by simp at C;omega) _ hg1]
       exact D.above k (by simpa using C),IU,D.size⟩;exact⟨N+1,A7,T,U,sl0,S,t',q',v,by simp only[runNT,BI,L];exact hr,R.trans E,p,(BZ.at w d).trans u,M,l⟩
   .have IY:i≠0:=by obtain e|e:=D.zero<;>omega
    have Y:=D.F6 i g e1 e2 H;have hi0:(i==0)=false:=(by simp;omega);cases hqi:q i with
    |zero=>rw[hqi]at Y;rw[Y.1]at V;cases V
    |succ k=>
     rw[hqi]at Y
     obtain⟨hf,_⟩|⟨_,g',J,hm,hstp,hq'⟩:=Y
     .rw[hf]at V;cases V
     have L:=runT_crowd_go (P:=P) (sl:=DJ) (i:=i) H (by rw[hi0];exact hstp (w.at d));have E:((gs.map (woken P g g' (w.at d))).setIfInBounds i g').size=gs.size:=(by simp);have hsum:sumTo gs.size (upd q i k)+(k+1)=sumTo gs.size q+k:=by
      have:=sumTo_upd q k id Bv
      simpa [hqi]using this
     have W:∀op∈MemOp.ofEvents i g.frame.fn g.frame.place J,op.act.touch?=none:=λop A=>by obtain⟨e,he,rfl⟩:=Go.Conc.mem_ofEvents A;exact touch_mute (hm e he)
     have hnm:¬Mem i:=λQ=>(D.mem i Q).elim e1 e2
     obtain⟨N,A7,T,U,sl0,S,t',q',v,hr,R,p,u,M,l⟩:=ih n ((gs.map (woken P g g' (w.at d))).setIfInBounds i g') a (w.at d) DJ (t++MemOp.ofEvents i g.frame.fn g.frame.place J) (upd q i k) B (by rw[E];omega)
      (by rw[z_ e1,Array.getElem?_map,K];simp[woken_run I]) I
      ⟨D.ne,D.zero,D.mem,⟨b,by
       rw[z_ e2,Array.getElem?_map,hb]
       simp only[Option.map_some,Option.some.injEq]
       exact woken_of_again (O.again hB (w.at d) λ_ _=>rfl),O.calm (w.at d) _ hB (λ_ _=>rfl) (Oq e2 IY hm)⟩,λx y J4 JE o=>by
       by_cases e3:i=x
       .subst e3;rw[Array.getElem?_setIfInBounds_self_of_lt (by simpa using Bv)]at o;obtain rfl:=x_ o;rw[upd_same,Deaf_own];exact hq'
       .rw[z_ e3,Array.getElem?_map]at o;obtain⟨z,hz,rfl⟩:=Option.map_eq_some_iff.1 o;have hqj:=D.F6 x z J4 JE hz;rw[woken_quitsD hqj,upd_ne q k (Ne.symm e3),Deaf_other t e3 _ ofEvents_g];exact hqj,λx o=>by
       rw[Deaf_other t (g':=i) (by simp at o;omega) _ ofEvents_g];exact D.above x (by simpa using o),D.tr.appMute ofEvents_g W (λx=>(hnm x).elim) (λop A=>by obtain⟨e,he,rfl⟩:=Go.Conc.mem_ofEvents A;exact low_mute (hm e he) B),D.size⟩
     exact⟨N+1,A7,T,U,sl0,S,t',q',v,by simp only[runNT,BI,L];exact hr,R.trans E,p,(BZ.at w d).trans u,M,l⟩
theorem go_duo (O:Gp P Z Ac Still (fun B t=>PX Ac Still Mem Ai B h t) j By) {Ko Loose':Nat->Prop} {n B0:Nat} {gs:Array m_} {a:m_} {w:o_} {sl:d_ (W_)} {t:Trace} {q:Nat->Nat} {Q:Array m_->o_->Trace->Prop}
  (h0:gs[h]?=some a) (Bi:a.status=.running) (D:Duo P Ac Still Mem Ai B0 h j By n gs w t q) (hM':∀g,Ko g->g=h\/g=j)
  (Kw:∀B,B0<=B->∀w1:o_,w1.heap.size<=B->∀n1 b1 t1,BZ Z w w1->By n1 b1 w1 t1->PX Ac Still Mem Ai B h t1->∀d,∃a' w' es B',stepG P (h==0) a (w1.at d)=.go a' w' es/\B<=B'/\w'.heap.size<=B'/\
   PX Ac Still Ko Loose' B' h (t1++MemOp.ofEvents h a.frame.fn a.frame.place es)/\∃(By':Nat->m_->o_->Trace->Prop) (n2:Nat),By' n2 (woken P a a' w' b1) w' (t1++MemOp.ofEvents h a.frame.fn a.frame.place es)/\
   ∀A7 q' n',A7.size=gs.size->A7[h]?=some a'->Duo P Ac Still Ko Loose' B' h j By' n' A7 w' (t1++MemOp.ofEvents h a.frame.fn a.frame.place es) q'->∀DJ,AA P A7 w' DJ (t1++MemOp.ofEvents h a.frame.fn a.frame.place es) Q):AA P gs w sl t Q:=by
 obtain⟨N,f,w1,d,sl0,E,t1,q1,n1,X,l,F,W,⟨B,r,e⟩,J⟩:=nX O (n+sumTo gs.size q+1) n gs a w sl t q B0 (by omega) h0 Bi D;obtain⟨b,V,S⟩:=e.idle;obtain⟨a',w',es,B',u,T,L,v,By',n2,s,m⟩:=Kw B r w1 e.size n1 b t1 W S e.tr d;have K:h<f.size:=(y_.1 F).1;have I:=runT_crowd_go (P:=P) (sl:=E) (i:=h) F u;have c:((f.map (woken P a a' w')).setIfInBounds h a').size=gs.size:=by simp[l]
 obtain⟨M,p,w2,C,t2,z,A,U⟩:=m ((f.map (woken P a a' w')).setIfInBounds h a') q1 n2 c (by simp[K]) ⟨e.ne,e.zero,hM',⟨_,by rw[z_ e.ne,Array.getElem?_map,V];rfl,s⟩,λk x o R H=>by
   rw[z_ (Ne.symm o),Array.getElem?_map]at H
   obtain⟨y,Y,rfl⟩:=Option.map_eq_some_iff.1 H
   have G:=e.F6 k y o R Y
   rw[woken_quitsD G,Deaf_other t1 (Ne.symm o) _ ofEvents_g]
   exact G,λk m=>by
   rw[c,<-l]at m
   rw[Deaf_other t1 (g':=h) (by omega) _ ofEvents_g]
   exact e.above k m,v,L⟩ E;refine⟨N+1+M,p,w2,C,t2,?_,A.trans c,U⟩;rw[runNT_add,runNT_succ_of X (J.trans I)];exact z
end
end Go.Fxa
