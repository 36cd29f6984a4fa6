/- The slow way of Wait: goroutin -/
import Derived.Test.YtmhplpfpcnjekaaGreatA07
namespace Go.Fxa
open Go.Conc
open Go.ConcN (sumTo upd sumTo_upd upd_ne upd_same)
set_option maxRecDepth 1000000
set_option maxHeartbeats 0
variable {g g':m_}{w:o_}{n:Nat}{t:Trace}{st:Int}
def YC (a:f_):Event:=⟨.mark (.write a),false,true⟩
section
variable {P:l_}{Z:Nat->Prop}{Ad Still:Loc->Prop}{Mem Am:Nat->Prop}{r:Nat}{pre:X_}{ty:j_}{c:Nat}{o:SY}{Ph:Bool->Nat->m_->o_->Trace->Prop}{X:o_->Prop}
theorem bP (h:g.status≠.blocked\/g.offers=none)(x:Nat)(b:Bool):offersAt g x b=[]:=by
 obtain h|h:=h
 .exact offersAt_of_not_blocked h _ _
 .unfold offersAt;rw[h];cases g.status<;>rfl
theorem NY {gs:Array m_}{i x:Nat}{send:Bool}(hb:∀k g,k≠i->gs[k]?=some g->g.status≠.blocked\/g.offers=none):partners (gs.setIfInBounds i ph) x send=[]:=by
 refine partners_nil λk g c=>?_
 obtain⟨rfl,rfl⟩|⟨b,a⟩:=getElem?_stand gs i k g c
 .exact offersAt_ph _ _
 .exact bP (hb k g b a) _ _
theorem Ve {k:Nat}(h:Ls P (DD r pre ty) false (k+1) g g')(d:DD r pre ty w):∃b,stepG P false g w=.go b w #[]:=by
 obtain⟨_,b,a,_⟩:=h;exact⟨b,a w d⟩
theorem ϭ (H:Ny P Z Ad Still Am c r pre ty o Ph X)(O:O3 P r pre ty o)(A:Z r){w':o_}{d:Nat}{es:Array Event}{D:Int}(h:CO P c r pre ty o Ph X true n g w t)
  (B:BC r pre ty w st 0) (z:stepG P false g (w.at d)=.go g' w' es) (C:BC r pre ty w' D 1):mayWake P g=true/\g'.status=.running:=by
 have p:Js Z w (w.at d):=λ_ _=>rfl
 have b:∀{q:Array Event} {j:m_},stepG P false g (w.at d)=.go j (w.at d) q->False:=by
  intro q j u
  rw[u]at z
  injection z with _ v _
  subst v
  exact qx ((B.keep A p).eq C).2 sN
 have s:∀{q:Array Event} {j:m_} {x:Int},stepG P false g (w.at d)=.go j ((w.at d).setCell (stA r pre) (.int .u64 x)) q->False:=by
  intro q j x u
  rw[u]at z
  injection z with _ v _
  subst v
  exact qx (((B.keep A p).setSt x).eq C).2 sN
 obtain h|⟨⟨_,⟨k,rfl,a,i,_⟩|⟨m,k,rfl,a,i,_,_⟩|⟨m,k,rfl,a,i,_,_⟩|⟨v,_⟩|⟨_,m,k,rfl,a,i,_,_⟩|⟨_,m,k,rfl,a,i,_,_⟩|⟨_,m,_,i,_⟩⟩,_⟩:=h
 .exact(H.low h z C).elim
 .cases k with
  |zero=>obtain rfl:g=o.gR:=a;exact(b (O.rel _)).elim
  |succ k=>obtain⟨j,e⟩:=Ve a (i.is d);exact(b e).elim
 .cases k with
  |zero=>obtain rfl:g=o.gD:=a;exact(b (O.ax _)).elim
  |succ k=>obtain⟨j,e⟩:=Ve a (i.is d);exact(b e).elim
 .cases k with
  |zero=>
   obtain rfl:g=o.gA:=a
   have f:=i.keep A p
   simp only[if_true]at f
   exact(s (O.add1 _ f.cellSt f.QJ)).elim
  |succ k=>obtain⟨j,e⟩:=Ve a (i.is d);exact(b e).elim
 .cases v
 .cases k with
  |zero=>
   obtain rfl:g=o.gS:=a
   have f:=i.keep A p
   exact(s (O.sto _ f.cellSt f.QJ)).elim
  |succ k=>obtain⟨_,j,l,_,e,_⟩:=a;exact(b (e _ (i.keep A p))).elim
 .cases k with
  |zero=>
   obtain rfl:g=o.gP:=a
   have f:=i.keep A p
   have u:=O.sem _ f.cellSm f.uk
   rw[u]at z
   injection z with y _ _
   subst y
   exact O.wake
  |succ k=>obtain⟨j,e⟩:=Ve a (i.is d);exact(b e).elim
 .exact qx (B.eq i).2 sN
theorem yt (H:Ny P Z Ad Still Am c r pre ty o Ph X)(O:O3 P r pre ty o)(h:CO P c r pre ty o Ph X true n g w t)(e:BC r pre ty w st 0):g.status=.running:=by
 obtain h|⟨⟨_,⟨k,rfl,a,_⟩|⟨m,k,rfl,a,_⟩|⟨m,k,rfl,a,_⟩|⟨d,_⟩|⟨_,m,k,rfl,a,_⟩|⟨_,m,k,rfl,a,_⟩|⟨_,m,_,b,_⟩⟩,_⟩:=h
 .exact(H.status h).1
 .exact a.status O.runs.1
 .exact a.status O.runs.2.1
 .exact a.status O.runs.2.2.1
 .cases d
 .exact a.status O.runs.2.2.2.1
 .exact a.status O.runs.2.2.2.2
 .exact qx (e.eq b).2 sN
theorem jv (H:Ny P Z Ad Still Am c r pre ty o Ph X)(h:CO P c r pre ty o Ph X true n g w t):(∃st,BC r pre ty w st 0)\/Gi P c r pre ty X 1 n g w t:=by
 obtain h|⟨⟨hN,⟨k,rfl,b,a,_⟩|⟨m,k,rfl,b,a,_⟩|⟨m,k,rfl,b,a,_⟩|⟨e,_⟩|⟨_,m,k,rfl,b,a,_⟩|⟨_,m,k,rfl,b,a,_⟩|⟨_,m,hq,a,d⟩⟩,hX⟩:=h
 .exact .inl ⟨_,H.run h⟩
 .exact .inl ⟨_,a⟩
 .exact .inl ⟨_,a⟩
 .exact .inl ⟨_,a⟩
 .cases e
 .exact .inl ⟨_,a⟩
 .exact .inl ⟨_,a⟩
 .exact .inr ⟨hN,m,hq,⟨a,hX⟩,d⟩
theorem bb5 {B:Nat}(f:∀l,LY r pre l->Ad l/\¬Still l)(h:r<B)(H:PX Ad Still (λ_=>False) Am B 0 t)(fn:h_)(pos:String):PX Ad Still (λ_=>False) Am B 0 (t++MemOp.ofEvents 0 fn pos (semEvents (smA r pre))):=by
 refine H.appH Yv (λop c b hb=>?_) (λx=>x.elim) (λop c=>?_)
 .obtain⟨e,a,rfl⟩:=p_ c;simp only[semEvents,eu,r_,lG,or_false]at a;obtain rfl|rfl|rfl|rfl:=a
  .cases hb
  .obtain rfl:=x_ hb;exact⟨λd=>((f _ (.inr rfl)).2 d).elim,λ_=>sJ⟩
  .obtain rfl:=x_ hb;exact⟨λd=>((f _ (.inr rfl)).2 d).elim,λ_=>sJ⟩
  .cases hb
 .obtain⟨e,a,rfl⟩:=p_ c;simp only[semEvents,eu,r_,lG,or_false]at a;obtain rfl|rfl|rfl|rfl:=a
  .trivial
  .exact h
  .exact h
  .trivial
theorem an8 (HP:Ny P Z Ad Still (fun g=>g=c) c r pre ty o Ph X)(O:O3 P r pre ty o)(hZ:Z r)(hW:∀l,LY r pre l->Ad l/\¬Still l)(hc:c≠0)(OC:G8 P Z Ad Still (fun B t=>PX Ad Still (fun _=>False) (fun g=>g=c) B 0 t) c (CO P c r pre ty o Ph X true))
  {fr:Frame} {cs:Z_} {mS':m_} (hhit:∀w,w.cell? (smA r pre)=some (.int .u32 1)->w.frozen? (smA r pre)=false->stepG P true (G fr cs) w=.go mS' (w.setCell (smA r pre) (.int .u32 0)) (semEvents (smA r pre)))
  (hmiss:∀w,w.cell? (smA r pre)=some (.int .u32 0)->stepG P true (G fr cs) w=.go { G fr cs with status:=.blocked} w #[]):
  ∀(M n:Nat)(gs:Array m_)(a:m_)(w:o_)(sl:d_ (W_))(t:Trace)(q:Nat->Nat)(B:Nat),2*(n+sumTo gs.size q)+(if a.status=.running then 1 else 0)<M->gs[0]?=some a->(a=G fr cs\/(a={ G fr cs with status:=.blocked}/\∃st,BC r pre ty w st 0))->
   Duo P Ad Still (λ_=>False) (λg=>g=c) B 0 c (Fb 1 (CO P c r pre ty o Ph X true)) n gs w t q->
   AX P gs w sl t λBA w' t'=>∃q' n' B',B<=B'/\BA[0]?=some mS'/\CS Z w w'/\Duo P Ad Still (λ_=>False) (λg=>g=c) B' 0 c (Fb 1 (Gi P c r pre ty X 0)) n' BA w' t' q':=by
 have OD:=U3 (δ:=1) hc OC;intro M
 induction M with
 |zero=>intro n gs a w sl t q B hX;omega
 |succ M ih=>
  intro n gs a w sl t q B hX U V D
  obtain⟨b,hb,hB⟩:=D.idle
  have hcl:c<gs.size:=(y_.1 hb).1
  have h0l:0<gs.size:=(y_.1 U).1
  have da2:a.status=.running\/a.status=.blocked:=by obtain rfl|⟨rfl,_⟩:=V<;>simp[G]
  have cn1:a.offers=none:=by obtain rfl|⟨rfl,_⟩:=V<;>rfl
  have haw:∀g∈gs,awake g:=by
   intro g hg
   obtain⟨i,hi,rfl⟩:=Array.mem_iff_getElem.1 hg
   have N9:=v_ hi
   by_cases e1:i=0
   .subst e1;rw[U]at N9;rw[<-x_ N9];exact awake_of (da2.imp id .inl)
   .by_cases e2:i=c
    .subst e2;rw[hb]at N9;rw[<-x_ N9];exact awake_of ((OD.status hB).elim (λx=>.inl x.1) .inr)
    .exact awake_of ((D.JP i _ e1 e2 N9).status.elim .inl λx=>.inr (.inr x))
  have hsome:∃(i:Nat) (g:m_),gs[i]?=some g/\g.status=.running:=by
   obtain rfl|⟨rfl,st,A⟩:=V
   .exact⟨0,_,U,rfl⟩
   .exact⟨c,b,hb,yt HP O hB.1 A⟩
  obtain⟨i,g,d,J,hi,hg,BX⟩:=crowd_pick (P:=P) (w:=w) (sl:=sl) haw hsome;have BL:i<gs.size:=(y_.1 hi).1;have L:Js Z w (w.at d):=λ_ _=>rfl
  by_cases e1:i=0
  ·
   subst e1;obtain rfl:g=a:=(by rw[U]at hi;exact(x_ hi).symm);obtain rfl:g=G fr cs:=by
    obtain h|⟨rfl,_⟩:=V
    .exact h
    .cases hg
   obtain⟨st,A⟩|v:=jv HP hB.1
   ·
    have I:=runT_crowd_go (P:=P) (sl:=J) (i:=0) hi (show stepG P (0==0) (G fr cs) (w.at d)=_ from hmiss _ (A.keep hZ L).cellSm);have hnw:∀x,woken P (G fr cs) { G fr cs with status:=.blocked} (w.at d) x=x:=λx=>by unfold woken;simp
    have hmap:(gs.map (woken P (G fr cs) { G fr cs with status:=.blocked} (w.at d)))=gs:=by
     have:woken P (G fr cs) { G fr cs with status:=.blocked} (w.at d)=id:=funext hnw
     rw[this];simp
    rw[hmap]at I;have E:(gs.setIfInBounds 0 { G fr cs with status:=.blocked}).size=gs.size:=sJ;obtain⟨N,BA,w',S,t',Q,R,q',n',B',jB,Y,j2,j3⟩:=ih n (gs.setIfInBounds 0 { G fr cs with status:=.blocked}) { G fr cs with status:=.blocked} (w.at d) J t q B (by rw[E];simp[G]at hX ⊢;omega) (by simp[h0l]) (.inr ⟨rfl,st,A.keep hZ L⟩)
     ⟨D.ne,D.zero,D.mem,⟨b,by rw[z_ (gJ hc)];exact hb,by have:=OD.calm (w.at d) #[] hB L (λop p=>by simp at p);simpa using this⟩,λx y F u f=>by
      rw[z_ (gJ F)]at f
      exact D.JP x y F u f,λx f=>D.above x (by simpa using f),D.tr,D.size⟩;refine⟨N+1,BA,w',S,t',?_,R.trans E,q',n',B',jB,Y,(CS.at w d).trans j2,j3⟩;simp only[runNT,BX,I];rw[DY];exact Q
   ·
    obtain⟨hN,m,hq,⟨A,hXw⟩,hm⟩:=v;have hrd:=A.keep hZ L;have I:=runT_crowd_go (P:=P) (sl:=J) (i:=0) hi (show stepG P (0==0) (G fr cs) (w.at d)=_ from hhit _ hrd.cellSm hrd.uk);have hbw:woken P (G fr cs) mS' ((w.at d).setCell (smA r pre) (.int .u32 0)) b=b:=woken_of_again (again_running _ hq.status);have hlow:r<B:=(by have:=A.lt;have:=D.size;omega);have K:=Px (w:=w) (a:=smA r pre) hZ (.int .u32 0) d;refine⟨1,(gs.map (woken P (G fr cs) mS' ((w.at d).setCell (smA r pre) (.int .u32 0)))).setIfInBounds 0 mS',(w.at d).setCell (smA r pre) (.int .u32 0),J,t++MemOp.ofEvents 0 (G fr cs).frame.fn (G fr cs).frame.place (semEvents (smA r pre)),by simp only[runNT,BX,I],sJ,q,n,B,w_,by simp[h0l],K,⟨D.ne,D.zero,D.mem,⟨b,by rw[z_ (gJ hc),ik,hb];simp[hbw],?_,?_⟩,λx y F u f=>?_,λx f=>?_,bb5 hW hlow D.tr _ _,by rw[Il];exact D.size⟩⟩
    .refine⟨hN.app λop p x f hw=>?_,m,?_,⟨hrd.setSm 0,HP.keep _ _ hXw λx f _=>?_⟩,hm.app (λop p=>?_) (λk op x hk hg' _=>?_)⟩
     .obtain⟨e,W,rfl⟩:=p_ p;simp only[semEvents,eu,r_,lG,or_false]at W;obtain rfl|rfl|rfl|rfl:=W
      .cases f
      .obtain rfl:=x_ f;simp
      .obtain rfl:=x_ f;simp
      .cases f
     .rw[Deaf_other t (g':=0) (gJ hc) _ Yv];exact hq
     .simp[World.setCell,World.at,smA,iF,gJ f]
     .obtain⟨e,W,rfl⟩:=p_ p;simp only[semEvents,eu,r_,lG,or_false]at W;obtain rfl|rfl|rfl|rfl:=W<;>simp[MemAct.ofEvent]
     .have:=Yv op (Array.mem_of_getElem? hk);omega
    .rw[Deaf_own,hB.2];rfl
    .rw[z_ (gJ F),ik]at f;obtain⟨z,hz,rfl⟩:=lT.1 f;have hqx:=D.JP x z F u hz;rw[woken_quitsD hqx,Deaf_other t (g':=0) (gJ F) _ Yv];exact hqx
    .rw[Deaf_other t (g':=0) (by simp at f;omega) _ Yv];exact D.above x (by simpa using f)
  ·
   have wok:∀(x x':m_)(w':o_),woken P x x' w' a=a\/woken P x x' w' a=G fr cs:=by
    intro x x' w'
    obtain rfl|⟨rfl,_⟩:=V
    .exact .inl (woken_run rfl)
    .unfold woken;split
     .right;rfl
     .left;rfl
   have dg0:(if a.status=.running then 1 else 0)<=1:=by split<;>omega
   have ak7:∀x:m_,(if x.status=.running then 1 else 0)<=1:=λx=>by split<;>omega
   by_cases e2:i=c
   .subst e2;obtain rfl:g=b:=(by rw[hb]at hi;exact(x_ hi).symm);have nob:∀k y,k≠i->gs[k]?=some y->y.status≠.blocked\/y.offers=none:=by
     intro k y hk hy
     by_cases e3:k=0
     .subst e3;rw[U]at hy;rw[<-x_ hy];exact .inr cn1
     .have:=(D.JP k y e3 hk hy).status;obtain h1|h1:=this<;>exact .inl (by rw[h1];simp)
    have hi0:(i==0)=false:=(by simpa using hc);obtain⟨n',g',w',T,hn,hgo,K,⟨Bu,hBu,hsu,LQ⟩,H⟩|⟨n',j,cases,shape,T,hn,IQ,p,LQ,H⟩|⟨n',j,cases,shape,T,k,cx,z,cap,s,rr,tm,hn,IQ,hk,hcl',p,LQ,H⟩:=OD.step hB hg D.tr D.size d
    .have I:=runT_crowd_go (P:=P) (sl:=J) (i:=i) hi hgo;have E:((gs.map (woken P g g' w')).setIfInBounds i g').size=gs.size:=sJ;obtain⟨N,BA,PN,S,t',Q,R,q',C,B',jB,Y,j2,j3⟩:=ih n' ((gs.map (woken P g g' w')).setIfInBounds i g') (woken P g g' w' a) w' J (t++MemOp.ofEvents i g.frame.fn g.frame.place T) q Bu (by rw[E];have:=ak7 (woken P g g' w' a);omega)
      (by rw[z_ hc,ik,U];rfl) (by
       obtain rfl|⟨rfl,st,A⟩:=V
       .exact .inl (woken_run rfl)
       .obtain hr0|v:=jv HP H.1
        .obtain e|e:=wok g g' w'
         .exact .inr ⟨e,hr0⟩
         .exact .inl e
        .obtain⟨_,m,_,⟨Ia,_⟩,_⟩:=v;rw[hi0]at hgo;obtain⟨hwk,hgr⟩:=ϭ HP O hZ hB.1 A hgo Ia;refine .inl ?_;unfold woken;simp only[hwk,hgr,Bool.true_and];rw[rW sN]
         rfl)
      ⟨D.ne,D.zero,D.mem,⟨g',by simp[BL],H⟩,λx y F u f=>by
       rw[z_ (gJ u),ik]at f
       obtain⟨z,hz,rfl⟩:=lT.1 f
       have hq:=D.JP x z F u hz
       rw[woken_quitsD hq,Deaf_other t (gJ u) _ Yv];exact hq,λx f=>by
       rw[Deaf_other t (g':=i) (by simp at f;omega) _ Yv];exact D.above x (by simpa using f),LQ,hsu⟩
     exact⟨N+1,BA,PN,S,t',by simp only[runNT,BX,I];exact Q,R.trans E,q',C,B',lN hBu jB,Y,K.trans j2,j3⟩
    .have I:=crowd_waits (P:=P) (sl:=J) (i:=i) hi IQ (λcc GX=>by
      obtain⟨c',z,k,rfl,hc'⟩:=p cc GX
      exact ways_recv_none (show(w.at d).heap[c']?=_ from hc') (NY nob));have E:(gs.setIfInBounds i (parked j cases shape)).size=gs.size:=sJ;obtain⟨N,BA,PN,S,t',Q,R,q',C,B',jB,Y,j2,j3⟩:=ih n' (gs.setIfInBounds i (parked j cases shape)) a (w.at d) J (t++MemOp.ofEvents i g.frame.fn g.frame.place T) q B (by rw[E];omega)
      (by rw[z_ hc];exact U) (V.imp id λ⟨e,st,A⟩=>⟨e,st,A.keep hZ L⟩)
      ⟨D.ne,D.zero,D.mem,⟨_,by simp[BL],H⟩,λx y F u f=>by
       rw[z_ (gJ u)]at f
       rw[Deaf_other t (gJ u) _ Yv];exact D.JP x y F u f,λx f=>by
       rw[Deaf_other t (g':=i) (by simp at f;omega) _ Yv];exact D.above x (by simpa using f),LQ,D.size⟩;exact⟨N+1,BA,PN,S,t',by simp only[runNT,BX,I];exact Q,R.trans E,q',C,B',jB,Y,(CS.at w d).trans j2,j3⟩
    .have I:=crowd_sel_recv_closed (P:=P) (sl:=J) (i:=i) hi IQ hk (λm cc hm GX=>by
      obtain⟨c',z',k',rfl,hc'⟩:=p m cc hm GX
      exact ways_recv_none (show(w.at d).heap[c']?=_ from hc') (NY nob)) (show(w.at d).heap[cx]?=_ from hcl') (NY nob);have E:(gs.setIfInBounds i (Conc.served j (commResult cases shape k z false))).size=gs.size:=sJ;have hg1:∀op∈MemOp.ofEvents i g.frame.fn g.frame.place T++#[{ g:=i,fn:=j.frame.fn,pos:=j.frame.place,act:=.recvClosed cx}],op.g=i:=by
      intro op p
      obtain p|p:=Array.mem_append.1 p
      .exact Yv op p
      .simp at p;subst p;rfl
     obtain⟨N,BA,PN,S,t',Q,R,q',C,B',jB,Y,j2,j3⟩:=ih n' (gs.setIfInBounds i (Conc.served j (commResult cases shape k z false))) a (w.at d) J (t++(MemOp.ofEvents i g.frame.fn g.frame.place T++#[{ g:=i,fn:=j.frame.fn,pos:=j.frame.place,act:=.recvClosed cx}])) q B (by rw[E];omega)
      (by rw[z_ hc];exact U) (V.imp id λ⟨e,st,A⟩=>⟨e,st,A.keep hZ L⟩)
      ⟨D.ne,D.zero,D.mem,⟨_,by simp[BL],H⟩,λx y F u f=>by
       rw[z_ (gJ u)]at f
       rw[Deaf_other t (gJ u) _ hg1];exact D.JP x y F u f,λx f=>by
       rw[Deaf_other t (g':=i) (by simp at f;omega) _ hg1];exact D.above x (by simpa using f),LQ,D.size⟩;exact⟨N+1,BA,PN,S,t',by simp only[runNT,BX,I];exact Q,R.trans E,q',C,B',jB,Y,(CS.at w d).trans j2,j3⟩
   .have hq:=D.JP i g e1 e2 hi;have hi0:(i==0)=false:=(by simp;omega);cases hqi:q i with
    |zero=>rw[hqi]at hq;rw[hq.1]at hg;cases hg
    |succ k=>
     rw[hqi]at hq
     obtain⟨hf,_⟩|⟨_,g',T,hm,hstp,hq'⟩:=hq
     .rw[hf]at hg;cases hg
     have I:=runT_crowd_go (P:=P) (sl:=J) (i:=i) hi (by rw[hi0];exact hstp (w.at d));have E:((gs.map (woken P g g' (w.at d))).setIfInBounds i g').size=gs.size:=sJ;have hsum:sumTo gs.size (upd q i k)+(k+1)=sumTo gs.size q+k:=by
      have:=sumTo_upd q k id BL
      simpa [hqi]using this
     have hmute:∀op∈MemOp.ofEvents i g.frame.fn g.frame.place T,op.act.touch?=none:=λop p=>by obtain⟨e,W,rfl⟩:=p_ p;exact touch_mute (hm e W)
     obtain⟨N,BA,PN,S,t',Q,R,q',C,B',jB,Y,j2,j3⟩:=ih n ((gs.map (woken P g g' (w.at d))).setIfInBounds i g') (woken P g g' (w.at d) a) (w.at d) J (t++MemOp.ofEvents i g.frame.fn g.frame.place T) (upd q i k) B (by rw[E];have:=ak7 (woken P g g' (w.at d) a);omega)
      (by rw[z_ e1,ik,U];rfl) (by
       obtain rfl|⟨rfl,st,A⟩:=V
       .exact .inl (woken_run rfl)
       .obtain e|e:=wok g g' (w.at d)
        .exact .inr ⟨e,st,A.keep hZ L⟩
        .exact .inl e)
      ⟨D.ne,D.zero,D.mem,⟨b,by
       rw[z_ e2,ik,hb]
       simp only[Option.map_some,l7]
       exact woken_of_again (OD.again hB (w.at d) L),OD.calm (w.at d) _ hB L (Sj e2 e1 hm)⟩,λx y F u f=>by
       by_cases e3:i=x
       .subst e3;rw[lJ (by simpa using BL)]at f;obtain rfl:=x_ f;rw[upd_same,Deaf_own];exact hq'
       .rw[z_ e3,ik]at f;obtain⟨z,hz,rfl⟩:=lT.1 f;have hqj:=D.JP x z F u hz;rw[woken_quitsD hqj,upd_ne q k (gJ e3),Deaf_other t e3 _ Yv];exact hqj,λx f=>by
       rw[Deaf_other t (g':=i) (by simp at f;omega) _ Yv];exact D.above x (by simpa using f),D.tr.appMute Yv hmute (λx=>x.elim) (λop p=>by obtain⟨e,W,rfl⟩:=p_ p;exact low_mute (hm e W) B),D.size⟩
     exact⟨N+1,BA,PN,S,t',by simp only[runNT,BX,I];exact Q,R.trans E,q',C,B',jB,Y,(CS.at w d).trans j2,j3⟩
end
end Go.Fxa
namespace Go.Fxa
open Go.Conc
open Go.ConcN (sumTo upd sumTo_upd upd_ne upd_same)
variable {n B:Nat}{g LG g0:m_}{w:o_}{t:Trace}{fn:h_}{pos:String}{gs:Array m_}{q:Nat->Nat}
structure Wts where
 mD:m_
 mD':m_
 mL:m_
 mL0:m_
 mLK:m_
 mC:m_
 mC1:m_
 mC0:m_
 mW:m_
 mW':m_
 fr:Frame
 cs:Z_
 mS':m_
 k0:Nat
 k1:Nat
 k2:Nat
 k3:Nat
 k4:Nat
structure al7 (P:l_)(r:Nat)(pre:X_)(ty:j_)(g0 LG:m_)(x:Wts):Prop where
 runs:x.mD.status=.running/\x.mL.status=.running/\x.mC.status=.running/\x.mW.status=.running
 s0:Ls P (DD r pre ty) true x.k0 g0 x.mD
 ax:∀w,stepG P true x.mD w=.go x.mD' w #[JA]
 s1:Ls P (DD r pre ty) true x.k1 x.mD' x.mL
 bo5:∀w,w.cell? (stA r pre)=some (.int .u64 0)->stepG P true x.mL w=.go x.mL0 w #[⟨.cell (stA r pre),false,true⟩]
 fin0:ay8 P r pre ty LG x.mL0
 bo4:∀w,w.cell? (stA r pre)=some (.int .u64 KK)->stepG P true x.mL w=.go x.mLK w #[⟨.cell (stA r pre),false,true⟩]
 s2:Ls P (DD r pre ty) true x.k2 x.mLK x.mC
 IP:∀w,w.cell? (stA r pre)=some (.int .u64 KK)->w.frozen? (stA r pre)=false->stepG P true x.mC w=.go x.mC1 (w.setCell (stA r pre) (.int .u64 (KK+1))) (Ky (stA r pre))
 miss:∀w,w.cell? (stA r pre)=some (.int .u64 0)->w.frozen? (stA r pre)=false->stepG P true x.mC w=.go x.mC0 w #[⟨.cell (stA r pre),false,true⟩]
 lo0:ai7 P r pre ty LG x.mC0
 s3:Ls P (DD r pre ty) true x.k3 x.mC1 x.mW
 wr:∀w,stepG P true x.mW w=.go x.mW' w #[YC (smA r pre)]
 s4:Ls P (DD r pre ty) true x.k4 x.mW' (G x.fr x.cs)
 ca5:∀w,w.cell? (smA r pre)=some (.int .u32 1)->w.frozen? (smA r pre)=false->stepG P true (G x.fr x.cs) w=.go x.mS' (w.setCell (smA r pre) (.int .u32 0)) (semEvents (smA r pre))
 bn6:∀w,w.cell? (smA r pre)=some (.int .u32 0)->stepG P true (G x.fr x.cs) w=.go { G x.fr x.cs with status:=.blocked} w #[]
 lo1:ai7 P r pre ty LG x.mS'
section
variable {P:l_}{Z:Nat->Prop}{Ad Still:Loc->Prop}{Mem Am:Nat->Prop}{r:Nat}{pre:X_}{ty:j_}{c:Nat}{o:SY}{Ph:Bool->Nat->m_->o_->Trace->Prop}{X:o_->Prop}{Pn:Loc->Prop}
theorem kW (H:Ny P Z Ad Still Am c r pre ty o Ph X)(z:Z r)(C:c≠0){w0:Bool}{es:Array Event}(d:Nat)(A:∀e∈es,(MemAct.ofEvent e).touch?=none/\∀a,MemAct.ofEvent e≠.mark (.release a))
  (h:CO P c r pre ty o Ph X w0 n g w t):CO P c r pre ty o Ph X w0 n g (w.at d) (t++MemOp.ofEvents 0 fn pos es):=by
 have l:Js Z w (w.at d):=λ_ _=>rfl
 have f:Deaf (t++MemOp.ofEvents 0 fn pos es) c=Deaf t c:=Deaf_other t (g':=0) (gJ C) _ Yv;have u:KI c r pre t->KI c r pre (t++MemOp.ofEvents 0 fn pos es):=λh=>h.app λop q b hb _=>by
  obtain⟨e,s,rfl⟩:=p_ q
  rw[(A e s).1]at hb;cases hb
 have hrel:∀{m},OU c r pre m t->OU c r pre m (t++MemOp.ofEvents 0 fn pos es):=λh=>h.app (λop q=>by
  obtain⟨e,s,rfl⟩:=p_ q
  exact(A e s).2 _) λk op b x y _=>by have:=Yv op (Array.mem_of_getElem? x);omega
 obtain h|⟨⟨hN,v⟩,hX⟩:=h
 .exact .inl (H.mark d A h)
 .refine .inr ⟨⟨u hN,?_⟩,H.keep _ _ hX λ_ _ _=>rfl⟩;obtain⟨k,a1,a2,i,j⟩|⟨m,k,a1,a2,i,j,p⟩|⟨m,k,a1,a2,i,j,p⟩|⟨a0,m,a1,a2,i⟩|⟨a0,m,k,a1,a2,i,j,p⟩|⟨a0,m,k,a1,a2,i,j,p⟩|⟨a0,m,a1,a2,i⟩:=v
  .exact .inl ⟨k,a1,a2,i.keep z l,by rw[f];exact j⟩
  .exact .inr (.inl ⟨m,k,a1,a2,i.keep z l,by rw[f];exact j,hrel p⟩)
  .exact .inr (.inr (.inl ⟨m,k,a1,a2,i.keep z l,by rw[f];exact j,hrel p⟩))
  .exact .inr (.inr (.inr (.inl ⟨a0,m,by rw[f];exact a1,a2.keep z l,hrel i⟩)))
  .exact .inr (.inr (.inr (.inr (.inl ⟨a0,m,k,a1,a2,i.keep z l,by rw[f];exact j,hrel p⟩))))
  .exact .inr (.inr (.inr (.inr (.inr (.inl ⟨a0,m,k,a1,a2,i.keep z l,by rw[f];exact j,hrel p⟩)))))
  .exact .inr (.inr (.inr (.inr (.inr (.inr ⟨a0,m,by rw[f];exact a1,a2.keep z l,hrel i⟩)))))
theorem nG (H:Ny P Z Ad Still Am c r pre ty o Ph X)(h:CO P c r pre ty o Ph X false n g w t):BC r pre ty w KK 0\/Gi P c r pre ty X 0 n g w t:=by
 obtain h|⟨⟨hN,⟨k,rfl,d,a,_⟩|⟨m,k,rfl,d,a,_⟩|⟨m,k,rfl,d,a,_⟩|⟨_,m,hq,a,e⟩|⟨b,_⟩|⟨b,_⟩|⟨b,_⟩⟩,hX⟩:=h
 .exact .inl (H.run h)
 .exact .inl a
 .exact .inl a
 .exact .inl a
 .exact .inr ⟨hN,m,hq,⟨a,hX⟩,e⟩
 .cases b
 .cases b
 .cases b
theorem yh (H:Ny P Z Ad Still Am c r pre ty o Ph X)(D:c≠0)(d:Nat)(C:BC r pre ty w KK 0)
  (h:CO P c r pre ty o Ph X false n g w t):CO P c r pre ty o Ph X true n g ((w.at d).setCell (stA r pre) (.int .u64 (KK+1))) (t++MemOp.ofEvents 0 fn pos (Ky (stA r pre))):=by
 have j:BC r pre ty ((w.at d).setCell (stA r pre) (.int .u64 (KK+1))) (if true=true then KK+1 else KK) 0:=BC.setSt (w:=w.at d) C _;have s:∀op∈MemOp.ofEvents 0 fn pos (Ky (stA r pre)),op.act.touch?=some ⟨.cell (stA r pre),false,.atomic⟩\/op.act.touch?=some ⟨.cell (stA r pre),true,.atomic⟩:=by
  intro op f
  obtain⟨e,u,rfl⟩:=p_ f
  simp only[Ky,eu,r_,lG,or_false]at u
  obtain rfl|rfl:=u
  .exact .inl rfl
  .exact .inr rfl
 have a:Deaf (t++MemOp.ofEvents 0 fn pos (Ky (stA r pre))) c=Deaf t c:=Deaf_other t (g':=0) (gJ D) _ Yv;have q:KI c r pre t->KI c r pre (t++MemOp.ofEvents 0 fn pos (Ky (stA r pre))):=λh=>h.app λop f b hb _=>by
  obtain e|e:=s op f<;>(rw[e]at hb;obtain rfl:=x_ hb;simp)
 have hrel:∀{m},OU c r pre m t->OU c r pre m (t++MemOp.ofEvents 0 fn pos (Ky (stA r pre))):=λh=>h.app (λop f e=>by
  obtain x|x:=s op f<;>(rw[e]at x;cases x)) λk op b y A _=>by have:=Yv op (Array.mem_of_getElem? y);omega
 obtain h|⟨⟨hN,v⟩,hX⟩:=h
 .exact .inl (H.up d C h)
 .refine .inr ⟨⟨q hN,?_⟩,H.keep _ _ hX λx z _=>by simp[World.setCell,World.at,stA,iF,gJ z]⟩;obtain⟨k,a1,a2,l,i⟩|⟨m,k,a1,a2,l,i,p⟩|⟨m,k,a1,a2,l,i,p⟩|⟨a0,m,a1,a2,l⟩|⟨a0,_⟩|⟨a0,_⟩|⟨a0,_⟩:=v
  .exact .inl ⟨k,a1,a2,j,by rw[a];exact i⟩
  .exact .inr (.inl ⟨m,k,a1,a2,j,by rw[a];exact i,hrel p⟩)
  .exact .inr (.inr (.inl ⟨m,k,a1,a2,j,by rw[a];exact i,hrel p⟩))
  .exact qx (C.eq a2).1 sN
  .cases a0
  .cases a0
  .cases a0
theorem EM {B1:Nat}{w1:o_}{h:Array m_}{w':o_}{i:Trace}(j:CS Z w w1)(hB:B<=B1)(J:YM P Z Pn X B1 LG w1 h w' i):YM P Z Pn X B LG w h w' i:=by
 obtain⟨f,a,b,c,d,e⟩:=J;exact⟨f,a,b,j.trans c,lN hB d,e⟩
theorem join (HP:Ny P Z Ad Still (fun g=>g=c) c r pre ty o Ph X)(hS0:∀l,Ad l->¬Still l->Pn l)(O:O3 P r pre ty o){x:Wts}(H:al7 P r pre ty g0 LG x)(hZ:Z r)(hW:∀l,LY r pre l->Ad l/\¬Still l)(hc:c≠0)
  {n B:Nat} {gs:Array m_} {w:o_} {sl:d_ (W_)} {t:Trace} {q:Nat->Nat} (h0:gs[0]?=some g0)
  (D:Duo P Ad Still (λg=>g=0) (λg=>g=c) B 0 c (CO P c r pre ty o Ph X false) n gs w t q):AX P gs w sl t (YM P Z Pn X B LG w):=by
 have OC:∀w0,G8 P Z Ad Still (λB t=>PX Ad Still (λ_=>False) (λg=>g=c) B 0 t) c (CO P c r pre ty o Ph X w0):=λw0=>PE HP O hZ hW hc id
 have JC:∀w0 n b w t,CO P c r pre ty o Ph X w0 n b w t->∀d,DD r pre ty (w.at d):=λw0 n b w t h d=>let ⟨_,_,i⟩:=Zj HP h;i.is d
 have JD:∀w0 n b w t,Fb 1 (CO P c r pre ty o Ph X w0) n b w t->∀d,DD r pre ty (w.at d):=λw0 n b w t h d=>let ⟨_,_,i⟩:=Zj HP h.1;i.is d
 have s:∀w0,G8 P Z Ad Still (λB t=>PX Ad Still (λ_=>False) (λg=>g=c) B 0 t) c (Fb 1 (CO P c r pre ty o Ph X w0)):=λw0=>U3 hc (OC w0)
 have ON:G8 P Z Ad Still (λB t=>PX Ad Still (λ_=>False) (λg=>g=c) B 0 t) c (Fb 1 (Gi P c r pre ty X 0)):=U3 hc (U2 HP.keep hZ hW hc id);refine(Ie (JC false) (PE (w0:=false) (Mem:=λg=>g=0) (Am:=λg=>g=c) HP O hZ hW hc hc) x.k0 H.s0 h0 D).bind λgs1 w1 JL t1 hz1 ⟨q1,n1,B1,h1,o1,b1,D1⟩=>?_
 refine AX.mono ?_ λp A z=>EM (B1:=B1) o1 b1
 refine go_duo (Me:=λ_=>False) (Loose':=λg=>g=c) (PE (w0:=false) (Mem:=λg=>g=0) (Am:=λg=>g=c) HP O hZ hW hc hc) h1 H.runs.1 D1 (λ_ N=>N.elim) λBm hBm w2 hsz2 n2 x2 t2 o2 hB2 hp2 d=>?_
 have hmk:∀e∈#[JA],(MemAct.ofEvent e).touch?=none/\∀a,MemAct.ofEvent e≠.mark (.release a):=by
  intro e f
  simp at f;subst f
  exact⟨rfl,λa=>by simp[JA,MemAct.ofEvent]⟩
 refine⟨x.mD',w2.at d,#[JA],Bm,H.ax _,w_,hsz2,(hp2.fewer (Me:=λ_=>False) λ_ h=>h.elim).appMute Yv (λop A8=>by obtain⟨e,f,rfl⟩:=p_ A8;exact(hmk e f).1) (λx=>x.elim) (λop A8=>by obtain⟨e,f,rfl⟩:=p_ A8;simp at f;subst f;trivial),
  Fb 1 (CO P c r pre ty o Ph X false),n2,⟨?_,?_⟩,λgs3 q3 n3 hz3 h3 D3 sl3=>?_⟩
 .rw[woken_of_again ((OC false).again hB2 (w2.at d) (λ_ _=>rfl))];exact kW HP hZ hc d hmk hB2
 .rw[Deaf_own,hp2.hears 0 rfl];rfl
 refine AX.mono ?_ λp A z=>EM (B1:=Bm) (o2.trans (CS.at w2 d)) hBm
 refine(Ie (JD false) (s false) x.k1 H.s1 h3 D3).bind λgs4 w4 Ob t4 hz4 ⟨q4,n4,B4,h4,o4,b4,D4⟩=>?_
 refine AX.mono ?_ λp A z=>EM (B1:=B4) o4 b4
 refine go_duo (Me:=λ_=>False) (Loose':=λg=>g=c) (s false) h4 H.runs.2.1 D4 (λ_ N=>N.elim) λBn hBn E j n5 x5 t5 o5 C hp5 F=>?_
 have rd:∀{w:o_} {B:Nat} {st sm:Int},BC r pre ty w st sm->w.heap.size<=B->∀e∈#[(⟨.cell (stA r pre),false,true⟩:Event)],aN Ad Still B e:=by
  intro w B st sm i hB e f
  simp at f;subst f
  exact Vm hW (by have:=i.lt;omega) (.inl rfl) rfl false
 obtain hr5|hd5:=nG HP C.1
 rotate_left
 .obtain⟨hN,m,hq,⟨i,M⟩,hm⟩:=hd5;have T:=rd i j;have v:Fb 1 (Gi P c r pre ty X 0) n5 x5 E t5:=⟨⟨hN,m,hq,⟨i,M⟩,hm⟩,C.2⟩;refine⟨x.mL0,E.at F,_,Bn,H.bo5 _ (i.keep hZ (λ_ _=>rfl)).cellSt,w_,j,hp5.own T,Fb 1 (Gi P c r pre ty X 0),n5,?_,λgs6 q6 n6 hz6 h6 D6 Fh=>?_⟩
  .rw[woken_of_again (ON.again v (E.at F) (λ_ _=>rfl))];exact ON.calm (E.at F) _ v (λ_ _=>rfl) (Gn (gJ hc) T)
  .exact(gq hS0 HP.keep hZ hW hc H.fin0 h6 D6).mono λp A z=>EM (o5.trans (CS.at E F)) hBn
 have Y:=rd hr5 j;refine⟨x.mLK,E.at F,_,Bn,H.bo4 _ (hr5.keep hZ (λ_ _=>rfl)).cellSt,w_,j,hp5.own Y,Fb 1 (CO P c r pre ty o Ph X false),n5,?_,λgs6 q6 n6 hz6 h6 D6 Fh=>?_⟩
 .rw[woken_of_again ((s false).again C (E.at F) (λ_ _=>rfl))];exact(s false).calm (E.at F) _ C (λ_ _=>rfl) (Gn (gJ hc) Y)
 refine AX.mono ?_ λp A z=>EM (B1:=Bn) (o5.trans (CS.at E F)) hBn
 refine(Ie (JD false) (s false) x.k2 H.s2 h6 D6).bind λgs7 w7 OL t7 hz7 ⟨q7,n7,B7,h7,o7,b7,D7⟩=>?_
 refine AX.mono ?_ λp A z=>EM (B1:=B7) o7 b7
 refine go_duo (Me:=λ_=>False) (Loose':=λg=>g=c) (s false) h7 H.runs.2.2.1 D7 (λ_ N=>N.elim) λS hBo J K n8 x8 t8 o8 u hp8 I=>?_
 obtain Q|hd8:=nG HP u.1
 rotate_left
 .obtain⟨hN,m,hq,⟨i,M⟩,hm⟩:=hd8;have T:=rd i K;have v:Fb 1 (Gi P c r pre ty X 0) n8 x8 J t8:=⟨⟨hN,m,hq,⟨i,M⟩,hm⟩,u.2⟩;refine⟨x.mC0,J.at I,_,S,H.miss _ (i.keep hZ (λ_ _=>rfl)).cellSt (i.keep hZ (λ_ _=>rfl)).QJ,w_,K,hp8.own T,Fb 1 (Gi P c r pre ty X 0),n8,?_,λgs9 q9 n9 hz9 h9 D9 sl9=>?_⟩
  .rw[woken_of_again (ON.again v (J.at I) (λ_ _=>rfl))];exact ON.calm (J.at I) _ v (λ_ _=>rfl) (Gn (gJ hc) T)
  .exact(ZN hS0 HP.keep hZ hW hc H.lo0 h9 D9).mono λp A z=>EM (o8.trans (CS.at J I)) hBo
 have U:r<S:=by have:=Q.lt;omega
 have cz1:∀e∈Ky (stA r pre),aN Ad Still S e:=by
  intro e f
  simp only[Ky,eu,r_,lG,or_false]at f
  obtain rfl|rfl:=f
  .exact Vm hW U (.inl rfl) rfl false
  .exact Vm hW U (.inl rfl) rfl true
 have V:BC r pre ty (J.at I) KK 0:=Q.keep hZ (λ_ _=>rfl);have cv7:CS Z J ((J.at I).setCell (stA r pre) (.int .u64 (KK+1))):=Px (a:=stA r pre) hZ _ I;have ct7:(x8.status=.running\/x8.status=.finished):=by
  obtain h|⟨⟨_,⟨k,_,R,_⟩|⟨m,k,_,R,_⟩|⟨m,k,_,R,_⟩|⟨_,m,hq,_⟩|⟨hw,_⟩|⟨hw,_⟩|⟨hw,_⟩⟩,_⟩:=u.1
  .exact .inl (HP.status h).1
  .exact .inl (R.status O.runs.1)
  .exact .inl (R.status O.runs.2.1)
  .exact .inl (R.status O.runs.2.2.1)
  .exact hq.status
  .cases hw
  .cases hw
  .cases hw
 refine⟨x.mC1,_,_,S,H.IP _ V.cellSt V.QJ,w_,by rw[Il];exact K,hp8.own cz1,Fb 1 (CO P c r pre ty o Ph X true),n8,⟨?_,?_⟩,λgs9 q9 n9 hz9 h9 D9 sl9=>?_⟩
 .rw[woken_of_again (again_running _ ct7)];exact yh HP hc I Q u.1
 .rw[Deaf_own,u.2];rfl
 refine AX.mono ?_ λp A z=>EM (B1:=S) (o8.trans cv7) hBo
 refine(Ie (JD true) (s true) x.k3 H.s3 h9 D9).bind λgsa wa sla ta hza ⟨qa,na,Ba,ha,oa,ba,Da⟩=>?_
 refine AX.mono ?_ λp A z=>EM (B1:=Ba) oa ba
 refine go_duo (Me:=λ_=>False) (Loose':=λg=>g=c) (s true) ha H.runs.2.2.2 Da (λ_ N=>N.elim) λBs hBs wb cx6 nb xb tb ob L hpb db=>?_
 have hrb:r<Bs:=by
  obtain⟨st,h⟩|⟨_,m,_,⟨h,_⟩,_⟩:=jv HP L.1<;>(have:=h.lt;omega)
 have W:∀e∈#[YC (smA r pre)],aN Ad Still Bs e:=by
  intro e f
  simp at f;subst f
  refine⟨λy hy=>?_,by simp[YC],by simp[YC],?_,by simp[YC]⟩
  .obtain rfl:=x_ hy;exact⟨λR=>((hW _ (.inr rfl)).2 R).elim,λ_=>sJ⟩
  .exact hrb
 refine⟨x.mW',wb.at db,_,Bs,H.wr _,w_,cx6,hpb.own W,Fb 1 (CO P c r pre ty o Ph X true),nb,?_,λgsc qc nc hzc GX Dc slc=>?_⟩
 .rw[woken_of_again ((s true).again L (wb.at db) (λ_ _=>rfl))];exact(s true).calm (wb.at db) _ L (λ_ _=>rfl) (Gn (gJ hc) W)
 refine AX.mono ?_ λp A z=>EM (B1:=Bs) (ob.trans (CS.at wb db)) hBs
 refine(Ie (JD true) (s true) x.k4 H.s4 GX Dc).bind λgsd wd sld td hzd ⟨qd,nd,Bd,hd,od,bd,Dd⟩=>?_
 refine AX.mono ?_ λp A z=>EM (B1:=Bd) od bd
 refine(an8 HP O hZ hW hc (OC true) H.ca5 H.bn6 _ nd gsd (G x.fr x.cs) wd sld td qd Bd (Nat.lt_succ_self _) hd (.inl rfl) Dd).bind λgse we sle te hze ⟨qe,ne,Be,hBe,f,oe,De⟩=>?_
 exact(ZN hS0 HP.keep hZ hW hc H.lo1 f De).mono λp A z=>EM oe hBe
end
def Ub (Tr:Trace->Prop):Prop:=∀t i fn pos es,i≠0->(∀e∈es,e.mute=true)->Tr t->Tr (t++MemOp.ofEvents i fn pos es)
section
variable {P:l_}{Z:Nat->Prop}{Ad Still:Loc->Prop}{Mem Am:Nat->Prop}{Tr:Trace->Prop}
theorem qp (Y:Ub Tr):∀(X:Nat)(gs:Array m_)(a:m_)(w:o_)(sl:d_ (W_))(t:Trace)(q:Nat->Nat),sumTo gs.size q<X->gs[0]?=some a->a.status=.running->Leavers P t gs q->Tr t->
  ∃(N:Nat) (T:Array m_) (W d:Nat) (S U:d_ (W_)) (V:Trace) (q':Nat->Nat),runNT P N (crowd gs w sl) t=(.next (crowd T (w.at W) S),V)/\T.size=gs.size/\T[0]?=some a/\
   stepT P (crowd T (w.at W) S)=runT P (crowd T (w.at d) U) 0/\Leavers P V T q'/\Tr V:=by
 intro X
 induction X with
 |zero=>intro gs a w sl t q hX;omega
 |succ X R=>
  intro gs a w sl t q hX l j hL F
  have u:∀g∈gs,awake g:=by
   intro g c
   obtain⟨i,hi,rfl⟩:=Array.mem_iff_getElem.1 c
   obtain rfl|o:=Nat.eq_zero_or_pos i
   .have:gs[0]=a:=(by simpa [v_ hi]using l);rw[this];exact awake_of (.inl j)
   .exact awake_of ((hL.old i _ o (v_ hi)).status.elim .inl λx=>.inr (.inr x))
  obtain⟨i,g,d,U,hi,c,C⟩:=crowd_pick (P:=P) (w:=w) (sl:=sl) u ⟨0,a,l,j⟩;have B:i<gs.size:=(y_.1 hi).1;obtain rfl|o:=Nat.eq_zero_or_pos i
  .exact⟨0,gs,w.drawn,d,sl,U,t,q,rfl,rfl,l,C,hL,F⟩
  .have hq:=hL.old i g o hi;have v:(i==0)=false:=(by simp;omega);cases hqi:q i with
   |zero=>rw[hqi]at hq;rw[hq.1]at c;cases c
   |succ k=>
    rw[hqi]at hq
    obtain⟨L,_⟩|⟨_,g',E,M,h,A⟩:=hq
    .rw[L]at c;cases c
    have H:=runT_crowd_go (P:=P) (sl:=U) (i:=i) hi (by rw[v];exact h (w.at d));have D:((gs.map (woken P g g' (w.at d))).setIfInBounds i g').size=gs.size:=sJ;have G:sumTo gs.size (upd q i k)+(k+1)=sumTo gs.size q+k:=by
     have:=sumTo_upd q k id B
     simpa [hqi]using this
    obtain⟨N,T,W,d1,S,K,V,q',O,J,p,f,r,s⟩:=R ((gs.map (woken P g g' (w.at d))).setIfInBounds i g') a (w.at d) U (t++MemOp.ofEvents i g.frame.fn g.frame.place E) (upd q i k) (by rw[D];omega)
     (by
      have I:i≠0:=wB
      rw[z_ I,ik,l]
      simp[woken_run j]) j
     ⟨λx y m n=>by
      by_cases b:i=x
      .subst b;rw[lJ (by simpa using B)]at n;obtain rfl:=x_ n;rw[upd_same,Deaf_own];exact A
      .rw[z_ b,ik]at n;obtain⟨z,Q,rfl⟩:=lT.1 n;have e:=hL.old x z m Q;rw[woken_quitsD e,upd_ne q k (gJ b),Deaf_other t b _ Yv];exact e,λx m=>by
      rw[Deaf_other t (g':=i) (by simp at m;omega) _ Yv];exact hL.above x (by simpa using m)⟩
     (Y t i _ _ E wB M F)
    exact⟨N+1,T,W,d1,S,K,V,q',by simp only[runNT,C,H];exact O,J.trans D,p,f,r,s⟩
theorem go_mute (J:Ub Tr){a:m_}{sl:d_ (W_)}{Q:Array m_->o_->Trace->Prop}(O:gs[0]?=some a)(K:a.status=.running)(hL:Leavers P t gs q)(R:Tr t)
  (M:∀d H,Tr H->∃G w' es,stepG P true a (w.at d)=.go G w' es/\∀I S,I.size=gs.size->I[0]?=some G->Leavers P (H++MemOp.ofEvents 0 a.frame.fn a.frame.place es) I S->
   ∀L,AX P I w' L (H++MemOp.ofEvents 0 a.frame.fn a.frame.place es) Q):AX P gs w sl t Q:=by
 obtain⟨N,c,F,d,D,n,H,q1,B,f,o,s,e,l⟩:=qp (P:=P) J (sumTo gs.size q+1) gs a w sl t q wB O K hL R;obtain⟨G,w',es,h,A⟩:=M d H l;have r:0<c.size:=(y_.1 o).1;have u:=runT_crowd_go (P:=P) (sl:=n) (i:=0) o h;have b:((c.map (woken P a G w')).setIfInBounds 0 G).size=gs.size:=by simp[f]
 obtain⟨v,g,w2,m,E,j,k,z⟩:=A ((c.map (woken P a G w')).setIfInBounds 0 G) q1 b (by simp[r]) ⟨λi x hi p=>by
   rw[z_ wB,ik]at p
   obtain⟨y,C,rfl⟩:=lT.1 p
   have hq:=e.old i y hi C
   rw[woken_quitsD hq,Deaf_other H (g':=0) wB _ Yv]
   exact hq,λi hi=>by
   rw[b,<-f]at hi
   rw[Deaf_other H (g':=0) wB _ Yv]
   exact e.above i hi⟩ n;refine⟨N+1+v,g,w2,m,E,?_,k.trans b,z⟩;rw[runNT_add,runNT_succ_of B (s.trans u)];exact j
theorem KP (C:Ub Tr){J:o_->Prop}{E:m_}:∀(k:Nat){a:m_}(_:Ls P J true k a E){gs:Array m_}{w:o_}{sl:d_ (W_)}{t:Trace}{q:Nat->Nat},(∀d,J (w.at d))->gs[0]?=some a->Leavers P t gs q->Tr t->
  AX P gs w sl t λD w' G=>∃F d,D[0]?=some E/\w'=w.at d/\Leavers P G D F/\Tr G
 |0,a,f,gs,w,sl,t,q,_,e,hL,g=>.now ⟨q,w.drawn,by rw[e,show a=E from f],rfl,hL,g⟩
 |k+1,a,f,gs,w,sl,t,q,l,e,hL,g=>by
  obtain⟨m,a1,n,o⟩:=f
  refine go_mute C e m hL g λd B h=>⟨a1,w.at d,#[],n _ (l d),λD F A p b y=>?_⟩
  rw[DY]at b ⊢
  exact(KP C k o (w:=w.at d) (λc=>l c) p b h).mono λj z x ⟨i,c,r,s,u,v⟩=>⟨i,c,r,s,u,v⟩
theorem nN (B:Nat):Ub (λt=>PX Ad Still (λg=>g=0/\Mem g) (λ_=>False) B 0 t):=by
 intro t i fn pos f hi c H;refine H.appMute Yv (λop a=>?_) (λd=>(hi d.1).elim) (λop a=>?_)
 .obtain⟨e,b,rfl⟩:=p_ a;exact touch_mute (c e b)
 .obtain⟨e,b,rfl⟩:=p_ a;exact low_mute (c e b) B
structure bt9 where
 mD:m_
 mD':m_
 mA:m_
 mA':m_
 mR:m_
 mR':m_
 mE:m_
 mE':m_
 k0:Nat
 k1:Nat
 k2:Nat
 k3:Nat
 k4:Nat
def YE (a:f_):Event:=⟨.mark (.read a),false,true⟩
structure bq4 (P:l_)(r:Nat)(pre:X_)(ty:j_)(g0 LG:m_)(x:bt9):Prop where
 runs:x.mD.status=.running/\x.mA.status=.running/\x.mR.status=.running/\x.mE.status=.running
 s0:Ls P (DD r pre ty) true x.k0 g0 x.mD
 ax:∀w,stepG P true x.mD w=.go x.mD' w #[JA]
 s1:Ls P (DD r pre ty) true x.k1 x.mD' x.mA
 add:∀w,w.cell? (stA r pre)=some (.int .u64 0)->w.frozen? (stA r pre)=false->stepG P true x.mA w=.go x.mA' (w.setCell (stA r pre) (.int .u64 KK)) (Ky (stA r pre))
 s2:Ls P (DD r pre ty) true x.k2 x.mA' x.mR
 rd:∀w,stepG P true x.mR w=.go x.mR' w #[YE (smA r pre)]
 s3:Ls P (DD r pre ty) true x.k3 x.mR' x.mE
 ena:∀w,stepG P true x.mE w=.go x.mE' w #[MJ]
 s4:Ls P (DD r pre ty) true x.k4 x.mE' LG
theorem yI {r:Nat}{pre:X_}{ty:j_}{x:bt9}(H:bq4 P r pre ty g0 LG x)(hZ:Z r){sl:d_ (W_)}
  (h0:gs[0]?=some g0) (hL:Leavers P t gs q) (hP:Past Ad B t) (hB:w.heap.size<=B) (hr:BC r pre ty w 0 0):
  AX P gs w sl t λBA w' t'=>∃q',BA[0]?=some LG/\CS Z w w'/\BC r pre ty w' KK 0/\Leavers P t' BA q'/\Past Ad B t'/\w'.heap.size<=B:=by
 have u:r<B:=by have:=hr.lt;omega
 have o:Ub (λt=>PX Ad (λ_=>False) (λg=>g=0/\True) (λ_=>False) B 0 t):=nN (Mem:=λ_=>True) B;have l:Ub (λt=>PX Ad (λ_=>False) (λg=>g=0/\False) (λ_=>False) B 0 t/\Deaf t 0=1):=λt i fn pos es hi m h=>⟨nN (Mem:=λ_=>False) B t i fn pos es hi m h.1,by rw[Deaf_other t hi _ Yv];exact h.2⟩
 have Q:PX Ad (λ_=>False) (λg=>g=0/\True) (λ_=>False) B 0 t:=(PX.ofPast hP (λ_ h=>h.elim) (λ_ h=>h.elim)).fewer λg n=>n.1
 refine(KP o x.k0 H.s0 (λd=>hr.is d) h0 hL Q).bind λgs1 w1 JL t1 _ ⟨q1,d1,h1,e1,G,S⟩=>?_
 subst e1;refine go_mute o h1 H.runs.1 G S λd2 F z=>⟨_,_,_,H.ax _,λgs3 q3 _ h3 I sl3=>?_⟩
 have T:PX Ad (λ_=>False) (λg=>g=0/\False) (λ_=>False) B 0 (F++MemOp.ofEvents 0 x.mD.frame.fn x.mD.frame.place #[JA])/\Deaf (F++MemOp.ofEvents 0 x.mD.frame.fn x.mD.frame.place #[JA]) 0=1:=by
  refine⟨(z.fewer (Me:=λg=>g=0/\False) λg n=>n.2.elim).appMute Yv (λop f=>?_) (λs=>s.2.elim) (λop f=>?_),?_⟩
  .obtain⟨e,b,rfl⟩:=p_ f;simp at b;subst b;rfl
  .obtain⟨e,b,rfl⟩:=p_ f;simp at b;subst b;trivial
  .rw[Deaf_own,z.hears 0 ⟨rfl,dE⟩];rfl
 refine(KP l x.k1 H.s1 (w:=(w.at d1).at d2) (λd=>hr.is d) h3 I T).bind λgs4 w4 Ob t4 _ ⟨q4,d4,h4,e4,J,U⟩=>?_
 subst e4;have c:∀d,BC r pre ty ((((w.at d1).at d2).at d4).at d) 0 0:=λd=>hr
 refine go_mute l h4 H.runs.2.1 J U λj t5 V=>⟨_,_,_,H.add _ (c j).cellSt (c j).QJ,λgs6 q6 _ h6 K Fh=>?_⟩
 have atom:∀(a:f_),a.block=r->∀wr:Bool,aN Ad (λ_=>False) B ⟨.cell a,wr,true⟩:=λa D wr=>⟨λx v=>by obtain rfl:=x_ v;exact⟨λh=>h.elim,λ_=>sJ⟩,sJ,sJ,by show a.block<B;omega,sJ⟩
 have own:∀{t:Trace} {fn:h_} {pos:String} {es:Array Event},(∀e∈es,aN Ad (λ_=>False) B e)->(PX Ad (λ_=>False) (λg=>g=0/\False) (λ_=>False) B 0 t/\Deaf t 0=1)->(PX Ad (λ_=>False) (λg=>g=0/\False) (λ_=>False) B 0 (t++MemOp.ofEvents 0 fn pos es)/\Deaf (t++MemOp.ofEvents 0 fn pos es) 0=1):=fun {t fn pos es} m h=>by
  refine⟨h.1.own m,?_⟩
  rw[Deaf_own,deafBehind_still (λe b=>⟨(m e b).2.1,(m e b).2.2.1⟩)]
  exact h.2
 have W:=own (fn:=x.mA.frame.fn) (pos:=x.mA.frame.place) (es:=Ky (stA r pre)) (λe b=>by
  simp only[Ky,eu,r_,lG,or_false]at b
  obtain rfl|rfl:=b
  .exact atom _ rfl false
  .exact atom _ rfl true) V
 refine(KP l x.k2 H.s2 (λd=>((c j).setSt KK).is d) h6 K W).bind λgs7 w7 OL t7 _ ⟨q7,d7,h7,p,L,X⟩=>?_
 refine go_mute l h7 H.runs.2.2.1 L X λd8 t8 Y=>⟨_,_,_,H.rd _,λgs9 q9 _ h9 M sl9=>?_⟩
 have X9:=own (fn:=x.mR.frame.fn) (pos:=x.mR.frame.place) (es:=#[YE (smA r pre)]) (λe b=>by
  simp at b;subst b
  exact⟨λx v=>by obtain rfl:=x_ v;exact⟨λh=>h.elim,λ_=>sJ⟩,by simp[YE],by simp[YE],u,by simp[YE]⟩) Y;refine(KP l x.k3 H.s3 (λd=>by subst p;exact((c j).setSt KK).is d) h9 M X9).bind λgsa wa sla ta _ ⟨qa,da,D,C,N,Xa⟩=>?_
 refine go_mute l D H.runs.2.2.2 N Xa λdb y A=>⟨_,_,_,H.ena _,λgsc qc _ hc O slc=>?_⟩
 have Xc:PX Ad (λ_=>False) (λg=>g=0/\False) (λ_=>False) B 0 (y++MemOp.ofEvents 0 x.mE.frame.fn x.mE.frame.place #[MJ]):=A.1.appMute Yv (λop f=>by
  obtain⟨e,b,rfl⟩:=p_ f;simp at b;subst b;rfl) (λs=>s.2.elim) (λop f=>by
  obtain⟨e,b,rfl⟩:=p_ f;simp at b;subst b;trivial);have R:Past Ad B (y++MemOp.ofEvents 0 x.mE.frame.fn x.mE.frame.place #[MJ]):=Xc.toPast (by rw[Deaf_own,A.2];rfl) (λ_ h=>h) (λ_ h _=>h);have Xc':PX Ad (λ_=>False) (λg=>g=0/\True) (λ_=>False) B 0 (y++MemOp.ofEvents 0 x.mE.frame.fn x.mE.frame.place #[MJ]):=(PX.ofPast R (λ_ h=>h.elim) (λ_ h=>h.elim)).fewer λg n=>n.1
 refine(KP o x.k4 H.s4 (λd=>by subst C p;exact((c j).setSt KK).is d) hc O Xc').mono λBA w' t' ⟨q',d',j1,j2,j3,E⟩=>?_
 subst j2 C p;have off:CS Z w ((((((((w.at d1).at d2).at d4).at j).setCell (stA r pre) (.int .u64 KK)).at d7).at d8).at da):=by
  refine⟨by simp[World.setCell,World.at],λk hk=>?_,rfl,rfl,rfl⟩
  have:r≠k:=λe=>hk (e ▸ hZ)
  simp[World.setCell,World.at,stA,iF,this]
 refine⟨q',j1,⟨off.size,off.same,off.os,off.output,off.tape⟩,(c j).setSt KK,j3,E.toPast (E.hears 0 ⟨rfl,dE⟩) (λ_ h=>h) (λ_ h _=>h),?_⟩;simp only[World.setCell,World.at,Array.size_modify];exact hB
end
end Go.Fxa
