/- The slow way of Wait: goroutin -/
import Derived.Test.YtmhplpfpcnjekaaGreatA07
namespace Go.Fxa
open Go.Conc
open Go.ConcN (sumTo upd sumTo_upd upd_ne upd_same)
set_option maxRecDepth 1000000
set_option maxHeartbeats 0
variable {g g':m_} {w:o_} {n:Nat} {t:Trace} {st:Int}
def XO (a:f_):Event:=⟨.mark (.write a),false,true⟩
section
variable {P:l_} {Z:Nat->Prop} {Ad Still:Loc->Prop} {Mem Am:Nat->Prop} {r:Nat} {pre:X_} {ty:j_} {c:Nat} {o:RQ} {Ph:Bool->Nat->m_->o_->Trace->Prop} {X:o_->Prop}
theorem ZW (h:g.status≠.blocked\/g.offers=none) (x:Nat) (b:Bool):offersAt g x b=[]:=by
 obtain h|h:=h
 .exact offersAt_of_not_blocked h _ _
 .unfold offersAt;rw[h];cases g.status<;>rfl
theorem NR {gs:Array m_} {i x:Nat} {send:Bool} (d:∀k g,k≠i->gs[k]?=some g->g.status≠.blocked\/g.offers=none):partners (gs.setIfInBounds i ph) x send=[]:=by
 refine partners_nil λk g c=>?_
 obtain⟨rfl,rfl⟩|⟨b,a⟩:=getElem?_stand gs i k g c
 .exact offersAt_ph _ _
 .exact ZW (d k g b a) _ _
theorem UB {k:Nat} (h:KR P (Dz r pre ty) false (k+1) g g') (d:Dz r pre ty w):∃b,stepG P false g w=.go b w #[]:=by
 obtain⟨_,b,a,_⟩:=h;exact⟨b,a w d⟩
theorem θ (H:Ns P Z Ad Still Am c r pre ty o Ph X) (O:OO P r pre ty o) (A:Z r) {w':o_} {d:Nat} {es:Array Event} {D:Int} (h:CB P c r pre ty o Ph X true n g w t)
  (B:BA r pre ty w st 0) (z:stepG P false g (w.at d)=.go g' w' es) (C:BA r pre ty w' D 1):mayWake P g=true/\g'.status=.running:=by
 have p:Jj Z w (w.at d):=λ_ _=>rfl
 have b:∀{q:Array Event} {j:m_},stepG P false g (w.at d)=.go j (w.at d) q->False:=by
  intro q j u
  rw[u]at z
  injection z with _ v _
  subst v
  exact ql ((B.keep A p).eq C).2 wB
 have s:∀{q:Array Event} {j:m_} {x:Int},stepG P false g (w.at d)=.go j ((w.at d).setCell (stA r pre) (.int .u64 x)) q->False:=by
  intro q j x u
  rw[u]at z
  injection z with _ v _
  subst v
  exact ql (((B.keep A p).setSt x).eq C).2 wB
 obtain h|⟨⟨_,⟨k,rfl,a,i,_⟩|⟨m,k,rfl,a,i,_,_⟩|⟨m,k,rfl,a,i,_,_⟩|⟨v,_⟩|⟨_,m,k,rfl,a,i,_,_⟩|⟨_,m,k,rfl,a,i,_,_⟩|⟨_,m,_,i,_⟩⟩,_⟩:=h
 .exact(H.low h z C).elim
 .cases k with
  |zero=>obtain rfl:g=o.gR:=a;exact(b (O.rel _)).elim
  |succ k=>obtain⟨j,e⟩:=UB a (i.is d);exact(b e).elim
 .cases k with
  |zero=>obtain rfl:g=o.gD:=a;exact(b (O.Zt _)).elim
  |succ k=>obtain⟨j,e⟩:=UB a (i.is d);exact(b e).elim
 .cases k with
  |zero=>
   obtain rfl:g=o.gA:=a
   have f:=i.keep A p
   simp only[if_true]at f
   exact(s (O.add1 _ f.cellSt f.Qn)).elim
  |succ k=>obtain⟨j,e⟩:=UB a (i.is d);exact(b e).elim
 .cases v
 .cases k with
  |zero=>
   obtain rfl:g=o.gS:=a
   have f:=i.keep A p
   exact(s (O.sto _ f.cellSt f.Qn)).elim
  |succ k=>obtain⟨_,j,l,_,e,_⟩:=a;exact(b (e _ (i.keep A p))).elim
 .cases k with
  |zero=>
   obtain rfl:g=o.gP:=a
   have f:=i.keep A p
   have u:=O.sem _ f.cellSm f.qU
   rw[u]at z
   injection z with y _ _
   subst y
   exact O.wake
  |succ k=>obtain⟨j,e⟩:=UB a (i.is d);exact(b e).elim
 .exact ql (B.eq i).2 wB
theorem wH (H:Ns P Z Ad Still Am c r pre ty o Ph X) (O:OO P r pre ty o) (h:CB P c r pre ty o Ph X true n g w t) (e:BA r pre ty w st 0):g.status=.running:=by
 obtain h|⟨⟨_,⟨k,rfl,a,_⟩|⟨m,k,rfl,a,_⟩|⟨m,k,rfl,a,_⟩|⟨d,_⟩|⟨_,m,k,rfl,a,_⟩|⟨_,m,k,rfl,a,_⟩|⟨_,m,_,b,_⟩⟩,_⟩:=h
 .exact(H.status h).1
 .exact a.status O.runs.1
 .exact a.status O.runs.2.1
 .exact a.status O.runs.2.2.1
 .cases d
 .exact a.status O.runs.2.2.2.1
 .exact a.status O.runs.2.2.2.2
 .exact ql (e.eq b).2 wB
theorem gq (H:Ns P Z Ad Still Am c r pre ty o Ph X) (h:CB P c r pre ty o Ph X true n g w t):(∃st,BA r pre ty w st 0)\/F6 P c r pre ty X 1 n g w t:=by
 obtain h|⟨⟨d,⟨k,rfl,b,a,_⟩|⟨m,k,rfl,b,a,_⟩|⟨m,k,rfl,b,a,_⟩|⟨j,_⟩|⟨_,m,k,rfl,b,a,_⟩|⟨_,m,k,rfl,b,a,_⟩|⟨_,m,i,a,f⟩⟩,e⟩:=h
 .exact .inl ⟨_,H.run h⟩
 .exact .inl ⟨_,a⟩
 .exact .inl ⟨_,a⟩
 .exact .inl ⟨_,a⟩
 .cases j
 .exact .inl ⟨_,a⟩
 .exact .inl ⟨_,a⟩
 .exact .inr ⟨d,m,i,⟨a,e⟩,f⟩
theorem ax4 {B:Nat} (h:∀l,LM r pre l->Ad l/\¬Still l) (i:r<B) (H:PX Ad Still (λ_=>False) Am B 0 t) (fn:h_) (pos:String):PX Ad Still (λ_=>False) Am B 0 (t++MemOp.ofEvents 0 fn pos (semEvents (smA r pre))):=by
 refine H.appH Zv (λop d b c=>?_) (λx=>x.elim) (λop d=>?_)
 .obtain⟨e,a,rfl⟩:=qw d;simp only[semEvents,gI,r_,p_,or_false]at a;obtain rfl|rfl|rfl|rfl:=a
  .cases c
  .obtain rfl:=x_ c;exact⟨λf=>((h _ (.inr rfl)).2 f).elim,λ_=>zF⟩
  .obtain rfl:=x_ c;exact⟨λf=>((h _ (.inr rfl)).2 f).elim,λ_=>zF⟩
  .cases c
 .obtain⟨e,a,rfl⟩:=qw d;simp only[semEvents,gI,r_,p_,or_false]at a;obtain rfl|rfl|rfl|rfl:=a
  .trivial
  .exact i
  .exact i
  .trivial
theorem ak2 (HP:Ns P Z Ad Still (fun g=>g=c) c r pre ty o Ph X) (O:OO P r pre ty o) (hZ:Z r) (hW:∀l,LM r pre l->Ad l/\¬Still l) (hc:c≠0) (OC:GR P Z Ad Still (fun B t=>PX Ad Still (fun _=>False) (fun g=>g=c) B 0 t) c (CB P c r pre ty o Ph X true))
  {fr:Frame} {cs:Z_} {mS':m_} (hhit:∀w,w.cell? (smA r pre)=some (.int .u32 1)->w.frozen? (smA r pre)=false->stepG P true (G fr cs) w=.go mS' (w.setCell (smA r pre) (.int .u32 0)) (semEvents (smA r pre)))
  (hmiss:∀w,w.cell? (smA r pre)=some (.int .u32 0)->stepG P true (G fr cs) w=.go { G fr cs with status:=.blocked } w #[]):
  ∀(M n:Nat) (gs:Array m_) (a:m_) (w:o_) (sl:d_ (W_)) (t:Trace) (q:Nat->Nat) (B:Nat),2*(n+sumTo gs.size q)+(if a.status=.running then 1 else 0)<M->gs[0]?=some a->(a=G fr cs\/(a={ G fr cs with status:=.blocked }/\∃st,BA r pre ty w st 0))->
   Duo P Ad Still (λ_=>False) (λg=>g=c) B 0 c (EY 1 (CB P c r pre ty o Ph X true)) n gs w t q->
   AQ P gs w sl t λBh w' t'=>∃q' n' B',B<=B'/\Bh[0]?=some mS'/\CP Z w w'/\Duo P Ad Still (λ_=>False) (λg=>g=c) B' 0 c (EY 1 (F6 P c r pre ty X 0)) n' Bh w' t' q':=by
 have OD:=Uo (δ:=1) hc OC;intro M
 induction M with
 |zero=>intro n gs a w sl t q B hX;omega
 |succ M ih=>
  intro n gs a w sl t q B hX W ha D
  obtain⟨b,hb,Y⟩:=D.idle
  have hcl:c<gs.size:=(y_.1 hb).1
  have h0l:0<gs.size:=(y_.1 W).1
  have cn0:a.status=.running\/a.status=.blocked:=by obtain rfl|⟨rfl,_⟩:=ha<;>simp[G]
  have cb8:a.offers=none:=by obtain rfl|⟨rfl,_⟩:=ha<;>rfl
  have haw:∀g∈gs,awake g:=by
   intro g hg
   obtain⟨i,H,rfl⟩:=Array.mem_iff_getElem.1 hg
   have NV:=v_ H
   by_cases e1:i=0
   .subst e1;rw[W]at NV;rw[<-x_ NV];exact awake_of (cn0.imp id .inl)
   .by_cases e2:i=c
    .subst e2;rw[hb]at NV;rw[<-x_ NV];exact awake_of ((OD.status Y).elim (λx=>.inl x.1) .inr)
    .exact awake_of ((D.JG i _ e1 e2 NV).status.elim .inl λx=>.inr (.inr x))
  have hsome:∃(i:Nat) (g:m_),gs[i]?=some g/\g.status=.running:=by
   obtain rfl|⟨rfl,st,A⟩:=ha
   .exact⟨0,_,W,rfl⟩
   .exact⟨c,b,hb,wH HP O Y.1 A⟩
  obtain⟨i,g,d,K,H,hg,Cc⟩:=crowd_pick (P:=P) (w:=w) (sl:=sl) haw hsome;have BL:i<gs.size:=(y_.1 H).1;have R:Jj Z w (w.at d):=λ_ _=>rfl
  by_cases e1:i=0
  ·
   subst e1;obtain rfl:g=a:=(by rw[W]at H;exact(x_ H).symm);obtain rfl:g=G fr cs:=by
    obtain h|⟨rfl,_⟩:=ha
    .exact h
    .cases hg
   obtain⟨st,A⟩|v:=gq HP Y.1
   ·
    have J:=runT_crowd_go (P:=P) (sl:=K) (i:=0) H (show stepG P (0==0) (G fr cs) (w.at d)=_ from hmiss _ (A.keep hZ R).cellSm);have hnw:∀x,woken P (G fr cs) { G fr cs with status:=.blocked } (w.at d) x=x:=λx=>by unfold woken;simp
    have hmap:(gs.map (woken P (G fr cs) { G fr cs with status:=.blocked } (w.at d)))=gs:=by
     have:woken P (G fr cs) { G fr cs with status:=.blocked } (w.at d)=id:=funext hnw
     rw[this];simp
    rw[hmap]at J;have E:(gs.setIfInBounds 0 { G fr cs with status:=.blocked }).size=gs.size:=zF;obtain⟨N,Bh,w',U,t',S,T,q',n',B',jB,j1,j2,j3⟩:=ih n (gs.setIfInBounds 0 { G fr cs with status:=.blocked }) { G fr cs with status:=.blocked } (w.at d) K t q B (by rw[E];simp[G]at hX ⊢;omega) (by simp[h0l]) (.inr ⟨rfl,st,A.keep hZ R⟩)
     ⟨D.ne,D.zero,D.mem,⟨b,by rw[z_ (ik hc)];exact hb,by have:=OD.calm (w.at d) #[] Y R (λop p=>by simp at p);simpa using this⟩,λx y F u f=>by
      rw[z_ (ik F)]at f
      exact D.JG x y F u f,λx f=>D.above x (by simpa using f),D.tr,D.size⟩;refine⟨N+1,Bh,w',U,t',?_,T.trans E,q',n',B',jB,j1,(CP.at w d).trans j2,j3⟩;simp only[runNT,Cc,J];rw[DT];exact S
   ·
    obtain⟨hN,m,Q,⟨A,hXw⟩,hm⟩:=v;have hrd:=A.keep hZ R;have J:=runT_crowd_go (P:=P) (sl:=K) (i:=0) H (show stepG P (0==0) (G fr cs) (w.at d)=_ from hhit _ hrd.cellSm hrd.qU);have hbw:woken P (G fr cs) mS' ((w.at d).setCell (smA r pre) (.int .u32 0)) b=b:=woken_of_again (again_running _ Q.status);have hlow:r<B:=(by have:=A.lt;have:=D.size;omega);have L:=O6 (w:=w) (a:=smA r pre) hZ (.int .u32 0) d;refine⟨1,(gs.map (woken P (G fr cs) mS' ((w.at d).setCell (smA r pre) (.int .u32 0)))).setIfInBounds 0 mS',(w.at d).setCell (smA r pre) (.int .u32 0),K,t++MemOp.ofEvents 0 (G fr cs).frame.fn (G fr cs).frame.place (semEvents (smA r pre)),by simp only[runNT,Cc,J],zF,q,n,B,w_ _,by simp[h0l],L,⟨D.ne,D.zero,D.mem,⟨b,by rw[z_ (ik hc),jI,hb];simp[hbw],?_,?_⟩,λx y F u f=>?_,λx f=>?_,ax4 hW hlow D.tr _ _,by rw[Ie];exact D.size⟩⟩
    .refine⟨hN.app λop p x f hw=>?_,m,?_,⟨hrd.setSm 0,HP.keep _ _ hXw λx f _=>?_⟩,hm.app (λop p=>?_) (λk op x hk hg' _=>?_)⟩
     .obtain⟨e,he,rfl⟩:=qw p;simp only[semEvents,gI,r_,p_,or_false]at he;obtain rfl|rfl|rfl|rfl:=he
      .cases f
      .obtain rfl:=x_ f;simp
      .obtain rfl:=x_ f;simp
      .cases f
     .rw[Deaf_other t (g':=0) (ik hc) _ Zv];exact Q
     .simp[World.setCell,World.at,smA,jJ,ik f]
     .obtain⟨e,he,rfl⟩:=qw p;simp only[semEvents,gI,r_,p_,or_false]at he;obtain rfl|rfl|rfl|rfl:=he<;>simp[MemAct.ofEvent]
     .have:=Zv op (Array.mem_of_getElem? hk);omega
    .rw[Deaf_own,Y.2];rfl
    .rw[z_ (ik F),jI]at f;obtain⟨z,hz,rfl⟩:=jb.1 f;have hqx:=D.JG x z F u hz;rw[woken_quitsD hqx,Deaf_other t (g':=0) (ik F) _ Zv];exact hqx
    .rw[Deaf_other t (g':=0) (by simp at f;omega) _ Zv];exact D.above x (by simpa using f)
  ·
   have wok:∀(x x':m_) (w':o_),woken P x x' w' a=a\/woken P x x' w' a=G fr cs:=by
    intro x x' w'
    obtain rfl|⟨rfl,_⟩:=ha
    .exact .inl (woken_run rfl)
    .unfold woken;split
     .right;rfl
     .left;rfl
   have cu3:(if a.status=.running then 1 else 0)<=1:=by split<;>omega
   have ag9:∀x:m_,(if x.status=.running then 1 else 0)<=1:=λx=>by split<;>omega
   by_cases e2:i=c
   .subst e2;obtain rfl:g=b:=(by rw[hb]at H;exact(x_ H).symm);have nob:∀k y,k≠i->gs[k]?=some y->y.status≠.blocked\/y.offers=none:=by
     intro k y hk hy
     by_cases e3:k=0
     .subst e3;rw[W]at hy;rw[<-x_ hy];exact .inr cb8
     .have:=(D.JG k y e3 hk hy).status;obtain h1|h1:=this<;>exact .inl (by rw[h1];simp)
    have hi0:(i==0)=false:=(by simpa using hc);obtain⟨n',g',w',V,hn,hgo,L,⟨Bu,hBu,hsu,Lu⟩,I⟩|⟨n',j,cases,shape,V,hn,IY,p,Lu,I⟩|⟨n',j,cases,shape,V,k,cx,z,cap,s,rr,tm,hn,IY,hk,hcl',p,Lu,I⟩:=OD.step Y hg D.tr D.size d
    .have J:=runT_crowd_go (P:=P) (sl:=K) (i:=i) H hgo;have E:((gs.map (woken P g g' w')).setIfInBounds i g').size=gs.size:=zF;obtain⟨N,Bh,Po,U,t',S,T,q',C,B',jB,j1,j2,j3⟩:=ih n' ((gs.map (woken P g g' w')).setIfInBounds i g') (woken P g g' w' a) w' K (t++MemOp.ofEvents i g.frame.fn g.frame.place V) q Bu (by rw[E];have:=ag9 (woken P g g' w' a);omega)
      (by rw[z_ hc,jI,W];rfl) (by
       obtain rfl|⟨rfl,st,A⟩:=ha
       .exact .inl (woken_run rfl)
       .obtain hr0|v:=gq HP I.1
        .obtain e|e:=wok g g' w'
         .exact .inr ⟨e,hr0⟩
         .exact .inl e
        .obtain⟨_,m,_,⟨Io,_⟩,_⟩:=v;rw[hi0]at hgo;obtain⟨hwk,hgr⟩:=θ HP O hZ Y.1 A hgo Io;refine .inl ?_;unfold woken;simp only[hwk,hgr,Bool.true_and];rw[rC wB]
         rfl)
      ⟨D.ne,D.zero,D.mem,⟨g',by simp[BL],I⟩,λx y F u f=>by
       rw[z_ (ik u),jI]at f
       obtain⟨z,hz,rfl⟩:=jb.1 f
       have Q:=D.JG x z F u hz
       rw[woken_quitsD Q,Deaf_other t (ik u) _ Zv];exact Q,λx f=>by
       rw[Deaf_other t (g':=i) (by simp at f;omega) _ Zv];exact D.above x (by simpa using f),Lu,hsu⟩
     exact⟨N+1,Bh,Po,U,t',by simp only[runNT,Cc,J];exact S,T.trans E,q',C,B',pV hBu jB,j1,L.trans j2,j3⟩
    .have J:=crowd_waits (P:=P) (sl:=K) (i:=i) H IY (λcc GL=>by
      obtain⟨c',z,k,rfl,hc'⟩:=p cc GL
      exact ways_recv_none (show(w.at d).heap[c']?=_ from hc') (NR nob));have E:(gs.setIfInBounds i (parked j cases shape)).size=gs.size:=zF;obtain⟨N,Bh,Po,U,t',S,T,q',C,B',jB,j1,j2,j3⟩:=ih n' (gs.setIfInBounds i (parked j cases shape)) a (w.at d) K (t++MemOp.ofEvents i g.frame.fn g.frame.place V) q B (by rw[E];omega)
      (by rw[z_ hc];exact W) (ha.imp id λ⟨e,st,A⟩=>⟨e,st,A.keep hZ R⟩)
      ⟨D.ne,D.zero,D.mem,⟨_,by simp[BL],I⟩,λx y F u f=>by
       rw[z_ (ik u)]at f
       rw[Deaf_other t (ik u) _ Zv];exact D.JG x y F u f,λx f=>by
       rw[Deaf_other t (g':=i) (by simp at f;omega) _ Zv];exact D.above x (by simpa using f),Lu,D.size⟩;exact⟨N+1,Bh,Po,U,t',by simp only[runNT,Cc,J];exact S,T.trans E,q',C,B',jB,j1,(CP.at w d).trans j2,j3⟩
    .have J:=crowd_sel_recv_closed (P:=P) (sl:=K) (i:=i) H IY hk (λm cc hm GL=>by
      obtain⟨c',z',k',rfl,hc'⟩:=p m cc hm GL
      exact ways_recv_none (show(w.at d).heap[c']?=_ from hc') (NR nob)) (show(w.at d).heap[cx]?=_ from hcl') (NR nob);have E:(gs.setIfInBounds i (Conc.served j (commResult cases shape k z false))).size=gs.size:=zF;have hg1:∀op∈MemOp.ofEvents i g.frame.fn g.frame.place V++#[{ g:=i,fn:=j.frame.fn,pos:=j.frame.place,act:=.recvClosed cx }],op.g=i:=by
      intro op p
      obtain p|p:=Array.mem_append.1 p
      .exact Zv op p
      .simp at p;subst p;rfl
     obtain⟨N,Bh,Po,U,t',S,T,q',C,B',jB,j1,j2,j3⟩:=ih n' (gs.setIfInBounds i (Conc.served j (commResult cases shape k z false))) a (w.at d) K (t++(MemOp.ofEvents i g.frame.fn g.frame.place V++#[{ g:=i,fn:=j.frame.fn,pos:=j.frame.place,act:=.recvClosed cx }])) q B (by rw[E];omega)
      (by rw[z_ hc];exact W) (ha.imp id λ⟨e,st,A⟩=>⟨e,st,A.keep hZ R⟩)
      ⟨D.ne,D.zero,D.mem,⟨_,by simp[BL],I⟩,λx y F u f=>by
       rw[z_ (ik u)]at f
       rw[Deaf_other t (ik u) _ hg1];exact D.JG x y F u f,λx f=>by
       rw[Deaf_other t (g':=i) (by simp at f;omega) _ hg1];exact D.above x (by simpa using f),Lu,D.size⟩;exact⟨N+1,Bh,Po,U,t',by simp only[runNT,Cc,J];exact S,T.trans E,q',C,B',jB,j1,(CP.at w d).trans j2,j3⟩
   .have Q:=D.JG i g e1 e2 H;have hi0:(i==0)=false:=(by simp;omega);cases hqi:q i with
    |zero=>rw[hqi]at Q;rw[Q.1]at hg;cases hg
    |succ k=>
     rw[hqi]at Q
     obtain⟨hf,_⟩|⟨_,g',V,hm,hstp,hq'⟩:=Q
     .rw[hf]at hg;cases hg
     have J:=runT_crowd_go (P:=P) (sl:=K) (i:=i) H (by rw[hi0];exact hstp (w.at d));have E:((gs.map (woken P g g' (w.at d))).setIfInBounds i g').size=gs.size:=zF;have hsum:sumTo gs.size (upd q i k)+(k+1)=sumTo gs.size q+k:=by
      have:=sumTo_upd q k id BL
      simpa [hqi]using this
     have hmute:∀op∈MemOp.ofEvents i g.frame.fn g.frame.place V,op.act.touch?=none:=λop p=>by obtain⟨e,he,rfl⟩:=qw p;exact touch_mute (hm e he)
     obtain⟨N,Bh,Po,U,t',S,T,q',C,B',jB,j1,j2,j3⟩:=ih n ((gs.map (woken P g g' (w.at d))).setIfInBounds i g') (woken P g g' (w.at d) a) (w.at d) K (t++MemOp.ofEvents i g.frame.fn g.frame.place V) (upd q i k) B (by rw[E];have:=ag9 (woken P g g' (w.at d) a);omega)
      (by rw[z_ e1,jI,W];rfl) (by
       obtain rfl|⟨rfl,st,A⟩:=ha
       .exact .inl (woken_run rfl)
       .obtain e|e:=wok g g' (w.at d)
        .exact .inr ⟨e,st,A.keep hZ R⟩
        .exact .inl e)
      ⟨D.ne,D.zero,D.mem,⟨b,by
       rw[z_ e2,jI,hb]
       simp only[Option.map_some,qx]
       exact woken_of_again (OD.again Y (w.at d) R),OD.calm (w.at d) _ Y R (Rq e2 e1 hm)⟩,λx y F u f=>by
       by_cases e3:i=x
       .subst e3;rw[pU (by simpa using BL)]at f;obtain rfl:=x_ f;rw[upd_same,Deaf_own];exact hq'
       .rw[z_ e3,jI]at f;obtain⟨z,hz,rfl⟩:=jb.1 f;have hqj:=D.JG x z F u hz;rw[woken_quitsD hqj,upd_ne q k (ik e3),Deaf_other t e3 _ Zv];exact hqj,λx f=>by
       rw[Deaf_other t (g':=i) (by simp at f;omega) _ Zv];exact D.above x (by simpa using f),D.tr.appMute Zv hmute (λx=>x.elim) (λop p=>by obtain⟨e,he,rfl⟩:=qw p;exact low_mute (hm e he) B),D.size⟩
     exact⟨N+1,Bh,Po,U,t',by simp only[runNT,Cc,J];exact S,T.trans E,q',C,B',jB,j1,(CP.at w d).trans j2,j3⟩
end
end Go.Fxa
namespace Go.Fxa
open Go.Conc
open Go.ConcN (sumTo upd sumTo_upd upd_ne upd_same)
variable {n B:Nat} {g Lh g0:m_} {w:o_} {t:Trace} {fn:h_} {pos:String} {gs:Array m_} {q:Nat->Nat}
structure Wts where
 mD:m_
 mD':m_
 mL:m_
 mL0:m_
 mLK:m_
 mC:m_
 mC1:m_
 mC0:m_
 mW:m_
 mW':m_
 fr:Frame
 cs:Z_
 mS':m_
 k0:Nat
 k1:Nat
 k2:Nat
 k3:Nat
 k4:Nat
structure ai0 (P:l_) (r:Nat) (pre:X_) (ty:j_) (g0 Lh:m_) (x:Wts):Prop where
 runs:x.mD.status=.running/\x.mL.status=.running/\x.mC.status=.running/\x.mW.status=.running
 s0:KR P (Dz r pre ty) true x.k0 g0 x.mD
 Zt:∀w,stepG P true x.mD w=.go x.mD' w #[Jq]
 s1:KR P (Dz r pre ty) true x.k1 x.mD' x.mL
 bi5:∀w,w.cell? (stA r pre)=some (.int .u64 0)->stepG P true x.mL w=.go x.mL0 w #[⟨.cell (stA r pre),false,true⟩]
 fin0:av1 P r pre ty Lh x.mL0
 bi4:∀w,w.cell? (stA r pre)=some (.int .u64 KK)->stepG P true x.mL w=.go x.mLK w #[⟨.cell (stA r pre),false,true⟩]
 s2:KR P (Dz r pre ty) true x.k2 x.mLK x.mC
 II:∀w,w.cell? (stA r pre)=some (.int .u64 KK)->w.frozen? (stA r pre)=false->stepG P true x.mC w=.go x.mC1 (w.setCell (stA r pre) (.int .u64 (KK+1))) (J9 (stA r pre))
 miss:∀w,w.cell? (stA r pre)=some (.int .u64 0)->w.frozen? (stA r pre)=false->stepG P true x.mC w=.go x.mC0 w #[⟨.cell (stA r pre),false,true⟩]
 lo0:af4 P r pre ty Lh x.mC0
 s3:KR P (Dz r pre ty) true x.k3 x.mC1 x.mW
 wr:∀w,stepG P true x.mW w=.go x.mW' w #[XO (smA r pre)]
 s4:KR P (Dz r pre ty) true x.k4 x.mW' (G x.fr x.cs)
 bs7:∀w,w.cell? (smA r pre)=some (.int .u32 1)->w.frozen? (smA r pre)=false->stepG P true (G x.fr x.cs) w=.go x.mS' (w.setCell (smA r pre) (.int .u32 0)) (semEvents (smA r pre))
 bh7:∀w,w.cell? (smA r pre)=some (.int .u32 0)->stepG P true (G x.fr x.cs) w=.go { G x.fr x.cs with status:=.blocked } w #[]
 lo1:af4 P r pre ty Lh x.mS'
section
variable {P:l_} {Z:Nat->Prop} {Ad Still:Loc->Prop} {Mem Am:Nat->Prop} {r:Nat} {pre:X_} {ty:j_} {c:Nat} {o:RQ} {Ph:Bool->Nat->m_->o_->Trace->Prop} {X:o_->Prop} {O0:Loc->Prop}
theorem jh (H:Ns P Z Ad Still Am c r pre ty o Ph X) (C:Z r) (E:c≠0) {w0:Bool} {es:Array Event} (d:Nat) (D:∀e∈es,(MemAct.ofEvent e).touch?=none/\∀a,MemAct.ofEvent e≠.mark (.release a))
  (h:CB P c r pre ty o Ph X w0 n g w t):CB P c r pre ty o Ph X w0 n g (w.at d) (t++MemOp.ofEvents 0 fn pos es):=by
 have l:Jj Z w (w.at d):=λ_ _=>rfl
 have f:Deaf (t++MemOp.ofEvents 0 fn pos es) c=Deaf t c:=Deaf_other t (g':=0) (ik E) _ Zv;have u:Kq c r pre t->Kq c r pre (t++MemOp.ofEvents 0 fn pos es):=λh=>h.app λop q b v _=>by
  obtain⟨e,s,rfl⟩:=qw q
  rw[(D e s).1]at v;cases v
 have hrel:∀{m},OA c r pre m t->OA c r pre m (t++MemOp.ofEvents 0 fn pos es):=λh=>h.app (λop q=>by
  obtain⟨e,s,rfl⟩:=qw q
  exact(D e s).2 _) λk op b A B _=>by have:=Zv op (Array.mem_of_getElem? A);omega
 obtain h|⟨⟨x,z⟩,y⟩:=h
 .exact .inl (H.mark d D h)
 .refine .inr ⟨⟨u x,?_⟩,H.keep _ _ y λ_ _ _=>rfl⟩;obtain⟨k,a1,a2,i,j⟩|⟨m,k,a1,a2,i,j,p⟩|⟨m,k,a1,a2,i,j,p⟩|⟨a0,m,a1,a2,i⟩|⟨a0,m,k,a1,a2,i,j,p⟩|⟨a0,m,k,a1,a2,i,j,p⟩|⟨a0,m,a1,a2,i⟩:=z
  .exact .inl ⟨k,a1,a2,i.keep C l,by rw[f];exact j⟩
  .exact .inr (.inl ⟨m,k,a1,a2,i.keep C l,by rw[f];exact j,hrel p⟩)
  .exact .inr (.inr (.inl ⟨m,k,a1,a2,i.keep C l,by rw[f];exact j,hrel p⟩))
  .exact .inr (.inr (.inr (.inl ⟨a0,m,by rw[f];exact a1,a2.keep C l,hrel i⟩)))
  .exact .inr (.inr (.inr (.inr (.inl ⟨a0,m,k,a1,a2,i.keep C l,by rw[f];exact j,hrel p⟩))))
  .exact .inr (.inr (.inr (.inr (.inr (.inl ⟨a0,m,k,a1,a2,i.keep C l,by rw[f];exact j,hrel p⟩)))))
  .exact .inr (.inr (.inr (.inr (.inr (.inr ⟨a0,m,by rw[f];exact a1,a2.keep C l,hrel i⟩)))))
theorem kM (H:Ns P Z Ad Still Am c r pre ty o Ph X) (h:CB P c r pre ty o Ph X false n g w t):BA r pre ty w KK 0\/F6 P c r pre ty X 0 n g w t:=by
 obtain h|⟨⟨e,⟨k,rfl,d,a,_⟩|⟨m,k,rfl,d,a,_⟩|⟨m,k,rfl,d,a,_⟩|⟨_,m,j,a,i⟩|⟨b,_⟩|⟨b,_⟩|⟨b,_⟩⟩,f⟩:=h
 .exact .inl (H.run h)
 .exact .inl a
 .exact .inl a
 .exact .inl a
 .exact .inr ⟨e,m,j,⟨a,f⟩,i⟩
 .cases b
 .cases b
 .cases b
theorem wC (H:Ns P Z Ad Still Am c r pre ty o Ph X) (F:c≠0) (d:Nat) (E:BA r pre ty w KK 0)
  (h:CB P c r pre ty o Ph X false n g w t):CB P c r pre ty o Ph X true n g ((w.at d).setCell (stA r pre) (.int .u64 (KK+1))) (t++MemOp.ofEvents 0 fn pos (J9 (stA r pre))):=by
 have j:BA r pre ty ((w.at d).setCell (stA r pre) (.int .u64 (KK+1))) (if true=true then KK+1 else KK) 0:=BA.setSt (w:=w.at d) E _;have s:∀op∈MemOp.ofEvents 0 fn pos (J9 (stA r pre)),op.act.touch?=some ⟨.cell (stA r pre),false,.atomic⟩\/op.act.touch?=some ⟨.cell (stA r pre),true,.atomic⟩:=by
  intro op f
  obtain⟨e,v,rfl⟩:=qw f
  simp only[J9,gI,r_,p_,or_false]at v
  obtain rfl|rfl:=v
  .exact .inl rfl
  .exact .inr rfl
 have a:Deaf (t++MemOp.ofEvents 0 fn pos (J9 (stA r pre))) c=Deaf t c:=Deaf_other t (g':=0) (ik F) _ Zv;have q:Kq c r pre t->Kq c r pre (t++MemOp.ofEvents 0 fn pos (J9 (stA r pre))):=λh=>h.app λop f b u _=>by
  obtain e|e:=s op f<;>(rw[e]at u;obtain rfl:=x_ u;simp)
 have hrel:∀{m},OA c r pre m t->OA c r pre m (t++MemOp.ofEvents 0 fn pos (J9 (stA r pre))):=λh=>h.app (λop f e=>by
  obtain x|x:=s op f<;>(rw[e]at x;cases x)) λk op b B D _=>by have:=Zv op (Array.mem_of_getElem? B);omega
 obtain h|⟨⟨y,A⟩,z⟩:=h
 .exact .inl (H.up d E h)
 .refine .inr ⟨⟨q y,?_⟩,H.keep _ _ z λx C _=>by simp[World.setCell,World.at,stA,jJ,ik C]⟩;obtain⟨k,a1,a2,l,i⟩|⟨m,k,a1,a2,l,i,p⟩|⟨m,k,a1,a2,l,i,p⟩|⟨a0,m,a1,a2,l⟩|⟨a0,_⟩|⟨a0,_⟩|⟨a0,_⟩:=A
  .exact .inl ⟨k,a1,a2,j,by rw[a];exact i⟩
  .exact .inr (.inl ⟨m,k,a1,a2,j,by rw[a];exact i,hrel p⟩)
  .exact .inr (.inr (.inl ⟨m,k,a1,a2,j,by rw[a];exact i,hrel p⟩))
  .exact ql (E.eq a2).1 wB
  .cases a0
  .cases a0
  .cases a0
theorem EH {B1:Nat} {w1:o_} {h:Array m_} {w':o_} {i:Trace} (k:CP Z w w1) (j:B<=B1) (J:XY P Z O0 X B1 Lh w1 h w' i):XY P Z O0 X B Lh w h w' i:=by
 obtain⟨f,a,b,c,d,e⟩:=J;exact⟨f,a,b,k.trans c,pV j d,e⟩
theorem join (HP:Ns P Z Ad Still (fun g=>g=c) c r pre ty o Ph X) (hS0:∀l,Ad l->¬Still l->O0 l) (O:OO P r pre ty o) {x:Wts} (H:ai0 P r pre ty g0 Lh x) (hZ:Z r) (hW:∀l,LM r pre l->Ad l/\¬Still l) (hc:c≠0)
  {n B:Nat} {gs:Array m_} {w:o_} {sl:d_ (W_)} {t:Trace} {q:Nat->Nat} (h0:gs[0]?=some g0)
  (D:Duo P Ad Still (λg=>g=0) (λg=>g=c) B 0 c (CB P c r pre ty o Ph X false) n gs w t q):AQ P gs w sl t (XY P Z O0 X B Lh w):=by
 have OC:∀w0,GR P Z Ad Still (λB t=>PX Ad Still (λ_=>False) (λg=>g=c) B 0 t) c (CB P c r pre ty o Ph X w0):=λw0=>O9 HP O hZ hW hc id
 have JC:∀w0 n b w t,CB P c r pre ty o Ph X w0 n b w t->∀d,Dz r pre ty (w.at d):=λw0 n b w t h d=>let ⟨_,_,i⟩:=YB HP h;i.is d
 have JD:∀w0 n b w t,EY 1 (CB P c r pre ty o Ph X w0) n b w t->∀d,Dz r pre ty (w.at d):=λw0 n b w t h d=>let ⟨_,_,i⟩:=YB HP h.1;i.is d
 have s:∀w0,GR P Z Ad Still (λB t=>PX Ad Still (λ_=>False) (λg=>g=c) B 0 t) c (EY 1 (CB P c r pre ty o Ph X w0)):=λw0=>Uo hc (OC w0)
 have ON:GR P Z Ad Still (λB t=>PX Ad Still (λ_=>False) (λg=>g=c) B 0 t) c (EY 1 (F6 P c r pre ty X 0)):=Uo hc (Un HP.keep hZ hW hc id);refine(Hw (JC false) (O9 (w0:=false) (Mem:=λg=>g=0) (Am:=λg=>g=c) HP O hZ hW hc hc) x.k0 H.s0 h0 D).bind λgs1 w1 Jz t1 hz1 ⟨q1,n1,B1,h1,o1,b1,D1⟩=>?_
 refine AQ.mono ?_ λp A z=>EH (B1:=B1) o1 b1
 refine go_duo (LV:=λ_=>False) (Loose':=λg=>g=c) (O9 (w0:=false) (Mem:=λg=>g=0) (Am:=λg=>g=c) HP O hZ hW hc hc) h1 H.runs.1 D1 (λ_ N=>N.elim) λBm hBm w2 hsz2 n2 x2 t2 o2 hB2 hp2 d=>?_
 have hmk:∀e∈#[Jq],(MemAct.ofEvent e).touch?=none/\∀a,MemAct.ofEvent e≠.mark (.release a):=by
  intro e f
  simp at f;subst f
  exact⟨rfl,λa=>by simp[Jq,MemAct.ofEvent]⟩
 refine⟨x.mD',w2.at d,#[Jq],Bm,H.Zt _,w_ _,hsz2,(hp2.fewer (LV:=λ_=>False) λ_ h=>h.elim).appMute Zv (λop AZ=>by obtain⟨e,f,rfl⟩:=qw AZ;exact(hmk e f).1) (λx=>x.elim) (λop AZ=>by obtain⟨e,f,rfl⟩:=qw AZ;simp at f;subst f;trivial),
  EY 1 (CB P c r pre ty o Ph X false),n2,⟨?_,?_⟩,λgs3 q3 n3 hz3 h3 D3 sl3=>?_⟩
 .rw[woken_of_again ((OC false).again hB2 (w2.at d) (λ_ _=>rfl))];exact jh HP hZ hc d hmk hB2
 .rw[Deaf_own,hp2.hears 0 rfl];rfl
 refine AQ.mono ?_ λp A z=>EH (B1:=Bm) (o2.trans (CP.at w2 d)) hBm
 refine(Hw (JD false) (s false) x.k1 H.s1 h3 D3).bind λgs4 w4 NY t4 hz4 ⟨q4,n4,B4,h4,o4,b4,D4⟩=>?_
 refine AQ.mono ?_ λp A z=>EH (B1:=B4) o4 b4
 refine go_duo (LV:=λ_=>False) (Loose':=λg=>g=c) (s false) h4 H.runs.2.1 D4 (λ_ N=>N.elim) λBn hBn E j n5 x5 t5 o5 C hp5 F=>?_
 have rd:∀{w:o_} {B:Nat} {st sm:Int},BA r pre ty w st sm->w.heap.size<=B->∀e∈#[(⟨.cell (stA r pre),false,true⟩:Event)],Zz Ad Still B e:=by
  intro w B st sm i hB e f
  simp at f;subst f
  exact UI hW (by have:=i.lt;omega) (.inl rfl) rfl false
 obtain hr5|hd5:=kM HP C.1
 rotate_left
 .obtain⟨hN,m,hq,⟨i,M⟩,hm⟩:=hd5;have T:=rd i j;have v:EY 1 (F6 P c r pre ty X 0) n5 x5 E t5:=⟨⟨hN,m,hq,⟨i,M⟩,hm⟩,C.2⟩;refine⟨x.mL0,E.at F,_,Bn,H.bi5 _ (i.keep hZ (λ_ _=>rfl)).cellSt,w_ _,j,hp5.own T,EY 1 (F6 P c r pre ty X 0),n5,?_,λgs6 q6 n6 hz6 h6 D6 Fa=>?_⟩
  .rw[woken_of_again (ON.again v (E.at F) (λ_ _=>rfl))];exact ON.calm (E.at F) _ v (λ_ _=>rfl) (Gf (ik hc) T)
  .exact(bZ hS0 HP.keep hZ hW hc H.fin0 h6 D6).mono λp A z=>EH (o5.trans (CP.at E F)) hBn
 have Y:=rd hr5 j;refine⟨x.mLK,E.at F,_,Bn,H.bi4 _ (hr5.keep hZ (λ_ _=>rfl)).cellSt,w_ _,j,hp5.own Y,EY 1 (CB P c r pre ty o Ph X false),n5,?_,λgs6 q6 n6 hz6 h6 D6 Fa=>?_⟩
 .rw[woken_of_again ((s false).again C (E.at F) (λ_ _=>rfl))];exact(s false).calm (E.at F) _ C (λ_ _=>rfl) (Gf (ik hc) Y)
 refine AQ.mono ?_ λp A z=>EH (B1:=Bn) (o5.trans (CP.at E F)) hBn
 refine(Hw (JD false) (s false) x.k2 H.s2 h6 D6).bind λgs7 w7 Oy t7 hz7 ⟨q7,n7,B7,h7,o7,b7,D7⟩=>?_
 refine AQ.mono ?_ λp A z=>EH (B1:=B7) o7 b7
 refine go_duo (LV:=λ_=>False) (Loose':=λg=>g=c) (s false) h7 H.runs.2.2.1 D7 (λ_ N=>N.elim) λS hBo J K n8 x8 t8 o8 u hp8 I=>?_
 obtain Q|hd8:=kM HP u.1
 rotate_left
 .obtain⟨hN,m,hq,⟨i,M⟩,hm⟩:=hd8;have T:=rd i K;have v:EY 1 (F6 P c r pre ty X 0) n8 x8 J t8:=⟨⟨hN,m,hq,⟨i,M⟩,hm⟩,u.2⟩;refine⟨x.mC0,J.at I,_,S,H.miss _ (i.keep hZ (λ_ _=>rfl)).cellSt (i.keep hZ (λ_ _=>rfl)).Qn,w_ _,K,hp8.own T,EY 1 (F6 P c r pre ty X 0),n8,?_,λgs9 q9 n9 hz9 h9 D9 sl9=>?_⟩
  .rw[woken_of_again (ON.again v (J.at I) (λ_ _=>rfl))];exact ON.calm (J.at I) _ v (λ_ _=>rfl) (Gf (ik hc) T)
  .exact(Y0 hS0 HP.keep hZ hW hc H.lo0 h9 D9).mono λp A z=>EH (o8.trans (CP.at J I)) hBo
 have U:r<S:=by have:=Q.lt;omega
 have cl9:∀e∈J9 (stA r pre),Zz Ad Still S e:=by
  intro e f
  simp only[J9,gI,r_,p_,or_false]at f
  obtain rfl|rfl:=f
  .exact UI hW U (.inl rfl) rfl false
  .exact UI hW U (.inl rfl) rfl true
 have V:BA r pre ty (J.at I) KK 0:=Q.keep hZ (λ_ _=>rfl);have cj3:CP Z J ((J.at I).setCell (stA r pre) (.int .u64 (KK+1))):=O6 (a:=stA r pre) hZ _ I;have ch8:(x8.status=.running\/x8.status=.finished):=by
  obtain h|⟨⟨_,⟨k,_,R,_⟩|⟨m,k,_,R,_⟩|⟨m,k,_,R,_⟩|⟨_,m,hq,_⟩|⟨hw,_⟩|⟨hw,_⟩|⟨hw,_⟩⟩,_⟩:=u.1
  .exact .inl (HP.status h).1
  .exact .inl (R.status O.runs.1)
  .exact .inl (R.status O.runs.2.1)
  .exact .inl (R.status O.runs.2.2.1)
  .exact hq.status
  .cases hw
  .cases hw
  .cases hw
 refine⟨x.mC1,_,_,S,H.II _ V.cellSt V.Qn,w_ _,by rw[Ie];exact K,hp8.own cl9,EY 1 (CB P c r pre ty o Ph X true),n8,⟨?_,?_⟩,λgs9 q9 n9 hz9 h9 D9 sl9=>?_⟩
 .rw[woken_of_again (again_running _ ch8)];exact wC HP hc I Q u.1
 .rw[Deaf_own,u.2];rfl
 refine AQ.mono ?_ λp A z=>EH (B1:=S) (o8.trans cj3) hBo
 refine(Hw (JD true) (s true) x.k3 H.s3 h9 D9).bind λgsa wa sla ta hza ⟨qa,na,Ba,ha,oa,ba,Da⟩=>?_
 refine AQ.mono ?_ λp A z=>EH (B1:=Ba) oa ba
 refine go_duo (LV:=λ_=>False) (Loose':=λg=>g=c) (s true) ha H.runs.2.2.2 Da (λ_ N=>N.elim) λBs hBs wb ck4 nb xb tb ob L hpb db=>?_
 have hrb:r<Bs:=by
  obtain⟨st,h⟩|⟨_,m,_,⟨h,_⟩,_⟩:=gq HP L.1<;>(have:=h.lt;omega)
 have W:∀e∈#[XO (smA r pre)],Zz Ad Still Bs e:=by
  intro e f
  simp at f;subst f
  refine⟨λy hy=>?_,by simp[XO],by simp[XO],?_,by simp[XO]⟩
  .obtain rfl:=x_ hy;exact⟨λR=>((hW _ (.inr rfl)).2 R).elim,λ_=>zF⟩
  .exact hrb
 refine⟨x.mW',wb.at db,_,Bs,H.wr _,w_ _,ck4,hpb.own W,EY 1 (CB P c r pre ty o Ph X true),nb,?_,λgsc qc nc hzc GL Dc slc=>?_⟩
 .rw[woken_of_again ((s true).again L (wb.at db) (λ_ _=>rfl))];exact(s true).calm (wb.at db) _ L (λ_ _=>rfl) (Gf (ik hc) W)
 refine AQ.mono ?_ λp A z=>EH (B1:=Bs) (ob.trans (CP.at wb db)) hBs
 refine(Hw (JD true) (s true) x.k4 H.s4 GL Dc).bind λgsd wd sld td hzd ⟨qd,nd,Bd,hd,od,bd,Dd⟩=>?_
 refine AQ.mono ?_ λp A z=>EH (B1:=Bd) od bd
 refine(ak2 HP O hZ hW hc (OC true) H.bs7 H.bh7 _ nd gsd (G x.fr x.cs) wd sld td qd Bd (Nat.lt_succ_self _) hd (.inl rfl) Dd).bind λgse we sle te hze ⟨qe,ne,Be,hBe,f,oe,De⟩=>?_
 exact(Y0 hS0 HP.keep hZ hW hc H.lo1 f De).mono λp A z=>EH oe hBe
end
def Tj (Tr:Trace->Prop):Prop:=∀t i fn pos es,i≠0->(∀e∈es,e.mute=true)->Tr t->Tr (t++MemOp.ofEvents i fn pos es)
section
variable {P:l_} {Z:Nat->Prop} {Ad Still:Loc->Prop} {Mem Am:Nat->Prop} {Tr:Trace->Prop}
theorem nU (hTr:Tj Tr):∀(X:Nat) (gs:Array m_) (a:m_) (w:o_) (sl:d_ (W_)) (t:Trace) (q:Nat->Nat),sumTo gs.size q<X->gs[0]?=some a->a.status=.running->Leavers P t gs q->Tr t->
  ∃(N:Nat) (Y:Array m_) (d0 d:Nat) (W Eh:d_ (W_)) (t':Trace) (q':Nat->Nat),runNT P N (crowd gs w sl) t=(.next (crowd Y (w.at d0) W),t')/\Y.size=gs.size/\Y[0]?=some a/\
   stepT P (crowd Y (w.at d0) W)=runT P (crowd Y (w.at d) Eh) 0/\Leavers P t' Y q'/\Tr t':=by
 intro X
 induction X with
 |zero=>intro gs a w sl t q Q;omega
 |succ X V=>
  intro gs a w sl t q Q n m f I
  have B:∀g∈gs,awake g:=by
   intro g c
   obtain⟨i,e,rfl⟩:=Array.mem_iff_getElem.1 c
   obtain rfl|s:=Nat.eq_zero_or_pos i
   .have:gs[0]=a:=(by simpa [v_ e]using n);rw[this];exact awake_of (.inl m)
   .exact awake_of ((f.old i _ s (v_ e)).status.elim .inl λx=>.inr (.inr x))
  obtain⟨i,g,d,Eh,e,c,G⟩:=crowd_pick (P:=P) (w:=w) (sl:=sl) B ⟨0,a,n,m⟩;have E:i<gs.size:=(y_.1 e).1;obtain rfl|s:=Nat.eq_zero_or_pos i
  .exact⟨0,gs,w.drawn,d,sl,Eh,t,q,rfl,rfl,n,G,f,I⟩
  .have o:=f.old i g s e;have C:(i==0)=false:=(by simp;omega);cases hqi:q i with
   |zero=>rw[hqi]at o;rw[o.1]at c;cases c
   |succ k=>
    rw[hqi]at o
    obtain⟨R,_⟩|⟨_,g',H,S,l,D⟩:=o
    .rw[R]at c;cases c
    have K:=runT_crowd_go (P:=P) (sl:=Eh) (i:=i) e (by rw[C];exact l (w.at d));have F:((gs.map (woken P g g' (w.at d))).setIfInBounds i g').size=gs.size:=zF;have J:sumTo gs.size (upd q i k)+(k+1)=sumTo gs.size q+k:=by
     have:=sumTo_upd q k id E
     simpa [hqi]using this
    obtain⟨N,Y,d0,d1,W,O,t',q',T,M,u,j,v,A⟩:=V ((gs.map (woken P g g' (w.at d))).setIfInBounds i g') a (w.at d) Eh (t++MemOp.ofEvents i g.frame.fn g.frame.place H) (upd q i k) (by rw[F];omega)
     (by
      have L:i≠0:=zD
      rw[z_ L,jI,n]
      simp[woken_run m]) m
     ⟨λx y p r=>by
      by_cases b:i=x
      .subst b;rw[pU (by simpa using E)]at r;obtain rfl:=x_ r;rw[upd_same,Deaf_own];exact D
      .rw[z_ b,jI]at r;obtain⟨z,U,rfl⟩:=jb.1 r;have h:=f.old x z p U;rw[woken_quitsD h,upd_ne q k (ik b),Deaf_other t b _ Zv];exact h,λx p=>by
      rw[Deaf_other t (g':=i) (by simp at p;omega) _ Zv];exact f.above x (by simpa using p)⟩
     (hTr t i _ _ H zD S I)
    exact⟨N+1,Y,d0,d1,W,O,t',q',by simp only[runNT,G,K];exact T,M.trans F,u,j,v,A⟩
theorem go_mute (L:Tj Tr) {a:m_} {sl:d_ (W_)} {Q:Array m_->o_->Trace->Prop} (S:gs[0]?=some a) (M:a.status=.running) (T:Leavers P t gs q) (U:Tr t)
  (R:∀d J,Tr J->∃I w' es,stepG P true a (w.at d)=.go I w' es/\∀K V,K.size=gs.size->K[0]?=some I->Leavers P (J++MemOp.ofEvents 0 a.frame.fn a.frame.place es) K V->
   ∀O,AQ P K w' O (J++MemOp.ofEvents 0 a.frame.fn a.frame.place es) Q):AQ P gs w sl t Q:=by
 obtain⟨N,c,H,d,F,o,J,q1,D,f,p,z,e,m⟩:=nU (P:=P) L (sumTo gs.size q+1) gs a w sl t q zD S M T U;obtain⟨I,w',es,j,C⟩:=R d J m;have u:0<c.size:=(y_.1 p).1;have v:=runT_crowd_go (P:=P) (sl:=o) (i:=0) p j;have b:((c.map (woken P a I w')).setIfInBounds 0 I).size=gs.size:=by simp[f]
 obtain⟨A,h,w2,n,G,k,l,B⟩:=C ((c.map (woken P a I w')).setIfInBounds 0 I) q1 b (by simp[u]) ⟨λi x g s=>by
   rw[z_ zD,jI]at s
   obtain⟨y,E,rfl⟩:=jb.1 s
   have r:=e.old i y g E
   rw[woken_quitsD r,Deaf_other J (g':=0) zD _ Zv]
   exact r,λi g=>by
   rw[b,<-f]at g
   rw[Deaf_other J (g':=0) zD _ Zv]
   exact e.above i g⟩ o;refine⟨N+1+A,h,w2,n,G,?_,l.trans b,B⟩;rw[runNT_add,runNT_succ_of D (z.trans v)];exact k
theorem Kw (D:Tj Tr) {J:o_->Prop} {F:m_}:∀(k:Nat) {a:m_} (_:KR P J true k a F) {gs:Array m_} {w:o_} {sl:d_ (W_)} {t:Trace} {q:Nat->Nat},(∀d,J (w.at d))->gs[0]?=some a->Leavers P t gs q->Tr t->
  AQ P gs w sl t λE w' H=>∃G d,E[0]?=some F/\w'=w.at d/\Leavers P H E G/\Tr H
 |0,a,g,gs,w,sl,t,q,_,e,f,h=>.now ⟨q,w.drawn,by rw[e,show a=F from g],rfl,f,h⟩
 |k+1,a,g,gs,w,sl,t,q,m,e,f,h=>by
  obtain⟨n,a1,o,p⟩:=g
  refine go_mute D e n f h λd C i=>⟨a1,w.at d,#[],o _ (m d),λE G B r b z=>?_⟩
  rw[DT]at b ⊢
  exact(Kw D k p (w:=w.at d) (λc=>m c) r b i).mono λl A y ⟨j,c,s,u,v,x⟩=>⟨j,c,s,u,v,x⟩
theorem kV (B:Nat):Tj (λt=>PX Ad Still (λg=>g=0/\Mem g) (λ_=>False) B 0 t):=by
 intro t i fn pos h d c H;refine H.appMute Zv (λop a=>?_) (λf=>(d f.1).elim) (λop a=>?_)
 .obtain⟨e,b,rfl⟩:=qw a;exact touch_mute (c e b)
 .obtain⟨e,b,rfl⟩:=qw a;exact low_mute (c e b) B
structure bo0 where
 mD:m_
 mD':m_
 mA:m_
 mA':m_
 mR:m_
 mR':m_
 mE:m_
 mE':m_
 k0:Nat
 k1:Nat
 k2:Nat
 k3:Nat
 k4:Nat
def XQ (a:f_):Event:=⟨.mark (.read a),false,true⟩
structure bk7 (P:l_) (r:Nat) (pre:X_) (ty:j_) (g0 Lh:m_) (x:bo0):Prop where
 runs:x.mD.status=.running/\x.mA.status=.running/\x.mR.status=.running/\x.mE.status=.running
 s0:KR P (Dz r pre ty) true x.k0 g0 x.mD
 Zt:∀w,stepG P true x.mD w=.go x.mD' w #[Jq]
 s1:KR P (Dz r pre ty) true x.k1 x.mD' x.mA
 add:∀w,w.cell? (stA r pre)=some (.int .u64 0)->w.frozen? (stA r pre)=false->stepG P true x.mA w=.go x.mA' (w.setCell (stA r pre) (.int .u64 KK)) (J9 (stA r pre))
 s2:KR P (Dz r pre ty) true x.k2 x.mA' x.mR
 rd:∀w,stepG P true x.mR w=.go x.mR' w #[XQ (smA r pre)]
 s3:KR P (Dz r pre ty) true x.k3 x.mR' x.mE
 ena:∀w,stepG P true x.mE w=.go x.mE' w #[Mc]
 s4:KR P (Dz r pre ty) true x.k4 x.mE' Lh
theorem xk {r:Nat} {pre:X_} {ty:j_} {x:bo0} (H:bk7 P r pre ty g0 Lh x) (hZ:Z r) {sl:d_ (W_)}
  (h0:gs[0]?=some g0) (hL:Leavers P t gs q) (hP:Past Ad B t) (hB:w.heap.size<=B) (hr:BA r pre ty w 0 0):
  AQ P gs w sl t λBh w' t'=>∃q',Bh[0]?=some Lh/\CP Z w w'/\BA r pre ty w' KK 0/\Leavers P t' Bh q'/\Past Ad B t'/\w'.heap.size<=B:=by
 have u:r<B:=by have:=hr.lt;omega
 have o:Tj (λt=>PX Ad (λ_=>False) (λg=>g=0/\True) (λ_=>False) B 0 t):=kV (Mem:=λ_=>True) B;have l:Tj (λt=>PX Ad (λ_=>False) (λg=>g=0/\False) (λ_=>False) B 0 t/\Deaf t 0=1):=λt i fn pos es E m h=>⟨kV (Mem:=λ_=>False) B t i fn pos es E m h.1,by rw[Deaf_other t E _ Zv];exact h.2⟩
 have R:PX Ad (λ_=>False) (λg=>g=0/\True) (λ_=>False) B 0 t:=(PX.ofPast hP (λ_ h=>h.elim) (λ_ h=>h.elim)).fewer λg n=>n.1
 refine(Kw o x.k0 H.s0 (λd=>hr.is d) h0 hL R).bind λgs1 w1 Jz t1 _ ⟨q1,d1,h1,e1,I,T⟩=>?_
 subst e1;refine go_mute o h1 H.runs.1 I T λd2 G z=>⟨_,_,_,H.Zt _,λgs3 q3 _ h3 J sl3=>?_⟩
 have U:PX Ad (λ_=>False) (λg=>g=0/\False) (λ_=>False) B 0 (G++MemOp.ofEvents 0 x.mD.frame.fn x.mD.frame.place #[Jq])/\Deaf (G++MemOp.ofEvents 0 x.mD.frame.fn x.mD.frame.place #[Jq]) 0=1:=by
  refine⟨(z.fewer (LV:=λg=>g=0/\False) λg n=>n.2.elim).appMute Zv (λop f=>?_) (λs=>s.2.elim) (λop f=>?_),?_⟩
  .obtain⟨e,b,rfl⟩:=qw f;simp at b;subst b;rfl
  .obtain⟨e,b,rfl⟩:=qw f;simp at b;subst b;trivial
  .rw[Deaf_own,z.hears 0 ⟨rfl,eu⟩];rfl
 refine(Kw l x.k1 H.s1 (w:=(w.at d1).at d2) (λd=>hr.is d) h3 J U).bind λgs4 w4 NY t4 _ ⟨q4,d4,h4,e4,K,V⟩=>?_
 subst e4;have c:∀d,BA r pre ty ((((w.at d1).at d2).at d4).at d) 0 0:=λd=>hr
 refine go_mute l h4 H.runs.2.1 K V λj t5 W=>⟨_,_,_,H.add _ (c j).cellSt (c j).Qn,λgs6 q6 _ h6 L Fa=>?_⟩
 have atom:∀(a:f_),a.block=r->∀wr:Bool,Zz Ad (λ_=>False) B ⟨.cell a,wr,true⟩:=λa D wr=>⟨λx v=>by obtain rfl:=x_ v;exact⟨λh=>h.elim,λ_=>zF⟩,zF,zF,by show a.block<B;omega,zF⟩
 have own:∀{t:Trace} {fn:h_} {pos:String} {es:Array Event},(∀e∈es,Zz Ad (λ_=>False) B e)->(PX Ad (λ_=>False) (λg=>g=0/\False) (λ_=>False) B 0 t/\Deaf t 0=1)->(PX Ad (λ_=>False) (λg=>g=0/\False) (λ_=>False) B 0 (t++MemOp.ofEvents 0 fn pos es)/\Deaf (t++MemOp.ofEvents 0 fn pos es) 0=1):=fun {t fn pos es} m h=>by
  refine⟨h.1.own m,?_⟩
  rw[Deaf_own,deafBehind_still (λe b=>⟨(m e b).2.1,(m e b).2.2.1⟩)]
  exact h.2
 have X:=own (fn:=x.mA.frame.fn) (pos:=x.mA.frame.place) (es:=J9 (stA r pre)) (λe b=>by
  simp only[J9,gI,r_,p_,or_false]at b
  obtain rfl|rfl:=b
  .exact atom _ rfl false
  .exact atom _ rfl true) W
 refine(Kw l x.k2 H.s2 (λd=>((c j).setSt KK).is d) h6 L X).bind λgs7 w7 Oy t7 _ ⟨q7,d7,h7,p,M,Y⟩=>?_
 refine go_mute l h7 H.runs.2.2.1 M Y λd8 t8 X8=>⟨_,_,_,H.rd _,λgs9 q9 _ h9 N sl9=>?_⟩
 have X9:=own (fn:=x.mR.frame.fn) (pos:=x.mR.frame.place) (es:=#[XQ (smA r pre)]) (λe b=>by
  simp at b;subst b
  exact⟨λx v=>by obtain rfl:=x_ v;exact⟨λh=>h.elim,λ_=>zF⟩,by simp[XQ],by simp[XQ],u,by simp[XQ]⟩) X8;refine(Kw l x.k3 H.s3 (λd=>by subst p;exact((c j).setSt KK).is d) h9 N X9).bind λgsa wa sla ta _ ⟨qa,da,D,C,O,Xa⟩=>?_
 refine go_mute l D H.runs.2.2.2 O Xa λdb y A=>⟨_,_,_,H.ena _,λgsc qc _ hc Q slc=>?_⟩
 have Xc:PX Ad (λ_=>False) (λg=>g=0/\False) (λ_=>False) B 0 (y++MemOp.ofEvents 0 x.mE.frame.fn x.mE.frame.place #[Mc]):=A.1.appMute Zv (λop f=>by
  obtain⟨e,b,rfl⟩:=qw f;simp at b;subst b;rfl) (λs=>s.2.elim) (λop f=>by
  obtain⟨e,b,rfl⟩:=qw f;simp at b;subst b;trivial);have S:Past Ad B (y++MemOp.ofEvents 0 x.mE.frame.fn x.mE.frame.place #[Mc]):=Xc.toPast (by rw[Deaf_own,A.2];rfl) (λ_ h=>h) (λ_ h _=>h);have Xc':PX Ad (λ_=>False) (λg=>g=0/\True) (λ_=>False) B 0 (y++MemOp.ofEvents 0 x.mE.frame.fn x.mE.frame.place #[Mc]):=(PX.ofPast S (λ_ h=>h.elim) (λ_ h=>h.elim)).fewer λg n=>n.1
 refine(Kw o x.k4 H.s4 (λd=>by subst C p;exact((c j).setSt KK).is d) hc Q Xc').mono λBh w' t' ⟨q',d',j1,j2,j3,F⟩=>?_
 subst j2 C p;have off:CP Z w ((((((((w.at d1).at d2).at d4).at j).setCell (stA r pre) (.int .u64 KK)).at d7).at d8).at da):=by
  refine⟨by simp[World.setCell,World.at],λk hk=>?_,rfl,rfl,rfl⟩
  have:r≠k:=λe=>hk (e ▸ hZ)
  simp[World.setCell,World.at,stA,jJ,this]
 refine⟨q',j1,⟨off.size,off.same,off.os,off.output,off.tape⟩,(c j).setSt KK,j3,F.toPast (F.hears 0 ⟨rfl,eu⟩) (λ_ h=>h) (λ_ h _=>h),?_⟩;simp only[World.setCell,World.at,Array.size_modify];exact hB
end
end Go.Fxa
