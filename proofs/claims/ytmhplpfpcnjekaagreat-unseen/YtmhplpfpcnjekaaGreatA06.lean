/- Whoever runs is picked in the -/
import Derived.Test.YtmhplpfpcnjekaaGreatA05
import Derived.Conc.AtomicLaws2
import Derived.Conc.MarkLaws
namespace Go.Fxa
open Go.Conc
open Go.ConcN (sumTo upd sumTo_upd upd_ne upd_same)
variable {gs:Array m_} {w w':o_} {g' child a:m_} {es:Array Event} {t:Trace} {q:Nat->Nat} {Z:Nat->Prop} {r m:Nat} {ty:j_} {P:l_} {fn:h_} {pos:String} {l:List Event}
section
variable {P:l_} {Z:Nat->Prop} {Ad Still:Loc->Prop} {Mem Am:Nat->Prop} {h j:Nat} {By:Nat->m_->o_->Trace->Prop}
theorem ZT:∀(X:Nat) (gs:Array m_) (a:m_) (w:o_) (sl:d_ (W_)) (t:Trace) (q:Nat->Nat) (B:Nat),sumTo gs.size q<X->gs[0]?=some a->a.status=.running->Leavers P t gs q->Past Ad B t->
  ∃(N:Nat) (Bh:Array m_) (d0 d:Nat) (Y Eh:d_ (W_)) (t':Trace) (q':Nat->Nat),runNT P N (crowd gs w sl) t=(.next (crowd Bh (w.at d0) Y),t')/\Bh.size=gs.size/\Bh[0]?=some a/\
   stepT P (crowd Bh (w.at d0) Y)=runT P (crowd Bh (w.at d) Eh) 0/\Leavers P t' Bh q'/\Past Ad B t':=by
 intro X
 induction X with
 |zero=>intro gs a w sl t q B R;omega
 |succ X W=>
  intro gs a w sl t q B R n m f I
  have C:∀g∈gs,awake g:=by
   intro g c
   obtain⟨i,e,rfl⟩:=Array.mem_iff_getElem.1 c
   obtain rfl|s:=Nat.eq_zero_or_pos i
   .have:gs[0]=a:=(by simpa [v_ e]using n);rw[this];exact awake_of (.inl m)
   .exact awake_of ((f.old i _ s (v_ e)).status.elim .inl λx=>.inr (.inr x))
  obtain⟨i,g,d,Eh,e,c,H⟩:=crowd_pick (P:=P) (w:=w) (sl:=sl) C ⟨0,a,n,m⟩;have F:i<gs.size:=(y_.1 e).1;obtain rfl|s:=Nat.eq_zero_or_pos i
  .exact⟨0,gs,w.drawn,d,sl,Eh,t,q,rfl,rfl,n,H,f,I⟩
  .have o:=f.old i g s e;have D:(i==0)=false:=(by simp;omega);cases hqi:q i with
   |zero=>rw[hqi]at o;rw[o.1]at c;cases c
   |succ k=>
    rw[hqi]at o
    obtain⟨S,_⟩|⟨_,g',Q,T,l,E⟩:=o
    .rw[S]at c;cases c
    have K:=runT_crowd_go (P:=P) (sl:=Eh) (i:=i) e (by rw[D];exact l (w.at d));have G:((gs.map (woken P g g' (w.at d))).setIfInBounds i g').size=gs.size:=zF;have J:sumTo gs.size (upd q i k)+(k+1)=sumTo gs.size q+k:=by
     have:=sumTo_upd q k id F
     simpa [hqi]using this
    obtain⟨N,Bh,d0,d1,Y,O,t',q',U,M,u,j,v,A⟩:=W ((gs.map (woken P g g' (w.at d))).setIfInBounds i g') a (w.at d) Eh (t++MemOp.ofEvents i g.frame.fn g.frame.place Q) (upd q i k) B (by rw[G];omega)
     (by
      have L:i≠0:=zD
      rw[z_ L,jI,n]
      simp[woken_run m]) m
     ⟨λx y p r=>by
      by_cases b:i=x
      .subst b;rw[pU (by simpa using F)]at r;obtain rfl:=x_ r;rw[upd_same,Deaf_own];exact E
      .rw[z_ b,jI]at r;obtain⟨z,V,rfl⟩:=jb.1 r;have h:=f.old x z p V;rw[woken_quitsD h,upd_ne q k (ik b),Deaf_other t b _ Zv];exact h,λx p=>by
      rw[Deaf_other t (g':=i) (by simp at p;omega) _ Zv];exact f.above x (by simpa using p)⟩
     (I.mute zD T)
    exact⟨N+1,Bh,d0,d1,Y,O,t',q',by simp only[runNT,H,K];exact U,M.trans G,u,j,v,A⟩
theorem uN {sl:d_ (W_)} {i:Nat} {g:m_} (c:gs[i]?=some g) (d:stepG P (i==0) g w=.spawn g' child w' es):
  runT P (crowd gs w sl) i=(.next (crowd ((gs.setIfInBounds i g').push child) w' sl),MemOp.ofEvents i g.frame.fn g.frame.place es++#[{ g:=i,fn:=g.frame.fn,pos:=g.frame.place,act:=.go gs.size },{ g:=gs.size,fn:=child.frame.fn,pos:=g.frame.place,act:=.start }]):=by
 obtain⟨b,rfl⟩:=y_.1 c;have a:=swapAt_of_lt b { (default:m_)with status:=.finished };show runT P { world:=w,gs:=gs,rest:={ timers:=#[],alone:=none,slice:=sl } } i=_;unfold runT;simp only[a,d,GStep.es];simp[crowd,Array.setIfInBounds,b];apply Array.ext';simp
theorem ap7 {K K1:o_->Prop} {TT:Trace->Prop} {T:Array CommCase} {Zn:CommShape} {home:m_->Prop} {k B:Nat} {Q:m_} {sl:d_ (W_)}
  (L:Sl Z Still K1) (hS:∀l,Still l->l.isMemory=true) (U:∀l,Still l->¬Ad l) (W:gs[0]?=some a) (X:a.status=.running) (hL:Leavers P t gs q) (hP:Past Ad B t) (hB:w.heap.size<=B)
  (V:∀d,stepG P true a (w.at d)=.spawn Q child (w.at d) es) (FW:∀e∈es,Zz Ad Still B e) (zH:K1 w) (jr:∀R,PX Ad Still (λg=>g=0\/g=gs.size) (λg=>g=0) B gs.size R->TT R) (pW:∀cc∈T,Gt w cc) (M:Q.status=.running) (O:G5 P true K Still T Zn home k Q):
  ∃(N:Nat) (S:Array m_) (d:Nat) (Y:d_ (W_)) (R:Trace) (q':Nat->Nat),runNT P N (crowd gs w sl) t=(.next (crowd S (w.at d) Y),R)/\S.size=gs.size+1/\S[gs.size]?=some child/\
   Duo P Ad Still (λg=>g=0\/g=gs.size) (λg=>g=0) B gs.size 0 (OL P true K K1 TT Still T Zn home) (k+1) S (w.at d) R q':=by
 have C:0<gs.size:=(y_.1 W).1;obtain⟨N,p,J,d,H,z,f,q1,G,b,r,A,h,s⟩:=ZT (P:=P) (Ad:=Ad) (sumTo gs.size q+1) gs a w sl t q B zD W X hL hP;have y:=uN (P:=P) (sl:=z) (i:=0) r (show stepG P (0==0) a (w.at d)=_ from V d);have u:PX Ad Still (λg=>g=0) (λ_=>False) B 0 f:=PX.ofPast s hS U;have v:Deaf (f++MemOp.ofEvents 0 a.frame.fn a.frame.place es) gs.size=0:=by
  rw[Deaf_other f (g':=0) zD _ Zv]
  exact h.above gs.size zD
 have j:=((u.own (fn:=a.frame.fn) (pos:=a.frame.place) FW).born (c:=gs.size) rfl v a.frame.fn a.frame.place child.frame.fn).loosen (Loose':=λg=>g=0) (λ_ D=>D.elim);have o:∀g,Deaf (f++MemOp.ofEvents 0 a.frame.fn a.frame.place es++#[{ g:=0,fn:=a.frame.fn,pos:=a.frame.place,act:=.go gs.size },{ g:=gs.size,fn:=child.frame.fn,pos:=a.frame.place,act:=.start }]) g=Deaf (f++MemOp.ofEvents 0 a.frame.fn a.frame.place es) g:=λg=>Deaf_quiet (by
  intro op x d
  simp only[gI,r_,p_,or_false]at x
  obtain rfl|rfl:=x<;>rfl)
 rw[b]at y;refine⟨N+1,(p.setIfInBounds 0 Q).push child,d,z,f++(MemOp.ofEvents 0 a.frame.fn a.frame.place es++#[{ g:=0,fn:=a.frame.fn,pos:=a.frame.place,act:=.go gs.size },{ g:=gs.size,fn:=child.frame.fn,pos:=a.frame.place,act:=.start }]),q1,runNT_succ_of G (A.trans y),by simp[b],?_,?_⟩
 .rw[Array.getElem?_push];simp[b]
 .rw[<-Array.append_assoc];refine⟨zD,.inr rfl,λg m=>m.elim .inr .inl,⟨Q,?_,?_⟩,λi g F n m=>?_,λi E=>?_,j,hB⟩
  .rw[Array.getElem?_push];simp[b,C];omega
  .refine⟨⟨L.keep w (w.at d) (λ_ _=>rfl) zH,?_⟩,pW,.inr ⟨k,rfl,M,O⟩⟩;exact jr _ j
  .have I:i<gs.size:=by
    have:=(y_.1 m).1
    simp[b]at this;omega
   rw[Array.getElem?_push,ru (by simp[b];omega),z_ (ik n)]at m;rw[o,Deaf_other f (ik n) _ Zv];exact h.old i g zD m
  .simp[b]at E;rw[o,Deaf_other f (g':=0) zD _ Zv];exact h.above i zD
theorem go_duo (O:GR P Z Ad Still (fun B t=>PX Ad Still Mem Am B h t) j By) {LV Loose':Nat->Prop} {n B0:Nat} {sl:d_ (W_)} {Q:Array m_->o_->Trace->Prop}
  (h0:gs[h]?=some a) (BF:a.status=.running) (D:Duo P Ad Still Mem Am B0 h j By n gs w t q) (hM':∀g,LV g->g=h\/g=j)
  (RY:∀B,B0<=B->∀w1:o_,w1.heap.size<=B->∀n1 b1 t1,CP Z w w1->By n1 b1 w1 t1->PX Ad Still Mem Am B h t1->∀d,∃a' w' es B',stepG P (h==0) a (w1.at d)=.go a' w' es/\B<=B'/\w'.heap.size<=B'/\
   PX Ad Still LV Loose' B' h (t1++MemOp.ofEvents h a.frame.fn a.frame.place es)/\∃(By':Nat->m_->o_->Trace->Prop) (n2:Nat),By' n2 (woken P a a' w' b1) w' (t1++MemOp.ofEvents h a.frame.fn a.frame.place es)/\
   ∀Bh q' n',Bh.size=gs.size->Bh[h]?=some a'->Duo P Ad Still LV Loose' B' h j By' n' Bh w' (t1++MemOp.ofEvents h a.frame.fn a.frame.place es) q'->∀Eh,AQ P Bh w' Eh (t1++MemOp.ofEvents h a.frame.fn a.frame.place es) Q):AQ P gs w sl t Q:=by
 obtain⟨N,f,w1,d,sl0,E,t1,q1,n1,X,l,F,W,⟨B,r,e⟩,L⟩:=YU O (n+sumTo gs.size q+1) n gs a w sl t q B0 zD h0 BF D;obtain⟨b,V,S⟩:=e.idle;obtain⟨a',w',es,B',u,T,K,v,By',n2,s,m⟩:=RY B r w1 e.size n1 b t1 W S e.tr d;have I:h<f.size:=(y_.1 F).1;have J:=runT_crowd_go (P:=P) (sl:=E) (i:=h) F u;have c:((f.map (woken P a a' w')).setIfInBounds h a').size=gs.size:=by simp[l]
 obtain⟨M,p,w2,C,t2,z,A,U⟩:=m ((f.map (woken P a a' w')).setIfInBounds h a') q1 n2 c (by simp[I]) ⟨e.ne,e.zero,hM',⟨_,by rw[z_ e.ne,jI,V];rfl,s⟩,λk x o R H=>by
   rw[z_ (ik o),jI]at H
   obtain⟨y,Y,rfl⟩:=jb.1 H
   have G:=e.JG k y o R Y
   rw[woken_quitsD G,Deaf_other t1 (ik o) _ Zv]
   exact G,λk m=>by
   rw[c,<-l]at m
   rw[Deaf_other t1 (g':=h) zD _ Zv]
   exact e.above k m,v,K⟩ E;refine⟨N+1+M,p,w2,C,t2,?_,A.trans c,U⟩;rw[runNT_add,runNT_succ_of X (L.trans J)];exact z
end
def KK:Int:=4294967296
def PE (a:f_):Event:=⟨.mark (.releaseMerge a),false,true⟩
def Q3 (a:f_):Event:=⟨.mark (.acquire a),false,true⟩
def Jq:Event:=⟨.mark .disable,false,true⟩
def Mc:Event:=⟨.mark .enable,false,true⟩
def J9 (a:f_):Array Event:=#[⟨.cell a,false,true⟩,⟨.cell a,true,true⟩]
def BA (r:Nat) (pre:X_) (ty:j_) (w:o_) (st sm:Int):Prop:=w.heap[r]?=some (N_ (pre++#[.int .u64 st,.int .u32 sm]) ty)
def stA (r:Nat) (pre:X_):f_:=(S_ r pre.size)
def smA (r:Nat) (pre:X_):f_:=(S_ r (pre.size+1))
section
variable {r:Nat} {pre:X_} {ty:j_} {w:o_} {st sm:Int}
theorem BA.cellSt (h:BA r pre ty w st sm):w.cell? (stA r pre)=some (.int .u64 st):=by
 unfold World.cell? stA;unfold BA at h;simp only;rw[h];simp
theorem BA.cellSm (h:BA r pre ty w st sm):w.cell? (smA r pre)=some (.int .u32 sm):=by
 unfold World.cell? smA;unfold BA at h;simp only;rw[h];simp
theorem BA.Qn (h:BA r pre ty w st sm):w.frozen? (stA r pre)=false:=by
 unfold World.frozen? stA;unfold BA at h;simp only;rw[h];simp
theorem BA.qU (h:BA r pre ty w st sm):w.frozen? (smA r pre)=false:=by
 unfold World.frozen? smA;unfold BA at h;simp only;rw[h];simp
theorem BA.setSt (h:BA r pre ty w st sm) (b:Int):BA r pre ty (w.setCell (stA r pre) (.int .u64 b)) b sm:=by
 unfold BA at h ⊢;simp only[World.setCell,stA,jJ,if_true,h,Option.map_some,qx];have:(pre++#[Value.int .u64 st,.int .u32 sm]).setIfInBounds pre.size (.int .u64 b)=pre++#[Value.int .u64 b,.int .u32 sm]:=by
  apply Array.ext'
  simp
 simp[this]
theorem BA.setSm (h:BA r pre ty w st sm) (b:Int):BA r pre ty (w.setCell (smA r pre) (.int .u32 b)) st b:=by
 unfold BA at h ⊢;simp only[World.setCell,smA,jJ,if_true,h,Option.map_some,qx];have:(pre++#[Value.int .u64 st,.int .u32 sm]).setIfInBounds (pre.size+1) (.int .u32 b)=pre++#[Value.int .u64 st,.int .u32 b]:=by
  apply Array.ext'
  simp
 simp[this]
theorem BA.lt (h:BA r pre ty w st sm):r<w.heap.size:=(y_.1 h).1
theorem BA.keep (h:BA r pre ty w st sm) (c:Z r) (b:Jj Z w w'):BA r pre ty w' st sm:=by
 unfold BA;rw[b r c];exact h
theorem BA.eq {d c:Int} (h:BA r pre ty w st sm) (e:BA r pre ty w d c):st=d/\sm=c:=by
 have a:=h.cellSt;have b:=h.cellSm;rw[e.cellSt]at a;rw[e.cellSm]at b;simp only[qx,Value.int.injEq,true_and]at a b;exact⟨a.symm,b.symm⟩
theorem O6 {a:f_} (c:Z a.block) (x:n_) (d:Nat):CP Z w ((w.at d).setCell a x):=by
 refine⟨by simp[World.setCell,World.at],λk b=>?_,rfl,rfl,rfl⟩;have:a.block≠k:=λe=>b (e ▸ c)
 simp[World.setCell,World.at,jJ,this]
end
theorem Ie {a:f_} {x:n_} {d:Nat}:((w.at d).setCell a x).heap.size=w.heap.size:=by simp[World.setCell,World.at]
def Dz (r:Nat) (pre:X_) (ty:j_) (w:o_):Prop:=∃st sm,BA r pre ty w st sm
theorem BA.is {pre:X_} {b sm:Int} (h:BA r pre ty w b sm) (d:Nat):Dz r pre ty (w.at d):=⟨b,sm,h⟩
def KR (P:l_) (J:o_->Prop) (main:Bool):Nat->m_->m_->Prop
 |0,g,g'=>g=g'
 |n+1,g,g'=>g.status=.running/\∃g1,(∀w,J w->stepG P main g w=.go g1 w #[])/\KR P J main n g1 g'
theorem KR.status {J:o_->Prop} {main:Bool} (b:g'.status=.running):∀{n:Nat} {g:m_},KR P J main n g g'->g.status=.running
 |0,_,h=>h ▸ b
 |_+1,_,h=>h.1
def Lod (P:l_) (r:Nat) (pre:X_) (ty:j_):Nat->m_->m_->Prop
 |0,g,g'=>g=g'
 |n+1,g,g'=>g.status=.running/\∃g1 l,(l=[]\/l=[(⟨.cell (stA r pre),false,true⟩:Event)])/\(∀w,BA r pre ty w 1 0->stepG P false g w=.go g1 w l.toArray)/\Lod P r pre ty n g1 g'
theorem Lod.status {pre:X_} (b:g'.status=.running):∀{n:Nat} {g:m_},Lod P r pre ty n g g'->g.status=.running
 |0,_,h=>h ▸ b
 |_+1,_,h=>h.1
structure RQ where
 gR:m_
 gR':m_
 gD:m_
 gD':m_
 gA:m_
 gF:m_
 gW:m_
 gS:m_
 gS':m_
 gP:m_
 gP':m_
 k1:Nat
 k2:Nat
 k3:Nat
 k4:Nat
 nF:Nat
 nP:Nat
structure OO (P:l_) (r:Nat) (pre:X_) (ty:j_) (o:RQ):Prop where
 runs:o.gR.status=.running/\o.gD.status=.running/\o.gA.status=.running/\o.gS.status=.running/\o.gP.status=.running
 rel:∀w,stepG P false o.gR w=.go o.gR' w #[PE (stA r pre)]
 s1:KR P (Dz r pre ty) false o.k1 o.gR' o.gD
 Zt:∀w,stepG P false o.gD w=.go o.gD' w #[Jq]
 s2:KR P (Dz r pre ty) false o.k2 o.gD' o.gA
 add0:∀w,w.cell? (stA r pre)=some (.int .u64 KK)->w.frozen? (stA r pre)=false->stepG P false o.gA w=.go o.gF (w.setCell (stA r pre) (.int .u64 0)) (J9 (stA r pre))
 fin0:QuitsD P o.nF 1 o.gF
 add1:∀w,w.cell? (stA r pre)=some (.int .u64 (KK+1))->w.frozen? (stA r pre)=false->stepG P false o.gA w=.go o.gW (w.setCell (stA r pre) (.int .u64 1)) (J9 (stA r pre))
 s3:Lod P r pre ty o.k3 o.gW o.gS
 sto:∀w,w.cell? (stA r pre)=some (.int .u64 1)->w.frozen? (stA r pre)=false->stepG P false o.gS w=.go o.gS' (w.setCell (stA r pre) (.int .u64 0)) #[⟨.cell (stA r pre),true,true⟩]
 s4:KR P (Dz r pre ty) false o.k4 o.gS' o.gP
 sem:∀w,w.cell? (smA r pre)=some (.int .u32 0)->w.frozen? (smA r pre)=false->stepG P false o.gP w=.go o.gP' (w.setCell (smA r pre) (.int .u32 1)) (semEvents (smA r pre))
 fin1:QuitsD P o.nP 1 o.gP'
 wake:mayWake P o.gP=true/\o.gP'.status=.running
def LM (r:Nat) (pre:X_) (l:Loc):Prop:=l=.cell (stA r pre)\/l=.cell (smA r pre)
structure OA (c:Nat) (r:Nat) (pre:X_) (m:Nat) (t:Trace):Prop where
 at_:∃op,t[m]?=some op/\op.g=c/\op.act=.mark (.releaseMerge (stA r pre))
 heard:t.deaf c m=0
 after:∀i b,m<=i->touchAt t i=some b->t.g? i=some c->LM r pre b.loc/\b.kind=.atomic/\¬t.heard i
 norel:∀k,m<k->t.act? k≠some (.mark (.release (stA r pre)))
def Kq (c r:Nat) (pre:X_) (t:Trace):Prop:=∀i a,touchAt t i=some a->LM r pre a.loc->a.kind=.plain->Knows t c i
section
variable {P:l_} {Z:Nat->Prop} {Ad Still:Loc->Prop} {r:Nat} {pre:X_} {ty:j_} {c m:Nat} {t u:Trace} {o:RQ}
theorem Kq.app (h:Kq c r pre t) (n:∀op∈u,∀b,op.act.touch?=some b->LM r pre b.loc->b.kind≠.plain):Kq c r pre (t++u):=by
 intro i a k f e;obtain⟨x,l,d⟩:=touch_of k;obtain⟨_,g⟩|⟨_,j⟩:=getElem?_append_cases l
 .exact(h i a (by rw[touchAt_of g];exact d) f e).app u
 .exact(n x j a d f e).elim
theorem OA.app (h:OA c r pre m t) (I:∀op∈u,op.act≠.mark (.release (stA r pre))) (H:∀k op b,u[k]?=some op->op.g=c->op.act.touch?=some b->LM r pre b.loc/\b.kind=.atomic/\(t++u).deaf c (t.size+k)≠0):OA c r pre m (t++u):=by
 obtain⟨op,v,D,f⟩:=h.at_;have w:=lt_size_of_getElem? v;refine⟨⟨op,by rw[getElem?_append_old w];exact v,D,f⟩,by rw[deaf_old (Nat.le_of_lt w)];exact h.heard,λi b E C a=>?_,λk F e=>?_⟩
 .obtain⟨x,l,d⟩:=touch_of C;obtain⟨o,n⟩|⟨q,_⟩:=getElem?_append_cases l
  .rw[g?_old o]at a;have:=h.after i b E (by rw[touchAt_of n];exact d) a;exact⟨this.1,this.2.1,by rw[heard_old o];exact this.2.2⟩
  .have p:u[i-t.size]?=some x:=by
    rw[<-l,Array.getElem?_append_right q]
   have s:x.g=c:=(by rw[g?_of l]at a;exact x_ a);obtain⟨A,B,y⟩:=H (i-t.size) x b p s d;refine⟨A,B,?_⟩;rintro⟨G,j,z⟩;rw[a]at j;obtain rfl:=x_ j;rw[show t.size+(i-t.size)=i from by omega]at y;exact y z
 .obtain⟨x,l,d⟩:=jb.1 (show((t++u)[k]?).map (·.act)=_ from e);obtain⟨o,n⟩|⟨_,p⟩:=getElem?_append_cases l
  .exact h.norel k F (by rw[act?_of n,d])
  .exact I x p d
theorem OA.calm (h:OA c r pre m t) (e:Xz Ad Still c u):OA c r pre m (t++u):=
 h.app (λop a=>(e op a).2.2.1 _) λ_ op _ d b _=>((e op (Array.mem_of_getElem? d)).1 b).elim
theorem Kq.calm (h:Kq c r pre t) (f:∀l,LM r pre l->Ad l) (g:Xz Ad Still c u):Kq c r pre (t++u):=
 h.app λop a b d e=>((g op a).2.1 b d).2 (f _ e)
end
def fF (P:l_) (c r:Nat) (pre:X_) (ty:j_) (o:RQ) (w0:Bool) (n:Nat) (g:m_) (w:o_) (t:Trace):Prop:=
 Kq c r pre t/\
 ((∃k,n=k+(o.k1+o.k2+o.k3+o.k4+o.nF+o.nP+10)/\KR P (Dz r pre ty) false k g o.gR/\BA r pre ty w (if w0 then KK+1 else KK) 0/\Deaf t c=0)\/
  (∃m k,n=k+(o.k2+o.k3+o.k4+o.nF+o.nP+8)/\KR P (Dz r pre ty) false k g o.gD/\BA r pre ty w (if w0 then KK+1 else KK) 0/\Deaf t c=0/\OA c r pre m t)\/
  (∃m k,n=k+(o.k3+o.k4+o.nF+o.nP+6)/\KR P (Dz r pre ty) false k g o.gA/\BA r pre ty w (if w0 then KK+1 else KK) 0/\Deaf t c=1/\OA c r pre m t)\/
  (w0=false/\∃m,QuitsD P n (Deaf t c) g/\BA r pre ty w 0 0/\OA c r pre m t)\/
  (w0=true/\∃m k,n=k+(o.k4+o.nP+4)/\Lod P r pre ty k g o.gS/\BA r pre ty w 1 0/\Deaf t c=1/\OA c r pre m t)\/
  (w0=true/\∃m k,n=k+(o.nP+2)/\KR P (Dz r pre ty) false k g o.gP/\BA r pre ty w 0 0/\Deaf t c=1/\OA c r pre m t)\/
  (w0=true/\∃m,QuitsD P n (Deaf t c) g/\BA r pre ty w 0 1/\OA c r pre m t))
section
variable {P:l_} {Z:Nat->Prop} {Ad Still:Loc->Prop} {Mem Am:Nat->Prop} {r:Nat} {pre:X_} {ty:j_} {c B:Nat} {t:Trace} {o:RQ} {w0:Bool}
theorem DT (g:Nat) (fn:h_) (pos:String):t++MemOp.ofEvents g fn pos #[]=t:=by simp[MemOp.ofEvents]
theorem Uh (H:PX Ad Still Mem Am B 0 t) (f:¬Mem c) (d:∀e∈es,(MemAct.ofEvent e).touch?=none/\(MemAct.ofEvent e).low B):PX Ad Still Mem Am B 0 (t++MemOp.ofEvents c fn pos es):=
 H.appMute Zv (λop a=>by obtain⟨e,b,rfl⟩:=qw a;exact(d e b).1) (λx=>(f x).elim) (λop a=>by obtain⟨e,b,rfl⟩:=qw a;exact(d e b).2)
theorem Fq (H:Kq c r pre t) {g:Nat} (h:∀e∈es,∀b,(MemAct.ofEvent e).touch?=some b->b.kind≠.plain):Kq c r pre (t++MemOp.ofEvents g fn pos es):=
 H.app λop a b d _=>by obtain⟨e,f,rfl⟩:=qw a;exact h e f b d
theorem zk (t:Trace) (g:Nat) (fn:h_) (pos:String):∀(l:List Event) (k:Nat),k<=l.length->(t++MemOp.ofEvents g fn pos l.toArray).deaf g (t.size+k)=deafBehind (Deaf t g) (l.take k).toArray:=by
 intro l k
 induction k with
 |zero=>intro _;simp only[Nat.add_zero,List.take_zero];rw[deaf_old (w_ _)];rfl
 |succ k c=>
  intro f
  have b:(t++MemOp.ofEvents g fn pos l.toArray)[t.size+k]?=some { g:=g,fn:=fn,pos:=pos,act:=.ofEvent l[k] }:=by
   rw[at_new,ofEvents_eq]
   simp[List.getElem?_eq_getElem (show k<l.length by omega)]
  rw[<-Nat.add_assoc,deaf_succ b,c zD,List.take_succ_eq_append_getElem zD]
  simp only[deafBehind,List.foldl_toArray',List.foldl_append,List.foldl_cons,List.foldl_nil]
  generalize List.foldl _ (Deaf t g) (List.take k l)=x
  cases hl:l[k]with
  |mk a wr e=>
   cases a with
   |obj q=>cases wr<;>cases e<;>rfl
   |mark d=>cases d<;>simp[deafStep,MemAct.ofEvent]
   |_=>rfl
theorem Ui (H:PX Ad Still Mem Am B 0 t) (n:∀l,LM r pre l->Ad l/\¬Still l) (i:¬Mem c) (j:Kq c r pre t)
  (h:∀e∈l,(∀b,(MemAct.ofEvent e).touch?=some b->LM r pre b.loc/\b.kind=.atomic)/\(MemAct.ofEvent e).low B) (p:∀k,k<l.length->deafBehind (Deaf t c) (l.take k).toArray≠0):PX Ad Still Mem Am B 0 (t++MemOp.ofEvents c fn pos l.toArray):=by
 refine H.bg7 (W:=LM r pre) n j i Zv (λop a b g=>?_) (λk f=>?_) (λop a=>?_)
 .obtain⟨e,d,rfl⟩:=qw a;exact(h e (by simpa using d)).1 b g
 .have:k<l.length:=by rw[ofEvents_eq]at f;simpa using f
  rw[zk _ _ _ _ _ _ zD];exact p k this
 .obtain⟨e,d,rfl⟩:=qw a;exact(h e (by simpa using d)).2
theorem Pg (H:OA c r pre m t)
  (j:∀e∈l,(∀b,(MemAct.ofEvent e).touch?=some b->LM r pre b.loc/\b.kind=.atomic)/\MemAct.ofEvent e≠.mark (.release (stA r pre))) (n:∀k,k<l.length->deafBehind (Deaf t c) (l.take k).toArray≠0):OA c r pre m (t++MemOp.ofEvents c fn pos l.toArray):=by
 refine H.app (λop g=>?_) (λk op b f _ i=>?_)
 .obtain⟨e,a,rfl⟩:=qw g;exact(j e (by simpa using a)).2
 .have h:k<l.length:=by
   have:=(y_.1 f).1
   rw[ofEvents_eq]at this;simpa using this
  obtain⟨e,a,rfl⟩:=qw (Array.mem_of_getElem? f);have d:=(j e (by simpa using a)).1 b i;exact⟨d.1,d.2,by rw[zk _ _ _ _ _ _ zD];exact n k h⟩
theorem Rj (H:OA c r pre m t) (h:∀e∈es,(MemAct.ofEvent e).touch?=none/\MemAct.ofEvent e≠.mark (.release (stA r pre))):OA c r pre m (t++MemOp.ofEvents c fn pos es):=
 H.app (λop f=>by obtain⟨e,a,rfl⟩:=qw f;exact(h e a).2) (λk op b g _ d=>by
  obtain⟨e,a,rfl⟩:=qw (Array.mem_of_getElem? g)
  rw[(h e a).1]at d;cases d)
theorem VE (h:∀e∈es,e.mute=true) (a:f_):∀e∈es,(MemAct.ofEvent e).touch?=none/\MemAct.ofEvent e≠.mark (.release a):=λe c=>by
 refine⟨touch_mute (h e c),?_⟩;have:=h e c;obtain⟨b,wr,f⟩:=e;cases b<;>simp[Event.mute]at this;rename_i d;cases d<;>simp[MemAct.ofEvent]at this ⊢
theorem aw9 (O:OO P r pre ty o) (hZ:Z r) (hW:∀l,LM r pre l->Ad l/\¬Still l) (hc:c≠0) (hM:¬Mem c):GR P Z Ad Still (λB t=>PX Ad Still Mem Am B 0 t) c (fF P c r pre ty o w0) where
 status:=by
  rintro n g w t ⟨_,⟨k,rfl,f,_⟩|⟨m,k,rfl,f,_⟩|⟨m,k,rfl,f,_⟩|⟨_,m,K,_⟩|⟨_,m,k,rfl,f,_⟩|⟨_,m,k,rfl,f,_⟩|⟨_,m,K,_⟩⟩
  .exact .inl ⟨f.status O.runs.1,zD⟩
  .exact .inl ⟨f.status O.runs.2.1,zD⟩
  .exact .inl ⟨f.status O.runs.2.2.1,zD⟩
  .cases n with
   |zero=>exact .inr (.inr K.1)
   |succ n=>exact K.status.elim (λx=>.inl ⟨x,zD⟩) λx=>.inr (.inr x)
  .exact .inl ⟨f.status O.runs.2.2.2.1,zD⟩
  .exact .inl ⟨f.status O.runs.2.2.2.2,zD⟩
  .cases n with
   |zero=>exact .inr (.inr K.1)
   |succ n=>exact K.status.elim (λx=>.inl ⟨x,zD⟩) λx=>.inr (.inr x)
 again:=by
  rintro n g w t ⟨_,⟨k,rfl,f,_⟩|⟨m,k,rfl,f,_⟩|⟨m,k,rfl,f,_⟩|⟨_,m,K,_⟩|⟨_,m,k,rfl,f,_⟩|⟨_,m,k,rfl,f,_⟩|⟨_,m,K,_⟩⟩ w' _
  .exact again_running _ (.inl (f.status O.runs.1))
  .exact again_running _ (.inl (f.status O.runs.2.1))
  .exact again_running _ (.inl (f.status O.runs.2.2.1))
  .exact again_running _ K.status
  .exact again_running _ (.inl (f.status O.runs.2.2.2.1))
  .exact again_running _ (.inl (f.status O.runs.2.2.2.2))
  .exact again_running _ K.status
 calm:=by
  intro n g w t w' u h J U
  have D:Deaf (t++u) c=Deaf t c:=Deaf_quiet λop AZ d=>by
   have Cm:=(U op AZ).1
   obtain⟨g,fn,pos,act⟩:=op
   simp only at Cm
   cases act with
   |mark mm=>cases mm<;>simp[deafStep,Cm]
   |_=>rfl
  obtain⟨E,h⟩:=h
  refine⟨E.calm (λl hl=>(hW l hl).1) U,?_⟩
  rw[D]
  obtain⟨k,z,A,Q,S⟩|⟨m,k,z,A,Q,S,V⟩|⟨m,k,z,A,Q,S,V⟩|⟨G,m,z,A,Q⟩|⟨G,m,k,z,A,Q,S,V⟩|⟨G,m,k,z,A,Q,S,V⟩|⟨G,m,z,A,Q⟩:=h
  .exact .inl ⟨k,z,A,Q.keep hZ J,S⟩
  .exact .inr (.inl ⟨m,k,z,A,Q.keep hZ J,S,V.calm U⟩)
  .exact .inr (.inr (.inl ⟨m,k,z,A,Q.keep hZ J,S,V.calm U⟩))
  .exact .inr (.inr (.inr (.inl ⟨G,m,z,A.keep hZ J,Q.calm U⟩)))
  .exact .inr (.inr (.inr (.inr (.inl ⟨G,m,k,z,A,Q.keep hZ J,S,V.calm U⟩))))
  .exact .inr (.inr (.inr (.inr (.inr (.inl ⟨G,m,k,z,A,Q.keep hZ J,S,V.calm U⟩)))))
  .exact .inr (.inr (.inr (.inr (.inr (.inr ⟨G,m,z,A.keep hZ J,Q.calm U⟩)))))
 step:=by
  intro n g w t B h T N R d
  have hc0:(c==0)=false:=by simpa using hc
  rw[hc0]
  refine .inl ?_
  obtain⟨E,h⟩:=h
  have M:Jj Z w (w.at d):=λ_ _=>rfl
  have C:∀{k:Nat} {X:m_},KR P (Dz r pre ty) false (k+1) g X->Dz r pre ty (w.at d)->∃L,stepG P false g (w.at d)=.go L (w.at d) #[]/\KR P (Dz r pre ty) false k L X:=λf hJ=>by
   obtain⟨_,L,z,A⟩:=f
   exact⟨L,z _ hJ,A⟩
  obtain⟨k,rfl,f,s,D⟩|⟨m,k,rfl,f,s,D,I⟩|⟨m,k,rfl,f,s,D,I⟩|⟨G,m,K,s,I⟩|⟨G,m,k,rfl,f,s,D,I⟩|⟨G,m,k,rfl,f,s,D,I⟩|⟨G,m,K,s,I⟩:=h
  .cases k with
   |succ k=>
    obtain⟨L,z,A⟩:=C f (s.is d)
    exact⟨k+(o.k1+o.k2+o.k3+o.k4+o.nF+o.nP+10),L,w.at d,#[],zD,z,CP.at w d,⟨B,w_ _,R,by rw[DT];exact N⟩,by rw[DT];exact⟨E,.inl ⟨k,rfl,A,s.keep hZ M,D⟩⟩⟩
   |zero=>
    obtain rfl:g=o.gR:=f
    have q:r<B:=by have:=s.lt;omega
    have hn:∀e∈#[PE (stA r pre)],(MemAct.ofEvent e).touch?=none/\(MemAct.ofEvent e).low B:=by
     intro e a
     simp at a;subst a
     exact⟨rfl,q⟩
    refine⟨o.k1+(o.k2+o.k3+o.k4+o.nF+o.nP+8),o.gR',w.at d,_,zD,O.rel _,CP.at w d,⟨B,w_ _,R,Uh N hM hn⟩,Fq E (λe a b j=>by rw[(hn e a).1]at j;cases j),.inr (.inl ⟨t.size,o.k1,rfl,O.s1,s.keep hZ M,?_,?_⟩)⟩
    .rw[Deaf_own,D];rfl
    .have e0:(t++MemOp.ofEvents c o.gR.frame.fn o.gR.frame.place #[PE (stA r pre)])[t.size]?=some { g:=c,fn:=o.gR.frame.fn,pos:=o.gR.frame.place,act:=.mark (.releaseMerge (stA r pre)) }:=by
      have:=at_new t (MemOp.ofEvents c o.gR.frame.fn o.gR.frame.place #[PE (stA r pre)]) 0
      rw[Nat.add_zero]at this
      rw[this,ofEvents_eq];simp[PE,MemAct.ofEvent]
     have Cb:(t++MemOp.ofEvents c o.gR.frame.fn o.gR.frame.place #[PE (stA r pre)]).size=t.size+1:=(by rw[Array.size_append,ofEvents_eq];simp);refine⟨⟨_,e0,rfl,rfl⟩,by rw[deaf_old (w_ _)];exact D,λi b hi j _=>?_,λk J e=>?_⟩
     .obtain⟨x,hx,Fe⟩:=touch_of j;have:=lt_size_of_getElem? hx;obtain rfl:i=t.size:=zD;rw[e0]at hx;rw[<-x_ hx]at Fe;cases Fe
     .obtain⟨x,hx,_⟩:=jb.1 (show((t++MemOp.ofEvents c o.gR.frame.fn o.gR.frame.place #[PE (stA r pre)])[k]?).map (·.act)=_ from e);have:=lt_size_of_getElem? hx;omega
  .cases k with
   |succ k=>
    obtain⟨L,z,A⟩:=C f (s.is d)
    exact⟨k+(o.k2+o.k3+o.k4+o.nF+o.nP+8),L,w.at d,#[],zD,z,CP.at w d,⟨B,w_ _,R,by rw[DT];exact N⟩,by rw[DT];exact⟨E,.inr (.inl ⟨m,k,rfl,A,s.keep hZ M,D,I⟩)⟩⟩
   |zero=>
    obtain rfl:g=o.gD:=f
    have hn:∀e∈#[Jq],(MemAct.ofEvent e).touch?=none/\(MemAct.ofEvent e).low B:=by
     intro e a
     simp at a;subst a
     exact⟨rfl,eu⟩
    have hn2:∀e∈#[Jq],(MemAct.ofEvent e).touch?=none/\MemAct.ofEvent e≠.mark (.release (stA r pre)):=by
     intro e a
     simp at a;subst a
     exact⟨rfl,by simp[Jq,MemAct.ofEvent]⟩
    refine⟨o.k2+(o.k3+o.k4+o.nF+o.nP+6),o.gD',w.at d,_,zD,O.Zt _,CP.at w d,⟨B,w_ _,R,Uh N hM hn⟩,Fq E (λe a b j=>by rw[(hn e a).1]at j;cases j),.inr (.inr (.inl ⟨m,o.k2,rfl,O.s2,s.keep hZ M,?_,Rj I hn2⟩))⟩
    rw[Deaf_own,D];rfl
  .cases k with
   |succ k=>
    obtain⟨L,z,A⟩:=C f (s.is d)
    exact⟨k+(o.k3+o.k4+o.nF+o.nP+6),L,w.at d,#[],zD,z,CP.at w d,⟨B,w_ _,R,by rw[DT];exact N⟩,by rw[DT];exact⟨E,.inr (.inr (.inl ⟨m,k,rfl,A,s.keep hZ M,D,I⟩))⟩⟩
   |zero=>
    obtain rfl:g=o.gA:=f
    have p:=s.keep hZ M
    have q:r<B:=by have:=s.lt;omega
    have H:∀e∈[(⟨.cell (stA r pre),false,true⟩:Event),⟨.cell (stA r pre),true,true⟩],(∀b,(MemAct.ofEvent e).touch?=some b->LM r pre b.loc/\b.kind=.atomic)/\(MemAct.ofEvent e).low B:=by
     intro e a
     simp at a
     obtain rfl|rfl:=a<;>exact⟨λb j=>by obtain rfl:=x_ j;exact⟨.inl rfl,rfl⟩,q⟩
    have y:∀e∈[(⟨.cell (stA r pre),false,true⟩:Event),⟨.cell (stA r pre),true,true⟩],(∀b,(MemAct.ofEvent e).touch?=some b->LM r pre b.loc/\b.kind=.atomic)/\MemAct.ofEvent e≠.mark (.release (stA r pre)):=by
     intro e a
     refine⟨(H e a).1,?_⟩
     simp at a
     obtain rfl|rfl:=a<;>simp[MemAct.ofEvent]
    have v:∀k,k < [(⟨.cell (stA r pre),false,true⟩:Event),⟨.cell (stA r pre),true,true⟩].length->deafBehind (Deaf t c) ([(⟨.cell (stA r pre),false,true⟩:Event),⟨.cell (stA r pre),true,true⟩].take k).toArray≠0:=by
     intro k J
     rw[D]
     simp only[List.length_cons,List.length_nil]at J
     obtain _|_|k:=k
     .simp[deafBehind]
     .simp[deafBehind]
     .omega
    have pI:∀e∈J9 (stA r pre),∀b,(MemAct.ofEvent e).touch?=some b->b.kind≠.plain:=λe a b j=>by
     have:=((H e (by simpa [J9]using a)).1 b j).2
     rw[this];simp
    have Y:Deaf (t++MemOp.ofEvents c o.gA.frame.fn o.gA.frame.place (J9 (stA r pre))) c=1:=(by rw[Deaf_own,D];rfl);cases w0 with
    |false=>
     simp only[jH,if_false]at s p
     refine⟨o.nF,o.gF,(w.at d).setCell (stA r pre) (.int .u64 0),J9 (stA r pre),zD,O.add0 _ p.cellSt p.Qn,O6 hZ _ d,⟨B,w_ _,by rw[Ie];exact R,Ui (l:=[_,_]) N hW hM E H v⟩,Fq E pI,.inr (.inr (.inr (.inl ⟨rfl,m,?_,p.setSt 0,Pg (l:=[_,_]) I y v⟩)))⟩
     rw[Y];exact O.fin0
    |true=>
     simp only[if_true]at s p
     refine⟨o.k3+(o.k4+o.nP+4),o.gW,(w.at d).setCell (stA r pre) (.int .u64 1),J9 (stA r pre),zD,O.add1 _ p.cellSt p.Qn,O6 hZ _ d,⟨B,w_ _,by rw[Ie];exact R,Ui (l:=[_,_]) N hW hM E H v⟩,Fq E pI,.inr (.inr (.inr (.inr (.inl ⟨rfl,m,o.k3,rfl,O.s3,p.setSt 1,Y,Pg (l:=[_,_]) I y v⟩))))⟩
  .cases n with
   |zero=>rw[K.1]at T;cases T
   |succ n=>
    obtain⟨hf,_⟩|⟨_,X,es,F,Cc,W⟩:=K
    .rw[hf]at T;cases T
    .refine⟨n,X,w.at d,es,zD,Cc _,CP.at w d,⟨B,w_ _,R,Uh N hM (λe a=>⟨touch_mute (F e a),low_mute (F e a) B⟩)⟩,Fq E (λe a b j=>by rw[touch_mute (F e a)]at j;cases j),.inr (.inr (.inr (.inl ⟨G,m,?_,s.keep hZ M,Rj I (VE F _)⟩)))⟩;rw[Deaf_own];exact W
  .cases k with
   |succ k=>
    obtain⟨_,L,l,hl,z,A⟩:=f
    have q:r<B:=by have:=s.lt;omega
    have hin:∀e∈l,e=(⟨.cell (stA r pre),false,true⟩:Event):=by
     intro e a
     obtain rfl|rfl:=hl
     .cases a
     .simpa using a
    have H:∀e∈l,(∀b,(MemAct.ofEvent e).touch?=some b->LM r pre b.loc/\b.kind=.atomic)/\(MemAct.ofEvent e).low B:=by
     intro e a
     obtain rfl:=hin e a
     exact⟨λb j=>by obtain rfl:=x_ j;exact⟨.inl rfl,rfl⟩,q⟩
    have y:∀e∈l,(∀b,(MemAct.ofEvent e).touch?=some b->LM r pre b.loc/\b.kind=.atomic)/\MemAct.ofEvent e≠.mark (.release (stA r pre)):=by
     intro e a
     refine⟨(H e a).1,?_⟩
     obtain rfl:=hin e a
     simp[MemAct.ofEvent]
    have v:∀k,k<l.length->deafBehind (Deaf t c) (l.take k).toArray≠0:=by
     intro k J
     have:l.length<=1:=by obtain rfl|rfl:=hl<;>simp
     obtain rfl:k=0:=zD
     rw[D];simp[deafBehind]
    refine⟨k+(o.k4+o.nP+4),L,w.at d,l.toArray,zD,z _ (s.keep hZ M),CP.at w d,⟨B,w_ _,R,Ui N hW hM E H v⟩,Fq E (λe a b j=>by
      have:=((H e (by simpa using a)).1 b j).2
      rw[this];simp),.inr (.inr (.inr (.inr (.inl ⟨G,m,k,rfl,A,s.keep hZ M,?_,Pg I y v⟩))))⟩;rw[Deaf_own,D];obtain rfl|rfl:=hl<;>rfl
   |zero=>
    obtain rfl:g=o.gS:=f
    have p:=s.keep hZ M
    have q:r<B:=by have:=s.lt;omega
    have H:∀e∈[(⟨.cell (stA r pre),true,true⟩:Event)],(∀b,(MemAct.ofEvent e).touch?=some b->LM r pre b.loc/\b.kind=.atomic)/\(MemAct.ofEvent e).low B:=by
     intro e a
     simp at a
     subst a
     exact⟨λb j=>by obtain rfl:=x_ j;exact⟨.inl rfl,rfl⟩,q⟩
    have y:∀e∈[(⟨.cell (stA r pre),true,true⟩:Event)],(∀b,(MemAct.ofEvent e).touch?=some b->LM r pre b.loc/\b.kind=.atomic)/\MemAct.ofEvent e≠.mark (.release (stA r pre)):=by
     intro e a
     refine⟨(H e a).1,?_⟩
     simp at a
     subst a
     simp[MemAct.ofEvent]
    have v:∀k,k < [(⟨.cell (stA r pre),true,true⟩:Event)].length->deafBehind (Deaf t c) ([(⟨.cell (stA r pre),true,true⟩:Event)].take k).toArray≠0:=by
     intro k J
     rw[D]
     simp only[List.length_cons,List.length_nil]at J
     obtain _|k:=k
     .simp[deafBehind]
     .omega
    refine⟨o.k4+(o.nP+2),o.gS',(w.at d).setCell (stA r pre) (.int .u64 0),#[⟨.cell (stA r pre),true,true⟩],zD,O.sto _ p.cellSt p.Qn,O6 hZ _ d,⟨B,w_ _,by rw[Ie];exact R,Ui (l:=[_]) N hW hM E H v⟩,Fq E (λe a b j=>by
      have:=((H e (by simpa using a)).1 b j).2
      rw[this];simp),.inr (.inr (.inr (.inr (.inr (.inl ⟨G,m,o.k4,rfl,O.s4,p.setSt 0,?_,Pg (l:=[_]) I y v⟩)))))⟩;rw[Deaf_own,D];rfl
  .cases k with
   |succ k=>
    obtain⟨L,z,A⟩:=C f (s.is d)
    exact⟨k+(o.nP+2),L,w.at d,#[],zD,z,CP.at w d,⟨B,w_ _,R,by rw[DT];exact N⟩,by rw[DT];exact⟨E,.inr (.inr (.inr (.inr (.inr (.inl ⟨G,m,k,rfl,A,s.keep hZ M,D,I⟩)))))⟩⟩
   |zero=>
    obtain rfl:g=o.gP:=f
    have p:=s.keep hZ M
    have q:r<B:=by have:=s.lt;omega
    have H:∀e∈[(⟨.mark .disable,false,true⟩:Event),⟨.cell (smA r pre),false,true⟩,⟨.cell (smA r pre),true,true⟩,⟨.mark .enable,false,true⟩],(∀b,(MemAct.ofEvent e).touch?=some b->LM r pre b.loc/\b.kind=.atomic)/\(MemAct.ofEvent e).low B:=by
     intro e a
     simp at a
     obtain rfl|rfl|rfl|rfl:=a
     .exact⟨λb j=>(by cases j),eu⟩
     .exact⟨λb j=>by obtain rfl:=x_ j;exact⟨.inr rfl,rfl⟩,q⟩
     .exact⟨λb j=>by obtain rfl:=x_ j;exact⟨.inr rfl,rfl⟩,q⟩
     .exact⟨λb j=>(by cases j),eu⟩
    have y:∀e∈[(⟨.mark .disable,false,true⟩:Event),⟨.cell (smA r pre),false,true⟩,⟨.cell (smA r pre),true,true⟩,⟨.mark .enable,false,true⟩],(∀b,(MemAct.ofEvent e).touch?=some b->LM r pre b.loc/\b.kind=.atomic)/\MemAct.ofEvent e≠.mark (.release (stA r pre)):=by
     intro e a
     refine⟨(H e a).1,?_⟩
     simp at a
     obtain rfl|rfl|rfl|rfl:=a<;>simp[MemAct.ofEvent]
    have v:∀k,k < [(⟨.mark .disable,false,true⟩:Event),⟨.cell (smA r pre),false,true⟩,⟨.cell (smA r pre),true,true⟩,⟨.mark .enable,false,true⟩].length->deafBehind (Deaf t c) ([(⟨.mark .disable,false,true⟩:Event),⟨.cell (smA r pre),false,true⟩,⟨.cell (smA r pre),true,true⟩,⟨.mark .enable,false,true⟩].take k).toArray≠0:=by
     intro k J
     rw[D]
     simp only[List.length_cons,List.length_nil]at J
     obtain _|_|_|_|k:=k
     .simp[deafBehind]
     .simp[deafBehind]
     .simp[deafBehind]
     .simp[deafBehind]
     .omega
    refine⟨o.nP,o.gP',(w.at d).setCell (smA r pre) (.int .u32 1),semEvents (smA r pre),zD,O.sem _ p.cellSm p.qU,O6 hZ _ d,⟨B,w_ _,by rw[Ie];exact R,Ui (l:=[_,_,_,_]) N hW hM E H v⟩,Fq E (λe a b j=>by
      have:=((H e (by simpa [semEvents]using a)).1 b j).2
      rw[this];simp),.inr (.inr (.inr (.inr (.inr (.inr ⟨G,m,?_,p.setSm 1,Pg (l:=[_,_,_,_]) I y v⟩)))))⟩;rw[Deaf_own,D];exact O.fin1
  .cases n with
   |zero=>rw[K.1]at T;cases T
   |succ n=>
    obtain⟨hf,_⟩|⟨_,X,es,F,Cc,W⟩:=K
    .rw[hf]at T;cases T
    .refine⟨n,X,w.at d,es,zD,Cc _,CP.at w d,⟨B,w_ _,R,Uh N hM (λe a=>⟨touch_mute (F e a),low_mute (F e a) B⟩)⟩,Fq E (λe a b j=>by rw[touch_mute (F e a)]at j;cases j),.inr (.inr (.inr (.inr (.inr (.inr ⟨G,m,?_,s.keep hZ M,Rj I (VE F _)⟩)))))⟩;rw[Deaf_own];exact W
end
end Go.Fxa
