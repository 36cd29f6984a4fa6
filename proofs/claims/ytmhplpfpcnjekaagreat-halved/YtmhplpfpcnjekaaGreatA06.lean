/- Whoever runs is picked in the -/
import Derived.Test.YtmhplpfpcnjekaaGreatA05
import Derived.Conc.AtomicLaws2
import Derived.Conc.MarkLaws
namespace Go.Fxa
open Go.Conc
open Go.ConcN (sumTo upd sumTo_upd upd_ne upd_same)
variable {gs:Array m_}{w w':o_}{g' child a:m_}{es:Array Event}{t:Trace}{q:Nat->Nat}{Z:Nat->Prop}{r m:Nat}{ty:j_}{P:l_}{fn:h_}{pos:String}{l:List Event}
section
variable {P:l_}{Z:Nat->Prop}{Ad Still:Loc->Prop}{Mem Am:Nat->Prop}{h j:Nat}{By:Nat->m_->o_->Trace->Prop}
theorem bJ:∀(X:Nat)(gs:Array m_)(a:m_)(w:o_)(sl:d_ (W_))(t:Trace)(q:Nat->Nat)(B:Nat),sumTo gs.size q<X->gs[0]?=some a->a.status=.running->Leavers P t gs q->Past Ad B t->
  ∃(N:Nat) (U:Array m_) (Y d:Nat) (T V:d_ (W_)) (W:Trace) (q':Nat->Nat),runNT P N (crowd gs w sl) t=(.next (crowd U (w.at Y) T),W)/\U.size=gs.size/\U[0]?=some a/\
   stepT P (crowd U (w.at Y) T)=runT P (crowd U (w.at d) V) 0/\Leavers P W U q'/\Past Ad B W:=by
 intro X
 induction X with
 |zero=>intro gs a w sl t q B hX;omega
 |succ X S=>
  intro gs a w sl t q B hX l j hL F
  have u:∀g∈gs,awake g:=by
   intro g c
   obtain⟨i,hi,rfl⟩:=Array.mem_iff_getElem.1 c
   obtain rfl|o:=Nat.eq_zero_or_pos i
   .have:gs[0]=a:=(by simpa [v_ hi]using l);rw[this];exact awake_of (.inl j)
   .exact awake_of ((hL.old i _ o (v_ hi)).status.elim .inl λx=>.inr (.inr x))
  obtain⟨i,g,d,V,hi,c,D⟩:=crowd_pick (P:=P) (w:=w) (sl:=sl) u ⟨0,a,l,j⟩;have C:i<gs.size:=(y_.1 hi).1;obtain rfl|o:=Nat.eq_zero_or_pos i
  .exact⟨0,gs,w.drawn,d,sl,V,t,q,rfl,rfl,l,D,hL,F⟩
  .have hq:=hL.old i g o hi;have v:(i==0)=false:=(by simp;omega);cases hqi:q i with
   |zero=>rw[hqi]at hq;rw[hq.1]at c;cases c
   |succ k=>
    rw[hqi]at hq
    obtain⟨M,_⟩|⟨_,g',L,O,h,A⟩:=hq
    .rw[M]at c;cases c
    have H:=runT_crowd_go (P:=P) (sl:=V) (i:=i) hi (by rw[v];exact h (w.at d));have E:((gs.map (woken P g g' (w.at d))).setIfInBounds i g').size=gs.size:=sJ;have G:sumTo gs.size (upd q i k)+(k+1)=sumTo gs.size q+k:=by
     have:=sumTo_upd q k id C
     simpa [hqi]using this
    obtain⟨N,U,Y,d1,T,K,W,q',Q,J,p,f,r,s⟩:=S ((gs.map (woken P g g' (w.at d))).setIfInBounds i g') a (w.at d) V (t++MemOp.ofEvents i g.frame.fn g.frame.place L) (upd q i k) B (by rw[E];omega)
     (by
      have I:i≠0:=wB
      rw[z_ I,ik,l]
      simp[woken_run j]) j
     ⟨λx y m n=>by
      by_cases b:i=x
      .subst b;rw[lJ (by simpa using C)]at n;obtain rfl:=x_ n;rw[upd_same,Deaf_own];exact A
      .rw[z_ b,ik]at n;obtain⟨z,R,rfl⟩:=lT.1 n;have e:=hL.old x z m R;rw[woken_quitsD e,upd_ne q k (gJ b),Deaf_other t b _ Yv];exact e,λx m=>by
      rw[Deaf_other t (g':=i) (by simp at m;omega) _ Yv];exact hL.above x (by simpa using m)⟩
     (F.mute wB O)
    exact⟨N+1,U,Y,d1,T,K,W,q',by simp only[runNT,D,H];exact Q,J.trans E,p,f,r,s⟩
theorem xe {sl:d_ (W_)}{i:Nat}{g:m_}(hi:gs[i]?=some g)(c:stepG P (i==0) g w=.spawn g' child w' es):
  runT P (crowd gs w sl) i=(.next (crowd ((gs.setIfInBounds i g').push child) w' sl),MemOp.ofEvents i g.frame.fn g.frame.place es++#[{ g:=i,fn:=g.frame.fn,pos:=g.frame.place,act:=.go gs.size},{ g:=gs.size,fn:=child.frame.fn,pos:=g.frame.place,act:=.start}]):=by
 obtain⟨b,rfl⟩:=y_.1 hi;have a:=swapAt_of_lt b { (default:m_)with status:=.finished};show runT P { world:=w,gs:=gs,rest:={ timers:=#[],alone:=none,slice:=sl} } i=_;unfold runT;simp only[a,c,GStep.es];simp[crowd,Array.setIfInBounds,b];apply Array.ext';simp
theorem au3 {K K1:o_->Prop}{TT:Trace->Prop}{S:Array CommCase}{ah:CommShape}{home:m_->Prop}{k B:Nat}{O:m_}{sl:d_ (W_)}
  (L:Tz Z Still K1) (hS:∀l,Still l->l.isMemory=true) (T:∀l,Still l->¬Ad l) (V:gs[0]?=some a) (W:a.status=.running) (hL:Leavers P t gs q) (hP:Past Ad B t) (hB:w.heap.size<=B)
  (U:∀d,stepG P true a (w.at d)=.spawn O child (w.at d) es) (Y:∀e∈es,aN Ad Still B e) (υ:K1 w) (lu:∀Q,PX Ad Still (λg=>g=0\/g=gs.size) (λg=>g=0) B gs.size Q->TT Q) (rY:∀cc∈S,GG w cc) (J:O.status=.running) (M:Ho P true K Still S ah home k O):
  ∃(N:Nat) (R:Array m_) (d:Nat) (X:d_ (W_)) (Q:Trace) (q':Nat->Nat),runNT P N (crowd gs w sl) t=(.next (crowd R (w.at d) X),Q)/\R.size=gs.size+1/\R[gs.size]?=some child/\
   Duo P Ad Still (λg=>g=0\/g=gs.size) (λg=>g=0) B gs.size 0 (O0 P true K K1 TT Still S ah home) (k+1) R (w.at d) Q q':=by
 have C:0<gs.size:=(y_.1 V).1;obtain⟨N,p,I,d,G,z,f,q1,F,b,r,A,h,s⟩:=bJ (P:=P) (Ad:=Ad) (sumTo gs.size q+1) gs a w sl t q B wB V W hL hP;have y:=xe (P:=P) (sl:=z) (i:=0) r (show stepG P (0==0) a (w.at d)=_ from U d);have u:PX Ad Still (λg=>g=0) (λ_=>False) B 0 f:=PX.ofPast s hS T;have v:Deaf (f++MemOp.ofEvents 0 a.frame.fn a.frame.place es) gs.size=0:=by
  rw[Deaf_other f (g':=0) wB _ Yv]
  exact h.above gs.size wB
 have j:=((u.own (fn:=a.frame.fn) (pos:=a.frame.place) Y).born (c:=gs.size) rfl v a.frame.fn a.frame.place child.frame.fn).loosen (Loose':=λg=>g=0) (λ_ D=>D.elim);have o:∀g,Deaf (f++MemOp.ofEvents 0 a.frame.fn a.frame.place es++#[{ g:=0,fn:=a.frame.fn,pos:=a.frame.place,act:=.go gs.size},{ g:=gs.size,fn:=child.frame.fn,pos:=a.frame.place,act:=.start}]) g=Deaf (f++MemOp.ofEvents 0 a.frame.fn a.frame.place es) g:=λg=>Deaf_quiet (by
  intro op x d
  simp only[eu,r_,lG,or_false]at x
  obtain rfl|rfl:=x<;>rfl)
 rw[b]at y;refine⟨N+1,(p.setIfInBounds 0 O).push child,d,z,f++(MemOp.ofEvents 0 a.frame.fn a.frame.place es++#[{ g:=0,fn:=a.frame.fn,pos:=a.frame.place,act:=.go gs.size},{ g:=gs.size,fn:=child.frame.fn,pos:=a.frame.place,act:=.start}]),q1,runNT_succ_of F (A.trans y),by simp[b],?_,?_⟩
 .rw[Array.getElem?_push];simp[b]
 .rw[<-Array.append_assoc];refine⟨wB,.inr rfl,λg m=>m.elim .inr .inl,⟨O,?_,?_⟩,λi g E n m=>?_,λi hi=>?_,j,hB⟩
  .rw[Array.getElem?_push];simp[b,C];omega
  .refine⟨⟨L.keep w (w.at d) (λ_ _=>rfl) υ,?_⟩,rY,.inr ⟨k,rfl,J,M⟩⟩;exact lu _ j
  .have H:i<gs.size:=by
    have:=(y_.1 m).1
    simp[b]at this;omega
   rw[Array.getElem?_push,ru (by simp[b];omega),z_ (gJ n)]at m;rw[o,Deaf_other f (gJ n) _ Yv];exact h.old i g wB m
  .simp[b]at hi;rw[o,Deaf_other f (g':=0) wB _ Yv];exact h.above i wB
theorem go_duo (O:G8 P Z Ad Still (fun B t=>PX Ad Still Mem Am B h t) j By){Me Loose':Nat->Prop}{n B0:Nat}{sl:d_ (W_)}{Q:Array m_->o_->Trace->Prop}
  (h0:gs[h]?=some a) (BJ:a.status=.running) (D:Duo P Ad Still Mem Am B0 h j By n gs w t q) (hM':∀g,Me g->g=h\/g=j)
  (Tm:∀B,B0<=B->∀w1:o_,w1.heap.size<=B->∀n1 b1 Y,CS Z w w1->By n1 b1 w1 Y->PX Ad Still Mem Am B h Y->∀d,∃a' w' es B',stepG P (h==0) a (w1.at d)=.go a' w' es/\B<=B'/\w'.heap.size<=B'/\
   PX Ad Still Me Loose' B' h (Y++MemOp.ofEvents h a.frame.fn a.frame.place es)/\∃(By':Nat->m_->o_->Trace->Prop) (n2:Nat),By' n2 (woken P a a' w' b1) w' (Y++MemOp.ofEvents h a.frame.fn a.frame.place es)/\
   ∀BA q' n',BA.size=gs.size->BA[h]?=some a'->Duo P Ad Still Me Loose' B' h j By' n' BA w' (Y++MemOp.ofEvents h a.frame.fn a.frame.place es) q'->∀Em,AX P BA w' Em (Y++MemOp.ofEvents h a.frame.fn a.frame.place es) Q):AX P gs w sl t Q:=by
 obtain⟨N,f,w1,d,W,E,Y,q1,n1,U,l,F,T,⟨B,r,e⟩,I⟩:=ZH O (n+sumTo gs.size q+1) n gs a w sl t q B0 wB h0 BJ D;obtain⟨b,hb,hB⟩:=e.idle;obtain⟨a',w',es,B',u,R,K,v,By',n2,s,m⟩:=Tm B r w1 e.size n1 b Y T hB e.tr d;have H:h<f.size:=(y_.1 F).1;have J:=runT_crowd_go (P:=P) (sl:=E) (i:=h) F u;have c:((f.map (woken P a a' w')).setIfInBounds h a').size=gs.size:=by simp[l]
 obtain⟨L,p,w2,C,X,z,A,S⟩:=m ((f.map (woken P a a' w')).setIfInBounds h a') q1 n2 c (by simp[H]) ⟨e.ne,e.zero,hM',⟨_,by rw[z_ e.ne,ik,hb];rfl,s⟩,λk x o M G=>by
   rw[z_ (gJ o),ik]at G
   obtain⟨y,V,rfl⟩:=lT.1 G
   have hq:=e.JP k y o M V
   rw[woken_quitsD hq,Deaf_other Y (gJ o) _ Yv]
   exact hq,λk m=>by
   rw[c,<-l]at m
   rw[Deaf_other Y (g':=h) wB _ Yv]
   exact e.above k m,v,K⟩ E;refine⟨N+1+L,p,w2,C,X,?_,A.trans c,S⟩;rw[runNT_add,runNT_succ_of U (I.trans J)];exact z
end
def KK:Int:=4294967296
def P5 (a:f_):Event:=⟨.mark (.releaseMerge a),false,true⟩
def RG (a:f_):Event:=⟨.mark (.acquire a),false,true⟩
def JA:Event:=⟨.mark .disable,false,true⟩
def MJ:Event:=⟨.mark .enable,false,true⟩
def Ky (a:f_):Array Event:=#[⟨.cell a,false,true⟩,⟨.cell a,true,true⟩]
def BC (r:Nat)(pre:X_)(ty:j_)(w:o_)(st sm:Int):Prop:=w.heap[r]?=some (N_ (pre++#[.int .u64 st,.int .u32 sm]) ty)
def stA (r:Nat)(pre:X_):f_:=(S_ r pre.size)
def smA (r:Nat)(pre:X_):f_:=(S_ r (pre.size+1))
section
variable {r:Nat}{pre:X_}{ty:j_}{w:o_}{st sm:Int}
theorem BC.cellSt (h:BC r pre ty w st sm):w.cell? (stA r pre)=some (.int .u64 st):=by
 unfold World.cell? stA;unfold BC at h;simp only;rw[h];simp
theorem BC.cellSm (h:BC r pre ty w st sm):w.cell? (smA r pre)=some (.int .u32 sm):=by
 unfold World.cell? smA;unfold BC at h;simp only;rw[h];simp
theorem BC.QJ (h:BC r pre ty w st sm):w.frozen? (stA r pre)=false:=by
 unfold World.frozen? stA;unfold BC at h;simp only;rw[h];simp
theorem BC.uk (h:BC r pre ty w st sm):w.frozen? (smA r pre)=false:=by
 unfold World.frozen? smA;unfold BC at h;simp only;rw[h];simp
theorem BC.setSt (h:BC r pre ty w st sm)(b:Int):BC r pre ty (w.setCell (stA r pre) (.int .u64 b)) b sm:=by
 unfold BC at h ⊢;simp only[World.setCell,stA,iF,if_true,h,Option.map_some,l7];have:(pre++#[Value.int .u64 st,.int .u32 sm]).setIfInBounds pre.size (.int .u64 b)=pre++#[Value.int .u64 b,.int .u32 sm]:=by
  apply Array.ext'
  simp
 simp[this]
theorem BC.setSm (h:BC r pre ty w st sm)(b:Int):BC r pre ty (w.setCell (smA r pre) (.int .u32 b)) st b:=by
 unfold BC at h ⊢;simp only[World.setCell,smA,iF,if_true,h,Option.map_some,l7];have:(pre++#[Value.int .u64 st,.int .u32 sm]).setIfInBounds (pre.size+1) (.int .u32 b)=pre++#[Value.int .u64 st,.int .u32 b]:=by
  apply Array.ext'
  simp
 simp[this]
theorem BC.lt (h:BC r pre ty w st sm):r<w.heap.size:=(y_.1 h).1
theorem BC.keep (h:BC r pre ty w st sm)(c:Z r)(b:Js Z w w'):BC r pre ty w' st sm:=by
 unfold BC;rw[b r c];exact h
theorem BC.eq {d c:Int}(h:BC r pre ty w st sm)(e:BC r pre ty w d c):st=d/\sm=c:=by
 have a:=h.cellSt;have b:=h.cellSm;rw[e.cellSt]at a;rw[e.cellSm]at b;simp only[l7,Value.int.injEq,true_and]at a b;exact⟨a.symm,b.symm⟩
theorem Px {a:f_}(c:Z a.block)(x:n_)(d:Nat):CS Z w ((w.at d).setCell a x):=by
 refine⟨by simp[World.setCell,World.at],λk b=>?_,rfl,rfl,rfl⟩;have:a.block≠k:=λe=>b (e ▸ c)
 simp[World.setCell,World.at,iF,this]
end
theorem Il {a:f_}{x:n_}{d:Nat}:((w.at d).setCell a x).heap.size=w.heap.size:=by simp[World.setCell,World.at]
def DD (r:Nat)(pre:X_)(ty:j_)(w:o_):Prop:=∃st sm,BC r pre ty w st sm
theorem BC.is {pre:X_}{b sm:Int}(h:BC r pre ty w b sm)(d:Nat):DD r pre ty (w.at d):=⟨b,sm,h⟩
def Ls (P:l_)(J:o_->Prop)(main:Bool):Nat->m_->m_->Prop
 |0,g,g'=>g=g'
 |n+1,g,g'=>g.status=.running/\∃g1,(∀w,J w->stepG P main g w=.go g1 w #[])/\Ls P J main n g1 g'
theorem Ls.status {J:o_->Prop}{main:Bool}(b:g'.status=.running):∀{n:Nat} {g:m_},Ls P J main n g g'->g.status=.running
 |0,_,h=>h ▸ b
 |_+1,_,h=>h.1
def Lod (P:l_)(r:Nat)(pre:X_)(ty:j_):Nat->m_->m_->Prop
 |0,g,g'=>g=g'
 |n+1,g,g'=>g.status=.running/\∃g1 l,(l=[]\/l=[(⟨.cell (stA r pre),false,true⟩:Event)])/\(∀w,BC r pre ty w 1 0->stepG P false g w=.go g1 w l.toArray)/\Lod P r pre ty n g1 g'
theorem Lod.status {pre:X_}(b:g'.status=.running):∀{n:Nat} {g:m_},Lod P r pre ty n g g'->g.status=.running
 |0,_,h=>h ▸ b
 |_+1,_,h=>h.1
structure SY where
 gR:m_
 gR':m_
 gD:m_
 gD':m_
 gA:m_
 gF:m_
 gW:m_
 gS:m_
 gS':m_
 gP:m_
 gP':m_
 k1:Nat
 k2:Nat
 k3:Nat
 k4:Nat
 nF:Nat
 nP:Nat
structure O3 (P:l_)(r:Nat)(pre:X_)(ty:j_)(o:SY):Prop where
 runs:o.gR.status=.running/\o.gD.status=.running/\o.gA.status=.running/\o.gS.status=.running/\o.gP.status=.running
 rel:∀w,stepG P false o.gR w=.go o.gR' w #[P5 (stA r pre)]
 s1:Ls P (DD r pre ty) false o.k1 o.gR' o.gD
 ax:∀w,stepG P false o.gD w=.go o.gD' w #[JA]
 s2:Ls P (DD r pre ty) false o.k2 o.gD' o.gA
 add0:∀w,w.cell? (stA r pre)=some (.int .u64 KK)->w.frozen? (stA r pre)=false->stepG P false o.gA w=.go o.gF (w.setCell (stA r pre) (.int .u64 0)) (Ky (stA r pre))
 fin0:QuitsD P o.nF 1 o.gF
 add1:∀w,w.cell? (stA r pre)=some (.int .u64 (KK+1))->w.frozen? (stA r pre)=false->stepG P false o.gA w=.go o.gW (w.setCell (stA r pre) (.int .u64 1)) (Ky (stA r pre))
 s3:Lod P r pre ty o.k3 o.gW o.gS
 sto:∀w,w.cell? (stA r pre)=some (.int .u64 1)->w.frozen? (stA r pre)=false->stepG P false o.gS w=.go o.gS' (w.setCell (stA r pre) (.int .u64 0)) #[⟨.cell (stA r pre),true,true⟩]
 s4:Ls P (DD r pre ty) false o.k4 o.gS' o.gP
 sem:∀w,w.cell? (smA r pre)=some (.int .u32 0)->w.frozen? (smA r pre)=false->stepG P false o.gP w=.go o.gP' (w.setCell (smA r pre) (.int .u32 1)) (semEvents (smA r pre))
 fin1:QuitsD P o.nP 1 o.gP'
 wake:mayWake P o.gP=true/\o.gP'.status=.running
def LY (r:Nat)(pre:X_)(l:Loc):Prop:=l=.cell (stA r pre)\/l=.cell (smA r pre)
structure OU (c:Nat)(r:Nat)(pre:X_)(m:Nat)(t:Trace):Prop where
 at_:∃op,t[m]?=some op/\op.g=c/\op.act=.mark (.releaseMerge (stA r pre))
 heard:t.deaf c m=0
 after:∀i b,m<=i->touchAt t i=some b->t.g? i=some c->LY r pre b.loc/\b.kind=.atomic/\¬t.heard i
 norel:∀k,m<k->t.act? k≠some (.mark (.release (stA r pre)))
def KI (c r:Nat)(pre:X_)(t:Trace):Prop:=∀i a,touchAt t i=some a->LY r pre a.loc->a.kind=.plain->Knows t c i
section
variable {P:l_}{Z:Nat->Prop}{Ad Still:Loc->Prop}{r:Nat}{pre:X_}{ty:j_}{c m:Nat}{t u:Trace}{o:SY}
theorem KI.app (h:KI c r pre t)(n:∀op∈u,∀b,op.act.touch?=some b->LY r pre b.loc->b.kind≠.plain):KI c r pre (t++u):=by
 intro i a k f e;obtain⟨x,l,d⟩:=touch_of k;obtain⟨_,g⟩|⟨_,j⟩:=getElem?_append_cases l
 .exact(h i a (by rw[touchAt_of g];exact d) f e).app u
 .exact(n x j a d f e).elim
theorem OU.app (h:OU c r pre m t)(G:∀op∈u,op.act≠.mark (.release (stA r pre)))(F:∀k op b,u[k]?=some op->op.g=c->op.act.touch?=some b->LY r pre b.loc/\b.kind=.atomic/\(t++u).deaf c (t.size+k)≠0):OU c r pre m (t++u):=by
 obtain⟨op,v,C,f⟩:=h.at_;have w:=lt_size_of_getElem? v;refine⟨⟨op,by rw[getElem?_append_old w];exact v,C,f⟩,by rw[deaf_old (Nat.le_of_lt w)];exact h.heard,λi b hi hb a=>?_,λk D e=>?_⟩
 .obtain⟨x,l,d⟩:=touch_of hb;obtain⟨p,n⟩|⟨q,_⟩:=getElem?_append_cases l
  .rw[g?_old p]at a;have:=h.after i b hi (by rw[touchAt_of n];exact d) a;exact⟨this.1,this.2.1,by rw[heard_old p];exact this.2.2⟩
  .have o:u[i-t.size]?=some x:=by
    rw[<-l,Array.getElem?_append_right q]
   have s:x.g=c:=(by rw[g?_of l]at a;exact x_ a);obtain⟨A,B,y⟩:=F (i-t.size) x b o s d;refine⟨A,B,?_⟩;rintro⟨E,j,z⟩;rw[a]at j;obtain rfl:=x_ j;rw[show t.size+(i-t.size)=i from by omega]at y;exact y z
 .obtain⟨x,l,d⟩:=lT.1 (show((t++u)[k]?).map (·.act)=_ from e);obtain⟨p,n⟩|⟨_,o⟩:=getElem?_append_cases l
  .exact h.norel k D (by rw[act?_of n,d])
  .exact G x o d
theorem OU.calm (h:OU c r pre m t)(e:Yn Ad Still c u):OU c r pre m (t++u):=
 h.app (λop a=>(e op a).2.2.1 _) λ_ op _ d b _=>((e op (Array.mem_of_getElem? d)).1 b).elim
theorem KI.calm (h:KI c r pre t)(e:∀l,LY r pre l->Ad l)(f:Yn Ad Still c u):KI c r pre (t++u):=
 h.app λop a b hb d=>((f op a).2.1 b hb).2 (e _ d)
end
def iZ (P:l_)(c r:Nat)(pre:X_)(ty:j_)(o:SY)(w0:Bool)(n:Nat)(g:m_)(w:o_)(t:Trace):Prop:=
 KI c r pre t/\
 ((∃k,n=k+(o.k1+o.k2+o.k3+o.k4+o.nF+o.nP+10)/\Ls P (DD r pre ty) false k g o.gR/\BC r pre ty w (if w0 then KK+1 else KK) 0/\Deaf t c=0)\/
  (∃m k,n=k+(o.k2+o.k3+o.k4+o.nF+o.nP+8)/\Ls P (DD r pre ty) false k g o.gD/\BC r pre ty w (if w0 then KK+1 else KK) 0/\Deaf t c=0/\OU c r pre m t)\/
  (∃m k,n=k+(o.k3+o.k4+o.nF+o.nP+6)/\Ls P (DD r pre ty) false k g o.gA/\BC r pre ty w (if w0 then KK+1 else KK) 0/\Deaf t c=1/\OU c r pre m t)\/
  (w0=false/\∃m,QuitsD P n (Deaf t c) g/\BC r pre ty w 0 0/\OU c r pre m t)\/
  (w0=true/\∃m k,n=k+(o.k4+o.nP+4)/\Lod P r pre ty k g o.gS/\BC r pre ty w 1 0/\Deaf t c=1/\OU c r pre m t)\/
  (w0=true/\∃m k,n=k+(o.nP+2)/\Ls P (DD r pre ty) false k g o.gP/\BC r pre ty w 0 0/\Deaf t c=1/\OU c r pre m t)\/
  (w0=true/\∃m,QuitsD P n (Deaf t c) g/\BC r pre ty w 0 1/\OU c r pre m t))
section
variable {P:l_}{Z:Nat->Prop}{Ad Still:Loc->Prop}{Mem Am:Nat->Prop}{r:Nat}{pre:X_}{ty:j_}{c B:Nat}{t:Trace}{o:SY}{w0:Bool}
theorem DY (g:Nat)(fn:h_)(pos:String):t++MemOp.ofEvents g fn pos #[]=t:=by simp[MemOp.ofEvents]
theorem UQ (H:PX Ad Still Mem Am B 0 t)(f:¬Mem c)(d:∀e∈es,(MemAct.ofEvent e).touch?=none/\(MemAct.ofEvent e).low B):PX Ad Still Mem Am B 0 (t++MemOp.ofEvents c fn pos es):=
 H.appMute Yv (λop a=>by obtain⟨e,b,rfl⟩:=p_ a;exact(d e b).1) (λx=>(f x).elim) (λop a=>by obtain⟨e,b,rfl⟩:=p_ a;exact(d e b).2)
theorem FI (H:KI c r pre t){g:Nat}(f:∀e∈es,∀b,(MemAct.ofEvent e).touch?=some b->b.kind≠.plain):KI c r pre (t++MemOp.ofEvents g fn pos es):=
 H.app λop a b hb _=>by obtain⟨e,d,rfl⟩:=p_ a;exact f e d b hb
theorem Ρ (t:Trace)(g:Nat)(fn:h_)(pos:String):∀(l:List Event)(k:Nat),k<=l.length->(t++MemOp.ofEvents g fn pos l.toArray).deaf g (t.size+k)=deafBehind (Deaf t g) (l.take k).toArray:=by
 intro l k
 induction k with
 |zero=>intro _;simp only[Nat.add_zero,List.take_zero];rw[deaf_old w_];rfl
 |succ k c=>
  intro f
  have b:(t++MemOp.ofEvents g fn pos l.toArray)[t.size+k]?=some { g:=g,fn:=fn,pos:=pos,act:=.ofEvent l[k]}:=by
   rw[at_new,ofEvents_eq]
   simp[List.getElem?_eq_getElem (show k<l.length by omega)]
  rw[<-Nat.add_assoc,deaf_succ b,c wB,List.take_succ_eq_append_getElem wB]
  simp only[deafBehind,List.foldl_toArray',List.foldl_append,List.foldl_cons,List.foldl_nil]
  generalize List.foldl _ (Deaf t g) (List.take k l)=x
  cases hl:l[k]with
  |mk a wr e=>
   cases a with
   |obj q=>cases wr<;>cases e<;>rfl
   |mark d=>cases d<;>simp[deafStep,MemAct.ofEvent]
   |_=>rfl
theorem UR (H:PX Ad Still Mem Am B 0 t)(i:∀l,LY r pre l->Ad l/\¬Still l)(h:¬Mem c)(hN:KI c r pre t)
  (g:∀e∈l,(∀b,(MemAct.ofEvent e).touch?=some b->LY r pre b.loc/\b.kind=.atomic)/\(MemAct.ofEvent e).low B) (j:∀k,k<l.length->deafBehind (Deaf t c) (l.take k).toArray≠0):PX Ad Still Mem Am B 0 (t++MemOp.ofEvents c fn pos l.toArray):=by
 refine H.bm8 (W:=LY r pre) i hN h Yv (λop a b hb=>?_) (λk f=>?_) (λop a=>?_)
 .obtain⟨e,d,rfl⟩:=p_ a;exact(g e (by simpa using d)).1 b hb
 .have:k<l.length:=by rw[ofEvents_eq]at f;simpa using f
  rw[Ρ _ _ _ _ _ _ wB];exact j k this
 .obtain⟨e,d,rfl⟩:=p_ a;exact(g e (by simpa using d)).2
theorem PG (H:OU c r pre m t)
  (i:∀e∈l,(∀b,(MemAct.ofEvent e).touch?=some b->LY r pre b.loc/\b.kind=.atomic)/\MemAct.ofEvent e≠.mark (.release (stA r pre))) (j:∀k,k<l.length->deafBehind (Deaf t c) (l.take k).toArray≠0):OU c r pre m (t++MemOp.ofEvents c fn pos l.toArray):=by
 refine H.app (λop g=>?_) (λk op b f _ hb=>?_)
 .obtain⟨e,a,rfl⟩:=p_ g;exact(i e (by simpa using a)).2
 .have h:k<l.length:=by
   have:=(y_.1 f).1
   rw[ofEvents_eq]at this;simpa using this
  obtain⟨e,a,rfl⟩:=p_ (Array.mem_of_getElem? f);have d:=(i e (by simpa using a)).1 b hb;exact⟨d.1,d.2,by rw[Ρ _ _ _ _ _ _ wB];exact j k h⟩
theorem RV (H:OU c r pre m t)(g:∀e∈es,(MemAct.ofEvent e).touch?=none/\MemAct.ofEvent e≠.mark (.release (stA r pre))):OU c r pre m (t++MemOp.ofEvents c fn pos es):=
 H.app (λop d=>by obtain⟨e,a,rfl⟩:=p_ d;exact(g e a).2) (λk op b f _ hb=>by
  obtain⟨e,a,rfl⟩:=p_ (Array.mem_of_getElem? f)
  rw[(g e a).1]at hb;cases hb)
theorem Wq (h:∀e∈es,e.mute=true)(a:f_):∀e∈es,(MemAct.ofEvent e).touch?=none/\MemAct.ofEvent e≠.mark (.release a):=λe c=>by
 refine⟨touch_mute (h e c),?_⟩;have:=h e c;obtain⟨b,wr,f⟩:=e;cases b<;>simp[Event.mute]at this;rename_i d;cases d<;>simp[MemAct.ofEvent]at this ⊢
theorem ba6 (O:O3 P r pre ty o)(hZ:Z r)(hW:∀l,LY r pre l->Ad l/\¬Still l)(hc:c≠0)(hM:¬Mem c):G8 P Z Ad Still (λB t=>PX Ad Still Mem Am B 0 t) c (iZ P c r pre ty o w0) where
 status:=by
  rintro n g w t ⟨_,⟨k,rfl,f,_⟩|⟨m,k,rfl,f,_⟩|⟨m,k,rfl,f,_⟩|⟨_,m,hq,_⟩|⟨_,m,k,rfl,f,_⟩|⟨_,m,k,rfl,f,_⟩|⟨_,m,hq,_⟩⟩
  .exact .inl ⟨f.status O.runs.1,wB⟩
  .exact .inl ⟨f.status O.runs.2.1,wB⟩
  .exact .inl ⟨f.status O.runs.2.2.1,wB⟩
  .cases n with
   |zero=>exact .inr (.inr hq.1)
   |succ n=>exact hq.status.elim (λx=>.inl ⟨x,wB⟩) λx=>.inr (.inr x)
  .exact .inl ⟨f.status O.runs.2.2.2.1,wB⟩
  .exact .inl ⟨f.status O.runs.2.2.2.2,wB⟩
  .cases n with
   |zero=>exact .inr (.inr hq.1)
   |succ n=>exact hq.status.elim (λx=>.inl ⟨x,wB⟩) λx=>.inr (.inr x)
 again:=by
  rintro n g w t ⟨_,⟨k,rfl,f,_⟩|⟨m,k,rfl,f,_⟩|⟨m,k,rfl,f,_⟩|⟨_,m,hq,_⟩|⟨_,m,k,rfl,f,_⟩|⟨_,m,k,rfl,f,_⟩|⟨_,m,hq,_⟩⟩ w' _
  .exact again_running _ (.inl (f.status O.runs.1))
  .exact again_running _ (.inl (f.status O.runs.2.1))
  .exact again_running _ (.inl (f.status O.runs.2.2.1))
  .exact again_running _ hq.status
  .exact again_running _ (.inl (f.status O.runs.2.2.2.1))
  .exact again_running _ (.inl (f.status O.runs.2.2.2.2))
  .exact again_running _ hq.status
 calm:=by
  intro n g w t w' u h H Q
  have C:Deaf (t++u) c=Deaf t c:=Deaf_quiet λop A8 d=>by
   have CX:=(Q op A8).1
   obtain⟨g,fn,pos,act⟩:=op
   simp only at CX
   cases act with
   |mark mm=>cases mm<;>simp[deafStep,CX]
   |_=>rfl
  obtain⟨hN,h⟩:=h
  refine⟨hN.calm (λl W=>(hW l W).1) Q,?_⟩
  rw[C]
  obtain⟨k,y,z,L,M⟩|⟨m,k,y,z,L,M,R⟩|⟨m,k,y,z,L,M,R⟩|⟨E,m,y,z,L⟩|⟨E,m,k,y,z,L,M,R⟩|⟨E,m,k,y,z,L,M,R⟩|⟨E,m,y,z,L⟩:=h
  .exact .inl ⟨k,y,z,L.keep hZ H,M⟩
  .exact .inr (.inl ⟨m,k,y,z,L.keep hZ H,M,R.calm Q⟩)
  .exact .inr (.inr (.inl ⟨m,k,y,z,L.keep hZ H,M,R.calm Q⟩))
  .exact .inr (.inr (.inr (.inl ⟨E,m,y,z.keep hZ H,L.calm Q⟩)))
  .exact .inr (.inr (.inr (.inr (.inl ⟨E,m,k,y,z,L.keep hZ H,M,R.calm Q⟩))))
  .exact .inr (.inr (.inr (.inr (.inr (.inl ⟨E,m,k,y,z,L.keep hZ H,M,R.calm Q⟩)))))
  .exact .inr (.inr (.inr (.inr (.inr (.inr ⟨E,m,y,z.keep hZ H,L.calm Q⟩)))))
 step:=by
  intro n g w t B h N K hB d
  have hc0:(c==0)=false:=by simpa using hc
  rw[hc0]
  refine .inl ?_
  obtain⟨hN,h⟩:=h
  have J:Js Z w (w.at d):=λ_ _=>rfl
  have A:∀{k:Nat} {T:m_},Ls P (DD r pre ty) false (k+1) g T->DD r pre ty (w.at d)->∃I,stepG P false g (w.at d)=.go I (w.at d) #[]/\Ls P (DD r pre ty) false k I T:=λf hJ=>by
   obtain⟨_,I,y,z⟩:=f
   exact⟨I,y _ hJ,z⟩
  obtain⟨k,rfl,f,q,C⟩|⟨m,k,rfl,f,q,C,G⟩|⟨m,k,rfl,f,q,C,G⟩|⟨E,m,hq,q,G⟩|⟨E,m,k,rfl,f,q,C,G⟩|⟨E,m,k,rfl,f,q,C,G⟩|⟨E,m,hq,q,G⟩:=h
  .cases k with
   |succ k=>
    obtain⟨I,y,z⟩:=A f (q.is d)
    exact⟨k+(o.k1+o.k2+o.k3+o.k4+o.nF+o.nP+10),I,w.at d,#[],wB,y,CS.at w d,⟨B,w_,hB,by rw[DY];exact K⟩,by rw[DY];exact⟨hN,.inl ⟨k,rfl,z,q.keep hZ J,C⟩⟩⟩
   |zero=>
    obtain rfl:g=o.gR:=f
    have p:r<B:=by have:=q.lt;omega
    have X:∀e∈#[P5 (stA r pre)],(MemAct.ofEvent e).touch?=none/\(MemAct.ofEvent e).low B:=by
     intro e a
     simp at a;subst a
     exact⟨rfl,p⟩
    refine⟨o.k1+(o.k2+o.k3+o.k4+o.nF+o.nP+8),o.gR',w.at d,_,wB,O.rel _,CS.at w d,⟨B,w_,hB,UQ K hM X⟩,FI hN (λe a b hb=>by rw[(X e a).1]at hb;cases hb),.inr (.inl ⟨t.size,o.k1,rfl,O.s1,q.keep hZ J,?_,?_⟩)⟩
    .rw[Deaf_own,C];rfl
    .have e0:(t++MemOp.ofEvents c o.gR.frame.fn o.gR.frame.place #[P5 (stA r pre)])[t.size]?=some { g:=c,fn:=o.gR.frame.fn,pos:=o.gR.frame.place,act:=.mark (.releaseMerge (stA r pre))}:=by
      have:=at_new t (MemOp.ofEvents c o.gR.frame.fn o.gR.frame.place #[P5 (stA r pre)]) 0
      rw[Nat.add_zero]at this
      rw[this,ofEvents_eq];simp[P5,MemAct.ofEvent]
     have Cm:(t++MemOp.ofEvents c o.gR.frame.fn o.gR.frame.place #[P5 (stA r pre)]).size=t.size+1:=(by rw[Array.size_append,ofEvents_eq];simp);refine⟨⟨_,e0,rfl,rfl⟩,by rw[deaf_old w_];exact C,λi b hi hb _=>?_,λk H e=>?_⟩
     .obtain⟨x,Y,Fp⟩:=touch_of hb;have:=lt_size_of_getElem? Y;obtain rfl:i=t.size:=wB;rw[e0]at Y;rw[<-x_ Y]at Fp;cases Fp
     .obtain⟨x,Y,_⟩:=lT.1 (show((t++MemOp.ofEvents c o.gR.frame.fn o.gR.frame.place #[P5 (stA r pre)])[k]?).map (·.act)=_ from e);have:=lt_size_of_getElem? Y;omega
  .cases k with
   |succ k=>
    obtain⟨I,y,z⟩:=A f (q.is d)
    exact⟨k+(o.k2+o.k3+o.k4+o.nF+o.nP+8),I,w.at d,#[],wB,y,CS.at w d,⟨B,w_,hB,by rw[DY];exact K⟩,by rw[DY];exact⟨hN,.inr (.inl ⟨m,k,rfl,z,q.keep hZ J,C,G⟩)⟩⟩
   |zero=>
    obtain rfl:g=o.gD:=f
    have X:∀e∈#[JA],(MemAct.ofEvent e).touch?=none/\(MemAct.ofEvent e).low B:=by
     intro e a
     simp at a;subst a
     exact⟨rfl,dE⟩
    have hn2:∀e∈#[JA],(MemAct.ofEvent e).touch?=none/\MemAct.ofEvent e≠.mark (.release (stA r pre)):=by
     intro e a
     simp at a;subst a
     exact⟨rfl,by simp[JA,MemAct.ofEvent]⟩
    refine⟨o.k2+(o.k3+o.k4+o.nF+o.nP+6),o.gD',w.at d,_,wB,O.ax _,CS.at w d,⟨B,w_,hB,UQ K hM X⟩,FI hN (λe a b hb=>by rw[(X e a).1]at hb;cases hb),.inr (.inr (.inl ⟨m,o.k2,rfl,O.s2,q.keep hZ J,?_,RV G hn2⟩))⟩
    rw[Deaf_own,C];rfl
  .cases k with
   |succ k=>
    obtain⟨I,y,z⟩:=A f (q.is d)
    exact⟨k+(o.k3+o.k4+o.nF+o.nP+6),I,w.at d,#[],wB,y,CS.at w d,⟨B,w_,hB,by rw[DY];exact K⟩,by rw[DY];exact⟨hN,.inr (.inr (.inl ⟨m,k,rfl,z,q.keep hZ J,C,G⟩))⟩⟩
   |zero=>
    obtain rfl:g=o.gA:=f
    have j:=q.keep hZ J
    have p:r<B:=by have:=q.lt;omega
    have F:∀e∈[(⟨.cell (stA r pre),false,true⟩:Event),⟨.cell (stA r pre),true,true⟩],(∀b,(MemAct.ofEvent e).touch?=some b->LY r pre b.loc/\b.kind=.atomic)/\(MemAct.ofEvent e).low B:=by
     intro e a
     simp at a
     obtain rfl|rfl:=a<;>exact⟨λb hb=>by obtain rfl:=x_ hb;exact⟨.inl rfl,rfl⟩,p⟩
    have v:∀e∈[(⟨.cell (stA r pre),false,true⟩:Event),⟨.cell (stA r pre),true,true⟩],(∀b,(MemAct.ofEvent e).touch?=some b->LY r pre b.loc/\b.kind=.atomic)/\MemAct.ofEvent e≠.mark (.release (stA r pre)):=by
     intro e a
     refine⟨(F e a).1,?_⟩
     simp at a
     obtain rfl|rfl:=a<;>simp[MemAct.ofEvent]
    have s:∀k,k < [(⟨.cell (stA r pre),false,true⟩:Event),⟨.cell (stA r pre),true,true⟩].length->deafBehind (Deaf t c) ([(⟨.cell (stA r pre),false,true⟩:Event),⟨.cell (stA r pre),true,true⟩].take k).toArray≠0:=by
     intro k H
     rw[C]
     simp only[List.length_cons,List.length_nil]at H
     obtain _|_|k:=k
     .simp[deafBehind]
     .simp[deafBehind]
     .omega
    have rM:∀e∈Ky (stA r pre),∀b,(MemAct.ofEvent e).touch?=some b->b.kind≠.plain:=λe a b hb=>by
     have:=((F e (by simpa [Ky]using a)).1 b hb).2
     rw[this];simp
    have U:Deaf (t++MemOp.ofEvents c o.gA.frame.fn o.gA.frame.place (Ky (stA r pre))) c=1:=(by rw[Deaf_own,C];rfl);cases w0 with
    |false=>
     simp only[jb,if_false]at q j
     refine⟨o.nF,o.gF,(w.at d).setCell (stA r pre) (.int .u64 0),Ky (stA r pre),wB,O.add0 _ j.cellSt j.QJ,Px hZ _ d,⟨B,w_,by rw[Il];exact hB,UR (l:=[_,_]) K hW hM hN F s⟩,FI hN rM,.inr (.inr (.inr (.inl ⟨rfl,m,?_,j.setSt 0,PG (l:=[_,_]) G v s⟩)))⟩
     rw[U];exact O.fin0
    |true=>
     simp only[if_true]at q j
     refine⟨o.k3+(o.k4+o.nP+4),o.gW,(w.at d).setCell (stA r pre) (.int .u64 1),Ky (stA r pre),wB,O.add1 _ j.cellSt j.QJ,Px hZ _ d,⟨B,w_,by rw[Il];exact hB,UR (l:=[_,_]) K hW hM hN F s⟩,FI hN rM,.inr (.inr (.inr (.inr (.inl ⟨rfl,m,o.k3,rfl,O.s3,j.setSt 1,U,PG (l:=[_,_]) G v s⟩))))⟩
  .cases n with
   |zero=>rw[hq.1]at N;cases N
   |succ n=>
    obtain⟨hf,_⟩|⟨_,T,es,D,BX,S⟩:=hq
    .rw[hf]at N;cases N
    .refine⟨n,T,w.at d,es,wB,BX _,CS.at w d,⟨B,w_,hB,UQ K hM (λe a=>⟨touch_mute (D e a),low_mute (D e a) B⟩)⟩,FI hN (λe a b hb=>by rw[touch_mute (D e a)]at hb;cases hb),.inr (.inr (.inr (.inl ⟨E,m,?_,q.keep hZ J,RV G (Wq D _)⟩)))⟩;rw[Deaf_own];exact S
  .cases k with
   |succ k=>
    obtain⟨_,I,l,W,y,z⟩:=f
    have p:r<B:=by have:=q.lt;omega
    have V:∀e∈l,e=(⟨.cell (stA r pre),false,true⟩:Event):=by
     intro e a
     obtain rfl|rfl:=W
     .cases a
     .simpa using a
    have F:∀e∈l,(∀b,(MemAct.ofEvent e).touch?=some b->LY r pre b.loc/\b.kind=.atomic)/\(MemAct.ofEvent e).low B:=by
     intro e a
     obtain rfl:=V e a
     exact⟨λb hb=>by obtain rfl:=x_ hb;exact⟨.inl rfl,rfl⟩,p⟩
    have v:∀e∈l,(∀b,(MemAct.ofEvent e).touch?=some b->LY r pre b.loc/\b.kind=.atomic)/\MemAct.ofEvent e≠.mark (.release (stA r pre)):=by
     intro e a
     refine⟨(F e a).1,?_⟩
     obtain rfl:=V e a
     simp[MemAct.ofEvent]
    have s:∀k,k<l.length->deafBehind (Deaf t c) (l.take k).toArray≠0:=by
     intro k H
     have:l.length<=1:=by obtain rfl|rfl:=W<;>simp
     obtain rfl:k=0:=wB
     rw[C];simp[deafBehind]
    refine⟨k+(o.k4+o.nP+4),I,w.at d,l.toArray,wB,y _ (q.keep hZ J),CS.at w d,⟨B,w_,hB,UR K hW hM hN F s⟩,FI hN (λe a b hb=>by
      have:=((F e (by simpa using a)).1 b hb).2
      rw[this];simp),.inr (.inr (.inr (.inr (.inl ⟨E,m,k,rfl,z,q.keep hZ J,?_,PG G v s⟩))))⟩;rw[Deaf_own,C];obtain rfl|rfl:=W<;>rfl
   |zero=>
    obtain rfl:g=o.gS:=f
    have j:=q.keep hZ J
    have p:r<B:=by have:=q.lt;omega
    have F:∀e∈[(⟨.cell (stA r pre),true,true⟩:Event)],(∀b,(MemAct.ofEvent e).touch?=some b->LY r pre b.loc/\b.kind=.atomic)/\(MemAct.ofEvent e).low B:=by
     intro e a
     simp at a
     subst a
     exact⟨λb hb=>by obtain rfl:=x_ hb;exact⟨.inl rfl,rfl⟩,p⟩
    have v:∀e∈[(⟨.cell (stA r pre),true,true⟩:Event)],(∀b,(MemAct.ofEvent e).touch?=some b->LY r pre b.loc/\b.kind=.atomic)/\MemAct.ofEvent e≠.mark (.release (stA r pre)):=by
     intro e a
     refine⟨(F e a).1,?_⟩
     simp at a
     subst a
     simp[MemAct.ofEvent]
    have s:∀k,k < [(⟨.cell (stA r pre),true,true⟩:Event)].length->deafBehind (Deaf t c) ([(⟨.cell (stA r pre),true,true⟩:Event)].take k).toArray≠0:=by
     intro k H
     rw[C]
     simp only[List.length_cons,List.length_nil]at H
     obtain _|k:=k
     .simp[deafBehind]
     .omega
    refine⟨o.k4+(o.nP+2),o.gS',(w.at d).setCell (stA r pre) (.int .u64 0),#[⟨.cell (stA r pre),true,true⟩],wB,O.sto _ j.cellSt j.QJ,Px hZ _ d,⟨B,w_,by rw[Il];exact hB,UR (l:=[_]) K hW hM hN F s⟩,FI hN (λe a b hb=>by
      have:=((F e (by simpa using a)).1 b hb).2
      rw[this];simp),.inr (.inr (.inr (.inr (.inr (.inl ⟨E,m,o.k4,rfl,O.s4,j.setSt 0,?_,PG (l:=[_]) G v s⟩)))))⟩;rw[Deaf_own,C];rfl
  .cases k with
   |succ k=>
    obtain⟨I,y,z⟩:=A f (q.is d)
    exact⟨k+(o.nP+2),I,w.at d,#[],wB,y,CS.at w d,⟨B,w_,hB,by rw[DY];exact K⟩,by rw[DY];exact⟨hN,.inr (.inr (.inr (.inr (.inr (.inl ⟨E,m,k,rfl,z,q.keep hZ J,C,G⟩)))))⟩⟩
   |zero=>
    obtain rfl:g=o.gP:=f
    have j:=q.keep hZ J
    have p:r<B:=by have:=q.lt;omega
    have F:∀e∈[(⟨.mark .disable,false,true⟩:Event),⟨.cell (smA r pre),false,true⟩,⟨.cell (smA r pre),true,true⟩,⟨.mark .enable,false,true⟩],(∀b,(MemAct.ofEvent e).touch?=some b->LY r pre b.loc/\b.kind=.atomic)/\(MemAct.ofEvent e).low B:=by
     intro e a
     simp at a
     obtain rfl|rfl|rfl|rfl:=a
     .exact⟨λb hb=>(by cases hb),dE⟩
     .exact⟨λb hb=>by obtain rfl:=x_ hb;exact⟨.inr rfl,rfl⟩,p⟩
     .exact⟨λb hb=>by obtain rfl:=x_ hb;exact⟨.inr rfl,rfl⟩,p⟩
     .exact⟨λb hb=>(by cases hb),dE⟩
    have v:∀e∈[(⟨.mark .disable,false,true⟩:Event),⟨.cell (smA r pre),false,true⟩,⟨.cell (smA r pre),true,true⟩,⟨.mark .enable,false,true⟩],(∀b,(MemAct.ofEvent e).touch?=some b->LY r pre b.loc/\b.kind=.atomic)/\MemAct.ofEvent e≠.mark (.release (stA r pre)):=by
     intro e a
     refine⟨(F e a).1,?_⟩
     simp at a
     obtain rfl|rfl|rfl|rfl:=a<;>simp[MemAct.ofEvent]
    have s:∀k,k < [(⟨.mark .disable,false,true⟩:Event),⟨.cell (smA r pre),false,true⟩,⟨.cell (smA r pre),true,true⟩,⟨.mark .enable,false,true⟩].length->deafBehind (Deaf t c) ([(⟨.mark .disable,false,true⟩:Event),⟨.cell (smA r pre),false,true⟩,⟨.cell (smA r pre),true,true⟩,⟨.mark .enable,false,true⟩].take k).toArray≠0:=by
     intro k H
     rw[C]
     simp only[List.length_cons,List.length_nil]at H
     obtain _|_|_|_|k:=k
     .simp[deafBehind]
     .simp[deafBehind]
     .simp[deafBehind]
     .simp[deafBehind]
     .omega
    refine⟨o.nP,o.gP',(w.at d).setCell (smA r pre) (.int .u32 1),semEvents (smA r pre),wB,O.sem _ j.cellSm j.uk,Px hZ _ d,⟨B,w_,by rw[Il];exact hB,UR (l:=[_,_,_,_]) K hW hM hN F s⟩,FI hN (λe a b hb=>by
      have:=((F e (by simpa [semEvents]using a)).1 b hb).2
      rw[this];simp),.inr (.inr (.inr (.inr (.inr (.inr ⟨E,m,?_,j.setSm 1,PG (l:=[_,_,_,_]) G v s⟩)))))⟩;rw[Deaf_own,C];exact O.fin1
  .cases n with
   |zero=>rw[hq.1]at N;cases N
   |succ n=>
    obtain⟨hf,_⟩|⟨_,T,es,D,BX,S⟩:=hq
    .rw[hf]at N;cases N
    .refine⟨n,T,w.at d,es,wB,BX _,CS.at w d,⟨B,w_,hB,UQ K hM (λe a=>⟨touch_mute (D e a),low_mute (D e a) B⟩)⟩,FI hN (λe a b hb=>by rw[touch_mute (D e a)]at hb;cases hb),.inr (.inr (.inr (.inr (.inr (.inr ⟨E,m,?_,q.keep hZ J,RV G (Wq D _)⟩)))))⟩;rw[Deaf_own];exact S
end
end Go.Fxa
