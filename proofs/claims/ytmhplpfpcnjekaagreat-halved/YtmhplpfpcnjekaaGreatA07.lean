/- The channel 'quit' is closed: -/
import Derived.Test.YtmhplpfpcnjekaaGreatA06
namespace Go.Fxa
open Go.Conc
open Go.ConcN (sumTo upd sumTo_upd upd_ne upd_same)
variable {u t:Trace}{w w':o_}{st:Int}{x j n B:Nat}{Z':Nat->Prop}{X2:o_->Prop}{g:m_}{gs:Array m_}{q:Nat->Nat}
section
variable {Ad Still:Loc->Prop}{Mem Am:Nat->Prop}{B h:Nat}{t u:Trace}
def TY (Still:Loc->Prop)(c:Nat)(t:Trace):Prop:=∀i a,touchAt t i=some a->a.write=true->Still a.loc->Knows t c i
theorem TY.app {c:Nat}(H:TY Still c t)(l:∀op∈u,∀b,op.act.touch?=some b->Still b.loc->b.write=false):TY Still c (t++u):=by
 intro i a j d f;obtain⟨x,k,e⟩:=touch_of j;obtain⟨_,g⟩|⟨_,h⟩:=getElem?_append_cases k
 .exact(H i a (by rw[touchAt_of g];exact e) d f).app u
 .rw[l x h a e f]at d;cases d
theorem PX.oN {g:Nat}(H:PX Ad Still Mem Am B h t)(A:TY Still g t)(z:¬Mem g)(hL:Am g)(y:∀op∈u,op.g=g)(v:∀op∈u,∀b,op.act.touch?=some b->b.write=false/\Still b.loc)
  (C:∀op∈u,op.act.low B):PX Ad Still Mem Am B h (t++u):=by
 refine⟨λsaid=>noRace_append (H.clean said) y λi a e op p b hb o=>?_,λi a e s=>?_,λi a e n r q m=>?_,H.Pv y (λx=>(z x).elim),seen_app H.seen C⟩
 .obtain⟨k,l⟩:=v op p b hb;obtain x|x:=o.2.2.1
  .exact A i a e x (o.1 ▸ l)
  .rw[k]at x;cases x
 .obtain⟨x,f,c⟩:=touch_of e;obtain⟨_,j⟩|⟨_,d⟩:=getElem?_append_cases f
  .exact H.old j c s
  .exact .inr (.inl ⟨.inl (v x d a c).1,(v x d a c).2,g,by rw[g?_of f,y x d],hL⟩)
 .obtain⟨x,f,c⟩:=touch_of e;obtain⟨_,j⟩|⟨_,d⟩:=getElem?_append_cases f
  .exact(H.wrote i a (by rw[touchAt_of j];exact c) n r q m).app u
  .rw[(v x d a c).1]at n;cases n
end
def am0 (w:o_)(cC:Array CommCase)(kq cq:Nat)(zq:n_):Prop:=
 cC[kq]?=some (rcase cq zq)/\(∃k,w.heap[cq]?=some (.chan 0 #[] true k k false))/\∀(m:Nat) cc,m≠kq->cC[m]?=some cc->GG w cc
def CO (P:l_)(c r:Nat)(pre:X_)(ty:j_)(o:SY)(Ph:Bool->Nat->m_->o_->Trace->Prop)(X:o_->Prop)(w0:Bool)(n:Nat)(g:m_)(w:o_)(t:Trace):Prop:=
 Ph w0 n g w t\/(iZ P c r pre ty o w0 n g w t/\X w)
def V3 (Z:Nat->Prop)(r:Nat)(X:o_->Prop):Prop:=∀w w':o_,X w->(∀x,x≠r->Z x->w'.heap[x]?=w.heap[x]?)->X w'
structure Ny (P:l_)(Z:Nat->Prop)(Ad Still:Loc->Prop)(Am:Nat->Prop)(c r:Nat)(pre:X_)(ty:j_)(o:SY)(Ph:Bool->Nat->m_->o_->Trace->Prop)(X:o_->Prop):Prop where
 status:∀{w0 n g w t},Ph w0 n g w t->g.status=.running/\0<n
 run:∀{w0 n g w t},Ph w0 n g w t->BC r pre ty w (if w0 then KK+1 else KK) 0
 calm:∀{w0 n g w t} (w':o_) (u:Trace),Ph w0 n g w t->Js Z w w'->Yn Ad Still c u->Ph w0 n g w' (t++u)
 mark:∀{w0 n g w t} {es:Array Event} {fn:h_} {pos:String} (d:Nat),(∀e∈es,(MemAct.ofEvent e).touch?=none/\∀a,MemAct.ofEvent e≠.mark (.release a))->Ph w0 n g w t->Ph w0 n g (w.at d) (t++MemOp.ofEvents 0 fn pos es)
 up:∀{n g w t} {fn:h_} {pos:String} (d:Nat),BC r pre ty w KK 0->Ph false n g w t->Ph true n g ((w.at d).setCell (stA r pre) (.int .u64 (KK+1))) (t++MemOp.ofEvents 0 fn pos (Ky (stA r pre)))
 step:∀{Mem:Nat->Prop} {w0 n g w t B},¬Mem c->Ph w0 n g w t->PX Ad Still Mem Am B 0 t->w.heap.size<=B->∀d,
  (∃n' g' w' es,n'<n/\stepG P false g (w.at d)=.go g' w' es/\CS Z w w'/\cf7 (λB t=>PX Ad Still Mem Am B 0 t) B w' (t++MemOp.ofEvents c g.frame.fn g.frame.place es)/\CO P c r pre ty o Ph X w0 n' g' w' (t++MemOp.ofEvents c g.frame.fn g.frame.place es))\/
  (∃n' g₂ cases shape es k cq z cap s r' tm,n'<n/\stepG P false g (w.at d)=.comm g₂ cases true shape (w.at d) es/\cases[k]?=some (rcase cq z)/\w.heap[cq]?=some (.chan cap #[] true s r' tm)/\(∀(m:Nat) cc,m≠k->cases[m]?=some cc->GG w cc)/\
   PX Ad Still Mem Am B 0 (t++(MemOp.ofEvents c g.frame.fn g.frame.place es++#[{ g:=c,fn:=g₂.frame.fn,pos:=g₂.frame.place,act:=.recvClosed cq}]))/\
   CO P c r pre ty o Ph X w0 n' (Conc.served g₂ (commResult cases shape k z false)) (w.at d) (t++(MemOp.ofEvents c g.frame.fn g.frame.place es++#[{ g:=c,fn:=g₂.frame.fn,pos:=g₂.frame.place,act:=.recvClosed cq}])))
 low:∀{w0 n g w t d g' w' es st'},Ph w0 n g w t->stepG P false g (w.at d)=.go g' w' es->BC r pre ty w' st' 1->False
 keep:V3 Z r X
def vJ (P:l_)(c r:Nat)(pre:X_)(ty:j_)(o:SY)(K:o_->Prop)(Still:Loc->Prop)(cC:Array CommCase)(home:m_->Prop)(kq cq:Nat)(zq:n_)(kR:Nat)(w0:Bool)(n:Nat)(g:m_)(w:o_)(t:Trace):Prop:=
 ∃k,n=k+1+(kR+(o.k1+o.k2+o.k3+o.k4+o.nF+o.nP+10))/\KI c r pre t/\K w/\am0 w cC kq cq zq/\BC r pre ty w (if w0 then KK+1 else KK) 0/\Deaf t c=0/\TY Still c t/\g.status=.running/\Ho P false K Still cC .select home k g
section
variable {P:l_}{Z:Nat->Prop}{Ad Still:Loc->Prop}{Mem Am:Nat->Prop}{r:Nat}{pre:X_}{ty:j_}{c B:Nat}{t:Trace}{o:SY}{w0:Bool}{K:o_->Prop}{cC:Array CommCase}{home:m_->Prop}{kq cq kR:Nat}{zq:n_}{Ph:Bool->Nat->m_->o_->Trace->Prop}{X:o_->Prop}
theorem RS (O:O3 P r pre ty o)(Q:Z r)(S:∀l,LY r pre l->Ad l/\¬Still l)(T:c≠0)(R:¬Mem c)(hX:V3 Z r X):
  G8 P Z Ad Still (λB t=>PX Ad Still Mem Am B 0 t) c (λn g w t=>iZ P c r pre ty o w0 n g w t/\X w):=by
 have A:=ba6 (Z:=λx=>x=r) (Ad:=Ad) (Still:=Still) (Mem:=Mem) (Am:=Am) (ty:=ty) (w0:=w0) O rfl S T R;have q:∀{w f:o_},Js Z w f->Js (λx=>x=r) w f:=λi x v=>by subst v;exact i _ Q
 refine⟨λh=>A.status h.1,λh f i=>A.again h.1 f (q i),λf u h i K=>⟨A.calm f u h.1 (q i) K,hX _ _ h.2 λx _ L=>i x L⟩,?_⟩;rintro n g w t B ⟨h,hq⟩ E F hB d;obtain⟨y,J,f,p,a1,a2,b,j,m⟩|⟨y,a,C,D,p,a1,a2,b,j,m⟩|⟨y,a,C,D,p,k,I,z,cap,s,M,N,a1,a2,b,j,m,G,H⟩:=A.step h E F hB d
 .exact .inl ⟨y,J,f,p,a1,a2,⟨b.size,λx v=>b.same x (λe=>v (by rw[e];exact Q)),b.os,b.output,b.tape⟩,j,m,hX _ _ hq λx v _=>b.same x v⟩
 .exact .inr (.inl ⟨y,a,C,D,p,a1,a2,b,j,m,hX _ _ hq λ_ _ _=>rfl⟩)
 .exact .inr (.inr ⟨y,a,C,D,p,k,I,z,cap,s,M,N,a1,a2,b,j,m,G,H,hX _ _ hq λ_ _ _=>rfl⟩)
theorem PE (H:Ny P Z Ad Still Am c r pre ty o Ph X)(O:O3 P r pre ty o)(Q:Z r)(N:∀l,LY r pre l->Ad l/\¬Still l)(M:c≠0)(L:¬Mem c):
  G8 P Z Ad Still (λB t=>PX Ad Still Mem Am B 0 t) c (CO P c r pre ty o Ph X w0) where
 status:=by
  rintro n g w t (h|h)
  .exact .inl (H.status h)
  .exact(RS (Z:=Z) (Ad:=Ad) (Still:=Still) (Mem:=Mem) (Am:=Am) O Q N M L H.keep).status h
 again:=by
  rintro n g w t (h|h) b p
  .exact again_running _ (.inl (H.status h).1)
  .exact(RS (Z:=Z) (Ad:=Ad) (Still:=Still) (Mem:=Mem) (Am:=Am) O Q N M L H.keep).again h b p
 calm:=by
  rintro n g w t b u (h|h) p A
  .exact .inl (H.calm b u h p A)
  .exact .inr ((RS (Z:=Z) (Ad:=Ad) (Still:=Still) (Mem:=Mem) (Am:=Am) O Q N M L H.keep).calm b u h p A)
 step:=by
  rintro n g w t B (h|h) C y hB d
  .have v:(c==0)=false:=(by simpa using M);rw[v];exact(H.step L h y hB d).imp id .inr
  .obtain⟨m,G,b,j,a1,a2,e,f,i⟩|⟨m,a,q,x,j,a1,a2,e,f,i⟩|⟨m,a,q,x,j,k,F,z,cap,s,I,J,a1,a2,e,f,i,D,E⟩:=(RS (Z:=Z) (Ad:=Ad) (Still:=Still) (Mem:=Mem) (Am:=Am) O Q N M L H.keep).step h C y hB d
   .exact .inl ⟨m,G,b,j,a1,a2,e,f,.inr i⟩
   .exact .inr (.inl ⟨m,a,q,x,j,a1,a2,e,f,.inr i⟩)
   .exact .inr (.inr ⟨m,a,q,x,j,k,F,z,cap,s,I,J,a1,a2,e,f,i,D,.inr E⟩)
theorem gy (h:Yn Ad Still c u):Deaf (t++u) c=Deaf t c:=Deaf_quiet λop e d=>by
 have b:=(h op e).1;obtain⟨g,fn,pos,a⟩:=op;simp only at b;cases a with
 |mark f=>cases f<;>simp[deafStep,b]
 |_=>rfl
theorem oJ {sm:Int}{h:Obj}(i:BC r pre ty w st sm)(f:w.heap[x]?=some h)(b:∀cells ty at_,h≠.cells cells ty at_)(v:n_)(d:Nat):((w.at d).setCell (stA r pre) v).heap[x]?=some h:=by
 have a:r≠x:=λe=>by subst e;unfold BC at i;rw[i]at f;exact b _ _ _ (x_ f).symm
 simp[World.setCell,World.at,stA,iF,a,f]
theorem bb8 (L:Tz Z Still K)(hzC:∀cc∈cC,∀c z,cc=rcase c z->Z c)(hZ:Z r)(hW:∀l,LY r pre l->Ad l/\¬Still l)(hc:c≠0)(hL:Am c)
  (hR:∀g₂,home g₂->Ls P (DD r pre ty) false kR (Conc.served g₂ (commResult cC .select kq zq false)) o.gR) (hKs:∀w (n:Int) d,K w->K ((w.at d).setCell (stA r pre) (.int .u64 n))):
  Ny P Z Ad Still Am c r pre ty o (vJ P c r pre ty o K Still cC home kq cq zq kR) (λ_=>True) where
 status:=by
  rintro T n g w t ⟨k,rfl,_,_,_,_,_,_,p,_⟩
  exact⟨p,wB⟩
 run:=by
  rintro T n g w t ⟨k,_,_,_,_,h,_⟩
  exact h
 calm:=by
  rintro T n g w t w' u ⟨k,A,v,f,⟨E,⟨D,F⟩,N⟩,q,y,s,I,j⟩ W hu
  refine⟨k,A,v.calm (λl hl=>(hW l hl).1) hu,L.keep w w' W f,⟨E,⟨D,?_⟩,λm cc hm U=>?_⟩,q.keep hZ W,(gy hu).trans y,s.app λop a b hb p=>(((hu op a).2.1 b hb).1 p).1,I,j⟩
  .rw[W cq (hzC _ (Array.mem_of_getElem? E) _ _ rfl)];exact F
  .obtain⟨V,z',k'',e,hc'⟩:=N m cc hm U;exact⟨V,z',k'',e,by rw[W V (hzC _ (Array.mem_of_getElem? U) _ _ e)];exact hc'⟩
 mark:=by
  rintro T n g w t Q fn pos d G ⟨k,A,v,f,h4,q,y,s,I,j⟩
  have O:Js Z w (w.at d):=λ_ _=>rfl
  refine⟨k,A,v.app λop a b hb _=>?_,L.keep w _ O f,h4,q.keep hZ O,by rw[Deaf_other t (g':=0) (gJ hc) _ Yv];exact y,s.app λop a b hb=>?_,I,j⟩
  .obtain⟨e,J,rfl⟩:=p_ a;rw[(G e J).1]at hb;cases hb
  .obtain⟨e,J,rfl⟩:=p_ a;rw[(G e J).1]at hb;cases hb
 up:=by
  rintro n g w t fn pos d C ⟨k,A,v,f,⟨E,⟨D,F⟩,N⟩,q,y,s,I,j⟩
  have GM:∀op∈MemOp.ofEvents 0 fn pos (Ky (stA r pre)),op.act.touch?=some ⟨.cell (stA r pre),false,.atomic⟩\/op.act.touch?=some ⟨.cell (stA r pre),true,.atomic⟩:=by
   intro op a
   obtain⟨e,J,rfl⟩:=p_ a
   simp only[Ky,eu,r_,lG,or_false]at J
   obtain rfl|rfl:=J
   .exact .inl rfl
   .exact .inr rfl
  refine⟨k,A,v.app λop a b hb _=>?_,hKs _ _ _ f,⟨E,⟨D,oJ C F sJ _ d⟩,λm cc hm U=>?_⟩,BC.setSt (w:=w.at d) C _,by rw[Deaf_other t (g':=0) (gJ hc) _ Yv];exact y,s.app λop a b hb p=>?_,I,j⟩
  .obtain e|e:=GM op a<;>(rw[e]at hb;obtain rfl:=x_ hb;simp)
  .obtain⟨V,z',k2,e,h⟩:=N m cc hm U;exact⟨V,z',k2,e,oJ C h sJ _ d⟩
  .obtain e|e:=GM op a<;>(rw[e]at hb;obtain rfl:=x_ hb)
   .rfl
   .exact((hW _ (.inl rfl)).2 p).elim
 step:=by
  rintro Mem T n g w t B Y ⟨k,rfl,v,f,⟨E,⟨D,F⟩,N⟩,q,y,s,I,j⟩ LQ hB d
  have H:K (w.at d):=L.keep w (w.at d) (λ_ _=>rfl) f
  cases k with
  |zero=>
   obtain⟨g₂,Q,hh,hr,G,X⟩:=j
   obtain⟨M,r2,r3⟩:=Jf (B:=B) (i:=c) (fn:=g.frame.fn) (pos:=g.frame.place) L f hB G
   have sQ:=LQ.oN s Y hL Yv M r3
   have hcB:cq<B:=by have:=(y_.1 F).1;omega
   have R:∀op∈(#[{ g:=c,fn:=g₂.frame.fn,pos:=g₂.frame.place,act:=.recvClosed cq}]:Trace),op.g=c/\op.act.touch?=none/\op.act.low B/\(∀d,deafStep c d op=d):=by
    intro op a
    simp only[eu,r_,lG,or_false]at a
    subst a
    exact⟨rfl,rfl,hcB,λ_=>rfl⟩
   refine .inr ⟨kR+(o.k1+o.k2+o.k3+o.k4+o.nF+o.nP+10),g₂,cC,.select,Q,kq,cq,zq,0,D,D,false,wB,X _ H,E,F,N,?_,.inr ⟨⟨?_,.inl ⟨kR,rfl,hR g₂ hh,q.keep hZ (λ_ _=>rfl),?_⟩⟩,dE⟩⟩
   .rw[<-Array.append_assoc];exact sQ.appMute (λop a=>(R op a).1) (λop a=>(R op a).2.1) (λx=>(Y x).elim) (λop a=>(R op a).2.2.1)
   .rw[<-Array.append_assoc];refine(v.app λop a b hb S=>?_).app λop a b hb _=>by rw[(R op a).2.1]at hb;cases hb
    exact((hW _ S).2 (M op a b hb).2).elim
   .rw[<-Array.append_assoc,Deaf_quiet (λop a d=>(R op a).2.2.2 d),r2 t];exact y
  |succ k=>
   obtain⟨g',Q,hr,G,X,hw'⟩:=j
   obtain⟨M,r2,r3⟩:=Jf (B:=B) (i:=c) (fn:=g.frame.fn) (pos:=g.frame.place) L f hB G
   refine .inl ⟨k+1+(kR+(o.k1+o.k2+o.k3+o.k4+o.nF+o.nP+10)),g',w.at d,Q,wB,X _ H,CS.at w d,⟨B,w_,hB,LQ.oN s Y hL Yv M r3⟩,.inl ⟨k,rfl,?_,H,⟨E,⟨D,F⟩,N⟩,q.keep hZ (λ_ _=>rfl),(r2 t).trans y,s.app λop a b hb _=>(M op a b hb).1,hr,hw'⟩⟩
   exact v.app λop a b hb S=>((hW _ S).2 (M op a b hb).2).elim
 low:=by
  rintro T n g w t d g' w' Q st' ⟨k,_,_,f,_,q,_,_,_,j⟩ p A
  have O:Js Z w (w.at d):=λ_ _=>rfl
  have H:K (w.at d):=L.keep w (w.at d) O f
  cases k with
  |zero=>obtain⟨g₂,CP,_,_,_,IQ⟩:=j;rw[IQ _ H]at p;cases p
  |succ k=>
   obtain⟨g1,CP,_,_,hgo,_⟩:=j
   rw[hgo _ H]at p
   injection p with _ S _
   subst S
   exact qx ((q.keep hZ O).eq A).2 sN
 keep:=λ_ _ _ _=>trivial
def cf8 (_:Bool)(_:Nat)(_:m_)(_:o_)(_:Trace):Prop:=False
theorem bo3:Ny P Z Ad Still Am c r pre ty o cf8 (λ_=>True):=
 ⟨λh=>h.elim,λh=>h.elim,λ_ _ h=>h.elim,λ_ _ h=>h.elim,λ_ _ h=>h.elim,λ_ h=>h.elim,λh=>h.elim,λ_ _ _ _=>trivial⟩
theorem CS.sub (b:∀x,Z x->Z' x)(h:CS Z w w'):CS Z' w w':=⟨h.size,λx a=>h.same x (λe=>a (b x e)),h.os,h.output,h.tape⟩
theorem Ny.sub (H:Ny P Z Ad Still Am c r pre ty o Ph X)(s:∀x,Z x->Z' x):Ny P Z' Ad Still Am c r pre ty o Ph X:=
 ⟨H.status,H.run,λa u h b n=>H.calm a u h (λx e=>b x (s x e)) n,H.mark,H.up,λl h f hB d=>(H.step l h f hB d).imp (λ⟨q,k,a,j,a1,a2,g,i⟩=>⟨q,k,a,j,a1,a2,g.sub s,i⟩) id,H.low,λw a e b=>H.keep w a e λx m p=>b x m (s x p)⟩
theorem yf (H:Ny P Z Ad Still Am c r pre ty o Ph X)(O:O3 P r pre ty o)(T:Z r)(S:∀l,LY r pre l->Ad l/\¬Still l)(U:c≠0)(R:¬Mem c)(Q:∀x,Z x->Z' x)(N:∀w w':o_,X2 w->(∀x,¬Z x->Z' x->w'.heap[x]?=w.heap[x]?)->X2 w'):
  G8 P Z' Ad Still (λB t=>PX Ad Still Mem Am B 0 t) c (λn g w t=>CO P c r pre ty o Ph X w0 n g w t/\X2 w):=by
 have q:=PE (Mem:=Mem) (w0:=w0) H O T S U R;have m:∀{w w':o_},Js Z' w w'->Js Z w w':=λe x y=>e x (Q x y)
 refine⟨λh=>q.status h.1,λh w' e=>q.again h.1 w' (m e),λw' u h e J=>⟨q.calm w' u h.1 (m e) J,N _ _ h.2 λx _ K=>e x K⟩,?_⟩;rintro n g w t B ⟨h,hq⟩ C D hB d;obtain⟨p,I,w',j,a1,a2,b,f,i⟩|⟨p,a,v,A,j,a1,a2,b,f,i⟩|⟨p,a,v,A,j,k,G,z,cap,s,L,M,a1,a2,b,f,i,E,F⟩:=q.step h C D hB d
 .exact .inl ⟨p,I,w',j,a1,a2,b.sub Q,f,i,N _ _ hq λx y _=>b.same x y⟩
 .exact .inr (.inl ⟨p,a,v,A,j,a1,a2,b,f,i,N _ _ hq λ_ _ _=>rfl⟩)
 .exact .inr (.inr ⟨p,a,v,A,j,k,G,z,cap,s,L,M,a1,a2,b,f,i,E,F,N _ _ hq λ_ _ _=>rfl⟩)
def Fb (δ:Nat)(By:Nat->m_->o_->Trace->Prop)(n:Nat)(g:m_)(w:o_)(t:Trace):Prop:=By n g w t/\Deaf t 0=δ
theorem xY (f:Yn Ad Still j u):Deaf (t++u) 0=Deaf t 0:=Deaf_quiet λop c d=>by
 have b:=(f op c).2.2.2;obtain⟨g,fn,pos,a⟩:=op;cases a with
 |mark e=>
  cases e with
  |disable=>have:=b (.inl rfl);simp only at this;simp[deafStep,this]
  |enable=>have:=b (.inr rfl);simp only at this;simp[deafStep,this]
  |_=>rfl
 |_=>rfl
theorem U3 {δ:Nat}{G:Nat->Trace->Prop}{F:Nat->m_->o_->Trace->Prop}(E:j≠0)(O:G8 P Z Ad Still G j F):G8 P Z Ad Still G j (Fb δ F) where
 status h:=O.status h.1
 again h:=O.again h.1
 calm q u h hk hu:=⟨O.calm q u h.1 hk hu,(xY hu).trans h.2⟩
 step:=by
  rintro n g w t B ⟨h,o⟩ r v hB d
  obtain⟨l,g',q,i,a1,a2,c,e,f⟩|⟨l,a,m,p,i,a1,a2,c,e,f⟩|⟨l,a,m,p,i,k,A,z,cap,s,C,D,a1,a2,c,e,f,x,y⟩:=O.step h r v hB d
  .exact .inl ⟨l,g',q,i,a1,a2,c,e,f,by rw[Deaf_other t (g':=j) E _ Yv];exact o⟩
  .exact .inr (.inl ⟨l,a,m,p,i,a1,a2,c,e,f,by rw[Deaf_other t (g':=j) E _ Yv];exact o⟩)
  .refine .inr (.inr ⟨l,a,m,p,i,k,A,z,cap,s,C,D,a1,a2,c,e,f,x,y,?_⟩);rw[Deaf_other t (g':=j) E _ (λop b=>by
    obtain b|b:=Array.mem_append.1 b
    .exact Yv op b
    .simp at b;subst b;rfl)]
   exact o
theorem ba5 {t:Trace}(h:iZ P c r pre ty o w0 n g w t):DD r pre ty w:=by
 obtain⟨_,⟨_,_,_,h,_⟩|⟨_,_,_,_,h,_⟩|⟨_,_,_,_,h,_⟩|⟨_,_,_,h,_⟩|⟨_,_,_,_,_,h,_⟩|⟨_,_,_,_,_,h,_⟩|⟨_,_,_,h,_⟩⟩:=h<;>exact⟨_,_,h⟩
theorem Zj (H:Ny P Z Ad Still Am c r pre ty o Ph X){t:Trace}(h:CO P c r pre ty o Ph X w0 n g w t):DD r pre ty w:=by
 obtain h|h:=h
 .exact⟨_,_,H.run h⟩
 .exact ba5 h.1
theorem Ie {h j:Nat}{Q:Nat->m_->o_->Trace->Prop}{J:o_->Prop}(U:∀n b w t,Q n b w t->∀d,J (w.at d))(O:G8 P Z Ad Still (fun B t=>PX Ad Still Mem Am B h t) j Q){S:m_}:∀(k:Nat){a:m_}(_:Ls P J (h==0) k a S){n B:Nat}{gs:Array m_}{w:o_}{sl:d_ (W_)}{t:Trace}{q:Nat->Nat},
  gs[h]?=some a->Duo P Ad Still Mem Am B h j Q n gs w t q->AX P gs w sl t λR w' Y=>∃W V T,R[h]?=some S/\CS Z w w'/\B<=T/\Duo P Ad Still Mem Am T h j Q V R w' Y W
 |0,a,g,n,B,gs,w,sl,t,q,e,D=>.now ⟨q,n,B,by rw[e,show a=S from g],CS.refl w,w_,D⟩
 |k+1,a,g,n,B,gs,w,sl,t,q,e,D=>by
  obtain⟨r,a1,s,v⟩:=g
  refine go_duo (Me:=Mem) (Loose':=Am) O e r D D.mem λp f w1 c G L N y hB z d=>⟨a1,w1.at d,#[],p,s _ (U _ _ _ _ hB d),w_,c,by rw[DY];exact z,Q,G,?_,λR W V M x u I=>?_⟩
  .rw[DY,woken_of_again (O.again hB (w1.at d) (λ_ _=>rfl))];have:=O.calm (w1.at d) #[] hB (λ_ _=>rfl) (λop o=>by simp at o);simpa using this
  .exact(Ie U O k v x u).mono λm K H ⟨l,i,B'',A,C,E,F⟩=>⟨l,i,B'',A,y.trans ((CS.at w1 d).trans C),lN f E,F⟩
end
section
variable {P:l_}{Z:Nat->Prop}{Ad Still:Loc->Prop}{Mem Am:Nat->Prop}{r:Nat}{pre:X_}{ty:j_}{c B:Nat}{t:Trace}{o:SY}{w0:Bool}{X:o_->Prop}{Ph:Bool->Nat->m_->o_->Trace->Prop}{K K1:o_->Prop}{TT:Trace->Prop}{cC:Array CommCase}{home:m_->Prop}{kq cq kR:Nat}{zq:n_}
theorem gG (d:∀x,¬Still (.obj x))(f:cq<B):∀e∈closeEvents cq,aN Ad Still B e:=by
 intro e b;simp only[closeEvents,eu,r_,lG,or_false]at b;obtain rfl|rfl:=b
 .refine⟨λx a=>?_,sJ,sJ,f,sJ⟩;obtain rfl:=x_ a;exact⟨λc=>(d _ c).elim,λ_=>sJ⟩
 .exact⟨λx a=>(by cases a),sJ,sJ,f,sJ⟩
theorem JI {d k:Nat}{a:Bool}:((w.at d).setChan x 0 #[] a k k false).heap.size=w.heap.size:=by simp[World.setChan,World.at]
theorem Nk (f:Z cq)(w:o_)(d k:Nat)(b:Bool):CS Z w ((w.at d).setChan cq 0 #[] b k k false):=by
 refine⟨by simp[World.setChan,World.at],λx a=>?_,rfl,rfl,rfl⟩;have:cq≠x:=λe=>a (e ▸ f)
 simp[World.setChan,World.at,z_ this]
theorem yg (L1:Tz Z Still K1)(hK1:∀w,K1 w->K w)(hT:dV Ad Still c TT)(hc:c≠0)(hSo:∀x,¬Still (.obj x))(hzC:∀cc∈cC,∀c z,cc=rcase c z->Z c)(hLc:Am c)
  (hTT:∀t,TT t->KI c r pre t) (da4:∀w,K1 w->BC r pre ty w KK 0) (hKq:∀w k,K w->K (w.setChan cq 0 #[] true k k false)) (hrq:r≠cq)
  (hkq:cC[kq]?=some (rcase cq zq)) (hoq:∀(m:Nat) cc,m≠kq->cC[m]?=some cc->cc.chan≠.chan (some cq))
  (bx4:∀g₂,home g₂->Ho P false K Still cC .select home 0 { parked g₂ cC .select with status:=.running})
  {a a':m_} (hwake:mayWake P a=true) (ha':a'.status=.running) (BJ:a.status=.running)
  (hclose:∀(w1:o_) k,K1 w1->w1.heap[cq]?=some (.chan 0 #[] false k k false)->∀d,stepG P true a (w1.at d)=.go a' ((w1.at d).setChan cq 0 #[] true k k false) (closeEvents cq))
  {n:Nat} {gs:Array m_} {w:o_} {sl:d_ (W_)} {q:Nat->Nat} (h0:gs[0]?=some a) (D:Duo P Ad Still (λg=>g=0\/g=c) Am B 0 c (O0 P (c==0) K K1 TT Still cC .select home) n gs w t q):
  AX P gs w sl t λBA w' t'=>∃q' n' B',BA[0]?=some a'/\CS Z w w'/\B<=B'/\Duo P Ad Still (λg=>g=0) Am B' 0 c (CO P c r pre ty o (vJ P c r pre ty o K Still cC home kq cq zq kR) (λ_=>True) false) n' BA w' t' q':=by
 have T:(c==0)=false:=by simpa using hc
 refine go_duo (Me:=λg=>g=0) (Loose':=Am) (X0 L1 hK1 hT hzC (.inr rfl) hLc) h0 BJ D (λg V=>.inl V) λN F w1 Cm n1 b1 X ho hB A d=>?_
 obtain⟨⟨S,lu⟩,s,QG⟩:=hB;rw[T]at QG;obtain⟨f,z',k,e',y⟩:=s _ (Array.mem_of_getElem? hkq);have:f=cq:=by simp[rcase]at e';exact e'.1.symm
 subst this;have M:Z f:=hzC _ (Array.mem_of_getElem? hkq) _ _ rfl;have U:f<N:=by have:=(y_.1 y).1;omega
 have Y:=gG (Ad:=Ad) (Still:=Still) hSo U;have R:=(A.own (fn:=a.frame.fn) (pos:=a.frame.place) Y).fewer (Me:=λg=>g=0) λg V=>.inl V
 have O:Yn Ad Still c (MemOp.ofEvents 0 a.frame.fn a.frame.place (closeEvents f)):=Gn (gJ hc) Y;have j:∀x,x≠f->((w1.at d).setChan f 0 #[] true k k false).heap[x]?=w1.heap[x]?:=λx W=>by
  simp[World.setChan,World.at,z_ (gJ W)]
 have l:((w1.at d).setChan f 0 #[] true k k false).heap[f]?=some (.chan 0 #[] true k k false):=by
  have:=(y_.1 y).1
  simp[World.setChan,World.at,this]
 have p:am0 ((w1.at d).setChan f 0 #[] true k k false) cC kq f zq:=by
  refine⟨hkq,⟨k,l⟩,λm cc hm GX=>?_⟩
  obtain⟨c2,z2,k2,e2,h2⟩:=s cc (Array.mem_of_getElem? GX)
  refine⟨c2,z2,k2,e2,?_⟩
  rw[j c2 (λe=>hoq m cc hm GX (by rw[e2,e];rfl))]
  exact h2
 have I:BC r pre ty ((w1.at d).setChan f 0 #[] true k k false) (if false=true then KK+1 else KK) 0:=by
  unfold BC;rw[j r hrq];exact da4 _ S
 have G:Deaf (X++MemOp.ofEvents 0 a.frame.fn a.frame.place (closeEvents f)) c=0:=by
  rw[Deaf_other X (g':=0) (gJ hc) _ Yv];exact A.hears c (.inr rfl)
 have L:TY Still c (X++MemOp.ofEvents 0 a.frame.fn a.frame.place (closeEvents f)):=by
  refine TY.app (λi x W C hS=>A.wrote i x W C ⟨hS,hT.ss _ hS⟩ c (.inr rfl)) λop s b hb E=>(((O op s).2.1 b hb).1 E).1
 have υ:K ((w1.at d).setChan f 0 #[] true k k false):=hKq _ _ (hK1 _ (L1.keep w1 (w1.at d) (λ_ _=>rfl) S));refine⟨a',(w1.at d).setChan f 0 #[] true k k false,closeEvents f,N,hclose w1 k S y d,w_,by rw[JI];exact Cm,R,CO P c r pre ty o (vJ P c r pre ty o K Still cC home kq f zq kR) (λ_=>True) false,?_⟩;have H:=(hTT _ lu).calm (Ad:=LY r pre) (Still:=Still) (c:=c) (λ_ h=>h) (u:=MemOp.ofEvents 0 a.frame.fn a.frame.place (closeEvents f)) (λop s=>by
  refine⟨(O op s).1,λb hb=>?_,(O op s).2.2⟩
  have h1:=((O op s).2.1 b hb).1
  obtain⟨e,he,rfl⟩:=p_ s
  simp only[closeEvents,eu,r_,lG,or_false]at he
  obtain rfl|rfl:=he
  .obtain rfl:=x_ hb;exact⟨λE=>⟨(h1 E).1,λC=>by obtain e|e:=C<;>cases e⟩,λ_=>sJ⟩
  .cases hb)
 obtain⟨rfl,g₂,rfl,hh,hr⟩|⟨k2,rfl,E,C⟩:=QG
 .refine⟨_,.inl ⟨0,rfl,H,υ,p,I,G,L,?_⟩,λBA q' n' J v Q Em=>.now ⟨q',n',N,v,(ho.trans (Nk M w1 d k true)),F,Q⟩⟩;have C:woken P a a' ((w1.at d).setChan f 0 #[] true k k false) (parked g₂ cC .select)={ parked g₂ cC .select with status:=.running}:=by
   unfold woken
   simp only[hwake,ha',Bool.true_and]
   rw[rW sN]
   exact again_some_closed hkq l
  rw[C];exact⟨rfl,bx4 g₂ hh⟩
 .refine⟨_,.inl ⟨k2,rfl,H,υ,p,I,G,L,?_⟩,λBA q' n' J v Q Em=>.now ⟨q',n',N,v,(ho.trans (Nk M w1 d k true)),F,Q⟩⟩;rw[woken_run E];exact⟨E,C⟩
theorem ac2 {Z0:Nat->Prop}(H:Ny P Z0 Ad Still Am c r pre ty o Ph X)(O:O3 P r pre ty o)(W:Z0 r)(hW:∀l,LY r pre l->Ad l/\¬Still l)(Y:c≠0)(V:∀x,¬Still (.obj x))(hzq:Z cq)(hqn:¬Z0 cq)
  {a S:m_} (BJ:a.status=.running) {k:Nat} (U:∀w,X2 w->w.heap[cq]?=some (.chan 0 #[] false k k false)) (R:∀(w1:o_),w1.heap[cq]?=some (.chan 0 #[] false k k false)->∀d,stepG P true a (w1.at d)=.go S ((w1.at d).setChan cq 0 #[] true k k false) (closeEvents cq))
  {n:Nat} {gs:Array m_} {w:o_} {sl:d_ (W_)} {q:Nat->Nat} (h0:gs[0]?=some a)
  (OB:G8 P Z Ad Still (λB t=>PX Ad Still (λg=>g=0) Am B 0 t) c (λn g w t=>CO P c r pre ty o Ph X false n g w t/\X2 w))
  (D:Duo P Ad Still (λg=>g=0) Am B 0 c (λn g w t=>CO P c r pre ty o Ph X false n g w t/\X2 w) n gs w t q):
  AX P gs w sl t λT w' t'=>∃q' n' B',T[0]?=some S/\CS Z w w'/\B<=B'/\Duo P Ad Still (λg=>g=0) Am B' 0 c (CO P c r pre ty o Ph X false) n' T w' t' q':=by
 refine go_duo (Me:=λg=>g=0) (Loose':=Am) OB h0 BJ D (λg J=>.inl J) λh j w1 E M y Q K hB p d=>?_
 obtain⟨b,G⟩:=hB;have f:=U _ G;have m:cq<h:=by have:=(y_.1 f).1;omega
 have u:=gG (Ad:=Ad) (Still:=Still) V m;have I:Yn Ad Still c (MemOp.ofEvents 0 a.frame.fn a.frame.place (closeEvents cq)):=Gn (gJ Y) u;have v:=PE (w0:=false) (Mem:=λg=>g=0) H O W hW Y (λe=>Y e);have z:Js Z0 w1 ((w1.at d).setChan cq 0 #[] true k k false):=λx L=>by
  have C:cq≠x:=λe=>hqn (e ▸ L)
  simp[World.setChan,World.at,z_ C]
 refine⟨S,(w1.at d).setChan cq 0 #[] true k k false,closeEvents cq,h,R w1 f d,w_,by rw[JI];exact E,p.own u,CO P c r pre ty o Ph X false,M,?_,λT q' n' A i F N=>.now ⟨q',n',h,i,(K.trans (Nk hzq w1 d k true)),j,F⟩⟩;have s:woken P a S ((w1.at d).setChan cq 0 #[] true k k false) y=y:=woken_of_again (v.again b _ z);rw[s];exact v.calm _ _ b z I
end
def Gi (P:l_)(c r:Nat)(pre:X_)(ty:j_)(X:o_->Prop)(sm:Int)(n:Nat)(g:m_)(w:o_)(t:Trace):Prop:=
 KI c r pre t/\∃m,QuitsD P n (Deaf t c) g/\(BC r pre ty w 0 sm/\X w)/\OU c r pre m t
def ay8 (P:l_)(r:Nat)(pre:X_)(ty:j_)(LG g:m_):Prop:=
 ∃k1 gE gE' k2 gQ gQ' k3,Ls P (DD r pre ty) true k1 g gE/\gE.status=.running/\(∀w,stepG P true gE w=.go gE' w #[MJ])/\Ls P (DD r pre ty) true k2 gE' gQ/\gQ.status=.running/\(∀w,stepG P true gQ w=.go gQ' w #[RG (stA r pre)])/\Ls P (DD r pre ty) true k3 gQ' LG
def ai7 (P:l_)(r:Nat)(pre:X_)(ty:j_)(LG g:m_):Prop:=
 ∃k gL gL0,Ls P (DD r pre ty) true k g gL/\gL.status=.running/\(∀w,w.cell? (stA r pre)=some (.int .u64 0)->stepG P true gL w=.go gL0 w #[⟨.cell (stA r pre),false,true⟩])/\ay8 P r pre ty LG gL0
section
variable {P:l_}{Z:Nat->Prop}{Ad Still:Loc->Prop}{Mem Am:Nat->Prop}{r:Nat}{pre:X_}{ty:j_}{c:Nat}{o:SY}{w0:Bool}{sm:Int}{LG:m_}{X:o_->Prop}{Pn:Loc->Prop}
theorem zf (hX:V3 Z r X)(d:Z r)(h:BC r pre ty w st sm/\X w)(b:Js Z w w'):BC r pre ty w' st sm/\X w':=⟨h.1.keep d b,hX _ _ h.2 λx _ a=>b x a⟩
theorem U2 (hX:V3 Z r X)(J:Z r)(L:∀l,LY r pre l->Ad l/\¬Still l)(M:c≠0)(K:¬Mem c):G8 P Z Ad Still (λB t=>PX Ad Still Mem Am B 0 t) c (Gi P c r pre ty X sm) where
 status:=by
  rintro n g w t ⟨_,m,hq,_⟩
  cases n with
  |zero=>exact .inr (.inr hq.1)
  |succ n=>exact hq.status.elim (λx=>.inl ⟨x,wB⟩) λx=>.inr (.inr x)
 again:=by
  rintro n g w t ⟨_,m,hq,_⟩ I _
  exact again_running _ hq.status
 calm:=by
  rintro n g w t I u ⟨hN,m,hq,p,k⟩ F q
  have D:Deaf (t++u) c=Deaf t c:=Deaf_quiet λop v d=>by
   have s:=(q op v).1
   obtain⟨g,fn,pos,i⟩:=op
   simp only at s
   cases i with
   |mark H=>cases H<;>simp[deafStep,s]
   |_=>rfl
  exact⟨hN.calm (λl G=>(L l G).1) q,m,by rw[D];exact hq,zf hX J p F,k.calm q⟩
 step:=by
  rintro n g w t B ⟨hN,m,hq,p,k⟩ f z hB d
  have j:(c==0)=false:=by simpa using M
  rw[j]
  cases n with
  |zero=>rw[hq.1]at f;cases f
  |succ n=>
   obtain⟨E,_⟩|⟨_,C,A,a,y,o⟩:=hq
   .rw[E]at f;cases f
   .refine .inl ⟨n,C,w.at d,A,wB,y _,CS.at w d,⟨B,w_,hB,UQ z K (λe h=>⟨touch_mute (a e h),low_mute (a e h) B⟩)⟩,FI hN (λe h b hb=>by rw[touch_mute (a e h)]at hb;cases hb),m,?_,zf hX J p (λ_ _=>rfl),RV k (Wq a _)⟩;rw[Deaf_own];exact o
def YM (P:l_)(Z:Nat->Prop)(Ad:Loc->Prop)(X:o_->Prop)(B:Nat)(LG:m_)(w:o_)(BA:Array m_)(w':o_)(t':Trace):Prop:=
 ∃(q':Nat->Nat) (B':Nat),BA[0]?=some LG/\CS Z w w'/\B<=B'/\Leavers P t' BA q'/\Past Ad B' t'/\w'.heap.size<=B'/\X w'
theorem gq (hS0:∀l,Ad l->¬Still l->Pn l)(hX:V3 Z r X)(hZ:Z r)(hW:∀l,LY r pre l->Ad l/\¬Still l)(hc:c≠0)(hF:ay8 P r pre ty LG g){sl:d_ (W_)}
  (h0:gs[0]?=some g) (D:Duo P Ad Still (λ_=>False) (λg=>g=c) B 0 c (Fb 1 (Gi P c r pre ty X 0)) n gs w t q):AX P gs w sl t (YM P Z Pn X B LG w):=by
 obtain⟨k1,M,T,k2,s,U,k3,s1,hE,R,s2,hQ,C,s3⟩:=hF;have Q:∀δ n b w t,Fb δ (Gi P c r pre ty X 0) n b w t->∀d,DD r pre ty (w.at d):=λδ n b w t h d=>h.1.2.choose_spec.2.1.1.is d
 have z:∀δ L,G8 P Z Ad Still (λB t=>PX Ad Still (λ_=>False) L B 0 t) c (Fb δ (Gi P c r pre ty X 0)):=λδ L=>U3 hc (U2 hX hZ hW hc id)
 refine(Ie (Q 1) (z 1 _) k1 s1 h0 D).bind λgs1 w1 JL t1 hz1 ⟨q1,n1,B1,h1,o1,b1,D1⟩=>?_
 refine go_duo (Me:=λ_=>False) (Loose':=λg=>g=c) (z 1 _) h1 hE D1 (λ_ o=>o.elim) λBp hBp w2 I n2 x2 t2 o2 u hp2 d=>?_
 have Y:Deaf (t2++MemOp.ofEvents 0 M.frame.fn M.frame.place #[MJ]) 0=0:=by rw[Deaf_own,u.2];rfl
 have W:Gi P c r pre ty X 0 n2 x2 (w2.at d) (t2++MemOp.ofEvents 0 M.frame.fn M.frame.place #[MJ]):=by
  obtain⟨hN,m,hq,hr,hm⟩:=u.1
  refine⟨FI hN (λe f b hb=>by simp at f;subst f;cases hb),m,?_,zf hX hZ hr (λ_ _=>rfl),hm.app (λop p=>?_) (λk op b hk o _=>?_)⟩
  .rw[Deaf_other t2 (g':=0) (gJ hc) _ Yv];exact hq
  .obtain⟨e,f,rfl⟩:=p_ p;simp at f;subst f;simp[MJ,MemAct.ofEvent]
  .have:=Yv op (Array.mem_of_getElem? hk);omega
 refine⟨T,w2.at d,#[MJ],Bp,R _,w_,I,hp2.appMute Yv (λop p=>by obtain⟨e,f,rfl⟩:=p_ p;simp at f;subst f;rfl) (λx=>x.elim) (λop p=>by obtain⟨e,f,rfl⟩:=p_ p;simp at f;subst f;trivial),
  Fb 0 (Gi P c r pre ty X 0),n2,⟨?_,Y⟩,λgs3 q3 n3 hz3 h3 D3 sl3=>?_⟩
 .have BX:=(U2 (P:=P) (Z:=Z) (Ad:=Ad) (Still:=Still) (Mem:=λ_=>False) (Am:=λg=>g=c) (ty:=ty) (sm:=0) hX hZ hW hc id).again u.1 (w2.at d) (λ_ _=>rfl);rw[woken_of_again BX];exact W
 refine(Ie (Q 0) (z 0 _) k2 s2 h3 D3).bind λgs4 w4 Ob t4 hz4 ⟨q4,n4,B4,h4,o4,b4,D4⟩=>?_
 refine go_duo (Me:=λ_=>False) (Loose':=λg=>g=c/\g≠c) (z 0 _) h4 hQ D4 (λ_ o=>o.elim) λO hBq N J n5 x5 t5 o5 V hp5 K=>?_
 obtain⟨⟨A,m,G,v,j⟩,E⟩:=V;have hrB:(stA r pre).block<O:=by have:=v.1.lt;show r<O;omega
 have F:MemOp.ofEvents 0 s.frame.fn s.frame.place #[RG (stA r pre)]=#[{ g:=0,fn:=s.frame.fn,pos:=s.frame.place,act:=.mark (.acquire (stA r pre))}]:=by
  rw[ofEvents_eq];simp[RG,MemAct.ofEvent]
 obtain⟨op,p,hog,hoa⟩:=j.at_;have hpx:=hp5.acquire (a:=stA r pre) E p hog hoa j.heard (λi b hi hgi _ _ _=>by
  obtain BL|hge:=Nat.lt_or_ge i m
  .exact .inl BL
  .obtain⟨x1,x2,x3⟩:=j.after i b hge hi hgi;exact .inr ⟨(hW _ x1).1,⟨x2,(hW _ x1).2⟩,x3⟩) j.norel s.frame.fn s.frame.place hrB
 have S:Gi P c r pre ty X 0 n5 x5 (N.at K) (t5++MemOp.ofEvents 0 s.frame.fn s.frame.place #[RG (stA r pre)]):=by
  refine⟨FI A (λe f b hb=>by simp at f;subst f;cases hb),m,?_,zf hX hZ v (λ_ _=>rfl),j.app (λop p=>?_) (λk op b hk o _=>?_)⟩
  .rw[Deaf_other t5 (g':=0) (gJ hc) _ Yv];exact G
  .obtain⟨e,f,rfl⟩:=p_ p;simp at f;subst f;simp[RG,MemAct.ofEvent]
  .have:=Yv op (Array.mem_of_getElem? hk);omega
 have H:=(U2 (P:=P) (Z:=Z) (Ad:=Ad) (Still:=Still) (Mem:=λ_=>False) (Am:=λg=>g=c) (ty:=ty) (sm:=0) hX hZ hW hc id).again ⟨A,m,G,v,j⟩ (N.at K) (λ_ _=>rfl);refine⟨U,N.at K,#[RG (stA r pre)],O,C _,w_,J,by rw[F];exact hpx,Fb 0 (Gi P c r pre ty X 0),n5,⟨by rw[woken_of_again H];exact S,by rw[Deaf_own,E];rfl⟩,λgs6 q6 n6 hz6 h6 D6 Fh=>?_⟩;refine(Ie (Q 0) (z 0 _) k3 s3 h6 D6).mono λgs7 w7 t7 ⟨q7,n7,B7,h7,o7,b7,y⟩=>?_
 obtain⟨b,hb,⟨hN7,m7,hq7,hr7,hm7⟩,hd7⟩:=y.idle;refine⟨upd q7 c n7,B7,h7,o1.trans (o2.trans ((CS.at w2 d).trans (o4.trans (o5.trans ((CS.at N K).trans o7))))),wB,⟨λi g hi o=>?_,y.above⟩,y.tr.toPast hd7 (λg o=>o.2 o.1) hS0,y.size,hr7.2⟩;by_cases e:i=c
 .subst e;rw[hb]at o;obtain rfl:=x_ o;rw[upd_same];exact hq7
 .rw[upd_ne q7 n7 e];exact y.JP i g wB e o
theorem Vm (d:∀l,LY r pre l->Ad l/\¬Still l)(f:r<B){a:f_}(e:LY r pre (.cell a))(hb:a.block=r)(wr:Bool):aN Ad Still B ⟨.cell a,wr,true⟩:=by
 refine⟨λx c=>?_,sJ,sJ,?_,sJ⟩
 .obtain rfl:=x_ c;exact⟨λb=>((d _ e).2 b).elim,λ_=>sJ⟩
 .show a.block<B;omega
theorem ZN (hS0:∀l,Ad l->¬Still l->Pn l)(hX:V3 Z r X)(hZ:Z r)(hW:∀l,LY r pre l->Ad l/\¬Still l)(hc:c≠0)(hF:ai7 P r pre ty LG g){sl:d_ (W_)}
  (h0:gs[0]?=some g) (D:Duo P Ad Still (λ_=>False) (λg=>g=c) B 0 c (Fb 1 (Gi P c r pre ty X 0)) n gs w t q):AX P gs w sl t (YM P Z Pn X B LG w):=by
 obtain⟨k,gL,p,V,hL,f,s⟩:=hF;have E:∀δ n b w t,Fb δ (Gi P c r pre ty X 0) n b w t->∀d,DD r pre ty (w.at d):=λδ n b w t h d=>h.1.2.choose_spec.2.1.1.is d
 have m:∀δ,G8 P Z Ad Still (λB t=>PX Ad Still (λ_=>False) (λg=>g=c) B 0 t) c (Fb δ (Gi P c r pre ty X 0)):=λδ=>U3 hc (U2 hX hZ hW hc id)
 refine(Ie (E 1) (m 1) k V h0 D).bind λF w1 JL t1 L ⟨q1,n1,Y,H,S,b1,A⟩=>?_
 refine go_duo (Me:=λ_=>False) (Loose':=λg=>g=c) (m 1) H hL A (λ_ K=>K.elim) λo J w2 j R x2 t2 T a u d=>?_
 have i:BC r pre ty w2 0 0:=a.1.2.choose_spec.2.1.1;have v:r<o:=by have:=i.lt;omega
 have x:∀e∈#[(⟨.cell (stA r pre),false,true⟩:Event)],aN Ad Still o e:=by
  intro e y
  simp at y;subst y
  exact Vm hW v (.inl rfl) rfl false
 refine⟨p,w2.at d,_,o,f _ (i.keep hZ (λ_ _=>rfl)).cellSt,w_,j,u.own x,Fb 1 (Gi P c r pre ty X 0),R,?_,λG q3 n3 M I C W=>?_⟩
 .rw[woken_of_again ((m 1).again a (w2.at d) (λ_ _=>rfl))];exact(m 1).calm (w2.at d) _ a (λ_ _=>rfl) (Gn (gJ hc) x)
 .refine(gq hS0 hX hZ hW hc s I C).mono λBA w' t' ⟨U,z,N,O,j3,Q⟩=>⟨U,z,N,S.trans (T.trans ((CS.at w2 d).trans O)),wB,Q⟩
end
end Go.Fxa
