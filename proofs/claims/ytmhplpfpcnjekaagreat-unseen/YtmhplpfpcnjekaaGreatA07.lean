/- The channel 'quit' is closed: -/
import Derived.Test.YtmhplpfpcnjekaaGreatA06
namespace Go.Fxa
open Go.Conc
open Go.ConcN (sumTo upd sumTo_upd upd_ne upd_same)
variable {u t:Trace} {w w':o_} {st:Int} {x j n B:Nat} {Z':Nat->Prop} {X2:o_->Prop} {g:m_} {gs:Array m_} {q:Nat->Nat}
section
variable {Ad Still:Loc->Prop} {Mem Am:Nat->Prop} {B h:Nat} {t u:Trace}
def Td (Still:Loc->Prop) (c:Nat) (t:Trace):Prop:=∀i a,touchAt t i=some a->a.write=true->Still a.loc->Knows t c i
theorem Td.app {c:Nat} (H:Td Still c t) (l:∀op∈u,∀b,op.act.touch?=some b->Still b.loc->b.write=false):Td Still c (t++u):=by
 intro i a j d f;obtain⟨x,k,e⟩:=touch_of j;obtain⟨_,g⟩|⟨_,h⟩:=getElem?_append_cases k
 .exact(H i a (by rw[touchAt_of g];exact e) d f).app u
 .rw[l x h a e f]at d;cases d
theorem PX.l9 {g:Nat} (H:PX Ad Still Mem Am B h t) (D:Td Still g t) (C:¬Mem g) (A:Am g) (z:∀op∈u,op.g=g) (y:∀op∈u,∀b,op.act.touch?=some b->b.write=false/\Still b.loc)
  (E:∀op∈u,op.act.low B):PX Ad Still Mem Am B h (t++u):=by
 refine⟨λsaid=>noRace_append (H.clean said) z λi a e op p b s o=>?_,λi a e v=>?_,λi a e n r q m=>?_,H.O5 z (λx=>(C x).elim),seen_app H.seen E⟩
 .obtain⟨k,l⟩:=y op p b s;obtain x|x:=o.2.2.1
  .exact D i a e x (o.1 ▸ l)
  .rw[k]at x;cases x
 .obtain⟨x,f,c⟩:=touch_of e;obtain⟨_,j⟩|⟨_,d⟩:=getElem?_append_cases f
  .exact H.old j c v
  .exact .inr (.inl ⟨.inl (y x d a c).1,(y x d a c).2,g,by rw[g?_of f,z x d],A⟩)
 .obtain⟨x,f,c⟩:=touch_of e;obtain⟨_,j⟩|⟨_,d⟩:=getElem?_append_cases f
  .exact(H.wrote i a (by rw[touchAt_of j];exact c) n r q m).app u
  .rw[(y x d a c).1]at n;cases n
end
def ai3 (w:o_) (cC:Array CommCase) (kq cq:Nat) (zq:n_):Prop:=
 cC[kq]?=some (rcase cq zq)/\(∃k,w.heap[cq]?=some (.chan 0 #[] true k k false))/\∀(m:Nat) cc,m≠kq->cC[m]?=some cc->Gt w cc
def CB (P:l_) (c r:Nat) (pre:X_) (ty:j_) (o:RQ) (Ph:Bool->Nat->m_->o_->Trace->Prop) (X:o_->Prop) (w0:Bool) (n:Nat) (g:m_) (w:o_) (t:Trace):Prop:=
 Ph w0 n g w t\/(fF P c r pre ty o w0 n g w t/\X w)
def Vq (Z:Nat->Prop) (r:Nat) (X:o_->Prop):Prop:=∀w w':o_,X w->(∀x,x≠r->Z x->w'.heap[x]?=w.heap[x]?)->X w'
structure Ns (P:l_) (Z:Nat->Prop) (Ad Still:Loc->Prop) (Am:Nat->Prop) (c r:Nat) (pre:X_) (ty:j_) (o:RQ) (Ph:Bool->Nat->m_->o_->Trace->Prop) (X:o_->Prop):Prop where
 status:∀{w0 n g w t},Ph w0 n g w t->g.status=.running/\0<n
 run:∀{w0 n g w t},Ph w0 n g w t->BA r pre ty w (if w0 then KK+1 else KK) 0
 calm:∀{w0 n g w t} (w':o_) (u:Trace),Ph w0 n g w t->Jj Z w w'->Xz Ad Still c u->Ph w0 n g w' (t++u)
 mark:∀{w0 n g w t} {es:Array Event} {fn:h_} {pos:String} (d:Nat),(∀e∈es,(MemAct.ofEvent e).touch?=none/\∀a,MemAct.ofEvent e≠.mark (.release a))->Ph w0 n g w t->Ph w0 n g (w.at d) (t++MemOp.ofEvents 0 fn pos es)
 up:∀{n g w t} {fn:h_} {pos:String} (d:Nat),BA r pre ty w KK 0->Ph false n g w t->Ph true n g ((w.at d).setCell (stA r pre) (.int .u64 (KK+1))) (t++MemOp.ofEvents 0 fn pos (J9 (stA r pre)))
 step:∀{Mem:Nat->Prop} {w0 n g w t B},¬Mem c->Ph w0 n g w t->PX Ad Still Mem Am B 0 t->w.heap.size<=B->∀d,
  (∃n' g' w' es,n'<n/\stepG P false g (w.at d)=.go g' w' es/\CP Z w w'/\bw8 (λB t=>PX Ad Still Mem Am B 0 t) B w' (t++MemOp.ofEvents c g.frame.fn g.frame.place es)/\CB P c r pre ty o Ph X w0 n' g' w' (t++MemOp.ofEvents c g.frame.fn g.frame.place es))\/
  (∃n' g₂ cases shape es k cq z cap s r' tm,n'<n/\stepG P false g (w.at d)=.comm g₂ cases true shape (w.at d) es/\cases[k]?=some (rcase cq z)/\w.heap[cq]?=some (.chan cap #[] true s r' tm)/\(∀(m:Nat) cc,m≠k->cases[m]?=some cc->Gt w cc)/\
   PX Ad Still Mem Am B 0 (t++(MemOp.ofEvents c g.frame.fn g.frame.place es++#[{ g:=c,fn:=g₂.frame.fn,pos:=g₂.frame.place,act:=.recvClosed cq }]))/\
   CB P c r pre ty o Ph X w0 n' (Conc.served g₂ (commResult cases shape k z false)) (w.at d) (t++(MemOp.ofEvents c g.frame.fn g.frame.place es++#[{ g:=c,fn:=g₂.frame.fn,pos:=g₂.frame.place,act:=.recvClosed cq }])))
 low:∀{w0 n g w t d g' w' es st'},Ph w0 n g w t->stepG P false g (w.at d)=.go g' w' es->BA r pre ty w' st' 1->False
 keep:Vq Z r X
def sU (P:l_) (c r:Nat) (pre:X_) (ty:j_) (o:RQ) (K:o_->Prop) (Still:Loc->Prop) (cC:Array CommCase) (home:m_->Prop) (kq cq:Nat) (zq:n_) (kR:Nat) (w0:Bool) (n:Nat) (g:m_) (w:o_) (t:Trace):Prop:=
 ∃k,n=k+1+(kR+(o.k1+o.k2+o.k3+o.k4+o.nF+o.nP+10))/\Kq c r pre t/\K w/\ai3 w cC kq cq zq/\BA r pre ty w (if w0 then KK+1 else KK) 0/\Deaf t c=0/\Td Still c t/\g.status=.running/\G5 P false K Still cC .select home k g
section
variable {P:l_} {Z:Nat->Prop} {Ad Still:Loc->Prop} {Mem Am:Nat->Prop} {r:Nat} {pre:X_} {ty:j_} {c B:Nat} {t:Trace} {o:RQ} {w0:Bool} {K:o_->Prop} {cC:Array CommCase} {home:m_->Prop} {kq cq kR:Nat} {zq:n_} {Ph:Bool->Nat->m_->o_->Trace->Prop} {X:o_->Prop}
theorem Rf (O:OO P r pre ty o) (T:Z r) (V:∀l,LM r pre l->Ad l/\¬Still l) (W:c≠0) (U:¬Mem c) (S:Vq Z r X):
  GR P Z Ad Still (λB t=>PX Ad Still Mem Am B 0 t) c (λn g w t=>fF P c r pre ty o w0 n g w t/\X w):=by
 have A:=aw9 (Z:=λx=>x=r) (Ad:=Ad) (Still:=Still) (Mem:=Mem) (Am:=Am) (ty:=ty) (w0:=w0) O rfl V W U;have q:∀{w f:o_},Jj Z w f->Jj (λx=>x=r) w f:=λi x v=>by subst v;exact i _ T
 refine⟨λh=>A.status h.1,λh f i=>A.again h.1 f (q i),λf u h i M=>⟨A.calm f u h.1 (q i) M,S _ _ h.2 λx _ N=>i x N⟩,?_⟩;rintro n g w t B ⟨h,D⟩ F G L d;obtain⟨y,K,f,p,a1,a2,b,j,m⟩|⟨y,a,C,E,p,a1,a2,b,j,m⟩|⟨y,a,C,E,p,k,J,z,cap,s,Q,R,a1,a2,b,j,m,H,I⟩:=A.step h F G L d
 .exact .inl ⟨y,K,f,p,a1,a2,⟨b.size,λx v=>b.same x (λe=>v (by rw[e];exact T)),b.os,b.output,b.tape⟩,j,m,S _ _ D λx v _=>b.same x v⟩
 .exact .inr (.inl ⟨y,a,C,E,p,a1,a2,b,j,m,S _ _ D λ_ _ _=>rfl⟩)
 .exact .inr (.inr ⟨y,a,C,E,p,k,J,z,cap,s,Q,R,a1,a2,b,j,m,H,I,S _ _ D λ_ _ _=>rfl⟩)
theorem O9 (H:Ns P Z Ad Still Am c r pre ty o Ph X) (O:OO P r pre ty o) (Q:Z r) (N:∀l,LM r pre l->Ad l/\¬Still l) (M:c≠0) (L:¬Mem c):
  GR P Z Ad Still (λB t=>PX Ad Still Mem Am B 0 t) c (CB P c r pre ty o Ph X w0) where
 status:=by
  rintro n g w t (h|h)
  .exact .inl (H.status h)
  .exact(Rf (Z:=Z) (Ad:=Ad) (Still:=Still) (Mem:=Mem) (Am:=Am) O Q N M L H.keep).status h
 again:=by
  rintro n g w t (h|h) b p
  .exact again_running _ (.inl (H.status h).1)
  .exact(Rf (Z:=Z) (Ad:=Ad) (Still:=Still) (Mem:=Mem) (Am:=Am) O Q N M L H.keep).again h b p
 calm:=by
  rintro n g w t b u (h|h) p C
  .exact .inl (H.calm b u h p C)
  .exact .inr ((Rf (Z:=Z) (Ad:=Ad) (Still:=Still) (Mem:=Mem) (Am:=Am) O Q N M L H.keep).calm b u h p C)
 step:=by
  rintro n g w t B (h|h) D y A d
  .have v:(c==0)=false:=(by simpa using M);rw[v];exact(H.step L h y A d).imp id .inr
  .obtain⟨m,I,b,j,a1,a2,e,f,i⟩|⟨m,a,q,x,j,a1,a2,e,f,i⟩|⟨m,a,q,x,j,k,G,z,cap,s,J,K,a1,a2,e,f,i,E,F⟩:=(Rf (Z:=Z) (Ad:=Ad) (Still:=Still) (Mem:=Mem) (Am:=Am) O Q N M L H.keep).step h D y A d
   .exact .inl ⟨m,I,b,j,a1,a2,e,f,.inr i⟩
   .exact .inr (.inl ⟨m,a,q,x,j,a1,a2,e,f,.inr i⟩)
   .exact .inr (.inr ⟨m,a,q,x,j,k,G,z,cap,s,J,K,a1,a2,e,f,i,E,.inr F⟩)
theorem cO (h:Xz Ad Still c u):Deaf (t++u) c=Deaf t c:=Deaf_quiet λop e d=>by
 have b:=(h op e).1;obtain⟨g,fn,pos,a⟩:=op;simp only at b;cases a with
 |mark f=>cases f<;>simp[deafStep,b]
 |_=>rfl
theorem lZ {sm:Int} {h:Obj} (i:BA r pre ty w st sm) (f:w.heap[x]?=some h) (b:∀cells ty at_,h≠.cells cells ty at_) (v:n_) (d:Nat):((w.at d).setCell (stA r pre) v).heap[x]?=some h:=by
 have a:r≠x:=λe=>by subst e;unfold BA at i;rw[i]at f;exact b _ _ _ (x_ f).symm
 simp[World.setCell,World.at,stA,jJ,a,f]
theorem ax7 (L:Sl Z Still K) (hzC:∀cc∈cC,∀c z,cc=rcase c z->Z c) (hZ:Z r) (hW:∀l,LM r pre l->Ad l/\¬Still l) (hc:c≠0) (hL:Am c)
  (hR:∀g₂,home g₂->KR P (Dz r pre ty) false kR (Conc.served g₂ (commResult cC .select kq zq false)) o.gR) (hKs:∀w (n:Int) d,K w->K ((w.at d).setCell (stA r pre) (.int .u64 n))):
  Ns P Z Ad Still Am c r pre ty o (sU P c r pre ty o K Still cC home kq cq zq kR) (λ_=>True) where
 status:=by
  rintro U n g w t ⟨k,rfl,_,_,_,_,_,_,q,_⟩
  exact⟨q,zD⟩
 run:=by
  rintro U n g w t ⟨k,_,_,_,_,h,_⟩
  exact h
 calm:=by
  rintro U n g w t w' u ⟨k,C,y,j,⟨F,⟨E,G⟩,O⟩,s,A,v,J,p⟩ X hu
  refine⟨k,C,y.calm (λl hl=>(hW l hl).1) hu,L.keep w w' X j,⟨F,⟨E,?_⟩,λm cc hm V=>?_⟩,s.keep hZ X,(cO hu).trans A,v.app λop a b f q=>(((hu op a).2.1 b f).1 q).1,J,p⟩
  .rw[X cq (hzC _ (Array.mem_of_getElem? F) _ _ rfl)];exact G
  .obtain⟨W,z',k'',e,hc'⟩:=O m cc hm V;exact⟨W,z',k'',e,by rw[X W (hzC _ (Array.mem_of_getElem? V) _ _ e)];exact hc'⟩
 mark:=by
  rintro U n g w t R fn pos d H ⟨k,C,y,j,h4,s,A,v,J,p⟩
  have Q:Jj Z w (w.at d):=λ_ _=>rfl
  refine⟨k,C,y.app λop a b f _=>?_,L.keep w _ Q j,h4,s.keep hZ Q,by rw[Deaf_other t (g':=0) (ik hc) _ Zv];exact A,v.app λop a b f=>?_,J,p⟩
  .obtain⟨e,M,rfl⟩:=qw a;rw[(H e M).1]at f;cases f
  .obtain⟨e,M,rfl⟩:=qw a;rw[(H e M).1]at f;cases f
 up:=by
  rintro n g w t fn pos d D ⟨k,C,y,j,⟨F,⟨E,G⟩,O⟩,s,A,v,J,p⟩
  have Gz:∀op∈MemOp.ofEvents 0 fn pos (J9 (stA r pre)),op.act.touch?=some ⟨.cell (stA r pre),false,.atomic⟩\/op.act.touch?=some ⟨.cell (stA r pre),true,.atomic⟩:=by
   intro op a
   obtain⟨e,M,rfl⟩:=qw a
   simp only[J9,gI,r_,p_,or_false]at M
   obtain rfl|rfl:=M
   .exact .inl rfl
   .exact .inr rfl
  refine⟨k,C,y.app λop a b f _=>?_,hKs _ _ _ j,⟨F,⟨E,lZ D G zF _ d⟩,λm cc hm V=>?_⟩,BA.setSt (w:=w.at d) D _,by rw[Deaf_other t (g':=0) (ik hc) _ Zv];exact A,v.app λop a b f q=>?_,J,p⟩
  .obtain e|e:=Gz op a<;>(rw[e]at f;obtain rfl:=x_ f;simp)
  .obtain⟨W,z',k2,e,h⟩:=O m cc hm V;exact⟨W,z',k2,e,lZ D h zF _ d⟩
  .obtain e|e:=Gz op a<;>(rw[e]at f;obtain rfl:=x_ f)
   .rfl
   .exact((hW _ (.inl rfl)).2 q).elim
 step:=by
  rintro Mem U n g w t B hM ⟨k,rfl,y,j,⟨F,⟨E,G⟩,O⟩,s,A,v,J,p⟩ Lu hB d
  have I:K (w.at d):=L.keep w (w.at d) (λ_ _=>rfl) j
  cases k with
  |zero=>
   obtain⟨g₂,R,hh,hr,H,Y⟩:=p
   obtain⟨N,r2,r3⟩:=Jb (B:=B) (i:=c) (fn:=g.frame.fn) (pos:=g.frame.place) L j hB H
   have qo:=Lu.l9 v hM hL Zv N r3
   have hcB:cq<B:=by have:=(y_.1 G).1;omega
   have S:∀op∈(#[{ g:=c,fn:=g₂.frame.fn,pos:=g₂.frame.place,act:=.recvClosed cq }]:Trace),op.g=c/\op.act.touch?=none/\op.act.low B/\(∀d,deafStep c d op=d):=by
    intro op a
    simp only[gI,r_,p_,or_false]at a
    subst a
    exact⟨rfl,rfl,hcB,λ_=>rfl⟩
   refine .inr ⟨kR+(o.k1+o.k2+o.k3+o.k4+o.nF+o.nP+10),g₂,cC,.select,R,kq,cq,zq,0,E,E,false,zD,Y _ I,F,G,O,?_,.inr ⟨⟨?_,.inl ⟨kR,rfl,hR g₂ hh,s.keep hZ (λ_ _=>rfl),?_⟩⟩,eu⟩⟩
   .rw[<-Array.append_assoc];exact qo.appMute (λop a=>(S op a).1) (λop a=>(S op a).2.1) (λx=>(hM x).elim) (λop a=>(S op a).2.2.1)
   .rw[<-Array.append_assoc];refine(y.app λop a b f T=>?_).app λop a b f _=>by rw[(S op a).2.1]at f;cases f
    exact((hW _ T).2 (N op a b f).2).elim
   .rw[<-Array.append_assoc,Deaf_quiet (λop a d=>(S op a).2.2.2 d),r2 t];exact A
  |succ k=>
   obtain⟨g',R,hr,H,Y,hw'⟩:=p
   obtain⟨N,r2,r3⟩:=Jb (B:=B) (i:=c) (fn:=g.frame.fn) (pos:=g.frame.place) L j hB H
   refine .inl ⟨k+1+(kR+(o.k1+o.k2+o.k3+o.k4+o.nF+o.nP+10)),g',w.at d,R,zD,Y _ I,CP.at w d,⟨B,w_ _,hB,Lu.l9 v hM hL Zv N r3⟩,.inl ⟨k,rfl,?_,I,⟨F,⟨E,G⟩,O⟩,s.keep hZ (λ_ _=>rfl),(r2 t).trans A,v.app λop a b f _=>(N op a b f).1,hr,hw'⟩⟩
   exact y.app λop a b f T=>((hW _ T).2 (N op a b f).2).elim
 low:=by
  rintro U n g w t d g' w' R st' ⟨k,_,_,j,_,s,_,_,_,p⟩ q C
  have Q:Jj Z w (w.at d):=λ_ _=>rfl
  have I:K (w.at d):=L.keep w (w.at d) Q j
  cases k with
  |zero=>obtain⟨g₂,CJ,_,_,_,IY⟩:=p;rw[IY _ I]at q;cases q
  |succ k=>
   obtain⟨g1,CJ,_,_,hgo,_⟩:=p
   rw[hgo _ I]at q
   injection q with _ T _
   subst T
   exact ql ((s.keep hZ Q).eq C).2 wB
 keep:=λ_ _ _ _=>trivial
def bw9 (_:Bool) (_:Nat) (_:m_) (_:o_) (_:Trace):Prop:=False
theorem bi3:Ns P Z Ad Still Am c r pre ty o bw9 (λ_=>True):=
 ⟨λh=>h.elim,λh=>h.elim,λ_ _ h=>h.elim,λ_ _ h=>h.elim,λ_ _ h=>h.elim,λ_ h=>h.elim,λh=>h.elim,λ_ _ _ _=>trivial⟩
theorem CP.sub (b:∀x,Z x->Z' x) (h:CP Z w w'):CP Z' w w':=⟨h.size,λx a=>h.same x (λe=>a (b x e)),h.os,h.output,h.tape⟩
theorem Ns.sub (H:Ns P Z Ad Still Am c r pre ty o Ph X) (v:∀x,Z x->Z' x):Ns P Z' Ad Still Am c r pre ty o Ph X:=
 ⟨H.status,H.run,λa u h b p=>H.calm a u h (λx e=>b x (v x e)) p,H.mark,H.up,λm h f l d=>(H.step m h f l d).imp (λ⟨s,k,a,j,a1,a2,g,i⟩=>⟨s,k,a,j,a1,a2,g.sub v,i⟩) id,H.low,λw a e b=>H.keep w a e λx n q=>b x n (v x q)⟩
theorem wo (H:Ns P Z Ad Still Am c r pre ty o Ph X) (O:OO P r pre ty o) (V:Z r) (U:∀l,LM r pre l->Ad l/\¬Still l) (W:c≠0) (T:¬Mem c) (S:∀x,Z x->Z' x) (R:∀w w':o_,X2 w->(∀x,¬Z x->Z' x->w'.heap[x]?=w.heap[x]?)->X2 w'):
  GR P Z' Ad Still (λB t=>PX Ad Still Mem Am B 0 t) c (λn g w t=>CB P c r pre ty o Ph X w0 n g w t/\X2 w):=by
 have q:=O9 (Mem:=Mem) (w0:=w0) H O V U W T;have m:∀{w w':o_},Jj Z' w w'->Jj Z w w':=λe x A=>e x (S x A)
 refine⟨λh=>q.status h.1,λh w' e=>q.again h.1 w' (m e),λw' u h e L=>⟨q.calm w' u h.1 (m e) L,R _ _ h.2 λx _ M=>e x M⟩,?_⟩;rintro n g w t B ⟨h,y⟩ D E K d;obtain⟨p,J,w',j,a1,a2,b,f,i⟩|⟨p,a,v,C,j,a1,a2,b,f,i⟩|⟨p,a,v,C,j,k,I,z,cap,s,N,Q,a1,a2,b,f,i,F,G⟩:=q.step h D E K d
 .exact .inl ⟨p,J,w',j,a1,a2,b.sub S,f,i,R _ _ y λx A _=>b.same x A⟩
 .exact .inr (.inl ⟨p,a,v,C,j,a1,a2,b,f,i,R _ _ y λ_ _ _=>rfl⟩)
 .exact .inr (.inr ⟨p,a,v,C,j,k,I,z,cap,s,N,Q,a1,a2,b,f,i,F,G,R _ _ y λ_ _ _=>rfl⟩)
def EY (δ:Nat) (By:Nat->m_->o_->Trace->Prop) (n:Nat) (g:m_) (w:o_) (t:Trace):Prop:=By n g w t/\Deaf t 0=δ
theorem vX (f:Xz Ad Still j u):Deaf (t++u) 0=Deaf t 0:=Deaf_quiet λop c d=>by
 have b:=(f op c).2.2.2;obtain⟨g,fn,pos,a⟩:=op;cases a with
 |mark e=>
  cases e with
  |disable=>have:=b (.inl rfl);simp only at this;simp[deafStep,this]
  |enable=>have:=b (.inr rfl);simp only at this;simp[deafStep,this]
  |_=>rfl
 |_=>rfl
theorem Uo {δ:Nat} {H:Nat->Trace->Prop} {G:Nat->m_->o_->Trace->Prop} (F:j≠0) (O:GR P Z Ad Still H j G):GR P Z Ad Still H j (EY δ G) where
 status h:=O.status h.1
 again h:=O.again h.1
 calm q u h hk hu:=⟨O.calm q u h.1 hk hu,(vX hu).trans h.2⟩
 step:=by
  rintro n g w t B ⟨h,o⟩ r v C d
  obtain⟨l,g',q,i,a1,a2,c,e,f⟩|⟨l,a,m,p,i,a1,a2,c,e,f⟩|⟨l,a,m,p,i,k,A,z,cap,s,D,E,a1,a2,c,e,f,x,y⟩:=O.step h r v C d
  .exact .inl ⟨l,g',q,i,a1,a2,c,e,f,by rw[Deaf_other t (g':=j) F _ Zv];exact o⟩
  .exact .inr (.inl ⟨l,a,m,p,i,a1,a2,c,e,f,by rw[Deaf_other t (g':=j) F _ Zv];exact o⟩)
  .refine .inr (.inr ⟨l,a,m,p,i,k,A,z,cap,s,D,E,a1,a2,c,e,f,x,y,?_⟩);rw[Deaf_other t (g':=j) F _ (λop b=>by
    obtain b|b:=Array.mem_append.1 b
    .exact Zv op b
    .simp at b;subst b;rfl)]
   exact o
theorem aw8 {t:Trace} (h:fF P c r pre ty o w0 n g w t):Dz r pre ty w:=by
 obtain⟨_,⟨_,_,_,h,_⟩|⟨_,_,_,_,h,_⟩|⟨_,_,_,_,h,_⟩|⟨_,_,_,h,_⟩|⟨_,_,_,_,_,h,_⟩|⟨_,_,_,_,_,h,_⟩|⟨_,_,_,h,_⟩⟩:=h<;>exact⟨_,_,h⟩
theorem YB (H:Ns P Z Ad Still Am c r pre ty o Ph X) {t:Trace} (h:CB P c r pre ty o Ph X w0 n g w t):Dz r pre ty w:=by
 obtain h|h:=h
 .exact⟨_,_,H.run h⟩
 .exact aw8 h.1
theorem Hw {h j:Nat} {R:Nat->m_->o_->Trace->Prop} {J:o_->Prop} (V:∀n b w t,R n b w t->∀d,J (w.at d)) (O:GR P Z Ad Still (fun B t=>PX Ad Still Mem Am B h t) j R) {T:m_}:∀(k:Nat) {a:m_} (_:KR P J (h==0) k a T) {n B:Nat} {gs:Array m_} {w:o_} {sl:d_ (W_)} {t:Trace} {q:Nat->Nat},
  gs[h]?=some a->Duo P Ad Still Mem Am B h j R n gs w t q->AQ P gs w sl t λS w' t'=>∃Y W U,S[h]?=some T/\CP Z w w'/\B<=U/\Duo P Ad Still Mem Am U h j R W S w' t' Y
 |0,a,i,n,B,gs,w,sl,t,q,e,D=>.now ⟨q,n,B,by rw[e,show a=T from i],CP.refl w,w_ _,D⟩
 |k+1,a,i,n,B,gs,w,sl,t,q,e,D=>by
  obtain⟨s,a1,u,x⟩:=i
  refine go_duo (LV:=Mem) (Loose':=Am) O e s D D.mem λr g w1 c H M Q z f A d=>⟨a1,w1.at d,#[],r,u _ (V _ _ _ _ f d),w_ _,c,by rw[DT];exact A,R,H,?_,λS Y W N y v K=>?_⟩
  .rw[DT,woken_of_again (O.again f (w1.at d) (λ_ _=>rfl))];have:=O.calm (w1.at d) #[] f (λ_ _=>rfl) (λop p=>by simp at p);simpa using this
  .exact(Hw V O k x y v).mono λo L I ⟨m,l,B'',C,E,F,G⟩=>⟨m,l,B'',C,z.trans ((CP.at w1 d).trans E),pV g F,G⟩
end
section
variable {P:l_} {Z:Nat->Prop} {Ad Still:Loc->Prop} {Mem Am:Nat->Prop} {r:Nat} {pre:X_} {ty:j_} {c B:Nat} {t:Trace} {o:RQ} {w0:Bool} {X:o_->Prop} {Ph:Bool->Nat->m_->o_->Trace->Prop} {K K1:o_->Prop} {TT:Trace->Prop} {cC:Array CommCase} {home:m_->Prop} {kq cq kR:Nat} {zq:n_}
theorem dh (d:∀x,¬Still (.obj x)) (f:cq<B):∀e∈closeEvents cq,Zz Ad Still B e:=by
 intro e b;simp only[closeEvents,gI,r_,p_,or_false]at b;obtain rfl|rfl:=b
 .refine⟨λx a=>?_,zF,zF,f,zF⟩;obtain rfl:=x_ a;exact⟨λc=>(d _ c).elim,λ_=>zF⟩
 .exact⟨λx a=>(by cases a),zF,zF,f,zF⟩
theorem Jv {d k:Nat} {a:Bool}:((w.at d).setChan x 0 #[] a k k false).heap.size=w.heap.size:=by simp[World.setChan,World.at]
theorem MX (f:Z cq) (w:o_) (d k:Nat) (b:Bool):CP Z w ((w.at d).setChan cq 0 #[] b k k false):=by
 refine⟨by simp[World.setChan,World.at],λx a=>?_,rfl,rfl,rfl⟩;have:cq≠x:=λe=>a (e ▸ f)
 simp[World.setChan,World.at,z_ this]
theorem wu (L1:Sl Z Still K1) (hK1:∀w,K1 w->K w) (hT:aP Ad Still c TT) (hc:c≠0) (hSo:∀x,¬Still (.obj x)) (hzC:∀cc∈cC,∀c z,cc=rcase c z->Z c) (hLc:Am c)
  (hTT:∀t,TT t->Kq c r pre t) (cn2:∀w,K1 w->BA r pre ty w KK 0) (hKq:∀w k,K w->K (w.setChan cq 0 #[] true k k false)) (hrq:r≠cq)
  (hkq:cC[kq]?=some (rcase cq zq)) (hoq:∀(m:Nat) cc,m≠kq->cC[m]?=some cc->cc.chan≠.chan (some cq))
  (bq3:∀g₂,home g₂->G5 P false K Still cC .select home 0 { parked g₂ cC .select with status:=.running })
  {a a':m_} (hwake:mayWake P a=true) (ha':a'.status=.running) (BF:a.status=.running)
  (hclose:∀(w1:o_) k,K1 w1->w1.heap[cq]?=some (.chan 0 #[] false k k false)->∀d,stepG P true a (w1.at d)=.go a' ((w1.at d).setChan cq 0 #[] true k k false) (closeEvents cq))
  {n:Nat} {gs:Array m_} {w:o_} {sl:d_ (W_)} {q:Nat->Nat} (h0:gs[0]?=some a) (D:Duo P Ad Still (λg=>g=0\/g=c) Am B 0 c (OL P (c==0) K K1 TT Still cC .select home) n gs w t q):
  AQ P gs w sl t λBh w' t'=>∃q' n' B',Bh[0]?=some a'/\CP Z w w'/\B<=B'/\Duo P Ad Still (λg=>g=0) Am B' 0 c (CB P c r pre ty o (sU P c r pre ty o K Still cC home kq cq zq kR) (λ_=>True) false) n' Bh w' t' q':=by
 have U:(c==0)=false:=by simpa using hc
 refine go_duo (LV:=λg=>g=0) (Loose':=Am) (Xi L1 hK1 hT hzC (.inr rfl) hLc) h0 BF D (λg W=>.inl W) λO F w1 Cb n1 b1 Y ho hB A d=>?_
 obtain⟨⟨T,jr⟩,s,Ql⟩:=hB;rw[U]at Ql;obtain⟨f,z',k,e',y⟩:=s _ (Array.mem_of_getElem? hkq);have:f=cq:=by simp[rcase]at e';exact e'.1.symm
 subst this;have N:Z f:=hzC _ (Array.mem_of_getElem? hkq) _ _ rfl;have V:f<O:=by have:=(y_.1 y).1;omega
 have Gz:=dh (Ad:=Ad) (Still:=Still) hSo V;have S:=(A.own (fn:=a.frame.fn) (pos:=a.frame.place) Gz).fewer (LV:=λg=>g=0) λg W=>.inl W
 have Q:Xz Ad Still c (MemOp.ofEvents 0 a.frame.fn a.frame.place (closeEvents f)):=Gf (ik hc) Gz;have j:∀x,x≠f->((w1.at d).setChan f 0 #[] true k k false).heap[x]?=w1.heap[x]?:=λx X=>by
  simp[World.setChan,World.at,z_ (ik X)]
 have l:((w1.at d).setChan f 0 #[] true k k false).heap[f]?=some (.chan 0 #[] true k k false):=by
  have:=(y_.1 y).1
  simp[World.setChan,World.at,this]
 have p:ai3 ((w1.at d).setChan f 0 #[] true k k false) cC kq f zq:=by
  refine⟨hkq,⟨k,l⟩,λm cc hm GL=>?_⟩
  obtain⟨c2,z2,k2,e2,h2⟩:=s cc (Array.mem_of_getElem? GL)
  refine⟨c2,z2,k2,e2,?_⟩
  rw[j c2 (λe=>hoq m cc hm GL (by rw[e2,e];rfl))]
  exact h2
 have J:BA r pre ty ((w1.at d).setChan f 0 #[] true k k false) (if false=true then KK+1 else KK) 0:=by
  unfold BA;rw[j r hrq];exact cn2 _ T
 have H:Deaf (Y++MemOp.ofEvents 0 a.frame.fn a.frame.place (closeEvents f)) c=0:=by
  rw[Deaf_other Y (g':=0) (ik hc) _ Zv];exact A.hears c (.inr rfl)
 have M:Td Still c (Y++MemOp.ofEvents 0 a.frame.fn a.frame.place (closeEvents f)):=by
  refine Td.app (λi x X C hS=>A.wrote i x X C ⟨hS,hT.ss _ hS⟩ c (.inr rfl)) λop s b G E=>(((Q op s).2.1 b G).1 E).1
 have zH:K ((w1.at d).setChan f 0 #[] true k k false):=hKq _ _ (hK1 _ (L1.keep w1 (w1.at d) (λ_ _=>rfl) T));refine⟨a',(w1.at d).setChan f 0 #[] true k k false,closeEvents f,O,hclose w1 k T y d,w_ _,by rw[Jv];exact Cb,S,CB P c r pre ty o (sU P c r pre ty o K Still cC home kq f zq kR) (λ_=>True) false,?_⟩;have I:=(hTT _ jr).calm (Ad:=LM r pre) (Still:=Still) (c:=c) (λ_ h=>h) (u:=MemOp.ofEvents 0 a.frame.fn a.frame.place (closeEvents f)) (λop s=>by
  refine⟨(Q op s).1,λb G=>?_,(Q op s).2.2⟩
  have h1:=((Q op s).2.1 b G).1
  obtain⟨e,he,rfl⟩:=qw s
  simp only[closeEvents,gI,r_,p_,or_false]at he
  obtain rfl|rfl:=he
  .obtain rfl:=x_ G;exact⟨λE=>⟨(h1 E).1,λC=>by obtain e|e:=C<;>cases e⟩,λ_=>zF⟩
  .cases G)
 obtain⟨rfl,g₂,rfl,hh,hr⟩|⟨k2,rfl,E,C⟩:=Ql
 .refine⟨_,.inl ⟨0,rfl,I,zH,p,J,H,M,?_⟩,λBh q' n' L v R Eh=>.now ⟨q',n',O,v,(ho.trans (MX N w1 d k true)),F,R⟩⟩;have C:woken P a a' ((w1.at d).setChan f 0 #[] true k k false) (parked g₂ cC .select)={ parked g₂ cC .select with status:=.running }:=by
   unfold woken
   simp only[hwake,ha',Bool.true_and]
   rw[rC wB]
   exact again_some_closed hkq l
  rw[C];exact⟨rfl,bq3 g₂ hh⟩
 .refine⟨_,.inl ⟨k2,rfl,I,zH,p,J,H,M,?_⟩,λBh q' n' L v R Eh=>.now ⟨q',n',O,v,(ho.trans (MX N w1 d k true)),F,R⟩⟩;rw[woken_run E];exact⟨E,C⟩
theorem ϟ {Z0:Nat->Prop} (H:Ns P Z0 Ad Still Am c r pre ty o Ph X) (O:OO P r pre ty o) (Y:Z0 r) (hW:∀l,LM r pre l->Ad l/\¬Still l) (hc:c≠0) (W:∀x,¬Still (.obj x)) (hzq:Z cq) (hqn:¬Z0 cq)
  {a T:m_} (BF:a.status=.running) {k:Nat} (V:∀w,X2 w->w.heap[cq]?=some (.chan 0 #[] false k k false)) (S:∀(w1:o_),w1.heap[cq]?=some (.chan 0 #[] false k k false)->∀d,stepG P true a (w1.at d)=.go T ((w1.at d).setChan cq 0 #[] true k k false) (closeEvents cq))
  {n:Nat} {gs:Array m_} {w:o_} {sl:d_ (W_)} {q:Nat->Nat} (h0:gs[0]?=some a)
  (OB:GR P Z Ad Still (λB t=>PX Ad Still (λg=>g=0) Am B 0 t) c (λn g w t=>CB P c r pre ty o Ph X false n g w t/\X2 w))
  (D:Duo P Ad Still (λg=>g=0) Am B 0 c (λn g w t=>CB P c r pre ty o Ph X false n g w t/\X2 w) n gs w t q):
  AQ P gs w sl t λU w' t'=>∃q' n' B',U[0]?=some T/\CP Z w w'/\B<=B'/\Duo P Ad Still (λg=>g=0) Am B' 0 c (CB P c r pre ty o Ph X false) n' U w' t' q':=by
 refine go_duo (LV:=λg=>g=0) (Loose':=Am) OB h0 BF D (λg K=>.inl K) λh j w1 C N y R L J p d=>?_
 obtain⟨b,G⟩:=J;have f:=V _ G;have m:cq<h:=by have:=(y_.1 f).1;omega
 have u:=dh (Ad:=Ad) (Still:=Still) W m;have I:Xz Ad Still c (MemOp.ofEvents 0 a.frame.fn a.frame.place (closeEvents cq)):=Gf (ik hc) u;have v:=O9 (w0:=false) (Mem:=λg=>g=0) H O Y hW hc (λe=>hc e);have z:Jj Z0 w1 ((w1.at d).setChan cq 0 #[] true k k false):=λx M=>by
  have E:cq≠x:=λe=>hqn (e ▸ M)
  simp[World.setChan,World.at,z_ E]
 refine⟨T,(w1.at d).setChan cq 0 #[] true k k false,closeEvents cq,h,S w1 f d,w_ _,by rw[Jv];exact C,p.own u,CB P c r pre ty o Ph X false,N,?_,λU q' n' A i F Q=>.now ⟨q',n',h,i,(L.trans (MX hzq w1 d k true)),j,F⟩⟩;have s:woken P a T ((w1.at d).setChan cq 0 #[] true k k false) y=y:=woken_of_again (v.again b _ z);rw[s];exact v.calm _ _ b z I
end
def F6 (P:l_) (c r:Nat) (pre:X_) (ty:j_) (X:o_->Prop) (sm:Int) (n:Nat) (g:m_) (w:o_) (t:Trace):Prop:=
 Kq c r pre t/\∃m,QuitsD P n (Deaf t c) g/\(BA r pre ty w 0 sm/\X w)/\OA c r pre m t
def av1 (P:l_) (r:Nat) (pre:X_) (ty:j_) (Lh g:m_):Prop:=
 ∃k1 gE gE' k2 gQ gQ' k3,KR P (Dz r pre ty) true k1 g gE/\gE.status=.running/\(∀w,stepG P true gE w=.go gE' w #[Mc])/\KR P (Dz r pre ty) true k2 gE' gQ/\gQ.status=.running/\(∀w,stepG P true gQ w=.go gQ' w #[Q3 (stA r pre)])/\KR P (Dz r pre ty) true k3 gQ' Lh
def af4 (P:l_) (r:Nat) (pre:X_) (ty:j_) (Lh g:m_):Prop:=
 ∃k gL gL0,KR P (Dz r pre ty) true k g gL/\gL.status=.running/\(∀w,w.cell? (stA r pre)=some (.int .u64 0)->stepG P true gL w=.go gL0 w #[⟨.cell (stA r pre),false,true⟩])/\av1 P r pre ty Lh gL0
section
variable {P:l_} {Z:Nat->Prop} {Ad Still:Loc->Prop} {Mem Am:Nat->Prop} {r:Nat} {pre:X_} {ty:j_} {c:Nat} {o:RQ} {w0:Bool} {sm:Int} {Lh:m_} {X:o_->Prop} {O0:Loc->Prop}
theorem xK (d:Vq Z r X) (e:Z r) (h:BA r pre ty w st sm/\X w) (b:Jj Z w w'):BA r pre ty w' st sm/\X w':=⟨h.1.keep e b,d _ _ h.2 λx _ a=>b x a⟩
theorem Un (N:Vq Z r X) (O:Z r) (R:∀l,LM r pre l->Ad l/\¬Still l) (S:c≠0) (Q:¬Mem c):GR P Z Ad Still (λB t=>PX Ad Still Mem Am B 0 t) c (F6 P c r pre ty X sm) where
 status:=by
  rintro n g w t ⟨_,m,f,_⟩
  cases n with
  |zero=>exact .inr (.inr f.1)
  |succ n=>exact f.status.elim (λx=>.inl ⟨x,zD⟩) λx=>.inr (.inr x)
 again:=by
  rintro n g w t ⟨_,m,f,_⟩ M _
  exact again_running _ f.status
 calm:=by
  rintro n g w t M u ⟨k,m,f,s,p⟩ J v
  have H:Deaf (t++u) c=Deaf t c:=Deaf_quiet λop A d=>by
   have y:=(v op A).1
   obtain⟨g,fn,pos,j⟩:=op
   simp only at y
   cases j with
   |mark L=>cases L<;>simp[deafStep,y]
   |_=>rfl
  exact⟨k.calm (λl K=>(R l K).1) v,m,by rw[H];exact f,xK N O s J,p.calm v⟩
 step:=by
  rintro n g w t B ⟨k,m,f,s,p⟩ h D G d
  have o:(c==0)=false:=by simpa using S
  rw[o]
  cases n with
  |zero=>rw[f.1]at h;cases h
  |succ n=>
   obtain⟨I,_⟩|⟨_,F,E,a,C,q⟩:=f
   .rw[I]at h;cases h
   .refine .inl ⟨n,F,w.at d,E,zD,C _,CP.at w d,⟨B,w_ _,G,Uh D Q (λe i=>⟨touch_mute (a e i),low_mute (a e i) B⟩)⟩,Fq k (λe i b z=>by rw[touch_mute (a e i)]at z;cases z),m,?_,xK N O s (λ_ _=>rfl),Rj p (VE a _)⟩;rw[Deaf_own];exact q
def XY (P:l_) (Z:Nat->Prop) (Ad:Loc->Prop) (X:o_->Prop) (B:Nat) (Lh:m_) (w:o_) (Bh:Array m_) (w':o_) (t':Trace):Prop:=
 ∃(q':Nat->Nat) (B':Nat),Bh[0]?=some Lh/\CP Z w w'/\B<=B'/\Leavers P t' Bh q'/\Past Ad B' t'/\w'.heap.size<=B'/\X w'
theorem bZ (hS0:∀l,Ad l->¬Still l->O0 l) (hX:Vq Z r X) (hZ:Z r) (hW:∀l,LM r pre l->Ad l/\¬Still l) (hc:c≠0) (hF:av1 P r pre ty Lh g) {sl:d_ (W_)}
  (h0:gs[0]?=some g) (D:Duo P Ad Still (λ_=>False) (λg=>g=c) B 0 c (EY 1 (F6 P c r pre ty X 0)) n gs w t q):AQ P gs w sl t (XY P Z O0 X B Lh w):=by
 obtain⟨k1,N,U,k2,s,V,k3,s1,hE,S,s2,hQ,C,s3⟩:=hF;have R:∀δ n b w t,EY δ (F6 P c r pre ty X 0) n b w t->∀d,Dz r pre ty (w.at d):=λδ n b w t h d=>h.1.2.choose_spec.2.1.1.is d
 have z:∀δ L,GR P Z Ad Still (λB t=>PX Ad Still (λ_=>False) L B 0 t) c (EY δ (F6 P c r pre ty X 0)):=λδ L=>Uo hc (Un hX hZ hW hc id)
 refine(Hw (R 1) (z 1 _) k1 s1 h0 D).bind λgs1 w1 Jz t1 hz1 ⟨q1,n1,B1,h1,o1,b1,D1⟩=>?_
 refine go_duo (LV:=λ_=>False) (Loose':=λg=>g=c) (z 1 _) h1 hE D1 (λ_ o=>o.elim) λBp hBp w2 J n2 x2 t2 o2 u hp2 d=>?_
 have hd2:Deaf (t2++MemOp.ofEvents 0 N.frame.fn N.frame.place #[Mc]) 0=0:=by rw[Deaf_own,u.2];rfl
 have Y:F6 P c r pre ty X 0 n2 x2 (w2.at d) (t2++MemOp.ofEvents 0 N.frame.fn N.frame.place #[Mc]):=by
  obtain⟨hN,m,hq,hr,hm⟩:=u.1
  refine⟨Fq hN (λe f b E=>by simp at f;subst f;cases E),m,?_,xK hX hZ hr (λ_ _=>rfl),hm.app (λop p=>?_) (λk op b hk o _=>?_)⟩
  .rw[Deaf_other t2 (g':=0) (ik hc) _ Zv];exact hq
  .obtain⟨e,f,rfl⟩:=qw p;simp at f;subst f;simp[Mc,MemAct.ofEvent]
  .have:=Zv op (Array.mem_of_getElem? hk);omega
 refine⟨U,w2.at d,#[Mc],Bp,S _,w_ _,J,hp2.appMute Zv (λop p=>by obtain⟨e,f,rfl⟩:=qw p;simp at f;subst f;rfl) (λx=>x.elim) (λop p=>by obtain⟨e,f,rfl⟩:=qw p;simp at f;subst f;trivial),
  EY 0 (F6 P c r pre ty X 0),n2,⟨?_,hd2⟩,λgs3 q3 n3 hz3 h3 D3 sl3=>?_⟩
 .have Cc:=(Un (P:=P) (Z:=Z) (Ad:=Ad) (Still:=Still) (Mem:=λ_=>False) (Am:=λg=>g=c) (ty:=ty) (sm:=0) hX hZ hW hc id).again u.1 (w2.at d) (λ_ _=>rfl);rw[woken_of_again Cc];exact Y
 refine(Hw (R 0) (z 0 _) k2 s2 h3 D3).bind λgs4 w4 NY t4 hz4 ⟨q4,n4,B4,h4,o4,b4,D4⟩=>?_
 refine go_duo (LV:=λ_=>False) (Loose':=λg=>g=c/\g≠c) (z 0 _) h4 hQ D4 (λ_ o=>o.elim) λQ hBq O K n5 x5 t5 o5 W hp5 M=>?_
 obtain⟨⟨A,m,H,v,j⟩,F⟩:=W;have hrB:(stA r pre).block<Q:=by have:=v.1.lt;show r<Q;omega
 have G:MemOp.ofEvents 0 s.frame.fn s.frame.place #[Q3 (stA r pre)]=#[{ g:=0,fn:=s.frame.fn,pos:=s.frame.place,act:=.mark (.acquire (stA r pre)) }]:=by
  rw[ofEvents_eq];simp[Q3,MemAct.ofEvent]
 obtain⟨op,p,hog,hoa⟩:=j.at_;have hpx:=hp5.acquire (a:=stA r pre) F p hog hoa j.heard (λi b hi hgi _ _ _=>by
  obtain BL|hge:=Nat.lt_or_ge i m
  .exact .inl BL
  .obtain⟨x1,x2,x3⟩:=j.after i b hge hi hgi;exact .inr ⟨(hW _ x1).1,⟨x2,(hW _ x1).2⟩,x3⟩) j.norel s.frame.fn s.frame.place hrB
 have T:F6 P c r pre ty X 0 n5 x5 (O.at M) (t5++MemOp.ofEvents 0 s.frame.fn s.frame.place #[Q3 (stA r pre)]):=by
  refine⟨Fq A (λe f b E=>by simp at f;subst f;cases E),m,?_,xK hX hZ v (λ_ _=>rfl),j.app (λop p=>?_) (λk op b hk o _=>?_)⟩
  .rw[Deaf_other t5 (g':=0) (ik hc) _ Zv];exact H
  .obtain⟨e,f,rfl⟩:=qw p;simp at f;subst f;simp[Q3,MemAct.ofEvent]
  .have:=Zv op (Array.mem_of_getElem? hk);omega
 have I:=(Un (P:=P) (Z:=Z) (Ad:=Ad) (Still:=Still) (Mem:=λ_=>False) (Am:=λg=>g=c) (ty:=ty) (sm:=0) hX hZ hW hc id).again ⟨A,m,H,v,j⟩ (O.at M) (λ_ _=>rfl);refine⟨V,O.at M,#[Q3 (stA r pre)],Q,C _,w_ _,K,by rw[G];exact hpx,EY 0 (F6 P c r pre ty X 0),n5,⟨by rw[woken_of_again I];exact T,by rw[Deaf_own,F];rfl⟩,λgs6 q6 n6 hz6 h6 D6 Fa=>?_⟩;refine(Hw (R 0) (z 0 _) k3 s3 h6 D6).mono λgs7 w7 t7 ⟨q7,n7,B7,h7,o7,b7,y⟩=>?_
 obtain⟨b,E,⟨hN7,m7,hq7,hr7,hm7⟩,hd7⟩:=y.idle;refine⟨upd q7 c n7,B7,h7,o1.trans (o2.trans ((CP.at w2 d).trans (o4.trans (o5.trans ((CP.at O M).trans o7))))),zD,⟨λi g hi o=>?_,y.above⟩,y.tr.toPast hd7 (λg o=>o.2 o.1) hS0,y.size,hr7.2⟩;by_cases e:i=c
 .subst e;rw[E]at o;obtain rfl:=x_ o;rw[upd_same];exact hq7
 .rw[upd_ne q7 n7 e];exact y.JG i g zD e o
theorem UI (d:∀l,LM r pre l->Ad l/\¬Still l) (h:r<B) {a:f_} (e:LM r pre (.cell a)) (f:a.block=r) (wr:Bool):Zz Ad Still B ⟨.cell a,wr,true⟩:=by
 refine⟨λx c=>?_,zF,zF,?_,zF⟩
 .obtain rfl:=x_ c;exact⟨λb=>((d _ e).2 b).elim,λ_=>zF⟩
 .show a.block<B;omega
theorem Y0 (hS0:∀l,Ad l->¬Still l->O0 l) (hX:Vq Z r X) (hZ:Z r) (hW:∀l,LM r pre l->Ad l/\¬Still l) (hc:c≠0) (hF:af4 P r pre ty Lh g) {sl:d_ (W_)}
  (h0:gs[0]?=some g) (D:Duo P Ad Still (λ_=>False) (λg=>g=c) B 0 c (EY 1 (F6 P c r pre ty X 0)) n gs w t q):AQ P gs w sl t (XY P Z O0 X B Lh w):=by
 obtain⟨k,gL,p,W,K,f,s⟩:=hF;have E:∀δ n b w t,EY δ (F6 P c r pre ty X 0) n b w t->∀d,Dz r pre ty (w.at d):=λδ n b w t h d=>h.1.2.choose_spec.2.1.1.is d
 have m:∀δ,GR P Z Ad Still (λB t=>PX Ad Still (λ_=>False) (λg=>g=c) B 0 t) c (EY δ (F6 P c r pre ty X 0)):=λδ=>Uo hc (Un hX hZ hW hc id)
 refine(Hw (E 1) (m 1) k W h0 D).bind λF w1 Jz t1 M ⟨q1,n1,B1,H,T,b1,A⟩=>?_
 refine go_duo (LV:=λ_=>False) (Loose':=λg=>g=c) (m 1) H K A (λ_ L=>L.elim) λo J w2 j S x2 t2 U a u d=>?_
 have i:BA r pre ty w2 0 0:=a.1.2.choose_spec.2.1.1;have v:r<o:=by have:=i.lt;omega
 have x:∀e∈#[(⟨.cell (stA r pre),false,true⟩:Event)],Zz Ad Still o e:=by
  intro e y
  simp at y;subst y
  exact UI hW v (.inl rfl) rfl false
 refine⟨p,w2.at d,_,o,f _ (i.keep hZ (λ_ _=>rfl)).cellSt,w_ _,j,u.own x,EY 1 (F6 P c r pre ty X 0),S,?_,λG q3 n3 N I C Y=>?_⟩
 .rw[woken_of_again ((m 1).again a (w2.at d) (λ_ _=>rfl))];exact(m 1).calm (w2.at d) _ a (λ_ _=>rfl) (Gf (ik hc) x)
 .refine(bZ hS0 hX hZ hW hc s I C).mono λBh w' t' ⟨V,z,O,Q,j3,R⟩=>⟨V,z,O,T.trans (U.trans ((CP.at w2 d).trans Q)),zD,R⟩
end
end Go.Fxa
