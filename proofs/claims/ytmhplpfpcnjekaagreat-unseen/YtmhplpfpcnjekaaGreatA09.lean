/- The child walks on blocks that -/
import Derived.Test.YtmhplpfpcnjekaaGreatA08
import Derived.Test.YtmhplpfpcnjekaaGreatProg
import Derived.Conc.DeferLaws
open Go.Proofs.Tryz
namespace Go.Fxa
open Go.Conc
open Go.ConcN (sumTo upd sumTo_upd upd_ne upd_same)
def AgL (Zl:Nat->Prop) (w w1:o_):Prop:=∀x,Zl x->w1.heap[x]?=w.heap[x]?
def Ik (P:l_) (r:Nat) (pre:X_) (ty:j_) (Zl:Nat->Prop) (gR:m_) (X:o_->Prop):Nat->m_->o_->Prop
 |0,g,w=>g=gR/\X w
 |n+1,g,w=>g.status=.running/\∀w1,AgL Zl w w1->Dz r pre ty w1->∃g' w' es,stepG P false g w1=.go g' w' es/\(∀e∈es,∃a wr,e=⟨.cell a,wr,false⟩/\Zl a.block/\a.block<w'.heap.size)/\CP Zl w1 w'/\Ik P r pre ty Zl gR X n g' w'
section
variable {P:l_} {Z Zl:Nat->Prop} {Ad Still:Loc->Prop} {Am:Nat->Prop} {r:Nat} {pre:X_} {ty:j_} {c:Nat} {o:RQ} {gR:m_} {X:o_->Prop}
theorem Ik.agree (e:∀w w1,AgL Zl w w1->X w->X w1):∀{n:Nat} {g:m_} {w w1:o_},AgL Zl w w1->Ik P r pre ty Zl gR X n g w->Ik P r pre ty Zl gR X n g w1
 |0,_,_,_,a,h=>⟨h.1,e _ _ a h.2⟩
 |_+1,_,_,_,a,h=>⟨h.1,λw2 c d=>h.2 w2 (λx b=>(c x b).trans (a x b)) d⟩
theorem Ik.TJ (j:∀w w1,AgL Zl w w1->X w->X w1) {n:Nat} {g':m_} {w:o_} (h:Ik P r pre ty Zl gR X n g' w):∀{k:Nat} {g:m_},KR P (Dz r pre ty) false k g g'->Ik P r pre ty Zl gR X (k+n) g w
 |0,g,a=>by rw[Nat.zero_add,show g=g' from a];exact h
 |k+1,g,a=>by
  rw[show k+1+n=(k+n)+1 from by omega]
  obtain⟨c,b,d,e⟩:=a
  exact⟨c,λw1 f i=>⟨b,w1,#[],d w1 i,zF,CP.refl w1,(Ik.TJ j h e).agree j f⟩⟩
def fG (P:l_) (c r:Nat) (pre:X_) (ty:j_) (o:RQ) (Ad Still:Loc->Prop) (Zl:Nat->Prop) (X:o_->Prop) (w0:Bool) (n:Nat) (g:m_) (w:o_) (t:Trace):Prop:=
 (Kq c r pre t/\KnL Ad Still c t)/\BA r pre ty w (if w0 then KK+1 else KK) 0/\Deaf t c=0/\∃k,n=k+1+(o.k1+o.k2+o.k3+o.k4+o.nF+o.nP+10)/\Ik P r pre ty Zl o.gR X (k+1) g w
theorem bb9 (hZ:Z r) (hZl:∀x,Zl x->Z x) (Cm:¬Zl r) (hW:∀l,LM r pre l->Ad l/\¬Still l) (BL:∀a:f_,Zl a.block->Still (.cell a)/\Ad (.cell a)) (hc:c≠0) (hL:Am c) (hX:∀w w1,AgL Zl w w1->X w->X w1):
  Ns P Z Ad Still Am c r pre ty o (fG P c r pre ty o Ad Still Zl X) X where
 status:=by
  rintro F n g w t ⟨_,_,_,k,rfl,z,_⟩
  exact⟨z,zD⟩
 run:=by
  rintro F n g w t ⟨_,h,_⟩
  exact h
 calm:=by
  rintro F n g w t s u ⟨⟨v,A⟩,p,C,k,H,y⟩ K Q
  exact⟨⟨v.calm (λl W=>(hW l W).1) Q,A.app λop f b i z O=>((((Q op f).2.1 b i).1 z).2 O).elim⟩,p.keep hZ K,(cO Q).trans C,k,H,y.agree hX λx D=>K x (hZl x D)⟩
 mark:=by
  rintro F n g w t m fn pos d S ⟨⟨v,A⟩,p,C,k,H,y⟩
  have I:∀op∈MemOp.ofEvents 0 fn pos m,op.act.touch?=none:=λop f=>by
   obtain⟨e,q,rfl⟩:=qw f
   exact(S e q).1
  exact⟨⟨v.app λop f b i _=>(by rw[I op f]at i;cases i),A.app λop f b i=>(by rw[I op f]at i;cases i)⟩,p,by rw[Deaf_other t (g':=0) (ik hc) _ Zv];exact C,k,H,y.agree hX λ_ _=>rfl⟩
 up:=by
  rintro n g w t fn pos d N ⟨⟨v,A⟩,p,C,k,H,y⟩
  have R:∀op∈MemOp.ofEvents 0 fn pos (J9 (stA r pre)),∀b,op.act.touch?=some b->b.loc=.cell (stA r pre)/\b.kind=.atomic:=by
   intro op f b i
   obtain⟨e,q,rfl⟩:=qw f
   simp only[J9,gI,r_,p_,or_false]at q
   obtain rfl|rfl:=q<;>(obtain rfl:=x_ i;exact⟨rfl,rfl⟩)
  refine⟨⟨v.app λop f b i _=>by rw[(R op f b i).2];simp,A.app λop f b i z=>?_⟩,BA.setSt (w:=w.at d) N _,by rw[Deaf_other t (g':=0) (ik hc) _ Zv];exact C,k,H,y.agree hX λx D=>?_⟩
  .rw[(R op f b i).1]at z;exact((hW _ (.inl rfl)).2 z).elim
  .have:r≠x:=λe=>Cm (e ▸ D)
   simp[World.setCell,World.at,stA,jJ,this]
 step:=by
  rintro Mem F n g w t B V ⟨⟨v,A⟩,p,C,k,rfl,y⟩ T hB d
  obtain⟨g',s,m,e1,e2,e3,e4⟩:=y.2 (w.at d) (λ_ _=>rfl) (p.is d)
  have j:(∀op∈MemOp.ofEvents c g.frame.fn g.frame.place m,∀b,op.act.touch?=some b->∃a:f_,b.loc=.cell a/\Zl a.block)/\(∀op∈MemOp.ofEvents c g.frame.fn g.frame.place m,op.act.low (max B s.heap.size))/\Deaf (t++MemOp.ofEvents c g.frame.fn g.frame.place m) c=Deaf t c:=by
   refine⟨λop f b i=>?_,λop f=>?_,?_⟩
   .obtain⟨e,q,rfl⟩:=qw f;obtain⟨a,wr,rfl,E,_⟩:=e2 e q;obtain rfl:=x_ i;exact⟨a,rfl,E⟩
   .obtain⟨e,q,rfl⟩:=qw f;obtain⟨a,wr,rfl,_,E⟩:=e2 e q;exact Nat.lt_of_lt_of_le E (Nat.le_max_right ..)
   .rw[Deaf_own];exact deafBehind_still (λe q=>by obtain⟨a,wr,rfl,_⟩:=e2 e q;exact⟨zF,zF⟩) _
  have G:Kq c r pre (t++MemOp.ofEvents c g.frame.fn g.frame.place m):=v.app λop f b i L=>by
   obtain⟨a,E,M⟩:=j.1 op f b i
   rw[E]at L
   obtain e|e:=L<;>(injection e with e;exact(Cm (by rw[e]at M;exact M)).elim)
  have Y:KnL Ad Still c (t++MemOp.ofEvents c g.frame.fn g.frame.place m):=A.app λop f _ _ _ _=>Zv op f
  have px:PX Ad Still Mem Am (max B s.heap.size) 0 (t++MemOp.ofEvents c g.frame.fn g.frame.place m):=
   (T.mono (Nat.le_max_left ..)).bg6 V hL A Zv (λop f b i=>by obtain⟨a,E,M⟩:=j.1 op f b i;rw[E];exact BL a M) j.2.1;have J:BA r pre ty s (if F=true then KK+1 else KK) 0:=by unfold BA;rw[e3.same r Cm];exact p
  refine .inl ⟨k+(o.k1+o.k2+o.k3+o.k4+o.nF+o.nP+10),g',s,m,zD,e1,(show CP Zl w s from⟨e3.size,e3.same,e3.os,e3.output,e3.tape⟩).sub hZl,⟨max B s.heap.size,Nat.le_max_left ..,Nat.le_max_right ..,px⟩,?_⟩;cases k with
  |zero=>
   obtain⟨rfl,D⟩:=e4
   exact .inr ⟨⟨G,.inl ⟨0,rfl,rfl,J,j.2.2.trans C⟩⟩,D⟩
  |succ k=>exact .inl ⟨⟨G,Y⟩,J,j.2.2.trans C,k,rfl,e4⟩
 low:=by
  rintro F n g w t d g' s m st' ⟨_,p,_,k,_,y⟩ z v
  obtain⟨g1,w2,U,e1,_,e3,_⟩:=y.2 (w.at d) (λ_ _=>rfl) (p.is d)
  rw[e1]at z
  injection z with _ L _
  subst L
  have J:BA r pre ty w2 (if F=true then KK+1 else KK) 0:=by unfold BA;rw[e3.same r Cm];exact p
  exact ql (J.eq v).2 wB
 keep:=λw s h K=>hX w s (λx D=>K x (λe=>Cm (e ▸ D)) (hZl x D)) h
end
end Go.Fxa
namespace Go.Fxa
open Go.Conc
variable {ad:f_} {k:IntKind} {n n':Int}
def AX (x:Frame×Z_):d_ (h_×X_):=
 match x.1.roundOf,x.1.mode,x.1.kind==CallKind.early,x.1.todo with
 |none,.run,false,.inRegion ops (i::_)::_=>match ops[i]? with
  |some o=>if Region.wanted o (yielded ops x.1.tmps)then match o.op with
   |.call { callee:=.value (.func f),args:=WZ,argTypes:=_ }=>some (f,WZ.map x.1.eval)
   |_=>none
   else none
  |none=>none
 |_,_,_,_=>none
def dO (P:Program) (f:FuncId) (e:Array Value->Sem Value):Prop:=∃fn,P.funcs[f]?=some fn/\(fn.name== "runtime.NumGoroutine")=false/\fn.body.isNone=true/\Extern.findNext fn=none/\Extern.find fn=some e
def BG (x:Frame×Z_) (v:n_):Frame×Z_:=(x.1.finish v,x.2)
section
variable {P:l_} {main:Bool} {x:Frame×Z_} {f:h_} {args:X_} {e:X_->Sem n_} {w w':o_} {v:n_} {CQ:Array Event}
theorem FQ (h:AX x=some (f,args)) (N:dO P f e) (L:(e args).run P w=.ok v w') (M:(e args).events P w #[⟨.mark (.extern f),false,true⟩]=#[⟨.mark (.extern f),false,true⟩]++CQ) (O:∀x∈CQ,x.sync=true/\∀g,x.loc≠.mark (.extern g)):
  stepG P main (G x.1 x.2) w=.go (G (BG x v).1 (BG x v).2) w' CQ:=by
 obtain⟨⟨fn,c,r,i,n,kind,K⟩,I⟩:=x;obtain⟨u,A,d,y,D,z⟩:=N;unfold AX at h;simp only at h;split at h
 .rename_i j p q l F;split at h
  .rename_i o m;split at h
   .rename_i E;split at h
    .rename_i J H t s;simp only[qx,lJ]at h;obtain⟨rfl,rfl⟩:=h;have B:kind≠.early:=λe=>by subst e;simp at F
     have C:=Frame.eval_at' (Frame.mk fn c [] i .run kind none) ⟨c,i⟩ (.inRegion j (p::q)::l);have k:(Frame.mk fn c (.inRegion j (p::q)::l) i .run kind none).eval=(Act.mk c i).eval:=C;rw[k]at L M;exact(stepG_entry (b:=Frame.mk fn c [] i .run kind none) (a:=⟨c,i⟩) (kk:=l) m E B s A d y D z L M O).trans (by unfold BG Act.put Frame.at Frame.finish;simp only[m,Option.bind_some];cases o.dst<;>rfl)
    .cases h
   .cases h
  .cases h
 .cases h
theorem vV (h:AX x=some (f,args)) (I:dO P f e) (H:(e args).run P w=.halt .blocked w'):stepG P main (G x.1 x.2) w=.go { G x.1 x.2 with status:=.blocked } w' #[]:=by
 obtain⟨⟨fn,c,p,g,l,kind,F⟩,C⟩:=x;obtain⟨s,v,d,t,y,u⟩:=I;unfold AX at h;simp only at h;split at h
 .rename_i i m n k E;split at h
  .rename_i o z;split at h
   .rename_i A;split at h
    .rename_i D B r q;simp only[qx,lJ]at h;obtain⟨rfl,rfl⟩:=h;have j:(Frame.mk fn c (.inRegion i (m::n)::k) g .run kind none).eval=(Act.mk c g).eval:=Frame.eval_at' (Frame.mk fn c [] g .run kind none) ⟨c,g⟩ (.inRegion i (m::n)::k);rw[j]at H;exact stepG_entry_blocked (b:=Frame.mk fn c [] g .run kind none) (a:=⟨c,g⟩) (kk:=k) z A q v d t y u H
    .cases h
   .cases h
  .cases h
 .cases h
/-! ### each by itself -/
theorem UF (m:Mark) (c:∀g,m≠.extern g) (h:AX x=some (f,args)) (b:dO P f (fun _=>do mark m;pure Extern.Race.none_)):
  stepG P main (G x.1 x.2) w=.go (G (BG x (.tuple #[])).1 (BG x (.tuple #[])).2) w #[⟨.mark m,false,true⟩]:=
 FQ h b (by simp[Extern.Race.none_]) zF (by
  intro y a
  simp at a
  subst a
  exact⟨rfl,λg h=>c g (by cases h;rfl)⟩)
theorem Rt (mk:f_->Mark) (c:∀ad g,mk ad≠.extern g) (h:AX x=some (f,#[.pointer (some ad)])) (b:dO P f (Extern.Race.marked mk)):
  stepG P main (G x.1 x.2) w=.go (G (BG x (.tuple #[])).1 (BG x (.tuple #[])).2) w #[⟨.mark (mk ad),false,true⟩]:=
 FQ h b (by simp[Extern.Race.marked,Extern.Race.at_,Extern.Race.none_]) (by simp[Extern.Race.marked,Extern.Race.at_]) (by
  intro x a
  simp at a
  subst a
  exact⟨rfl,λg h=>c ad g (Loc.mark.inj h)⟩)
theorem sG {d:Int} (h:AX x=some (f,#[.pointer (some ad),.int k d])) (c:dO P f (Extern.Atomic.update (Op.intArith .add) k true)) (a:w.cell? ad=some (.int k n)) (b:w.frozen? ad=false):
  stepG P main (G x.1 x.2) w=.go (G (BG x (.int k (k.wrap (n+d)))).1 (BG x (.int k (k.wrap (n+d)))).2) (w.setCell ad (.int k (k.wrap (n+d)))) (J9 ad):=
 FQ h c (run_add_entry a b) (by rw[events_add_entry a b];rfl) (sync_rw ad)
theorem wP (h:AX x=some (f,#[.pointer (some ad),.int k n,.int k n'])) (c:dO P f (Extern.Atomic.casT (.int k))) (a:w.cell? ad=some (.int k n)) (b:w.frozen? ad=false):
  stepG P main (G x.1 x.2) w=.go (G (BG x (.bool true)).1 (BG x (.bool true)).2) (w.setCell ad (.int k n')) (J9 ad):=
 FQ h c (by rw[casT_eq];exact run_cas_hit_entry a b) (by rw[casT_eq,events_cas_hit_entry a b];rfl) (sync_rw ad)
theorem oV {m:Int} (h:AX x=some (f,#[.pointer (some ad),.int k n,.int k n'])) (d:dO P f (Extern.Atomic.casT (.int k))) (b:w.cell? ad=some (.int k m)) (c:w.frozen? ad=false) (a:¬m=n):
  stepG P main (G x.1 x.2) w=.go (G (BG x (.bool false)).1 (BG x (.bool false)).2) w #[⟨.cell ad,false,true⟩]:=
 FQ h d (by rw[casT_eq];exact run_cas_miss_entry b c a) (by rw[casT_eq,events_cas_miss_entry b c a];rfl) (sync_r ad)
theorem Uj (h:AX x=some (f,#[.pointer (some ad)])) (b:dO P f (Extern.Atomic.loadT (.int k))) (a:w.cell? ad=some (.int k n)):
  stepG P main (G x.1 x.2) w=.go (G (BG x (.int k n)).1 (BG x (.int k n)).2) w #[⟨.cell ad,false,true⟩]:=
 FQ h b (by
  change (Sem.run P (do Extern.Atomic.read (.int k) (<-asAddr (.pointer (some ad)))) w)=_
  simp[Extern.Atomic.read,asAddr,a]) (by
  change Sem.events P (do Extern.Atomic.read (.int k) (<-asAddr (.pointer (some ad)))) w _=_
  simp[Extern.Atomic.read,asAddr,a,events_load]) (sync_r ad)
theorem ak1 {u:n_} (h:AX x=some (f,#[.pointer (some ad),.int k n])) (d:dO P f Extern.Atomic.storeT) (b:w.cell? ad=some u) (c:w.frozen? ad=false):
  stepG P main (G x.1 x.2) w=.go (G (BG x (.tuple #[])).1 (BG x (.tuple #[])).2) (w.setCell ad (.int k n)) #[⟨.cell ad,true,true⟩]:=
 FQ h d (by
  change (Sem.run P (do
   store (<-asAddr (.pointer (some ad))) (.int k n) .atomic
   pure Extern.Atomic.none_) w)=_
  simp[asAddr,b,c,run_store P w ad (.int k n) .atomic rfl,Result.andThen,Extern.Atomic.none_]) (by
  change Sem.events P (do
   store (<-asAddr (.pointer (some ad))) (.int k n) .atomic
   pure Extern.Atomic.none_) w _=_
  simp[asAddr,b,c,events_store P w _ ad (.int k n) .atomic rfl]) (λx a=>by
  simp at a;subst a;exact⟨rfl,λg h=>by cases h⟩)
theorem xm (h:AX x=some (f,args)) (c:args[0]?=some (.pointer (some ad))) (g:dO P f Extern.Sync.semacquire) (b:w.cell? ad=some (.int .u32 n)) (a:n≠0) (d:w.frozen? ad=false):
  stepG P main (G x.1 x.2) w=.go (G (BG x (.tuple #[])).1 (BG x (.tuple #[])).2) (w.setCell ad (.int .u32 (n-1))) (semEvents ad):=
 FQ h g (by simp[Extern.Sync.semacquire,Extern.Sync.count,c,b,a,d,Extern.Sync.none_,run_store P w ad (.int .u32 (n-1)) .atomic rfl,Result.andThen])
  (by simp[Extern.Sync.semacquire,Extern.Sync.count,c,b,a,d,semEvents,events_load,events_store P w _ ad (.int .u32 (n-1)) .atomic rfl,run_store P w ad (.int .u32 (n-1)) .atomic rfl,Result.evThen]) (semEvents_sync ad)
theorem WS (h:AX x=some (f,args)) (c:args[0]?=some (.pointer (some ad))) (a:dO P f Extern.Sync.semacquire) (b:w.cell? ad=some (.int .u32 0)):
  stepG P main (G x.1 x.2) w=.go { G x.1 x.2 with status:=.blocked } w #[]:=
 vV h a (by simp[Extern.Sync.semacquire,Extern.Sync.count,c,b])
theorem uP (h:AX x=some (f,args)) (b:args[0]?=some (.pointer (some ad))) (d:dO P f Extern.Sync.semrelease) (a:w.cell? ad=some (.int .u32 n)) (c:w.frozen? ad=false):
  stepG P main (G x.1 x.2) w=.go (G (BG x (.tuple #[])).1 (BG x (.tuple #[])).2) (w.setCell ad (.int .u32 (IntKind.u32.wrap (n+1)))) (semEvents ad):=
 FQ h d (by simp[Extern.Sync.semrelease,Extern.Sync.count,b,a,c,Extern.Sync.none_,Op.intArith,run_store P w ad (.int .u32 (IntKind.u32.wrap (n+1))) .atomic rfl,Result.andThen])
  (by simp[Extern.Sync.semrelease,Extern.Sync.count,b,a,c,semEvents,Op.intArith,events_load,events_store P w _ ad (.int .u32 (IntKind.u32.wrap (n+1))) .atomic rfl,run_store P w ad (.int .u32 (IntKind.u32.wrap (n+1))) .atomic rfl,Result.evThen]) (semEvents_sync ad)
/-! ### operations that only read -/
end
end Go.Fxa
namespace Go
open Go.Fxa Go.Conc
section
variable {P:l_} {main:Bool} {x:Frame×Z_} {f:h_} {args:X_} {e:X_->Sem n_} {w w':o_} {v:n_} {CQ:Array Event}
def Sem.feed (P:l_) {α:Type}:Sem α->U_->d_ (List f_×α)
 |.pure a,_=>some ([],a)
 |.program k,vs=>(k P).feed P vs
 |.load m a k,v::vs=>match m,(k v).feed P vs with
  |.plain,some (WZ,x)=>some (a::WZ,x)
  |_,_=>none
 |_,_=>none
end
end Go
namespace Go.Fxa
open Go.Conc
variable {o:Oper}
section
variable {P:l_} {main:Bool} {x:Frame×Z_} {f:h_} {args:X_} {e:X_->Sem n_} {w w':o_} {v:n_} {CQ:Array Event}
def Cells (w:o_):List f_->U_->Prop
 |[],_=>True
 |a::WZ,v::vs=>w.cell? a=some v/\Cells w WZ vs
 |_::_,[]=>False
def Hy (WZ:List f_):Array Event:=(WZ.map λa=>⟨.cell a,false,false⟩).toArray
theorem ϕ {α:Type} {e:Sem α} {a:α}:∀{n:U_} {p:List f_} (_:e.feed P n=some (p,a)) (_:Cells w p n) (es:Array Event),e.runT P w es=(.ok a w,es++Hy p):=by
 induction e with
 |pure b=>
  intro n p h _ es
  simp only[Sem.feed,qx,lJ]at h
  obtain⟨rfl,rfl⟩:=h
  simp[Sem.runT,Hy]
 |program k d=>intro n p h c es;exact d P h c es
 |load m l k d=>
  intro n p h c es
  cases n with
  |nil=>simp[Sem.feed]at h
  |cons v n=>
   simp only[Sem.feed]at h
   split at h
   .rename_i f y j;simp only[qx,lJ]at h;obtain⟨rfl,rfl⟩:=h;obtain⟨g,i⟩:=c;simp only[Sem.runT,g];rw[d v j i];simp only[lJ,true_and];apply Array.ext';simp[Hy]
   .cases h
 |_=>intro n p h;cases n<;>simp[Sem.feed]at h
def WJ (x:Frame×Z_):d_ Oper:=
 match x.1.roundOf,x.1.mode,x.1.kind==CallKind.early,x.1.todo with
 |none,.run,false,.inRegion ops (i::_)::_=>match ops[i]? with
  |some o=>if Region.wanted o (yielded ops x.1.tmps)then some o else none
  |none=>none
 |_,_,_,_=>none
theorem QD (h:WJ x=some o):stepG P main (G x.1 x.2) w=stepG.apply P true x.1 x.2 none (execOp x.1.eval o) w/\(x.1.kind==CallKind.early)=false:=by
 obtain⟨⟨fn,b,c,j,a,kind,p⟩,i⟩:=x;unfold WJ at h;simp only at h;split at h
 .rename_i f l m n g;split at h
  .rename_i k d;split at h
   .rename_i e;obtain rfl:=x_ h;refine⟨?_,g⟩;simp[G,stepG,stepG.exec,stepG.oper,Frame.oper?,d,e]
   .cases h
  .cases h
 .cases h
theorem uS {fn:h_} (d:(P.funcs[fn]?).any (·.norace)=false) (c:List f_):seen P fn (#[]++Hy c)=Hy c:=by
 rw[Array.empty_append];exact seen_eq d (λe b f=>by
  simp only[Hy,gI,List.mem_map]at b
  obtain⟨a,_,rfl⟩:=b
  simp)
theorem yG {d:U_} {c:List f_} (h:WJ x=some o) (i:(execOp x.1.eval o).feed P d=some (c,.value v)) (g:Cells w c d) (j:(P.funcs[x.1.fn]?).any (·.norace)=false):
  stepG P main (G x.1 x.2) w=.go (G (BG x v).1 (BG x v).2) w (Hy c):=by
 obtain⟨a,b⟩:=QD (P:=P) (main:=main) (w:=w) h;rw[a];simp only[stepG.apply,ϕ i g #[],if_true,GStep.after,jC,b,jH,if_false,uS j]
 rfl
theorem zt {cs:Array CommCase} {bl:Bool} {sh:CommShape} (h:WJ x=some o) (c:(execOp x.1.eval o).Jo P=some (.comm cs bl sh)):
  stepG P main (G x.1 x.2) w=.comm (G x.1 x.2) cs bl sh w #[]:=by
 obtain⟨a,b⟩:=QD (P:=P) (main:=main) (w:=w) h;rw[a];simp only[stepG.apply,Jw c w #[],if_true,GStep.after,jC,b,jH,if_false,seen_none]
 rfl
end
end Go.Fxa
namespace Go
open Go.Fxa Go.Conc
def Sem.PI (P:l_) (s:d_ (j_×Nat)) {α:Type}:Sem α->d_ (List Nat×α)
 |.pure a=>some ([],a)
 |.program k=>(k P).PI P s
 |.shape b k=>match (k s).PI P s with
  |some (l,a)=>some (b::l,a)
  |none=>none
 |_=>none
end Go
namespace Go.Fxa
open Go.Conc
variable {x:Frame×Z_} {l:List Nat} {J:o_->Prop} {f:h_} {args:X_} {r:Nat}
section
variable {P:l_} {s:d_ (j_×Nat)} {w:o_} {main:Bool}
theorem ϐ {α:Type} {e:Sem α} {a:α}:∀{l:List Nat} (_:e.PI P s=some (l,a)) (_:∀b∈l,w.shape? b=s) (es:Array Event),e.runT P w es=(.ok a w,es):=by
 induction e with
 |pure b=>
  intro l h _ es
  simp only[Sem.PI,qx,lJ]at h
  obtain⟨rfl,rfl⟩:=h
  rfl
 |program k d=>intro l h c es;exact d P h c es
 |shape b k d=>
  intro l h c es
  simp only[Sem.PI]at h
  split at h
  .rename_i m j g;simp only[qx,lJ]at h;obtain⟨rfl,rfl⟩:=h;have f:=c b (List.mem_cons_self ..);simp only[Sem.runT,f];exact d s g (λx i=>c x (List.mem_cons_of_mem _ i)) es
  .cases h
 |_=>intro l h;simp[Sem.PI]at h
def bare (P:l_) (x:Frame×Z_):Bool:=
 match AX x with
 |some (f,_)=>match P.funcs[f]? with
  |some fn=>fn.body.isNone
  |none=>false
 |none=>false
def Yt (P:l_) (s:d_ (j_×Nat)) (x:Frame×Z_):d_ (List Nat×(Frame×Z_)):=
 if bare P x then none else
 match Rk P x with
 |some y=>some ([],y)
 |none=>match WJ x with
  |some o=>match (execOp x.1.eval o).PI P s with
   |some (l,.value v)=>some (l,BG x v)
   |_=>none
  |none=>none
def DY (P:l_) (s:d_ (j_×Nat)):Nat->Frame×Z_->d_ (List Nat×(Frame×Z_))
 |0,x=>some ([],x)
 |n+1,x=>match Yt P s x with
  |some (l,y)=>match DY P s n y with
   |some (l',z)=>some (l++l',z)
   |none=>none
  |none=>none
theorem Ru {y:Frame×Z_} (h:Yt P s x=some (l,y)) (g:∀b∈l,w.shape? b=s):stepG P main (G x.1 x.2) w=.go (G y.1 y.2) w #[]:=by
 unfold Yt at h;split at h
 .cases h
 split at h
 .rename_i f c;simp only[qx,lJ]at h;obtain⟨_,rfl⟩:=h;exact quiet_step c w
 .split at h
  .rename_i o a;split at h
   .rename_i e v d;simp only[qx,lJ]at h;obtain⟨rfl,rfl⟩:=h;obtain⟨e1,e2⟩:=QD (P:=P) (main:=main) (w:=w) a;rw[e1];simp only[stepG.apply,ϐ d g #[],if_true,GStep.after,jC,e2,jH,if_false,seen_none]
    rfl
   .cases h
  .cases h
theorem Gq {J:o_->Prop} {r:Nat} (k:∀w,J w->w.shape? r=s):∀{n:Nat} {x z:Frame×Z_} {l:List Nat},DY P s n x=some (l,z)->(∀b∈l,b=r)->KR P J main n (G x.1 x.2) (G z.1 z.2)
 |0,x,z,l,h,_=>by
  simp only[DY,qx,lJ]at h
  obtain⟨_,rfl⟩:=h
  exact rfl
 |n+1,x,z,l,h,c=>by
  simp only[DY]at h
  split at h
  .rename_i g y e;split at h
   .rename_i i j f;simp only[qx,lJ]at h;obtain⟨rfl,rfl⟩:=h;exact⟨rfl,G y.1 y.2,λw d=>Ru e (λb a=>by rw[c b (List.mem_append_left _ a)];exact k w d),Gq k f (λb a=>c b (List.mem_append_right _ a))⟩
   .cases h
  .cases h
theorem KR.trans {J:o_->Prop} {g g' i:m_}:∀{n m:Nat},KR P J main n g g'->KR P J main m g' i->KR P J main (n+m) g i
 |0,m,h,a=>by rw[Nat.zero_add,show g=g' from h];exact a
 |n+1,m,h,a=>by
  obtain⟨c,b,d,e⟩:=h
  rw[show n+1+m=(n+m)+1 from by omega]
  exact⟨c,b,d,e.trans a⟩
theorem yX {e:X_->Sem n_} {v:n_} (h:AX x=some (f,args)) (b:dO P f e) (a:e args=.pure v):
  KR P J main 1 (G x.1 x.2) (G (BG x v).1 (BG x v).2):=
 ⟨rfl,_,λw _=>FQ (CQ:=#[]) h b (by rw[a];rfl) (by rw[a];rfl) zF,rfl⟩
end
def run (P:l_) (n:Nat) (x:Frame×Z_):Frame×Z_:=
 match DY P (some (257,6)) n x with
 |some (_,y)=>y
 |none=>x
def AU (P:l_) (n:Nat) (x:Frame×Z_):d_ (List Nat):=(DY P (some (257,6)) n x).map (·.1)
def Md (x:Frame×Z_):d_ (h_×X_):=
 match x.1.roundOf,x.1.mode,x.1.defers with
 |none,.returning,⟨.fn (.func f) cap,args⟩::_=>if cap.size=0 then some (f,args)else none
 |_,_,_=>none
def QY (P:l_) (f:h_):Func:=(P.funcs[f]?).getD default
theorem Gg {P:Program} {f:FuncId} {e:Array Value->Sem Value} (h:(P.funcs[f]?).isSome=true) (b:((QY P f).name== "runtime.NumGoroutine")=false) (c:(QY P f).body.isNone=true) (d:Extern.findNext (QY P f)=none) (g:Extern.find (QY P f)=some e):dO P f e:=by
 obtain⟨fn,a⟩:=Option.isSome_iff_exists.1 h;have:QY P f=fn:=by unfold QY;rw[a];rfl
 rw[this]at b c d g;exact⟨fn,a,b,c,d,g⟩
def TV (x:Frame×Z_):Frame×Z_:=({ x.1 with defers:=x.1.defers.tail },x.2)
def BJ (x:Frame×Z_):m_:=G x.1 x.2
section
variable {P:l_} {main:Bool} {x:Frame×Z_} {w:o_}
theorem ay0 {n:Nat} (d:∀w,J w->w.shape? r=some (257,6)) (h:AU P n x=some l) (e:∀b∈l,b=r):KR P J main n (BJ x) (BJ (run P n x)):=by
 unfold AU at h;obtain⟨⟨c,y⟩,a,rfl⟩:=jb.1 h;have:run P n x=y:=by unfold run;rw[a]
 rw[this];exact Gq d a e
theorem QP (m:Mark) (B:∀g,m≠.extern g) (h:Md x=some (f,args)) (A:dO P f (fun _=>do mark m;pure Extern.Race.none_)):
  stepG P main (BJ x) w=.go (BJ (TV x)) w #[⟨.mark m,false,true⟩]:=by
 obtain⟨⟨fn,c,todo,t,k,kind,z⟩,s⟩:=x;obtain⟨n,q,d,o,r,p⟩:=A;unfold Md at h;simp only at h;split at h
 .rename_i u cap e l;by_cases i:cap.size=0
  .rw[rC i]at h;simp only[qx,lJ]at h;obtain⟨rfl,rfl⟩:=h;obtain rfl:=Array.eq_empty_of_size_eq_zero i;exact stepG_unwind_entry (v:=.tuple #[]) (b:=Frame.mk fn c [] [] .run kind none) (a:=⟨c,_⟩) (todo:=todo) rfl q d o r p (by simp[Extern.Race.none_]) zF (by
    intro y j
    simp at j
    subst j
    exact⟨rfl,λg h=>B g (by cases h;rfl)⟩)
  .rw[ru i]at h;cases h
 .cases h
theorem He {a b c d:n_} (w:o_) (h:Dz r #[a,b,c,d] 257 w):w.shape? r=some (257,6):=by
 obtain⟨f,e,h⟩:=h;unfold BA at h;simp[World.shape?,h]
def Jg:n_:=.tuple #[]
section
variable (P:l_) (r:Nat) (Y:Z_)
def wS:Frame×Z_:=(Frame.enter P 137 #[.pointer (some (S_ r 4))] .normal,Y)
def wD:=run P 3 (wS P r Y)
def wL:=run P 19 (BG (wD P r Y) Jg)
def wE:=run P 31 (BG (wL P r Y) (.int .u64 0))
def wQ:=run P 4 (BG (wE P r Y) Jg)
def wK:=run P 48 (BG (wL P r Y) (.int .u64 4294967296))
def wL2:=run P 25 (BG (wK P r Y) (.bool false))
def wEa:=run P 31 (BG (wL2 P r Y) (.int .u64 0))
def wQa:=run P 4 (BG (wEa P r Y) Jg)
def wW:=run P 20 (BG (wK P r Y) (.bool true))
def wM:=run P 23 (BG (wW P r Y) Jg)
def wN:=run P 16 (BG (wM P r Y) Jg)
def wEb:=run P 11 (BG (wN P r Y) (.int .u64 0))
def wQb:=run P 4 (BG (wEb P r Y) Jg)
end
end
section
variable (r:Nat) (Y:Z_)
open Go.Proofs
theorem bn5:dO prog 172 (Extern.Race.marked .releaseMerge):=Gg sJ sJ sJ sJ sJ
theorem dU:dO prog 173 (λ_=>do mark .disable;pure Extern.Race.none_):=Gg sJ sJ sJ sJ sJ
theorem ZF:dO prog 174 (λ_=>do mark .enable;pure Extern.Race.none_):=Gg sJ sJ sJ sJ sJ
theorem zY:dO prog 175 (λ_=>pure (.bool false)):=Gg sJ sJ sJ sJ sJ
theorem bn4:dO prog 180 (Extern.Race.marked .read):=Gg sJ sJ sJ sJ sJ
theorem bn3:dO prog 184 (Extern.Sync.semrelease):=Gg sJ sJ sJ sJ sJ
theorem bn2:dO prog 188 (Extern.Race.marked .acquire):=Gg sJ sJ sJ sJ sJ
theorem bn1:dO prog 191 (Extern.Race.marked .write):=Gg sJ sJ sJ sJ sJ
theorem au3:dO prog 192 (Extern.Sync.semacquire):=Gg sJ sJ sJ sJ sJ
theorem qB:dO prog 223 (Extern.Atomic.update (Op.intArith .add) .u64 true):=Gg sJ sJ sJ sJ sJ
theorem dQ:dO prog 224 (Extern.Atomic.loadT (.int .u64)):=Gg sJ sJ sJ sJ sJ
theorem bn0:dO prog 225 (Extern.Atomic.storeT):=Gg sJ sJ sJ sJ sJ
theorem e228:dO prog 228 (Extern.Atomic.casT (.int .u64)):=Gg sJ sJ sJ sJ sJ
theorem qR:AU prog 3 (wS prog r Y)=some []:=sJ
theorem ac4:AX (wD prog r Y)=some (173,#[]):=sJ
theorem qL:AU prog 19 (BG (wD prog r Y) Jg)=some []:=sJ
theorem xE:AX (wL prog r Y)=some (224,#[.pointer (some (S_ r 4))]):=sJ
theorem qQ:AU prog 31 (BG (wL prog r Y) (.int .u64 0))=some []:=sJ
theorem ac3:AX (wE prog r Y)=some (174,#[]):=sJ
theorem qI:AU prog 4 (BG (wE prog r Y) Jg)=some [r,r]:=sJ
theorem ac1:AX (wQ prog r Y)=some (188,#[.pointer (some (S_ r 4))]):=sJ
theorem qN:AU prog 48 (BG (wL prog r Y) (.int .u64 4294967296))=some []:=sJ
theorem xG:AX (wK prog r Y)=some (228,#[.pointer (some (S_ r 4)),.int .u64 4294967296,.int .u64 4294967297]):=sJ
theorem fU:AU prog 25 (BG (wK prog r Y) (.bool false))=some []:=sJ
theorem qM:AX (wL2 prog r Y)=some (224,#[.pointer (some (S_ r 4))]):=sJ
theorem fZ:AU prog 31 (BG (wL2 prog r Y) (.int .u64 0))=some []:=sJ
theorem qP:AX (wEa prog r Y)=some (174,#[]):=sJ
theorem fQ:AU prog 4 (BG (wEa prog r Y) Jg)=some [r,r]:=sJ
theorem qH:AX (wQa prog r Y)=some (188,#[.pointer (some (S_ r 4))]):=sJ
theorem qF:AU prog 20 (BG (wK prog r Y) (.bool true))=some [r,r]:=sJ
theorem ac0:AX (wW prog r Y)=some (191,#[.pointer (some (S_ r 5))]):=sJ
theorem qK:AU prog 23 (BG (wW prog r Y) Jg)=some []:=sJ
theorem xC:AX (wM prog r Y)=some (192,#[.pointer (some (S_ r 5)),.bool false]):=sJ
theorem qJ:AU prog 16 (BG (wM prog r Y) Jg)=some []:=sJ
theorem ac2:AX (wN prog r Y)=some (224,#[.pointer (some (S_ r 4))]):=sJ
theorem fV:AU prog 11 (BG (wN prog r Y) (.int .u64 0))=some []:=sJ
theorem qO:AX (wEb prog r Y)=some (174,#[]):=sJ
theorem fP:AU prog 4 (BG (wEb prog r Y) Jg)=some [r,r]:=sJ
theorem qG:AX (wQb prog r Y)=some (188,#[.pointer (some (S_ r 4))]):=sJ
end
end Go.Fxa
namespace Go.Fxa
open Go.Conc Go.Proofs
variable {x:Frame×Z_} {n:Nat}
structure RF (P:l_) (r:Nat) (c:Frame) (Y:Z_):Prop where
 dU:dO P 173 (λ_=>do mark .disable;pure Extern.Race.none_)
 ZF:dO P 174 (λ_=>do mark .enable;pure Extern.Race.none_)
 bn2:dO P 188 (Extern.Race.marked .acquire)
 bn1:dO P 191 (Extern.Race.marked .write)
 au3:dO P 192 Extern.Sync.semacquire
 dQ:dO P 224 (Extern.Atomic.loadT (.int .u64))
 e228:dO P 228 (Extern.Atomic.casT (.int .u64))
 qR:AU P 3 (wS P r (c::Y))=some []
 ac4:AX (wD P r (c::Y))=some (173,#[])
 qL:AU P 19 (BG (wD P r (c::Y)) Jg)=some []
 xE:AX (wL P r (c::Y))=some (224,#[.pointer (some (S_ r 4))])
 qQ:AU P 31 (BG (wL P r (c::Y)) (.int .u64 0))=some []
 ac3:AX (wE P r (c::Y))=some (174,#[])
 qI:AU P 4 (BG (wE P r (c::Y)) Jg)=some [r,r]
 ac1:AX (wQ P r (c::Y))=some (188,#[.pointer (some (S_ r 4))])
 qN:AU P 48 (BG (wL P r (c::Y)) (.int .u64 4294967296))=some []
 xG:AX (wK P r (c::Y))=some (228,#[.pointer (some (S_ r 4)),.int .u64 4294967296,.int .u64 4294967297])
 fU:AU P 25 (BG (wK P r (c::Y)) (.bool false))=some []
 qM:AX (wL2 P r (c::Y))=some (224,#[.pointer (some (S_ r 4))])
 fZ:AU P 31 (BG (wL2 P r (c::Y)) (.int .u64 0))=some []
 qP:AX (wEa P r (c::Y))=some (174,#[])
 fQ:AU P 4 (BG (wEa P r (c::Y)) Jg)=some [r,r]
 qH:AX (wQa P r (c::Y))=some (188,#[.pointer (some (S_ r 4))])
 qF:AU P 20 (BG (wK P r (c::Y)) (.bool true))=some [r,r]
 ac0:AX (wW P r (c::Y))=some (191,#[.pointer (some (S_ r 5))])
 qK:AU P 23 (BG (wW P r (c::Y)) Jg)=some []
 xC:AX (wM P r (c::Y))=some (192,#[.pointer (some (S_ r 5)),.bool false])
 qJ:AU P 16 (BG (wM P r (c::Y)) Jg)=some []
 ac2:AX (wN P r (c::Y))=some (224,#[.pointer (some (S_ r 4))])
 fV:AU P 11 (BG (wN P r (c::Y)) (.int .u64 0))=some []
 qO:AX (wEb P r (c::Y))=some (174,#[])
 fP:AU P 4 (BG (wEb P r (c::Y)) Jg)=some [r,r]
 qG:AX (wQb P r (c::Y))=some (188,#[.pointer (some (S_ r 4))])
 qE:DY P (some (257,6)) 20 (BG (wQ P r (c::Y)) Jg)=some ([],(c.finish (.tuple #[]),Y))
 fO:DY P (some (257,6)) 20 (BG (wQa P r (c::Y)) Jg)=some ([],(c.finish (.tuple #[]),Y))
 fM:DY P (some (257,6)) 10 (BG (wQb P r (c::Y)) Jg)=some ([],(c.finish (.tuple #[]),Y))
section
variable {P:l_} {r:Nat} {c:Frame} {Y:Z_} {a b e d:n_}
theorem FZ {l:List Nat} (h:AU P n x=some l) (f:∀y∈l,y=r) (main:Bool):KR P (Dz r #[a,b,e,d] 257) main n (BJ x) (BJ (run P n x)):=
 ay0 (λw c=>He w c) h f
theorem Jh:∀y∈([]:List Nat),y=r:=zF
theorem ac5:∀y∈[r,r],y=r:=zF
def waits (P:l_) (r:Nat) (Y:Z_):Wts where
 mD:=BJ (wD P r Y)
 mD':=BJ (BG (wD P r Y) Jg)
 mL:=BJ (wL P r Y)
 mL0:=BJ (BG (wL P r Y) (.int .u64 0))
 mLK:=BJ (BG (wL P r Y) (.int .u64 KK))
 mC:=BJ (wK P r Y)
 mC1:=BJ (BG (wK P r Y) (.bool true))
 mC0:=BJ (BG (wK P r Y) (.bool false))
 mW:=BJ (wW P r Y)
 mW':=BJ (BG (wW P r Y) Jg)
 fr:=(wM P r Y).1
 cs:=(wM P r Y).2
 mS':=BJ (BG (wM P r Y) Jg)
 k0:=3
 k1:=19
 k2:=48
 k3:=20
 k4:=23
theorem gX (F:RF P r c Y) {y:Frame×Z_} {k1 k3:Nat} {h:List Nat} (i:AU P k1 x=some h) (g:∀z∈h,z=r) (l:AX (run P k1 x)=some (174,#[])) (j:AU P 4 (BG (run P k1 x) Jg)=some [r,r])
  (m:AX (run P 4 (BG (run P k1 x) Jg))=some (188,#[.pointer (some (S_ r 4))])) (k:DY P (some (257,6)) k3 (BG (run P 4 (BG (run P k1 x) Jg)) Jg)=some ([],y)):
  av1 P r #[a,b,e,d] 257 (BJ y) (BJ x):=
 ⟨k1,BJ (run P k1 x),BJ (BG (run P k1 x) Jg),4,BJ (run P 4 (BG (run P k1 x) Jg)),BJ (BG (run P 4 (BG (run P k1 x) Jg)) Jg),k3,
  FZ i g true,rfl,λw=>UF .enable zF l F.ZF,FZ j ac5 true,rfl,λw=>Rt .acquire zF m F.bn2,Gq (λw f=>He w f) k zF⟩
theorem av3 (F:RF P r c Y):ai0 P r #[a,b,e,d] 257 (BJ (wS P r (c::Y))) (G (c.finish (.tuple #[])) Y) (waits P r (c::Y)) where
 runs:=⟨rfl,rfl,rfl,rfl⟩
 s0:=FZ F.qR Jh true
 Zt w:=UF .disable zF F.ac4 F.dU
 s1:=FZ F.qL Jh true
 bi5 w f:=Uj F.xE F.dQ f
 fin0:=gX F F.qQ Jh F.ac3 F.qI F.ac1 F.qE
 bi4 w f:=Uj F.xE F.dQ f
 s2:=FZ F.qN Jh true
 II w f hz:=wP F.xG F.e228 f hz
 miss w f hz:=oV F.xG F.e228 f hz wB
 lo0:=⟨25,BJ (wL2 P r (c::Y)),_,FZ F.fU Jh true,rfl,λw f=>Uj F.qM F.dQ f,gX F F.fZ Jh F.qP F.fQ F.qH F.fO⟩
 s3:=FZ F.qF ac5 true
 wr w:=Rt .write zF F.ac0 F.bn1
 s4:=FZ F.qK Jh true
 bs7 w f hz:=xm F.xC rfl F.au3 f wB hz
 bh7 w f:=WS F.xC rfl F.au3 f
 lo1:=⟨16,BJ (wN P r (c::Y)),_,FZ F.qJ Jh true,rfl,λw f=>Uj F.ac2 F.dQ f,gX F F.fV Jh F.qO F.fP F.qG F.fM⟩
end
section
variable (r:Nat) (c:Frame) (Y:Z_)
theorem qE:DY prog (some (257,6)) 20 (BG (wQ prog r (c::Y)) Jg)=some ([],(c.finish (.tuple #[]),Y)):=sJ
theorem fO:DY prog (some (257,6)) 20 (BG (wQa prog r (c::Y)) Jg)=some ([],(c.finish (.tuple #[]),Y)):=sJ
theorem fM:DY prog (some (257,6)) 10 (BG (wQb prog r (c::Y)) Jg)=some ([],(c.finish (.tuple #[]),Y)):=sJ
theorem tq:RF prog r c Y:=
 ⟨dU,ZF,bn2,bn1,au3,dQ,e228,qR r _,ac4 r _,qL r _,xE r _,qQ r _,ac3 r _,qI r _,ac1 r _,qN r _,xG r _,fU r _,qM r _,fZ r _,qP r _,fQ r _,qH r _,
  qF r _,ac0 r _,qK r _,xC r _,qJ r _,ac2 r _,fV r _,qO r _,fP r _,qG r _,qE r c Y,fO r c Y,fM r c Y⟩
end
section
variable (P:l_) (r:Nat) (Y:Z_)
def dS:Frame×Z_:=(Frame.enter P 135 #[.pointer (some (S_ r 4))] .deferred,Y)
def dR:=run P 15 (dS P r Y)
def dD:=run P 3 (BG (dR P r Y) Jg)
def dB:=run P 11 (BG (dD P r Y) Jg)
def dA:=run P 22 (BG (dB P r Y) (.bool false))
def dF:=run P 87 (BG (dA P r Y) (.int .u64 0))
def dM:=run P 103 (BG (dA P r Y) (.int .u64 1))
def dT:=run P 20 (BG (dM P r Y) (.int .u64 1))
def dP:=run P 27 (BG (dT P r Y) Jg)
def dG:=run P 17 (BG (dP P r Y) Jg)
def aS:Frame×Z_:=(Frame.enter P 133 #[.pointer (some (S_ r 4)),b_ 1] .normal,Y)
def aD:=run P 12 (aS P r Y)
def aB:=run P 11 (BG (aD P r Y) Jg)
def aA:=run P 22 (BG (aB P r Y) (.bool false))
def aR:=run P 53 (BG (aA P r Y) (.int .u64 4294967296))
def aE:=run P 39 (BG (aR P r Y) Jg)
end
def f134 (tm:X_) (td:List Item):Frame:=Frame.mk 134 tm td [] .returning .deferred none
def CU (P:l_):Frame:={ (default:Frame)with fn:=P.funcs.size,defers:=[],mode:=.panicking [goexitEntry] }
structure Pn (P:l_) (r:Nat) (tm:X_) (td:List Item):Prop where
 bn5:dO P 172 (Extern.Race.marked .releaseMerge)
 dU:dO P 173 (λ_=>do mark .disable;pure Extern.Race.none_)
 ZF:dO P 174 (λ_=>do mark .enable;pure Extern.Race.none_)
 zY:dO P 175 (λ_=>pure (.bool false))
 bn3:dO P 184 Extern.Sync.semrelease
 qB:dO P 223 (Extern.Atomic.update (Op.intArith .add) .u64 true)
 dQ:dO P 224 (Extern.Atomic.loadT (.int .u64))
 bn0:dO P 225 Extern.Atomic.storeT
 ah7:AU P 15 (dS P r [f134 tm td,CU P])=some [r,r]
 ad9:AX (dR P r [f134 tm td,CU P])=some (172,#[.pointer (some (S_ r 4))])
 rQ:AU P 3 (BG (dR P r [f134 tm td,CU P]) Jg)=some []
 ae4:AX (dD P r [f134 tm td,CU P])=some (173,#[])
 rU:AU P 11 (BG (dD P r [f134 tm td,CU P]) Jg)=some []
 ae5:AX (dB P r [f134 tm td,CU P])=some (175,#[])
 rV:AU P 22 (BG (dB P r [f134 tm td,CU P]) (.bool false))=some []
 xO:AX (dA P r [f134 tm td,CU P])=some (223,#[.pointer (some (S_ r 4)),.int .u64 18446744069414584320])
 rO:AU P 87 (BG (dA P r [f134 tm td,CU P]) (.int .u64 0))=some []
 ae3:Md (dF P r [f134 tm td,CU P])=some (174,#[])
 rP:DY P (some (257,6)) 5 (TV (dF P r [f134 tm td,CU P]))=some ([],(CU P,[]))
 rH:AU P 103 (BG (dA P r [f134 tm td,CU P]) (.int .u64 1))=some []
 ae1:AX (dM P r [f134 tm td,CU P])=some (224,#[.pointer (some (S_ r 4))])
 rF:AU P 20 (BG (dM P r [f134 tm td,CU P]) (.int .u64 1))=some []
 ad8:AX (dT P r [f134 tm td,CU P])=some (225,#[.pointer (some (S_ r 4)),.int .u64 0])
 rG:AU P 27 (BG (dT P r [f134 tm td,CU P]) Jg)=some []
 ae0:AX (dP P r [f134 tm td,CU P])=some (184,#[.pointer (some (S_ r 5)),.bool false,b_ 0])
 rJ:AU P 17 (BG (dP P r [f134 tm td,CU P]) Jg)=some []
 ae2:Md (dG P r [f134 tm td,CU P])=some (174,#[])
 rM:DY P (some (257,6)) 5 (TV (dG P r [f134 tm td,CU P]))=some ([],(CU P,[]))
 wake:mayWake P (BJ (dP P r [f134 tm td,CU P]))=true
structure YD (P:l_) (r:Nat) (c:Frame) (Y:Z_):Prop where
 dU:dO P 173 (λ_=>do mark .disable;pure Extern.Race.none_)
 ZF:dO P 174 (λ_=>do mark .enable;pure Extern.Race.none_)
 zY:dO P 175 (λ_=>pure (.bool false))
 bn4:dO P 180 (Extern.Race.marked .read)
 qB:dO P 223 (Extern.Atomic.update (Op.intArith .add) .u64 true)
 sO:AU P 12 (aS P r (c::Y))=some []
 ae8:AX (aD P r (c::Y))=some (173,#[])
 sQ:AU P 11 (BG (aD P r (c::Y)) Jg)=some []
 ae9:AX (aB P r (c::Y))=some (175,#[])
 sS:AU P 22 (BG (aB P r (c::Y)) (.bool false))=some []
 af0:AX (aA P r (c::Y))=some (223,#[.pointer (some (S_ r 4)),.int .u64 4294967296])
 sH:AU P 53 (BG (aA P r (c::Y)) (.int .u64 4294967296))=some [r,r]
 ae6:AX (aR P r (c::Y))=some (180,#[.pointer (some (S_ r 5))])
 sK:AU P 39 (BG (aR P r (c::Y)) Jg)=some []
 ae7:Md (aE P r (c::Y))=some (174,#[])
 sN:DY P (some (257,6)) 1 (TV (aE P r (c::Y)))=some ([],(c.finish (.tuple #[]),Y))
section
variable {P:l_} {r:Nat} {a b e d:n_}
theorem TA {s:d_ (j_×Nat)} {δ m:Nat}:∀{n:Nat} {x y:Frame×Z_},DY P s n x=some ([],y)->QuitsD P m δ (BJ y)->QuitsD P (n+m) δ (BJ x)
 |0,x,y,h,a=>by
  simp only[DY,qx,lJ,true_and]at h
  subst h
  rw[Nat.zero_add];exact a
 |n+1,x,y,h,a=>by
  simp only[DY]at h
  split at h
  .rename_i d z c;split at h
   .rename_i e f b;simp only[qx,lJ,List.append_eq_nil_iff]at h;obtain⟨⟨rfl,rfl⟩,rfl⟩:=h;rw[show n+1+m=(n+m)+1 from by omega];exact .ctl rfl (λw=>Ru c zF) (TA b a)
   .cases h
  .cases h
theorem bF {δ m:Nat} (h:AU P n x=some []) (c:QuitsD P m δ (BJ (run P n x))):QuitsD P (n+m) δ (BJ x):=by
 unfold AU at h;obtain⟨⟨l,y⟩,a,rfl⟩:=jb.1 h;have:run P n x=y:=by unfold run;rw[a]
 rw[this]at c;exact TA a c
theorem uT:QuitsD P 1 0 (BJ (CU P,[])):=by
 refine .inr ⟨rfl,{ BJ (CU P,[])with status:=.finished },#[],zF,λw=>?_,rfl,rfl⟩;simp[BJ,G,CU,stepG,unwind,Frame.catches,goexitEntry]
 rfl
theorem UW (h:Md x=some (174,#[])) (f:dO P 174 (λ_=>do mark .enable;pure Extern.Race.none_)) (c:DY P (some (257,6)) 5 (TV x)=some ([],(CU P,[]))):QuitsD P 7 1 (BJ x):=
 .said ⟨.mark .enable,false,true⟩ rfl rfl (λw=>QP .enable zF h f) (TA (m:=1) c uT)
def outs (P:l_) (r:Nat) (Y:Z_):RQ where
 gR:=BJ (dR P r Y)
 gR':=BJ (BG (dR P r Y) Jg)
 gD:=BJ (dD P r Y)
 gD':=BJ (BG (dD P r Y) Jg)
 gA:=BJ (dA P r Y)
 gF:=BJ (BG (dA P r Y) (.int .u64 0))
 gW:=BJ (BG (dA P r Y) (.int .u64 1))
 gS:=BJ (dT P r Y)
 gS':=BJ (BG (dT P r Y) Jg)
 gP:=BJ (dP P r Y)
 gP':=BJ (BG (dP P r Y) Jg)
 k1:=3
 k2:=11+(1+22)
 k3:=103+(1+20)
 k4:=27
 nF:=87+7
 nP:=17+7
theorem TD {g g':m_}:∀{n:Nat},KR P (Dz r #[a,b,e,d] 257) false n g g'->Lod P r #[a,b,e,d] 257 n g g'
 |0,h=>h
 |n+1,h=>by
  obtain⟨f,c,i,j⟩:=h
  exact⟨f,c,[],.inl rfl,λw k=>i w ⟨1,0,k⟩,TD j⟩
theorem Lod.trans {g g' p:m_}:∀{n m:Nat},Lod P r #[a,b,e,d] 257 n g g'->Lod P r #[a,b,e,d] 257 m g' p->Lod P r #[a,b,e,d] 257 (n+m) g p
 |0,m,h,c=>by rw[Nat.zero_add,show g=g' from h];exact c
 |n+1,m,h,c=>by
  obtain⟨i,f,l,j,k,o⟩:=h
  rw[show n+1+m=(n+m)+1 from by omega]
  exact⟨i,f,l,j,k,o.trans c⟩
theorem Xn {g:X_} {f:List Item} (F:Pn P r g f):OO P r #[a,b,e,d] 257 (outs P r [f134 g f,CU P]) where
 runs:=⟨rfl,rfl,rfl,rfl,rfl⟩
 rel w:=Rt .releaseMerge zF F.ad9 F.bn5
 s1:=FZ F.rQ Jh false
 Zt w:=UF .disable zF F.ae4 F.dU
 s2:=(FZ F.rU Jh false).trans ((yX F.ae5 F.zY rfl).trans (FZ F.rV Jh false))
 add0 w c hz:=sG F.xO F.qB c hz
 fin0:=bF F.rO (UW F.ae3 F.ZF F.rP)
 add1 w c hz:=sG F.xO F.qB c hz
 s3:=(TD (FZ F.rH Jh false)).trans (Lod.trans (n:=1) (g':=BJ (BG (dM P r [f134 g f,CU P]) (.int .u64 1))) ⟨rfl,_,_,.inr rfl,λw c=>Uj F.ae1 F.dQ c.cellSt,rfl⟩ (TD (FZ F.rF Jh false)))
 sto w c hz:=ak1 F.ad8 F.bn0 c hz
 s4:=FZ F.rG Jh false
 sem w c hz:=uP F.ae0 rfl F.bn3 c hz
 fin1:=bF F.rJ (UW F.ae2 F.ZF F.rM)
 wake:=⟨F.wake,rfl⟩
def adds (P:l_) (r:Nat) (Y:Z_):bo0 where
 mD:=BJ (aD P r Y)
 mD':=BJ (BG (aD P r Y) Jg)
 mA:=BJ (aA P r Y)
 mA':=BJ (BG (aA P r Y) (.int .u64 4294967296))
 mR:=BJ (aR P r Y)
 mR':=BJ (BG (aR P r Y) Jg)
 mE:=BJ (aE P r Y)
 mE':=BJ (TV (aE P r Y))
 k0:=12
 k1:=11+(1+22)
 k2:=53
 k3:=39
 k4:=1
theorem br5 {c:Frame} {Y:Z_} (F:YD P r c Y):bk7 P r #[a,b,e,d] 257 (BJ (aS P r (c::Y))) (G (c.finish (.tuple #[])) Y) (adds P r (c::Y)) where
 runs:=⟨rfl,rfl,rfl,rfl⟩
 s0:=FZ F.sO Jh true
 Zt w:=UF .disable zF F.ae8 F.dU
 s1:=(FZ F.sQ Jh true).trans ((yX F.ae9 F.zY rfl).trans (FZ F.sS Jh true))
 add w f hz:=sG F.af0 F.qB f hz
 s2:=FZ F.sH ac5 true
 rd w:=Rt .read zF F.ae6 F.bn4
 s3:=FZ F.sK Jh true
 ena w:=QP .enable zF F.ae7 F.ZF
 s4:=Gq (λw f=>He w f) F.sN zF
end
end Go.Fxa
