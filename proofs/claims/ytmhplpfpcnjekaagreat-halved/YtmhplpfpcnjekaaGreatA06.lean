/- The child walks -/
import Derived.Test.YtmhplpfpcnjekaaGreatA05
import Derived.Test.YtmhplpfpcnjekaaGreatProg
import Derived.Conc.DeferLaws
open Go.Proofs.Tryz
namespace Go.Fxa
open Go.Conc
open Go.ConcN (sumTo upd sumTo_upd upd_ne upd_same)
def AgL (Zl:Nat->Prop)(w w1:o_):Prop:=∀x,Zl x->w1.heap[x]?=w.heap[x]?
def Ir (P:l_)(r:Nat)(pre:X_)(ty:j_)(Zl:Nat->Prop)(gR:m_)(X:o_->Prop):Nat->m_->o_->Prop
 |0,g,w=>g=gR/\X w
 |n+1,g,w=>g.status=.running/\∀w1,AgL Zl w w1->DD r pre ty w1->∃g' w' es,stepG P false g w1=.go g' w' es/\(∀e∈es,∃a wr,e=⟨.cell a,wr,false⟩/\Zl a.block/\a.block<w'.heap.size)/\CS Zl w1 w'/\Ir P r pre ty Zl gR X n g' w'
section
variable {P:l_}{Z Zl:Nat->Prop}{Ad Still:Loc->Prop}{Am:Nat->Prop}{r:Nat}{pre:X_}{ty:j_}{c:Nat}{o:SY}{gR:m_}{X:o_->Prop}
theorem Ir.agree (hX:∀w w1,AgL Zl w w1->X w->X w1):∀{n:Nat} {g:m_} {w w1:o_},AgL Zl w w1->Ir P r pre ty Zl gR X n g w->Ir P r pre ty Zl gR X n g w1
 |0,_,_,_,a,h=>⟨h.1,hX _ _ a h.2⟩
 |_+1,_,_,_,a,h=>⟨h.1,λw2 c d=>h.2 w2 (λx b=>(c x b).trans (a x b)) d⟩
theorem Ir.Uz (hX:∀w w1,AgL Zl w w1->X w->X w1){n:Nat}{g':m_}{w:o_}(h:Ir P r pre ty Zl gR X n g' w):∀{k:Nat} {g:m_},Ls P (DD r pre ty) false k g g'->Ir P r pre ty Zl gR X (k+n) g w
 |0,g,a=>by rw[Nat.zero_add,show g=g' from a];exact h
 |k+1,g,a=>by
  rw[show k+1+n=(k+n)+1 from by omega]
  obtain⟨c,b,d,e⟩:=a
  exact⟨c,λw1 f i=>⟨b,w1,#[],d w1 i,sJ,CS.refl w1,(Ir.Uz hX h e).agree hX f⟩⟩
def ja (P:l_)(c r:Nat)(pre:X_)(ty:j_)(o:SY)(Ad Still:Loc->Prop)(Zl:Nat->Prop)(X:o_->Prop)(w0:Bool)(n:Nat)(g:m_)(w:o_)(t:Trace):Prop:=
 (KI c r pre t/\KnL Ad Still c t)/\BC r pre ty w (if w0 then KK+1 else KK) 0/\Deaf t c=0/\∃k,n=k+1+(o.k1+o.k2+o.k3+o.k4+o.nF+o.nP+10)/\Ir P r pre ty Zl o.gR X (k+1) g w
theorem bh4 (hZ:Z r)(hZl:∀x,Zl x->Z x)(CX:¬Zl r)(hW:∀l,LY r pre l->Ad l/\¬Still l)(BL:∀a:f_,Zl a.block->Still (.cell a)/\Ad (.cell a))(hc:c≠0)(hL:Am c)(hX:∀w w1,AgL Zl w w1->X w->X w1):
  Ny P Z Ad Still Am c r pre ty o (ja P c r pre ty o Ad Still Zl X) X where
 status:=by
  rintro E n g w t ⟨_,_,_,k,rfl,y,_⟩
  exact⟨y,wB⟩
 run:=by
  rintro E n g w t ⟨_,h,_⟩
  exact h
 calm:=by
  rintro E n g w t q u ⟨⟨s,z⟩,m,A,k,G,v⟩ J O
  exact⟨⟨s.calm (λl V=>(hW l V).1) O,z.app λop f b hb y N=>((((O op f).2.1 b hb).1 y).2 N).elim⟩,m.keep hZ J,(gy O).trans A,k,G,v.agree hX λx C=>J x (hZl x C)⟩
 mark:=by
  rintro E n g w t j fn pos d R ⟨⟨s,z⟩,m,A,k,G,v⟩
  have H:∀op∈MemOp.ofEvents 0 fn pos j,op.act.touch?=none:=λop f=>by
   obtain⟨e,p,rfl⟩:=p_ f
   exact(R e p).1
  exact⟨⟨s.app λop f b hb _=>(by rw[H op f]at hb;cases hb),z.app λop f b hb=>(by rw[H op f]at hb;cases hb)⟩,m,by rw[Deaf_other t (g':=0) (gJ hc) _ Yv];exact A,k,G,v.agree hX λ_ _=>rfl⟩
 up:=by
  rintro n g w t fn pos d M ⟨⟨s,z⟩,m,A,k,G,v⟩
  have Q:∀op∈MemOp.ofEvents 0 fn pos (Ky (stA r pre)),∀b,op.act.touch?=some b->b.loc=.cell (stA r pre)/\b.kind=.atomic:=by
   intro op f b hb
   obtain⟨e,p,rfl⟩:=p_ f
   simp only[Ky,eu,r_,lG,or_false]at p
   obtain rfl|rfl:=p<;>(obtain rfl:=x_ hb;exact⟨rfl,rfl⟩)
  refine⟨⟨s.app λop f b hb _=>by rw[(Q op f b hb).2];simp,z.app λop f b hb y=>?_⟩,BC.setSt (w:=w.at d) M _,by rw[Deaf_other t (g':=0) (gJ hc) _ Yv];exact A,k,G,v.agree hX λx C=>?_⟩
  .rw[(Q op f b hb).1]at y;exact((hW _ (.inl rfl)).2 y).elim
  .have:r≠x:=λe=>CX (e ▸ C)
   simp[World.setCell,World.at,stA,iF,this]
 step:=by
  rintro Mem E n g w t B U ⟨⟨s,z⟩,m,A,k,rfl,v⟩ S hB d
  obtain⟨g',q,j,e1,e2,e3,e4⟩:=v.2 (w.at d) (λ_ _=>rfl) (m.is d)
  have i:(∀op∈MemOp.ofEvents c g.frame.fn g.frame.place j,∀b,op.act.touch?=some b->∃a:f_,b.loc=.cell a/\Zl a.block)/\(∀op∈MemOp.ofEvents c g.frame.fn g.frame.place j,op.act.low (max B q.heap.size))/\Deaf (t++MemOp.ofEvents c g.frame.fn g.frame.place j) c=Deaf t c:=by
   refine⟨λop f b hb=>?_,λop f=>?_,?_⟩
   .obtain⟨e,p,rfl⟩:=p_ f;obtain⟨a,wr,rfl,D,_⟩:=e2 e p;obtain rfl:=x_ hb;exact⟨a,rfl,D⟩
   .obtain⟨e,p,rfl⟩:=p_ f;obtain⟨a,wr,rfl,_,D⟩:=e2 e p;exact Nat.lt_of_lt_of_le D (Nat.le_max_right ..)
   .rw[Deaf_own];exact deafBehind_still (λe p=>by obtain⟨a,wr,rfl,_⟩:=e2 e p;exact⟨sJ,sJ⟩) _
  have F:KI c r pre (t++MemOp.ofEvents c g.frame.fn g.frame.place j):=s.app λop f b hb K=>by
   obtain⟨a,D,L⟩:=i.1 op f b hb
   rw[D]at K
   obtain e|e:=K<;>(injection e with e;exact(CX (by rw[e]at L;exact L)).elim)
  have W:KnL Ad Still c (t++MemOp.ofEvents c g.frame.fn g.frame.place j):=z.app λop f _ _ _ _=>Yv op f
  have Y:PX Ad Still Mem Am (max B q.heap.size) 0 (t++MemOp.ofEvents c g.frame.fn g.frame.place j):=
   (S.mono (Nat.le_max_left ..)).bm7 U hL z Yv (λop f b hb=>by obtain⟨a,D,L⟩:=i.1 op f b hb;rw[D];exact BL a L) i.2.1;have I:BC r pre ty q (if E=true then KK+1 else KK) 0:=by unfold BC;rw[e3.same r CX];exact m
  refine .inl ⟨k+(o.k1+o.k2+o.k3+o.k4+o.nF+o.nP+10),g',q,j,wB,e1,(show CS Zl w q from⟨e3.size,e3.same,e3.os,e3.output,e3.tape⟩).sub hZl,⟨max B q.heap.size,Nat.le_max_left ..,Nat.le_max_right ..,Y⟩,?_⟩;cases k with
  |zero=>
   obtain⟨rfl,C⟩:=e4
   exact .inr ⟨⟨F,.inl ⟨0,rfl,rfl,I,i.2.2.trans A⟩⟩,C⟩
  |succ k=>exact .inl ⟨⟨F,W⟩,I,i.2.2.trans A,k,rfl,e4⟩
 low:=by
  rintro E n g w t d g' q j st' ⟨_,m,_,k,_,v⟩ y s
  obtain⟨g1,w2,T,e1,_,e3,_⟩:=v.2 (w.at d) (λ_ _=>rfl) (m.is d)
  rw[e1]at y
  injection y with _ K _
  subst K
  have I:BC r pre ty w2 (if E=true then KK+1 else KK) 0:=by unfold BC;rw[e3.same r CX];exact m
  exact qx (I.eq s).2 sN
 keep:=λw q h J=>hX w q (λx C=>J x (λe=>CX (e ▸ C)) (hZl x C)) h
end
end Go.Fxa
namespace Go.Fxa
open Go.Conc
variable {ad:f_}{k:IntKind}{n n':Int}
def AZ (x:Frame×Z_):d_ (h_×X_):=
 match x.1.roundOf,x.1.mode,x.1.kind==CallKind.early,x.1.todo with
 |none,.run,false,.inRegion ops (i::_)::_=>match ops[i]? with
  |some o=>if Region.wanted o (yielded ops x.1.tmps)then match o.op with
   |.call { callee:=.value (.func f),args:=XV,argTypes:=_}=>some (f,XV.map x.1.eval)
   |_=>none
   else none
  |none=>none
 |_,_,_,_=>none
def az (P:Program) (f:FuncId) (e:Array Value->Sem Value):Prop:=∃fn,P.funcs[f]?=some fn/\(fn.name== "runtime.NumGoroutine")=false/\fn.body.isNone=true/\Extern.findNext fn=none/\Extern.find fn=some e
def BK (x:Frame×Z_)(v:n_):Frame×Z_:=(x.1.finish v,x.2)
section
variable {P:l_}{main:Bool}{x:Frame×Z_}{f:h_}{args:X_}{e:X_->Sem n_}{w w':o_}{v:n_}{CU:Array Event}
theorem FZ (h:AZ x=some (f,args))(hE:az P f e)(K:(e args).run P w=.ok v w')(L:(e args).events P w #[⟨.mark (.extern f),false,true⟩]=#[⟨.mark (.extern f),false,true⟩]++CU)(M:∀x∈CU,x.sync=true/\∀g,x.loc≠.mark (.extern g)):
  stepG P main (G x.1 x.2) w=.go (G (BK x v).1 (BK x v).2) w' CU:=by
 obtain⟨⟨fn,c,r,i,n,kind,J⟩,H⟩:=x;obtain⟨u,z,d,hb,C,y⟩:=hE;unfold AZ at h;simp only at h;split at h
 .rename_i j p q l E;split at h
  .rename_i o m;split at h
   .rename_i D;split at h
    .rename_i I F t s;simp only[l7,lQ]at h;obtain⟨rfl,rfl⟩:=h;have A:kind≠.early:=λe=>by subst e;simp at E
     have B:=Frame.eval_at' (Frame.mk fn c [] i .run kind none) ⟨c,i⟩ (.inRegion j (p::q)::l);have k:(Frame.mk fn c (.inRegion j (p::q)::l) i .run kind none).eval=(Act.mk c i).eval:=B;rw[k]at K L;exact(stepG_entry (b:=Frame.mk fn c [] i .run kind none) (a:=⟨c,i⟩) (kk:=l) m D A s z d hb C y K L M).trans (by unfold BK Act.put Frame.at Frame.finish;simp only[m,Option.bind_some];cases o.dst<;>rfl)
    .cases h
   .cases h
  .cases h
 .cases h
theorem xU (h:AZ x=some (f,args))(hE:az P f e)(F:(e args).run P w=.halt .blocked w'):stepG P main (G x.1 x.2) w=.go { G x.1 x.2 with status:=.blocked} w' #[]:=by
 obtain⟨⟨fn,c,p,g,l,kind,E⟩,B⟩:=x;obtain⟨s,u,d,hb,v,t⟩:=hE;unfold AZ at h;simp only at h;split at h
 .rename_i i m n k D;split at h
  .rename_i o y;split at h
   .rename_i z;split at h
    .rename_i C A r q;simp only[l7,lQ]at h;obtain⟨rfl,rfl⟩:=h;have j:(Frame.mk fn c (.inRegion i (m::n)::k) g .run kind none).eval=(Act.mk c g).eval:=Frame.eval_at' (Frame.mk fn c [] g .run kind none) ⟨c,g⟩ (.inRegion i (m::n)::k);rw[j]at F;exact stepG_entry_blocked (b:=Frame.mk fn c [] g .run kind none) (a:=⟨c,g⟩) (kk:=k) y z q u d hb v t F
    .cases h
   .cases h
  .cases h
 .cases h
theorem Vj (m:Mark)(b:∀g,m≠.extern g)(h:AZ x=some (f,args))(hE:az P f (fun _=>do mark m;pure Extern.Race.none_)):
  stepG P main (G x.1 x.2) w=.go (G (BK x (.tuple #[])).1 (BK x (.tuple #[])).2) w #[⟨.mark m,false,true⟩]:=
 FZ h hE (by simp[Extern.Race.none_]) sJ (by
  intro y a
  simp at a
  subst a
  exact⟨rfl,λg h=>b g (by cases h;rfl)⟩)
theorem Sl (mk:f_->Mark)(b:∀ad g,mk ad≠.extern g)(h:AZ x=some (f,#[.pointer (some ad)]))(hE:az P f (Extern.Race.marked mk)):
  stepG P main (G x.1 x.2) w=.go (G (BK x (.tuple #[])).1 (BK x (.tuple #[])).2) w #[⟨.mark (mk ad),false,true⟩]:=
 FZ h hE (by simp[Extern.Race.marked,Extern.Race.at_,Extern.Race.none_]) (by simp[Extern.Race.marked,Extern.Race.at_]) (by
  intro x a
  simp at a
  subst a
  exact⟨rfl,λg h=>b ad g (Loc.mark.inj h)⟩)
theorem vw {d:Int}(h:AZ x=some (f,#[.pointer (some ad),.int k d]))(hE:az P f (Extern.Atomic.update (Op.intArith .add) k true))(a:w.cell? ad=some (.int k n))(b:w.frozen? ad=false):
  stepG P main (G x.1 x.2) w=.go (G (BK x (.int k (k.wrap (n+d)))).1 (BK x (.int k (k.wrap (n+d)))).2) (w.setCell ad (.int k (k.wrap (n+d)))) (Ky ad):=
 FZ h hE (run_add_entry a b) (by rw[events_add_entry a b];rfl) (sync_rw ad)
theorem yz (h:AZ x=some (f,#[.pointer (some ad),.int k n,.int k n']))(hE:az P f (Extern.Atomic.casT (.int k)))(a:w.cell? ad=some (.int k n))(b:w.frozen? ad=false):
  stepG P main (G x.1 x.2) w=.go (G (BK x (.bool true)).1 (BK x (.bool true)).2) (w.setCell ad (.int k n')) (Ky ad):=
 FZ h hE (by rw[casT_eq];exact run_cas_hit_entry a b) (by rw[casT_eq,events_cas_hit_entry a b];rfl) (sync_rw ad)
theorem qX {m:Int}(h:AZ x=some (f,#[.pointer (some ad),.int k n,.int k n']))(hE:az P f (Extern.Atomic.casT (.int k)))(b:w.cell? ad=some (.int k m))(c:w.frozen? ad=false)(a:¬m=n):
  stepG P main (G x.1 x.2) w=.go (G (BK x (.bool false)).1 (BK x (.bool false)).2) w #[⟨.cell ad,false,true⟩]:=
 FZ h hE (by rw[casT_eq];exact run_cas_miss_entry b c a) (by rw[casT_eq,events_cas_miss_entry b c a];rfl) (sync_r ad)
theorem UW (h:AZ x=some (f,#[.pointer (some ad)]))(hE:az P f (Extern.Atomic.loadT (.int k)))(a:w.cell? ad=some (.int k n)):
  stepG P main (G x.1 x.2) w=.go (G (BK x (.int k n)).1 (BK x (.int k n)).2) w #[⟨.cell ad,false,true⟩]:=
 FZ h hE (by
  change (Sem.run P (do Extern.Atomic.read (.int k) (<-asAddr (.pointer (some ad)))) w)=_
  simp[Extern.Atomic.read,asAddr,a]) (by
  change Sem.events P (do Extern.Atomic.read (.int k) (<-asAddr (.pointer (some ad)))) w _=_
  simp[Extern.Atomic.read,asAddr,a,events_load]) (sync_r ad)
theorem an7 {u:n_}(h:AZ x=some (f,#[.pointer (some ad),.int k n]))(hE:az P f Extern.Atomic.storeT)(b:w.cell? ad=some u)(c:w.frozen? ad=false):
  stepG P main (G x.1 x.2) w=.go (G (BK x (.tuple #[])).1 (BK x (.tuple #[])).2) (w.setCell ad (.int k n)) #[⟨.cell ad,true,true⟩]:=
 FZ h hE (by
  change (Sem.run P (do
   store (<-asAddr (.pointer (some ad))) (.int k n) .atomic
   pure Extern.Atomic.none_) w)=_
  simp[asAddr,b,c,run_store P w ad (.int k n) .atomic rfl,Result.andThen,Extern.Atomic.none_]) (by
  change Sem.events P (do
   store (<-asAddr (.pointer (some ad))) (.int k n) .atomic
   pure Extern.Atomic.none_) w _=_
  simp[asAddr,b,c,events_store P w _ ad (.int k n) .atomic rfl]) (λx a=>by
  simp at a;subst a;exact⟨rfl,λg h=>by cases h⟩)
theorem yJ (h:AZ x=some (f,args))(c:args[0]?=some (.pointer (some ad)))(hE:az P f Extern.Sync.semacquire)(b:w.cell? ad=some (.int .u32 n))(a:n≠0)(d:w.frozen? ad=false):
  stepG P main (G x.1 x.2) w=.go (G (BK x (.tuple #[])).1 (BK x (.tuple #[])).2) (w.setCell ad (.int .u32 (n-1))) (semEvents ad):=
 FZ h hE (by simp[Extern.Sync.semacquire,Extern.Sync.count,c,b,a,d,Extern.Sync.none_,run_store P w ad (.int .u32 (n-1)) .atomic rfl,Result.andThen])
  (by simp[Extern.Sync.semacquire,Extern.Sync.count,c,b,a,d,semEvents,events_load,events_store P w _ ad (.int .u32 (n-1)) .atomic rfl,run_store P w ad (.int .u32 (n-1)) .atomic rfl,Result.evThen]) (semEvents_sync ad)
theorem XO (h:AZ x=some (f,args))(b:args[0]?=some (.pointer (some ad)))(hE:az P f Extern.Sync.semacquire)(a:w.cell? ad=some (.int .u32 0)):
  stepG P main (G x.1 x.2) w=.go { G x.1 x.2 with status:=.blocked} w #[]:=
 xU h hE (by simp[Extern.Sync.semacquire,Extern.Sync.count,b,a])
theorem xk (h:AZ x=some (f,args))(b:args[0]?=some (.pointer (some ad)))(hE:az P f Extern.Sync.semrelease)(a:w.cell? ad=some (.int .u32 n))(c:w.frozen? ad=false):
  stepG P main (G x.1 x.2) w=.go (G (BK x (.tuple #[])).1 (BK x (.tuple #[])).2) (w.setCell ad (.int .u32 (IntKind.u32.wrap (n+1)))) (semEvents ad):=
 FZ h hE (by simp[Extern.Sync.semrelease,Extern.Sync.count,b,a,c,Extern.Sync.none_,Op.intArith,run_store P w ad (.int .u32 (IntKind.u32.wrap (n+1))) .atomic rfl,Result.andThen])
  (by simp[Extern.Sync.semrelease,Extern.Sync.count,b,a,c,semEvents,Op.intArith,events_load,events_store P w _ ad (.int .u32 (IntKind.u32.wrap (n+1))) .atomic rfl,run_store P w ad (.int .u32 (IntKind.u32.wrap (n+1))) .atomic rfl,Result.evThen]) (semEvents_sync ad)
end
end Go.Fxa
namespace Go
open Go.Fxa Go.Conc
section
variable {P:l_}{main:Bool}{x:Frame×Z_}{f:h_}{args:X_}{e:X_->Sem n_}{w w':o_}{v:n_}{CU:Array Event}
def Sem.feed (P:l_){α:Type}:Sem α->U_->d_ (List f_×α)
 |.pure a,_=>some ([],a)
 |.program k,vs=>(k P).feed P vs
 |.load m a k,v::vs=>match m,(k v).feed P vs with
  |.plain,some (XV,x)=>some (a::XV,x)
  |_,_=>none
 |_,_=>none
end
end Go
namespace Go.Fxa
open Go.Conc
variable {o:Oper}
section
variable {P:l_}{main:Bool}{x:Frame×Z_}{f:h_}{args:X_}{e:X_->Sem n_}{w w':o_}{v:n_}{CU:Array Event}
def Cells (w:o_):List f_->U_->Prop
 |[],_=>True
 |a::XV,v::vs=>w.cell? a=some v/\Cells w XV vs
 |_::_,[]=>False
def Ig (XV:List f_):Array Event:=(XV.map λa=>⟨.cell a,false,false⟩).toArray
theorem ab3 {α:Type}{e:Sem α}{a:α}:∀{n:U_} {p:List f_} (_:e.feed P n=some (p,a)) (_:Cells w p n) (es:Array Event),e.runT P w es=(.ok a w,es++Ig p):=by
 induction e with
 |pure b=>
  intro n p h _ es
  simp only[Sem.feed,l7,lQ]at h
  obtain⟨rfl,rfl⟩:=h
  simp[Sem.runT,Ig]
 |program k d=>intro n p h c es;exact d P h c es
 |load m l k d=>
  intro n p h c es
  cases n with
  |nil=>simp[Sem.feed]at h
  |cons v n=>
   simp only[Sem.feed]at h
   split at h
   .rename_i f y j;simp only[l7,lQ]at h;obtain⟨rfl,rfl⟩:=h;obtain⟨g,i⟩:=c;simp only[Sem.runT,g];rw[d v j i];simp only[lQ,true_and];apply Array.ext';simp[Ig]
   .cases h
 |_=>intro n p h;cases n<;>simp[Sem.feed]at h
def XC (x:Frame×Z_):d_ Oper:=
 match x.1.roundOf,x.1.mode,x.1.kind==CallKind.early,x.1.todo with
 |none,.run,false,.inRegion ops (i::_)::_=>match ops[i]? with
  |some o=>if Region.wanted o (yielded ops x.1.tmps)then some o else none
  |none=>none
 |_,_,_,_=>none
theorem QX (h:XC x=some o):stepG P main (G x.1 x.2) w=stepG.apply P true x.1 x.2 none (execOp x.1.eval o) w/\(x.1.kind==CallKind.early)=false:=by
 obtain⟨⟨fn,b,c,j,a,kind,p⟩,i⟩:=x;unfold XC at h;simp only at h;split at h
 .rename_i f l m n g;split at h
  .rename_i k d;split at h
   .rename_i e;obtain rfl:=x_ h;refine⟨?_,g⟩;simp[G,stepG,stepG.exec,stepG.oper,Frame.oper?,d,e]
   .cases h
  .cases h
 .cases h
theorem xn {fn:h_}(hq:(P.funcs[fn]?).any (·.norace)=false)(c:List f_):seen P fn (#[]++Ig c)=Ig c:=by
 rw[Array.empty_append];exact seen_eq hq (λe b f=>by
  simp only[Ig,eu,List.mem_map]at b
  obtain⟨a,_,rfl⟩:=b
  simp)
theorem zO {d:U_}{c:List f_}(h:XC x=some o)(i:(execOp x.1.eval o).feed P d=some (c,.value v))(g:Cells w c d)(hq:(P.funcs[x.1.fn]?).any (·.norace)=false):
  stepG P main (G x.1 x.2) w=.go (G (BK x v).1 (BK x v).2) w (Ig c):=by
 obtain⟨a,b⟩:=QX (P:=P) (main:=main) (w:=w) h;rw[a];simp only[stepG.apply,ab3 i g #[],if_true,GStep.after,kL,b,jb,if_false,xn hq]
 rfl
theorem Χ {cs:Array CommCase}{bl:Bool}{sh:CommShape}(h:XC x=some o)(c:(execOp x.1.eval o).Jy P=some (.comm cs bl sh)):
  stepG P main (G x.1 x.2) w=.comm (G x.1 x.2) cs bl sh w #[]:=by
 obtain⟨a,b⟩:=QX (P:=P) (main:=main) (w:=w) h;rw[a];simp only[stepG.apply,JJ c w #[],if_true,GStep.after,kL,b,jb,if_false,seen_none]
 rfl
end
end Go.Fxa
namespace Go
open Go.Fxa Go.Conc
def Sem.P9 (P:l_)(s:d_ (j_×Nat)){α:Type}:Sem α->d_ (List Nat×α)
 |.pure a=>some ([],a)
 |.program k=>(k P).P9 P s
 |.shape b k=>match (k s).P9 P s with
  |some (l,a)=>some (b::l,a)
  |none=>none
 |_=>none
end Go
namespace Go.Fxa
open Go.Conc
variable {x:Frame×Z_}{l:List Nat}{J:o_->Prop}{f:h_}{args:X_}{r:Nat}
section
variable {P:l_}{s:d_ (j_×Nat)}{w:o_}{main:Bool}
theorem aa7 {α:Type}{e:Sem α}{a:α}:∀{l:List Nat} (_:e.P9 P s=some (l,a)) (_:∀b∈l,w.shape? b=s) (es:Array Event),e.runT P w es=(.ok a w,es):=by
 induction e with
 |pure b=>
  intro l h _ es
  simp only[Sem.P9,l7,lQ]at h
  obtain⟨rfl,rfl⟩:=h
  rfl
 |program k d=>intro l h c es;exact d P h c es
 |shape b k d=>
  intro l h c es
  simp only[Sem.P9]at h
  split at h
  .rename_i j i f;simp only[l7,lQ]at h;obtain⟨rfl,rfl⟩:=h;have hb:=c b (List.mem_cons_self ..);simp only[Sem.runT,hb];exact d s f (λx g=>c x (List.mem_cons_of_mem _ g)) es
  .cases h
 |_=>intro l h;simp[Sem.P9]at h
def bare (P:l_)(x:Frame×Z_):Bool:=
 match AZ x with
 |some (f,_)=>match P.funcs[f]? with
  |some fn=>fn.body.isNone
  |none=>false
 |none=>false
def Zb (P:l_)(s:d_ (j_×Nat))(x:Frame×Z_):d_ (List Nat×(Frame×Z_)):=
 if bare P x then none else
 match RX P x with
 |some y=>some ([],y)
 |none=>match XC x with
  |some o=>match (execOp x.1.eval o).P9 P s with
   |some (l,.value v)=>some (l,BK x v)
   |_=>none
  |none=>none
def Ec (P:l_)(s:d_ (j_×Nat)):Nat->Frame×Z_->d_ (List Nat×(Frame×Z_))
 |0,x=>some ([],x)
 |n+1,x=>match Zb P s x with
  |some (l,y)=>match Ec P s n y with
   |some (l',z)=>some (l++l',z)
   |none=>none
  |none=>none
theorem Sm {y:Frame×Z_}(h:Zb P s x=some (l,y))(g:∀b∈l,w.shape? b=s):stepG P main (G x.1 x.2) w=.go (G y.1 y.2) w #[]:=by
 unfold Zb at h;split at h
 .cases h
 split at h
 .rename_i e hq;simp only[l7,lQ]at h;obtain⟨_,rfl⟩:=h;exact quiet_step hq w
 .split at h
  .rename_i o a;split at h
   .rename_i d v c;simp only[l7,lQ]at h;obtain⟨rfl,rfl⟩:=h;obtain⟨e1,e2⟩:=QX (P:=P) (main:=main) (w:=w) a;rw[e1];simp only[stepG.apply,aa7 c g #[],if_true,GStep.after,kL,e2,jb,if_false,seen_none]
    rfl
   .cases h
  .cases h
theorem Gy {J:o_->Prop}{r:Nat}(j:∀w,J w->w.shape? r=s):∀{n:Nat} {x z:Frame×Z_} {l:List Nat},Ec P s n x=some (l,z)->(∀b∈l,b=r)->Ls P J main n (G x.1 x.2) (G z.1 z.2)
 |0,x,z,l,h,_=>by
  simp only[Ec,l7,lQ]at h
  obtain⟨_,rfl⟩:=h
  exact rfl
 |n+1,x,z,l,h,a=>by
  simp only[Ec]at h
  split at h
  .rename_i f y d;split at h
   .rename_i g i e;simp only[l7,lQ]at h;obtain⟨rfl,rfl⟩:=h;exact⟨rfl,G y.1 y.2,λw c=>Sm d (λb hb=>by rw[a b (List.mem_append_left _ hb)];exact j w c),Gy j e (λb hb=>a b (List.mem_append_right _ hb))⟩
   .cases h
  .cases h
theorem Ls.trans {J:o_->Prop}{g g' i:m_}:∀{n m:Nat},Ls P J main n g g'->Ls P J main m g' i->Ls P J main (n+m) g i
 |0,m,h,a=>by rw[Nat.zero_add,show g=g' from h];exact a
 |n+1,m,h,a=>by
  obtain⟨c,b,d,e⟩:=h
  rw[show n+1+m=(n+m)+1 from by omega]
  exact⟨c,b,d,e.trans a⟩
theorem Λ {e:X_->Sem n_}{v:n_}(h:AZ x=some (f,args))(hE:az P f e)(a:e args=.pure v):
  Ls P J main 1 (G x.1 x.2) (G (BK x v).1 (BK x v).2):=
 ⟨rfl,_,λw _=>FZ (CU:=#[]) h hE (by rw[a];rfl) (by rw[a];rfl) sJ,rfl⟩
end
def run (P:l_)(n:Nat)(x:Frame×Z_):Frame×Z_:=
 match Ec P (some (257,6)) n x with
 |some (_,y)=>y
 |none=>x
def AU (P:l_)(n:Nat)(x:Frame×Z_):d_ (List Nat):=(Ec P (some (257,6)) n x).map (·.1)
def MK (x:Frame×Z_):d_ (h_×X_):=
 match x.1.roundOf,x.1.mode,x.1.defers with
 |none,.returning,⟨.fn (.func f) cap,args⟩::_=>if cap.size=0 then some (f,args)else none
 |_,_,_=>none
def RD (P:l_)(f:h_):Func:=(P.funcs[f]?).getD default
theorem Gp {P:Program} {f:FuncId} {e:Array Value->Sem Value} (h:(P.funcs[f]?).isSome=true) (b:((RD P f).name== "runtime.NumGoroutine")=false) (c:(RD P f).body.isNone=true) (d:Extern.findNext (RD P f)=none) (g:Extern.find (RD P f)=some e):az P f e:=by
 obtain⟨fn,a⟩:=Option.isSome_iff_exists.1 h;have:RD P f=fn:=by unfold RD;rw[a];rfl
 rw[this]at b c d g;exact⟨fn,a,b,c,d,g⟩
def UG (x:Frame×Z_):Frame×Z_:=({x.1 with defers:=x.1.defers.tail},x.2)
def BO (x:Frame×Z_):m_:=G x.1 x.2
section
variable {P:l_}{main:Bool}{x:Frame×Z_}{w:o_}
theorem bc5 {n:Nat}(d:∀w,J w->w.shape? r=some (257,6))(h:AU P n x=some l)(e:∀b∈l,b=r):Ls P J main n (BO x) (BO (run P n x)):=by
 unfold AU at h;obtain⟨⟨c,y⟩,a,rfl⟩:=lT.1 h;have:run P n x=y:=by unfold run;rw[a]
 rw[this];exact Gy d a e
theorem Rk (m:Mark)(z:∀g,m≠.extern g)(h:MK x=some (f,args))(hE:az P f (fun _=>do mark m;pure Extern.Race.none_)):
  stepG P main (BO x) w=.go (BO (UG x)) w #[⟨.mark m,false,true⟩]:=by
 obtain⟨⟨fn,c,todo,s,k,kind,u⟩,r⟩:=x;obtain⟨n,p,d,hb,q,o⟩:=hE;unfold MK at h;simp only at h;split at h
 .rename_i t cap e l;by_cases i:cap.size=0
  .rw[rW i]at h;simp only[l7,lQ]at h;obtain⟨rfl,rfl⟩:=h;obtain rfl:=Array.eq_empty_of_size_eq_zero i;exact stepG_unwind_entry (v:=.tuple #[]) (b:=Frame.mk fn c [] [] .run kind none) (a:=⟨c,_⟩) (todo:=todo) rfl p d hb q o (by simp[Extern.Race.none_]) sJ (by
    intro y j
    simp at j
    subst j
    exact⟨rfl,λg h=>z g (by cases h;rfl)⟩)
  .rw[ru i]at h;cases h
 .cases h
theorem Hw {a b c d:n_}(w:o_)(h:DD r #[a,b,c,d] 257 w):w.shape? r=some (257,6):=by
 obtain⟨f,e,h⟩:=h;unfold BC at h;simp[World.shape?,h]
def Jn:n_:=.tuple #[]
section
variable (P:l_)(r:Nat)(Y:Z_)
def wS:Frame×Z_:=(Frame.enter P 137 #[.pointer (some (S_ r 4))] .normal,Y)
def wD:=run P 3 (wS P r Y)
def wL:=run P 19 (BK (wD P r Y) Jn)
def wE:=run P 31 (BK (wL P r Y) (.int .u64 0))
def wQ:=run P 4 (BK (wE P r Y) Jn)
def wK:=run P 48 (BK (wL P r Y) (.int .u64 4294967296))
def wL2:=run P 25 (BK (wK P r Y) (.bool false))
def wEa:=run P 31 (BK (wL2 P r Y) (.int .u64 0))
def wQa:=run P 4 (BK (wEa P r Y) Jn)
def wW:=run P 20 (BK (wK P r Y) (.bool true))
def wM:=run P 23 (BK (wW P r Y) Jn)
def wN:=run P 16 (BK (wM P r Y) Jn)
def wEb:=run P 11 (BK (wN P r Y) (.int .u64 0))
def wQb:=run P 4 (BK (wEb P r Y) Jn)
end
end
section
variable (r:Nat)(Y:Z_)
open Go.Proofs
theorem bt3:az prog 172 (Extern.Race.marked .releaseMerge):=Gp sU sU sU sU sU
theorem iH:az prog 173 (λ_=>do mark .disable;pure Extern.Race.none_):=Gp sU sU sU sU sU
theorem aV:az prog 174 (λ_=>do mark .enable;pure Extern.Race.none_):=Gp sU sU sU sU sU
theorem ϓ:az prog 175 (λ_=>pure (.bool false)):=Gp sU sU sU sU sU
theorem bt2:az prog 180 (Extern.Race.marked .read):=Gp sU sU sU sU sU
theorem bt1:az prog 184 (Extern.Sync.semrelease):=Gp sU sU sU sU sU
theorem bt0:az prog 188 (Extern.Race.marked .acquire):=Gp sU sU sU sU sU
theorem bs9:az prog 191 (Extern.Race.marked .write):=Gp sU sU sU sU sU
theorem ay1:az prog 192 (Extern.Sync.semacquire):=Gp sU sU sU sU sU
theorem sW:az prog 223 (Extern.Atomic.update (Op.intArith .add) .u64 true):=Gp sU sU sU sU sU
theorem iG:az prog 224 (Extern.Atomic.loadT (.int .u64)):=Gp sU sU sU sU sU
theorem bs8:az prog 225 (Extern.Atomic.storeT):=Gp sU sU sU sU sU
theorem e228:az prog 228 (Extern.Atomic.casT (.int .u64)):=Gp sU sU sU sU sU
theorem uj:AU prog 3 (wS prog r Y)=some []:=sU
theorem af8:AZ (wD prog r Y)=some (173,#[]):=sU
theorem tY:AU prog 19 (BK (wD prog r Y) Jn)=some []:=sU
theorem yT:AZ (wL prog r Y)=some (224,#[.pointer (some (S_ r 4))]):=sU
theorem ui:AU prog 31 (BK (wL prog r Y) (.int .u64 0))=some []:=sU
theorem af7:AZ (wE prog r Y)=some (174,#[]):=sU
theorem tN:AU prog 4 (BK (wE prog r Y) Jn)=some [r,r]:=sU
theorem af5:AZ (wQ prog r Y)=some (188,#[.pointer (some (S_ r 4))]):=sU
theorem uf:AU prog 48 (BK (wL prog r Y) (.int .u64 4294967296))=some []:=sU
theorem yU:AZ (wK prog r Y)=some (228,#[.pointer (some (S_ r 4)),.int .u64 4294967296,.int .u64 4294967297]):=sU
theorem ji:AU prog 25 (BK (wK prog r Y) (.bool false))=some []:=sU
theorem tZ:AZ (wL2 prog r Y)=some (224,#[.pointer (some (S_ r 4))]):=sU
theorem jl:AU prog 31 (BK (wL2 prog r Y) (.int .u64 0))=some []:=sU
theorem uh:AZ (wEa prog r Y)=some (174,#[]):=sU
theorem jh:AU prog 4 (BK (wEa prog r Y) Jn)=some [r,r]:=sU
theorem tK:AZ (wQa prog r Y)=some (188,#[.pointer (some (S_ r 4))]):=sU
theorem tH:AU prog 20 (BK (wK prog r Y) (.bool true))=some [r,r]:=sU
theorem af4:AZ (wW prog r Y)=some (191,#[.pointer (some (S_ r 5))]):=sU
theorem tX:AU prog 23 (BK (wW prog r Y) Jn)=some []:=sU
theorem yS:AZ (wM prog r Y)=some (192,#[.pointer (some (S_ r 5)),.bool false]):=sU
theorem tV:AU prog 16 (BK (wM prog r Y) Jn)=some []:=sU
theorem af6:AZ (wN prog r Y)=some (224,#[.pointer (some (S_ r 4))]):=sU
theorem jk:AU prog 11 (BK (wN prog r Y) (.int .u64 0))=some []:=sU
theorem ug:AZ (wEb prog r Y)=some (174,#[]):=sU
theorem jg:AU prog 4 (BK (wEb prog r Y) Jn)=some [r,r]:=sU
theorem tJ:AZ (wQb prog r Y)=some (188,#[.pointer (some (S_ r 4))]):=sU
end
end Go.Fxa
namespace Go.Fxa
open Go.Conc Go.Proofs
variable {x:Frame×Z_}{n:Nat}
structure SG (P:l_)(r:Nat)(c:Frame)(Y:Z_):Prop where
 iH:az P 173 (λ_=>do mark .disable;pure Extern.Race.none_)
 aV:az P 174 (λ_=>do mark .enable;pure Extern.Race.none_)
 bt0:az P 188 (Extern.Race.marked .acquire)
 bs9:az P 191 (Extern.Race.marked .write)
 ay1:az P 192 Extern.Sync.semacquire
 iG:az P 224 (Extern.Atomic.loadT (.int .u64))
 e228:az P 228 (Extern.Atomic.casT (.int .u64))
 uj:AU P 3 (wS P r (c::Y))=some []
 af8:AZ (wD P r (c::Y))=some (173,#[])
 tY:AU P 19 (BK (wD P r (c::Y)) Jn)=some []
 yT:AZ (wL P r (c::Y))=some (224,#[.pointer (some (S_ r 4))])
 ui:AU P 31 (BK (wL P r (c::Y)) (.int .u64 0))=some []
 af7:AZ (wE P r (c::Y))=some (174,#[])
 tN:AU P 4 (BK (wE P r (c::Y)) Jn)=some [r,r]
 af5:AZ (wQ P r (c::Y))=some (188,#[.pointer (some (S_ r 4))])
 uf:AU P 48 (BK (wL P r (c::Y)) (.int .u64 4294967296))=some []
 yU:AZ (wK P r (c::Y))=some (228,#[.pointer (some (S_ r 4)),.int .u64 4294967296,.int .u64 4294967297])
 ji:AU P 25 (BK (wK P r (c::Y)) (.bool false))=some []
 tZ:AZ (wL2 P r (c::Y))=some (224,#[.pointer (some (S_ r 4))])
 jl:AU P 31 (BK (wL2 P r (c::Y)) (.int .u64 0))=some []
 uh:AZ (wEa P r (c::Y))=some (174,#[])
 jh:AU P 4 (BK (wEa P r (c::Y)) Jn)=some [r,r]
 tK:AZ (wQa P r (c::Y))=some (188,#[.pointer (some (S_ r 4))])
 tH:AU P 20 (BK (wK P r (c::Y)) (.bool true))=some [r,r]
 af4:AZ (wW P r (c::Y))=some (191,#[.pointer (some (S_ r 5))])
 tX:AU P 23 (BK (wW P r (c::Y)) Jn)=some []
 yS:AZ (wM P r (c::Y))=some (192,#[.pointer (some (S_ r 5)),.bool false])
 tV:AU P 16 (BK (wM P r (c::Y)) Jn)=some []
 af6:AZ (wN P r (c::Y))=some (224,#[.pointer (some (S_ r 4))])
 jk:AU P 11 (BK (wN P r (c::Y)) (.int .u64 0))=some []
 ug:AZ (wEb P r (c::Y))=some (174,#[])
 jg:AU P 4 (BK (wEb P r (c::Y)) Jn)=some [r,r]
 tJ:AZ (wQb P r (c::Y))=some (188,#[.pointer (some (S_ r 4))])
 tu:Ec P (some (257,6)) 20 (BK (wQ P r (c::Y)) Jn)=some ([],(c.finish (.tuple #[]),Y))
 jf:Ec P (some (257,6)) 20 (BK (wQa P r (c::Y)) Jn)=some ([],(c.finish (.tuple #[]),Y))
 je:Ec P (some (257,6)) 10 (BK (wQb P r (c::Y)) Jn)=some ([],(c.finish (.tuple #[]),Y))
section
variable {P:l_}{r:Nat}{c:Frame}{Y:Z_}{a b e d:n_}
theorem Gg {l:List Nat}(h:AU P n x=some l)(f:∀y∈l,y=r)(main:Bool):Ls P (DD r #[a,b,e,d] 257) main n (BO x) (BO (run P n x)):=
 bc5 (λw c=>Hw w c) h f
theorem Jp:∀y∈([]:List Nat),y=r:=sJ
theorem af9:∀y∈[r,r],y=r:=sJ
def waits (P:l_)(r:Nat)(Y:Z_):Wts where
 mD:=BO (wD P r Y)
 mD':=BO (BK (wD P r Y) Jn)
 mL:=BO (wL P r Y)
 mL0:=BO (BK (wL P r Y) (.int .u64 0))
 mLK:=BO (BK (wL P r Y) (.int .u64 KK))
 mC:=BO (wK P r Y)
 mC1:=BO (BK (wK P r Y) (.bool true))
 mC0:=BO (BK (wK P r Y) (.bool false))
 mW:=BO (wW P r Y)
 mW':=BO (BK (wW P r Y) Jn)
 fr:=(wM P r Y).1
 cs:=(wM P r Y).2
 mS':=BO (BK (wM P r Y) Jn)
 k0:=3
 k1:=19
 k2:=48
 k3:=20
 k4:=23
theorem jF (F:SG P r c Y){y:Frame×Z_}{k1 k3:Nat}{h:List Nat}(i:AU P k1 x=some h)(g:∀z∈h,z=r)(hE:AZ (run P k1 x)=some (174,#[]))(j:AU P 4 (BK (run P k1 x) Jn)=some [r,r])
  (l:AZ (run P 4 (BK (run P k1 x) Jn))=some (188,#[.pointer (some (S_ r 4))])) (k:Ec P (some (257,6)) k3 (BK (run P 4 (BK (run P k1 x) Jn)) Jn)=some ([],y)):
  ay8 P r #[a,b,e,d] 257 (BO y) (BO x):=
 ⟨k1,BO (run P k1 x),BO (BK (run P k1 x) Jn),4,BO (run P 4 (BK (run P k1 x) Jn)),BO (BK (run P 4 (BK (run P k1 x) Jn)) Jn),k3,
  Gg i g true,rfl,λw=>Vj .enable sJ hE F.aV,Gg j af9 true,rfl,λw=>Sl .acquire sJ l F.bt0,Gy (λw f=>Hw w f) k sJ⟩
theorem az0 (F:SG P r c Y):al7 P r #[a,b,e,d] 257 (BO (wS P r (c::Y))) (G (c.finish (.tuple #[])) Y) (waits P r (c::Y)) where
 runs:=⟨rfl,rfl,rfl,rfl⟩
 s0:=Gg F.uj Jp true
 ax w:=Vj .disable sJ F.af8 F.iH
 s1:=Gg F.tY Jp true
 bo5 w f:=UW F.yT F.iG f
 fin0:=jF F F.ui Jp F.af7 F.tN F.af5 F.tu
 bo4 w f:=UW F.yT F.iG f
 s2:=Gg F.uf Jp true
 IP w f hz:=yz F.yU F.e228 f hz
 miss w f hz:=qX F.yU F.e228 f hz sN
 lo0:=⟨25,BO (wL2 P r (c::Y)),_,Gg F.ji Jp true,rfl,λw f=>UW F.tZ F.iG f,jF F F.jl Jp F.uh F.jh F.tK F.jf⟩
 s3:=Gg F.tH af9 true
 wr w:=Sl .write sJ F.af4 F.bs9
 s4:=Gg F.tX Jp true
 ca5 w f hz:=yJ F.yS rfl F.ay1 f sN hz
 bn6 w f:=XO F.yS rfl F.ay1 f
 lo1:=⟨16,BO (wN P r (c::Y)),_,Gg F.tV Jp true,rfl,λw f=>UW F.af6 F.iG f,jF F F.jk Jp F.ug F.jg F.tJ F.je⟩
end
section
variable (r:Nat)(c:Frame)(Y:Z_)
theorem tu:Ec prog (some (257,6)) 20 (BK (wQ prog r (c::Y)) Jn)=some ([],(c.finish (.tuple #[]),Y)):=sU
theorem jf:Ec prog (some (257,6)) 20 (BK (wQa prog r (c::Y)) Jn)=some ([],(c.finish (.tuple #[]),Y)):=sU
theorem je:Ec prog (some (257,6)) 10 (BK (wQb prog r (c::Y)) Jn)=some ([],(c.finish (.tuple #[]),Y)):=sU
theorem vN:SG prog r c Y:=
 ⟨iH,aV,bt0,bs9,ay1,iG,e228,uj r _,af8 r _,tY r _,yT r _,ui r _,af7 r _,tN r _,af5 r _,uf r _,yU r _,ji r _,tZ r _,jl r _,uh r _,jh r _,tK r _,
  tH r _,af4 r _,tX r _,yS r _,tV r _,af6 r _,jk r _,ug r _,jg r _,tJ r _,tu r c Y,jf r c Y,je r c Y⟩
end
section
variable (P:l_)(r:Nat)(Y:Z_)
def dS:Frame×Z_:=(Frame.enter P 135 #[.pointer (some (S_ r 4))] .deferred,Y)
def dR:=run P 15 (dS P r Y)
def dD:=run P 3 (BK (dR P r Y) Jn)
def dB:=run P 11 (BK (dD P r Y) Jn)
def dA:=run P 22 (BK (dB P r Y) (.bool false))
def dF:=run P 87 (BK (dA P r Y) (.int .u64 0))
def dM:=run P 103 (BK (dA P r Y) (.int .u64 1))
def dT:=run P 20 (BK (dM P r Y) (.int .u64 1))
def dP:=run P 27 (BK (dT P r Y) Jn)
def dG:=run P 17 (BK (dP P r Y) Jn)
def aS:Frame×Z_:=(Frame.enter P 133 #[.pointer (some (S_ r 4)),b_ 1] .normal,Y)
def aD:=run P 12 (aS P r Y)
def aB:=run P 11 (BK (aD P r Y) Jn)
def aA:=run P 22 (BK (aB P r Y) (.bool false))
def aR:=run P 53 (BK (aA P r Y) (.int .u64 4294967296))
def aE:=run P 39 (BK (aR P r Y) Jn)
end
def f134 (tm:X_)(td:List Item):Frame:=Frame.mk 134 tm td [] .returning .deferred none
def CW (P:l_):Frame:={ (default:Frame)with fn:=P.funcs.size,defers:=[],mode:=.panicking [goexitEntry]}
structure PM (P:l_)(r:Nat)(tm:X_)(td:List Item):Prop where
 bt3:az P 172 (Extern.Race.marked .releaseMerge)
 iH:az P 173 (λ_=>do mark .disable;pure Extern.Race.none_)
 aV:az P 174 (λ_=>do mark .enable;pure Extern.Race.none_)
 ϓ:az P 175 (λ_=>pure (.bool false))
 bt1:az P 184 Extern.Sync.semrelease
 sW:az P 223 (Extern.Atomic.update (Op.intArith .add) .u64 true)
 iG:az P 224 (Extern.Atomic.loadT (.int .u64))
 bs8:az P 225 Extern.Atomic.storeT
 al4:AU P 15 (dS P r [f134 tm td,CW P])=some [r,r]
 ah2:AZ (dR P r [f134 tm td,CW P])=some (172,#[.pointer (some (S_ r 4))])
 uP:AU P 3 (BK (dR P r [f134 tm td,CW P]) Jn)=some []
 ah7:AZ (dD P r [f134 tm td,CW P])=some (173,#[])
 uQ:AU P 11 (BK (dD P r [f134 tm td,CW P]) Jn)=some []
 ah8:AZ (dB P r [f134 tm td,CW P])=some (175,#[])
 uS:AU P 22 (BK (dB P r [f134 tm td,CW P]) (.bool false))=some []
 zk:AZ (dA P r [f134 tm td,CW P])=some (223,#[.pointer (some (S_ r 4)),.int .u64 18446744069414584320])
 uN:AU P 87 (BK (dA P r [f134 tm td,CW P]) (.int .u64 0))=some []
 ah6:MK (dF P r [f134 tm td,CW P])=some (174,#[])
 uO:Ec P (some (257,6)) 5 (UG (dF P r [f134 tm td,CW P]))=some ([],(CW P,[]))
 uJ:AU P 103 (BK (dA P r [f134 tm td,CW P]) (.int .u64 1))=some []
 ah4:AZ (dM P r [f134 tm td,CW P])=some (224,#[.pointer (some (S_ r 4))])
 uG:AU P 20 (BK (dM P r [f134 tm td,CW P]) (.int .u64 1))=some []
 ah1:AZ (dT P r [f134 tm td,CW P])=some (225,#[.pointer (some (S_ r 4)),.int .u64 0])
 uH:AU P 27 (BK (dT P r [f134 tm td,CW P]) Jn)=some []
 ah3:AZ (dP P r [f134 tm td,CW P])=some (184,#[.pointer (some (S_ r 5)),.bool false,b_ 0])
 uK:AU P 17 (BK (dP P r [f134 tm td,CW P]) Jn)=some []
 ah5:MK (dG P r [f134 tm td,CW P])=some (174,#[])
 uM:Ec P (some (257,6)) 5 (UG (dG P r [f134 tm td,CW P]))=some ([],(CW P,[]))
 wake:mayWake P (BO (dP P r [f134 tm td,CW P]))=true
structure Zm (P:l_)(r:Nat)(c:Frame)(Y:Z_):Prop where
 iH:az P 173 (λ_=>do mark .disable;pure Extern.Race.none_)
 aV:az P 174 (λ_=>do mark .enable;pure Extern.Race.none_)
 ϓ:az P 175 (λ_=>pure (.bool false))
 bt2:az P 180 (Extern.Race.marked .read)
 sW:az P 223 (Extern.Atomic.update (Op.intArith .add) .u64 true)
 vG:AU P 12 (aS P r (c::Y))=some []
 ai1:AZ (aD P r (c::Y))=some (173,#[])
 vH:AU P 11 (BK (aD P r (c::Y)) Jn)=some []
 ai2:AZ (aB P r (c::Y))=some (175,#[])
 vI:AU P 22 (BK (aB P r (c::Y)) (.bool false))=some []
 ai3:AZ (aA P r (c::Y))=some (223,#[.pointer (some (S_ r 4)),.int .u64 4294967296])
 vz:AU P 53 (BK (aA P r (c::Y)) (.int .u64 4294967296))=some [r,r]
 ah9:AZ (aR P r (c::Y))=some (180,#[.pointer (some (S_ r 5))])
 vC:AU P 39 (BK (aR P r (c::Y)) Jn)=some []
 ai0:MK (aE P r (c::Y))=some (174,#[])
 vF:Ec P (some (257,6)) 1 (UG (aE P r (c::Y)))=some ([],(c.finish (.tuple #[]),Y))
section
variable {P:l_}{r:Nat}{a b e d:n_}
theorem Ul {s:d_ (j_×Nat)}{δ m:Nat}:∀{n:Nat} {x y:Frame×Z_},Ec P s n x=some ([],y)->QuitsD P m δ (BO y)->QuitsD P (n+m) δ (BO x)
 |0,x,y,h,hq=>by
  simp only[Ec,l7,lQ,true_and]at h
  subst h
  rw[Nat.zero_add];exact hq
 |n+1,x,y,h,hq=>by
  simp only[Ec]at h
  split at h
  .rename_i c z b;split at h
   .rename_i d e a;simp only[l7,lQ,List.append_eq_nil_iff]at h;obtain⟨⟨rfl,rfl⟩,rfl⟩:=h;rw[show n+1+m=(n+m)+1 from by omega];exact .ctl rfl (λw=>Sm b sJ) (Ul a hq)
   .cases h
  .cases h
theorem fG {δ m:Nat}(h:AU P n x=some [])(hq:QuitsD P m δ (BO (run P n x))):QuitsD P (n+m) δ (BO x):=by
 unfold AU at h;obtain⟨⟨l,y⟩,a,rfl⟩:=lT.1 h;have:run P n x=y:=by unfold run;rw[a]
 rw[this]at hq;exact Ul a hq
theorem xq:QuitsD P 1 0 (BO (CW P,[])):=by
 refine .inr ⟨rfl,{ BO (CW P,[])with status:=.finished},#[],sJ,λw=>?_,rfl,rfl⟩;simp[BO,G,CW,stepG,unwind,Frame.catches,goexitEntry]
 rfl
theorem Vy (h:MK x=some (174,#[]))(f:az P 174 (λ_=>do mark .enable;pure Extern.Race.none_))(c:Ec P (some (257,6)) 5 (UG x)=some ([],(CW P,[]))):QuitsD P 7 1 (BO x):=
 .said ⟨.mark .enable,false,true⟩ rfl rfl (λw=>Rk .enable sJ h f) (Ul (m:=1) c xq)
def outs (P:l_)(r:Nat)(Y:Z_):SY where
 gR:=BO (dR P r Y)
 gR':=BO (BK (dR P r Y) Jn)
 gD:=BO (dD P r Y)
 gD':=BO (BK (dD P r Y) Jn)
 gA:=BO (dA P r Y)
 gF:=BO (BK (dA P r Y) (.int .u64 0))
 gW:=BO (BK (dA P r Y) (.int .u64 1))
 gS:=BO (dT P r Y)
 gS':=BO (BK (dT P r Y) Jn)
 gP:=BO (dP P r Y)
 gP':=BO (BK (dP P r Y) Jn)
 k1:=3
 k2:=11+(1+22)
 k3:=103+(1+20)
 k4:=27
 nF:=87+7
 nP:=17+7
theorem Us {g g':m_}:∀{n:Nat},Ls P (DD r #[a,b,e,d] 257) false n g g'->Lod P r #[a,b,e,d] 257 n g g'
 |0,h=>h
 |n+1,h=>by
  obtain⟨f,c,i,j⟩:=h
  exact⟨f,c,[],.inl rfl,λw k=>i w ⟨1,0,k⟩,Us j⟩
theorem Lod.trans {g g' p:m_}:∀{n m:Nat},Lod P r #[a,b,e,d] 257 n g g'->Lod P r #[a,b,e,d] 257 m g' p->Lod P r #[a,b,e,d] 257 (n+m) g p
 |0,m,h,c=>by rw[Nat.zero_add,show g=g' from h];exact c
 |n+1,m,h,c=>by
  obtain⟨i,f,l,j,k,o⟩:=h
  rw[show n+1+m=(n+m)+1 from by omega]
  exact⟨i,f,l,j,k,o.trans c⟩
theorem Yg {g:X_}{f:List Item}(F:PM P r g f):O3 P r #[a,b,e,d] 257 (outs P r [f134 g f,CW P]) where
 runs:=⟨rfl,rfl,rfl,rfl,rfl⟩
 rel w:=Sl .releaseMerge sJ F.ah2 F.bt3
 s1:=Gg F.uP Jp false
 ax w:=Vj .disable sJ F.ah7 F.iH
 s2:=(Gg F.uQ Jp false).trans ((Λ F.ah8 F.ϓ rfl).trans (Gg F.uS Jp false))
 add0 w c hz:=vw F.zk F.sW c hz
 fin0:=fG F.uN (Vy F.ah6 F.aV F.uO)
 add1 w c hz:=vw F.zk F.sW c hz
 s3:=(Us (Gg F.uJ Jp false)).trans (Lod.trans (n:=1) (g':=BO (BK (dM P r [f134 g f,CW P]) (.int .u64 1))) ⟨rfl,_,_,.inr rfl,λw c=>UW F.ah4 F.iG c.cellSt,rfl⟩ (Us (Gg F.uG Jp false)))
 sto w c hz:=an7 F.ah1 F.bs8 c hz
 s4:=Gg F.uH Jp false
 sem w c hz:=xk F.ah3 rfl F.bt1 c hz
 fin1:=fG F.uK (Vy F.ah5 F.aV F.uM)
 wake:=⟨F.wake,rfl⟩
def adds (P:l_)(r:Nat)(Y:Z_):bt9 where
 mD:=BO (aD P r Y)
 mD':=BO (BK (aD P r Y) Jn)
 mA:=BO (aA P r Y)
 mA':=BO (BK (aA P r Y) (.int .u64 4294967296))
 mR:=BO (aR P r Y)
 mR':=BO (BK (aR P r Y) Jn)
 mE:=BO (aE P r Y)
 mE':=BO (UG (aE P r Y))
 k0:=12
 k1:=11+(1+22)
 k2:=53
 k3:=39
 k4:=1
theorem bz0 {c:Frame}{Y:Z_}(F:Zm P r c Y):bq4 P r #[a,b,e,d] 257 (BO (aS P r (c::Y))) (G (c.finish (.tuple #[])) Y) (adds P r (c::Y)) where
 runs:=⟨rfl,rfl,rfl,rfl⟩
 s0:=Gg F.vG Jp true
 ax w:=Vj .disable sJ F.ai1 F.iH
 s1:=(Gg F.vH Jp true).trans ((Λ F.ai2 F.ϓ rfl).trans (Gg F.vI Jp true))
 add w f hz:=vw F.ai3 F.sW f hz
 s2:=Gg F.vz af9 true
 rd w:=Sl .read sJ F.ah9 F.bt2
 s3:=Gg F.vC Jp true
 ena w:=Rk .enable sJ F.ai0 F.aV
 s4:=Gy (λw f=>Hw w f) F.vF sJ
end
end Go.Fxa
