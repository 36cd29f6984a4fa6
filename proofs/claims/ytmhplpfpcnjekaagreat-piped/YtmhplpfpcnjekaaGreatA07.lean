/- The child's way out: it releas -/
import Derived.Test.YtmhplpfpcnjekaaGreatA06
import Derived.Conc.AtomicLaws2
import Derived.Conc.MarkLaws
namespace Go.Fxa
open Go.Conc
open Go.ConcN (sumTo upd sumTo_upd upd_ne upd_same)
def KK:Int:=4294967296
def Oy (a:f_):Event:=⟨.mark (.releaseMerge a),false,true⟩
def Qn (a:f_):Event:=⟨.mark (.acquire a),false,true⟩
def Ja:Event:=⟨.mark .disable,false,true⟩
def KL:Event:=⟨.mark .enable,false,true⟩
def JM (a:f_):Array Event:=#[⟨.cell a,false,true⟩,⟨.cell a,true,true⟩]
def Bh (r:Nat) (pre:X_) (ty:j_) (w:o_) (st sm:Int):Prop:=w.heap[r]?=some (O_ (pre++#[.int .u64 st,.int .u32 sm]) ty)
def stA (r:Nat) (pre:X_):f_:=(T_ r pre.size)
def smA (r:Nat) (pre:X_):f_:=(T_ r (pre.size+1))
section
variable {r:Nat} {pre:X_} {ty:j_} {w:o_} {st sm:Int}
theorem Bh.cellSt (h:Bh r pre ty w st sm):w.cell? (stA r pre)=some (.int .u64 st):=by
 unfold World.cell? stA;unfold Bh at h;simp only;rw[h];simp
theorem Bh.cellSm (h:Bh r pre ty w st sm):w.cell? (smA r pre)=some (.int .u32 sm):=by
 unfold World.cell? smA;unfold Bh at h;simp only;rw[h];simp
theorem Bh.Pz (h:Bh r pre ty w st sm):w.frozen? (stA r pre)=false:=by
 unfold World.frozen? stA;unfold Bh at h;simp only;rw[h];simp
theorem Bh.kC (h:Bh r pre ty w st sm):w.frozen? (smA r pre)=false:=by
 unfold World.frozen? smA;unfold Bh at h;simp only;rw[h];simp
theorem Bh.setSt (h:Bh r pre ty w st sm) (st':Int):Bh r pre ty (w.setCell (stA r pre) (.int .u64 st')) st' sm:=by
 unfold Bh at h ⊢;simp only[World.setCell,stA,Array.getElem?_modify,if_true,h,Option.map_some,Option.some.injEq];have:(pre++#[Value.int .u64 st,.int .u32 sm]).setIfInBounds pre.size (.int .u64 st')=pre++#[Value.int .u64 st',.int .u32 sm]:=by
  apply Array.ext'
  simp
 simp[this]
theorem Bh.setSm (h:Bh r pre ty w st sm) (sm':Int):Bh r pre ty (w.setCell (smA r pre) (.int .u32 sm')) st sm':=by
 unfold Bh at h ⊢;simp only[World.setCell,smA,Array.getElem?_modify,if_true,h,Option.map_some,Option.some.injEq];have:(pre++#[Value.int .u64 st,.int .u32 sm]).setIfInBounds (pre.size+1) (.int .u32 sm')=pre++#[Value.int .u64 st,.int .u32 sm']:=by
  apply Array.ext'
  simp
 simp[this]
theorem Bh.lt (h:Bh r pre ty w st sm):r<w.heap.size:=(y_.1 h).1
theorem Bh.keep {Z:Nat->Prop} {w':o_} (h:Bh r pre ty w st sm) (hz:Z r) (hk:I5 Z w w'):Bh r pre ty w' st sm:=by
 unfold Bh;rw[hk r hz];exact h
theorem Bh.eq {st' sm':Int} (h:Bh r pre ty w st sm) (h':Bh r pre ty w st' sm'):st=st'/\sm=sm':=by
 have a:=h.cellSt;have b:=h.cellSm;rw[h'.cellSt]at a;rw[h'.cellSm]at b;simp only[Option.some.injEq,Value.int.injEq,true_and]at a b;exact⟨a.symm,b.symm⟩
theorem Oh {Z:Nat->Prop} {a:f_} (hz:Z a.block) (x:n_) (d:Nat):BZ Z w ((w.at d).setCell a x):=by
 refine⟨by simp[World.setCell,World.at],λk b=>?_,rfl,rfl,rfl⟩;have:a.block≠k:=λe=>b (e ▸ hz)
 simp[World.setCell,World.at,Array.getElem?_modify,this]
end
theorem G7 {w:o_} {a:f_} {x:n_} {d:Nat}:((w.at d).setCell a x).heap.size=w.heap.size:=by simp[World.setCell,World.at]
def Dj (r:Nat) (pre:X_) (ty:j_) (w:o_):Prop:=∃st sm,Bh r pre ty w st sm
theorem Bh.is {r:Nat} {pre:X_} {ty:j_} {w:o_} {st sm:Int} (h:Bh r pre ty w st sm) (d:Nat):Dj r pre ty (w.at d):=⟨st,sm,h⟩
def J5 (P:l_) (J:o_->Prop) (main:Bool):Nat->m_->m_->Prop
 |0,g,g'=>g=g'
 |n+1,g,g'=>g.status=.running/\∃g1,(∀w,J w->stepG P main g w=.go g1 w #[])/\J5 P J main n g1 g'
theorem J5.status {P:l_} {J:o_->Prop} {main:Bool} {g':m_} (hs:g'.status=.running):∀{n:Nat} {g:m_},J5 P J main n g g'->g.status=.running
 |0,_,h=>h ▸ hs
 |_+1,_,h=>h.1
def xJ (P:l_) (r:Nat) (pre:X_) (ty:j_):Nat->m_->m_->Prop
 |0,g,g'=>g=g'
 |n+1,g,g'=>g.status=.running/\∃g1 l,(l=[]\/l=[(⟨.cell (stA r pre),false,true⟩:Event)])/\(∀w,Bh r pre ty w 1 0->stepG P false g w=.go g1 w l.toArray)/\xJ P r pre ty n g1 g'
theorem xJ.status {P:l_} {r:Nat} {pre:X_} {ty:j_} {g':m_} (hs:g'.status=.running):∀{n:Nat} {g:m_},xJ P r pre ty n g g'->g.status=.running
 |0,_,h=>h ▸ hs
 |_+1,_,h=>h.1
structure QJ where
 gR:m_
 gR':m_
 gD:m_
 gD':m_
 gA:m_
 gF:m_
 gW:m_
 gS:m_
 gS':m_
 gP:m_
 gP':m_
 k1:Nat
 k2:Nat
 k3:Nat
 k4:Nat
 nF:Nat
 nP:Nat
structure NU (P:l_) (r:Nat) (pre:X_) (ty:j_) (o:QJ):Prop where
 runs:o.gR.status=.running/\o.gD.status=.running/\o.gA.status=.running/\o.gS.status=.running/\o.gP.status=.running
 rel:∀w,stepG P false o.gR w=.go o.gR' w #[Oy (stA r pre)]
 s1:J5 P (Dj r pre ty) false o.k1 o.gR' o.gD
 XG:∀w,stepG P false o.gD w=.go o.gD' w #[Ja]
 s2:J5 P (Dj r pre ty) false o.k2 o.gD' o.gA
 add0:∀w,w.cell? (stA r pre)=some (.int .u64 KK)->w.frozen? (stA r pre)=false->stepG P false o.gA w=.go o.gF (w.setCell (stA r pre) (.int .u64 0)) (JM (stA r pre))
 fin0:QuitsD P o.nF 1 o.gF
 add1:∀w,w.cell? (stA r pre)=some (.int .u64 (KK+1))->w.frozen? (stA r pre)=false->stepG P false o.gA w=.go o.gW (w.setCell (stA r pre) (.int .u64 1)) (JM (stA r pre))
 s3:xJ P r pre ty o.k3 o.gW o.gS
 sto:∀w,w.cell? (stA r pre)=some (.int .u64 1)->w.frozen? (stA r pre)=false->stepG P false o.gS w=.go o.gS' (w.setCell (stA r pre) (.int .u64 0)) #[⟨.cell (stA r pre),true,true⟩]
 s4:J5 P (Dj r pre ty) false o.k4 o.gS' o.gP
 sem:∀w,w.cell? (smA r pre)=some (.int .u32 0)->w.frozen? (smA r pre)=false->stepG P false o.gP w=.go o.gP' (w.setCell (smA r pre) (.int .u32 1)) (semEvents (smA r pre))
 fin1:QuitsD P o.nP 1 o.gP'
 wake:mayWake P o.gP=true/\o.gP'.status=.running
def KD (r:Nat) (pre:X_) (l:Loc):Prop:=l=.cell (stA r pre)\/l=.cell (smA r pre)
structure NI (c:Nat) (r:Nat) (pre:X_) (m:Nat) (t:Trace):Prop where
 at_:∃op,t[m]?=some op/\op.g=c/\op.act=.mark (.releaseMerge (stA r pre))
 heard:t.deaf c m=0
 after:∀i b,m<=i->touchAt t i=some b->t.g? i=some c->KD r pre b.loc/\b.kind=.atomic/\¬t.heard i
 norel:∀k,m<k->t.act? k≠some (.mark (.release (stA r pre)))
def JO (c r:Nat) (pre:X_) (t:Trace):Prop:=∀i a,touchAt t i=some a->KD r pre a.loc->a.kind=.plain->Knows t c i
section
variable {P:l_} {Z:Nat->Prop} {Ac Still:Loc->Prop} {r:Nat} {pre:X_} {ty:j_} {c m:Nat} {t u:Trace} {o:QJ}
theorem JO.app (h:JO c r pre t) (hu:∀op∈u,∀b,op.act.touch?=some b->KD r pre b.loc->b.kind≠.plain):JO c r pre (t++u):=by
 intro i a k f e;obtain⟨x,l,d⟩:=touch_of k;obtain⟨_,g⟩|⟨_,j⟩:=getElem?_append_cases l
 .exact(h i a (by rw[touchAt_of g];exact d) f e).app u
 .exact(hu x j a d f e).elim
theorem NI.app (h:NI c r pre m t) (hu:∀op∈u,op.act≠.mark (.release (stA r pre))) (ha:∀k op b,u[k]?=some op->op.g=c->op.act.touch?=some b->KD r pre b.loc/\b.kind=.atomic/\(t++u).deaf c (t.size+k)≠0):NI c r pre m (t++u):=by
 obtain⟨op,v,D,f⟩:=h.at_;have w:=lt_size_of_getElem? v;refine⟨⟨op,by rw[getElem?_append_old w];exact v,D,f⟩,by rw[deaf_old (Nat.le_of_lt w)];exact h.heard,λi b E C a=>?_,λk F e=>?_⟩
 .obtain⟨x,l,d⟩:=touch_of C;obtain⟨n,o⟩|⟨q,_⟩:=getElem?_append_cases l
  .rw[g?_old n]at a;have:=h.after i b E (by rw[touchAt_of o];exact d) a;exact⟨this.1,this.2.1,by rw[heard_old n];exact this.2.2⟩
  .have p:u[i-t.size]?=some x:=by
    rw[<-l,Array.getElem?_append_right q]
   have s:x.g=c:=(by rw[g?_of l]at a;exact x_ a);obtain⟨A,B,y⟩:=ha (i-t.size) x b p s d;refine⟨A,B,?_⟩;rintro⟨G,j,z⟩;rw[a]at j;obtain rfl:=x_ j;rw[show t.size+(i-t.size)=i from by omega]at y;exact y z
 .obtain⟨x,l,d⟩:=Option.map_eq_some_iff.1 (show((t++u)[k]?).map (·.act)=_ from e);obtain⟨n,o⟩|⟨_,p⟩:=getElem?_append_cases l
  .exact h.norel k F (by rw[act?_of o,d])
  .exact hu x p d
theorem NI.calm (h:NI c r pre m t) (hu:Meek Ac Still c u):NI c r pre m (t++u):=
 h.app (λop a=>(hu op a).2.2.1 _) λ_ op _ d b _=>((hu op (Array.mem_of_getElem? d)).1 b).elim
theorem JO.calm (h:JO c r pre t) (hW:∀l,KD r pre l->Ac l) (hu:Meek Ac Still c u):JO c r pre (t++u):=
 h.app λop a b d e=>((hu op a).2.1 b d).2 (hW _ e)
end
def Zv (P:l_) (c r:Nat) (pre:X_) (ty:j_) (o:QJ) (w0:Bool) (n:Nat) (g:m_) (w:o_) (t:Trace):Prop:=
 JO c r pre t/\
 ((∃k,n=k+(o.k1+o.k2+o.k3+o.k4+o.nF+o.nP+10)/\J5 P (Dj r pre ty) false k g o.gR/\Bh r pre ty w (if w0 then KK+1 else KK) 0/\Deaf t c=0)\/
  (∃m k,n=k+(o.k2+o.k3+o.k4+o.nF+o.nP+8)/\J5 P (Dj r pre ty) false k g o.gD/\Bh r pre ty w (if w0 then KK+1 else KK) 0/\Deaf t c=0/\NI c r pre m t)\/
  (∃m k,n=k+(o.k3+o.k4+o.nF+o.nP+6)/\J5 P (Dj r pre ty) false k g o.gA/\Bh r pre ty w (if w0 then KK+1 else KK) 0/\Deaf t c=1/\NI c r pre m t)\/
  (w0=false/\∃m,QuitsD P n (Deaf t c) g/\Bh r pre ty w 0 0/\NI c r pre m t)\/
  (w0=true/\∃m k,n=k+(o.k4+o.nP+4)/\xJ P r pre ty k g o.gS/\Bh r pre ty w 1 0/\Deaf t c=1/\NI c r pre m t)\/
  (w0=true/\∃m k,n=k+(o.nP+2)/\J5 P (Dj r pre ty) false k g o.gP/\Bh r pre ty w 0 0/\Deaf t c=1/\NI c r pre m t)\/
  (w0=true/\∃m,QuitsD P n (Deaf t c) g/\Bh r pre ty w 0 1/\NI c r pre m t))
section
variable {P:l_} {Z:Nat->Prop} {Ac Still:Loc->Prop} {Mem Ai:Nat->Prop} {r:Nat} {pre:X_} {ty:j_} {c B:Nat} {t:Trace} {o:QJ} {w0:Bool}
theorem DC (g:Nat) (fn:h_) (pos:String):t++MemOp.ofEvents g fn pos #[]=t:=by simp[MemOp.ofEvents]
theorem RZ (H:PX Ac Still Mem Ai B 0 t) (hM:¬Mem c) {fn:h_} {pos:String} {es:Array Event} (Fv:∀e∈es,(MemAct.ofEvent e).touch?=none/\(MemAct.ofEvent e).low B):PX Ac Still Mem Ai B 0 (t++MemOp.ofEvents c fn pos es):=
 H.appMute ofEvents_g (λop a=>by obtain⟨e,b,rfl⟩:=Go.Conc.mem_ofEvents a;exact(Fv e b).1) (λx=>(hM x).elim) (λop a=>by obtain⟨e,b,rfl⟩:=Go.Conc.mem_ofEvents a;exact(Fv e b).2)
theorem EU (H:JO c r pre t) {g:Nat} {fn:h_} {pos:String} {es:Array Event} (Fv:∀e∈es,∀b,(MemAct.ofEvent e).touch?=some b->b.kind≠.plain):JO c r pre (t++MemOp.ofEvents g fn pos es):=
 H.app λop a b d _=>by obtain⟨e,f,rfl⟩:=Go.Conc.mem_ofEvents a;exact Fv e f b d
theorem sZ (t:Trace) (g:Nat) (fn:h_) (pos:String):∀(l:List Event) (k:Nat),k<=l.length->(t++MemOp.ofEvents g fn pos l.toArray).deaf g (t.size+k)=deafBehind (Deaf t g) (l.take k).toArray:=by
 intro l k
 induction k with
 |zero=>intro _;simp only[Nat.add_zero,List.take_zero];rw[deaf_old (w_ _)];rfl
 |succ k c=>
  intro f
  have b:(t++MemOp.ofEvents g fn pos l.toArray)[t.size+k]?=some { g:=g,fn:=fn,pos:=pos,act:=.ofEvent l[k] }:=by
   rw[at_new,ofEvents_eq]
   simp[List.getElem?_eq_getElem (show k<l.length by omega)]
  rw[<-Nat.add_assoc,deaf_succ b,c (by omega),List.take_succ_eq_append_getElem (by omega)]
  simp only[deafBehind,List.foldl_toArray',List.foldl_append,List.foldl_cons,List.foldl_nil]
  generalize List.foldl _ (Deaf t g) (List.take k l)=x
  cases hl:l[k]with
  |mk a wr e=>
   cases a with
   |obj q=>cases wr<;>cases e<;>rfl
   |mark d=>cases d<;>simp[deafStep,MemAct.ofEvent]
   |_=>rfl
theorem Si (H:PX Ac Still Mem Ai B 0 t) (hW:∀l,KD r pre l->Ac l/\¬Still l) (hM:¬Mem c) (hN:JO c r pre t) {fn:h_} {pos:String} {l:List Event}
  (Fv:∀e∈l,(∀b,(MemAct.ofEvent e).touch?=some b->KD r pre b.loc/\b.kind=.atomic)/\(MemAct.ofEvent e).low B) (hd:∀k,k<l.length->deafBehind (Deaf t c) (l.take k).toArray≠0):PX Ac Still Mem Ai B 0 (t++MemOp.ofEvents c fn pos l.toArray):=by
 refine H.al6 (W:=KD r pre) hW hN hM ofEvents_g (λop a b g=>?_) (λk f=>?_) (λop a=>?_)
 .obtain⟨e,d,rfl⟩:=Go.Conc.mem_ofEvents a;exact(Fv e (by simpa using d)).1 b g
 .have:k<l.length:=by rw[ofEvents_eq]at f;simpa using f
  rw[sZ _ _ _ _ _ _ (by omega)];exact hd k this
 .obtain⟨e,d,rfl⟩:=Go.Conc.mem_ofEvents a;exact(Fv e (by simpa using d)).2
theorem Ol {m:Nat} (H:NI c r pre m t) {fn:h_} {pos:String} {l:List Event}
  (Fv:∀e∈l,(∀b,(MemAct.ofEvent e).touch?=some b->KD r pre b.loc/\b.kind=.atomic)/\MemAct.ofEvent e≠.mark (.release (stA r pre))) (hd:∀k,k<l.length->deafBehind (Deaf t c) (l.take k).toArray≠0):NI c r pre m (t++MemOp.ofEvents c fn pos l.toArray):=by
 refine H.app (λop g=>?_) (λk op b f _ i=>?_)
 .obtain⟨e,a,rfl⟩:=Go.Conc.mem_ofEvents g;exact(Fv e (by simpa using a)).2
 .have h:k<l.length:=by
   have:=(y_.1 f).1
   rw[ofEvents_eq]at this;simpa using this
  obtain⟨e,a,rfl⟩:=Go.Conc.mem_ofEvents (Array.mem_of_getElem? f);have d:=(Fv e (by simpa using a)).1 b i;exact⟨d.1,d.2,by rw[sZ _ _ _ _ _ _ (by omega)];exact hd k h⟩
theorem Qu {m:Nat} (H:NI c r pre m t) {fn:h_} {pos:String} {es:Array Event} (Fv:∀e∈es,(MemAct.ofEvent e).touch?=none/\MemAct.ofEvent e≠.mark (.release (stA r pre))):NI c r pre m (t++MemOp.ofEvents c fn pos es):=
 H.app (λop f=>by obtain⟨e,a,rfl⟩:=Go.Conc.mem_ofEvents f;exact(Fv e a).2) (λk op b g _ d=>by
  obtain⟨e,a,rfl⟩:=Go.Conc.mem_ofEvents (Array.mem_of_getElem? g)
  rw[(Fv e a).1]at d;cases d)
theorem Ux {es:Array Event} (h:∀e∈es,e.mute=true) (a:f_):∀e∈es,(MemAct.ofEvent e).touch?=none/\MemAct.ofEvent e≠.mark (.release a):=λe c=>by
 refine⟨touch_mute (h e c),?_⟩;have:=h e c;obtain⟨b,wr,f⟩:=e;cases b<;>simp[Event.mute]at this;rename_i d;cases d<;>simp[MemAct.ofEvent]at this ⊢
theorem ab9 (O:NU P r pre ty o) (hZ:Z r) (hW:∀l,KD r pre l->Ac l/\¬Still l) (hc:c≠0) (hM:¬Mem c):Gp P Z Ac Still (λB t=>PX Ac Still Mem Ai B 0 t) c (Zv P c r pre ty o w0) where
 status:=by
  rintro n g w t ⟨_,⟨k,rfl,f,_⟩|⟨m,k,rfl,f,_⟩|⟨m,k,rfl,f,_⟩|⟨_,m,K,_⟩|⟨_,m,k,rfl,f,_⟩|⟨_,m,k,rfl,f,_⟩|⟨_,m,K,_⟩⟩
  .exact .inl ⟨f.status O.runs.1,by omega⟩
  .exact .inl ⟨f.status O.runs.2.1,by omega⟩
  .exact .inl ⟨f.status O.runs.2.2.1,by omega⟩
  .cases n with
   |zero=>exact .inr (.inr K.1)
   |succ n=>exact K.status.elim (λx=>.inl ⟨x,by omega⟩) λx=>.inr (.inr x)
  .exact .inl ⟨f.status O.runs.2.2.2.1,by omega⟩
  .exact .inl ⟨f.status O.runs.2.2.2.2,by omega⟩
  .cases n with
   |zero=>exact .inr (.inr K.1)
   |succ n=>exact K.status.elim (λx=>.inl ⟨x,by omega⟩) λx=>.inr (.inr x)
 again:=by
  rintro n g w t ⟨_,⟨k,rfl,f,_⟩|⟨m,k,rfl,f,_⟩|⟨m,k,rfl,f,_⟩|⟨_,m,K,_⟩|⟨_,m,k,rfl,f,_⟩|⟨_,m,k,rfl,f,_⟩|⟨_,m,K,_⟩⟩ w' _
  .exact again_running _ (.inl (f.status O.runs.1))
  .exact again_running _ (.inl (f.status O.runs.2.1))
  .exact again_running _ (.inl (f.status O.runs.2.2.1))
  .exact again_running _ K.status
  .exact again_running _ (.inl (f.status O.runs.2.2.2.1))
  .exact again_running _ (.inl (f.status O.runs.2.2.2.2))
  .exact again_running _ K.status
 calm:=by
  intro n g w t w' u h J U
  have D:Deaf (t++u) c=Deaf t c:=Deaf_quiet λop AO d=>by
   have Cf:=(U op AO).1
   obtain⟨g,fn,pos,act⟩:=op
   simp only at Cf
   cases act with
   |mark mm=>cases mm<;>simp[deafStep,Cf]
   |_=>rfl
  obtain⟨E,h⟩:=h
  refine⟨E.calm (λl hl=>(hW l hl).1) U,?_⟩
  rw[D]
  obtain⟨k,z,A,Q,S⟩|⟨m,k,z,A,Q,S,V⟩|⟨m,k,z,A,Q,S,V⟩|⟨G,m,z,A,Q⟩|⟨G,m,k,z,A,Q,S,V⟩|⟨G,m,k,z,A,Q,S,V⟩|⟨G,m,z,A,Q⟩:=h
  .exact .inl ⟨k,z,A,Q.keep hZ J,S⟩
  .exact .inr (.inl ⟨m,k,z,A,Q.keep hZ J,S,V.calm U⟩)
  .exact .inr (.inr (.inl ⟨m,k,z,A,Q.keep hZ J,S,V.calm U⟩))
  .exact .inr (.inr (.inr (.inl ⟨G,m,z,A.keep hZ J,Q.calm U⟩)))
  .exact .inr (.inr (.inr (.inr (.inl ⟨G,m,k,z,A,Q.keep hZ J,S,V.calm U⟩))))
  .exact .inr (.inr (.inr (.inr (.inr (.inl ⟨G,m,k,z,A,Q.keep hZ J,S,V.calm U⟩)))))
  .exact .inr (.inr (.inr (.inr (.inr (.inr ⟨G,m,z,A.keep hZ J,Q.calm U⟩)))))
 step:=by
  intro n g w t B h T N R d
  have hc0:(c==0)=false:=by simpa using hc
  rw[hc0]
  refine .inl ?_
  obtain⟨E,h⟩:=h
  have M:I5 Z w (w.at d):=λ_ _=>rfl
  have C:∀{k:Nat} {X:m_},J5 P (Dj r pre ty) false (k+1) g X->Dj r pre ty (w.at d)->∃L,stepG P false g (w.at d)=.go L (w.at d) #[]/\J5 P (Dj r pre ty) false k L X:=λf hJ=>by
   obtain⟨_,L,z,A⟩:=f
   exact⟨L,z _ hJ,A⟩
  obtain⟨k,rfl,f,s,D⟩|⟨m,k,rfl,f,s,D,I⟩|⟨m,k,rfl,f,s,D,I⟩|⟨G,m,K,s,I⟩|⟨G,m,k,rfl,f,s,D,I⟩|⟨G,m,k,rfl,f,s,D,I⟩|⟨G,m,K,s,I⟩:=h
  .cases k with
   |succ k=>
    obtain⟨L,z,A⟩:=C f (s.is d)
    exact⟨k+(o.k1+o.k2+o.k3+o.k4+o.nF+o.nP+10),L,w.at d,#[],by omega,z,BZ.at w d,⟨B,w_ _,R,by rw[DC];exact N⟩,by rw[DC];exact⟨E,.inl ⟨k,rfl,A,s.keep hZ M,D⟩⟩⟩
   |zero=>
    obtain rfl:g=o.gR:=f
    have q:r<B:=by have:=s.lt;omega
    have hn:∀e∈#[Oy (stA r pre)],(MemAct.ofEvent e).touch?=none/\(MemAct.ofEvent e).low B:=by
     intro e a
     simp at a;subst a
     exact⟨rfl,q⟩
    refine⟨o.k1+(o.k2+o.k3+o.k4+o.nF+o.nP+8),o.gR',w.at d,_,by omega,O.rel _,BZ.at w d,⟨B,w_ _,R,RZ N hM hn⟩,EU E (λe a b j=>by rw[(hn e a).1]at j;cases j),.inr (.inl ⟨t.size,o.k1,rfl,O.s1,s.keep hZ M,?_,?_⟩)⟩
    .rw[Deaf_own,D];rfl
    .have e0:(t++MemOp.ofEvents c o.gR.frame.fn o.gR.frame.place #[Oy (stA r pre)])[t.size]?=some { g:=c,fn:=o.gR.frame.fn,pos:=o.gR.frame.place,act:=.mark (.releaseMerge (stA r pre)) }:=by
      have:=at_new t (MemOp.ofEvents c o.gR.frame.fn o.gR.frame.place #[Oy (stA r pre)]) 0
      rw[Nat.add_zero]at this
      rw[this,ofEvents_eq];simp[Oy,MemAct.ofEvent]
     have Cj:(t++MemOp.ofEvents c o.gR.frame.fn o.gR.frame.place #[Oy (stA r pre)]).size=t.size+1:=(by rw[Array.size_append,ofEvents_eq];simp);refine⟨⟨_,e0,rfl,rfl⟩,by rw[deaf_old (w_ _)];exact D,λi b hi j _=>?_,λk J e=>?_⟩
     .obtain⟨x,hx,EP⟩:=touch_of j;have:=lt_size_of_getElem? hx;obtain rfl:i=t.size:=(by omega);rw[e0]at hx;rw[<-x_ hx]at EP;cases EP
     .obtain⟨x,hx,_⟩:=Option.map_eq_some_iff.1 (show((t++MemOp.ofEvents c o.gR.frame.fn o.gR.frame.place #[Oy (stA r pre)])[k]?).map (·.act)=_ from e);have:=lt_size_of_getElem? hx;omega
  .cases k with
   |succ k=>
    obtain⟨L,z,A⟩:=C f (s.is d)
    exact⟨k+(o.k2+o.k3+o.k4+o.nF+o.nP+8),L,w.at d,#[],by omega,z,BZ.at w d,⟨B,w_ _,R,by rw[DC];exact N⟩,by rw[DC];exact⟨E,.inr (.inl ⟨m,k,rfl,A,s.keep hZ M,D,I⟩)⟩⟩
   |zero=>
    obtain rfl:g=o.gD:=f
    have hn:∀e∈#[Ja],(MemAct.ofEvent e).touch?=none/\(MemAct.ofEvent e).low B:=by
     intro e a
     simp at a;subst a
     exact⟨rfl,trivial⟩
    have hn2:∀e∈#[Ja],(MemAct.ofEvent e).touch?=none/\MemAct.ofEvent e≠.mark (.release (stA r pre)):=by
     intro e a
     simp at a;subst a
     exact⟨rfl,by simp[Ja,MemAct.ofEvent]⟩
    refine⟨o.k2+(o.k3+o.k4+o.nF+o.nP+6),o.gD',w.at d,_,by omega,O.XG _,BZ.at w d,⟨B,w_ _,R,RZ N hM hn⟩,EU E (λe a b j=>by rw[(hn e a).1]at j;cases j),.inr (.inr (.inl ⟨m,o.k2,rfl,O.s2,s.keep hZ M,?_,Qu I hn2⟩))⟩
    rw[Deaf_own,D];rfl
  .cases k with
   |succ k=>
    obtain⟨L,z,A⟩:=C f (s.is d)
    exact⟨k+(o.k3+o.k4+o.nF+o.nP+6),L,w.at d,#[],by omega,z,BZ.at w d,⟨B,w_ _,R,by rw[DC];exact N⟩,by rw[DC];exact⟨E,.inr (.inr (.inl ⟨m,k,rfl,A,s.keep hZ M,D,I⟩))⟩⟩
   |zero=>
    obtain rfl:g=o.gA:=f
    have p:=s.keep hZ M
    have q:r<B:=by have:=s.lt;omega
    have H:∀e∈[(⟨.cell (stA r pre),false,true⟩:Event),⟨.cell (stA r pre),true,true⟩],(∀b,(MemAct.ofEvent e).touch?=some b->KD r pre b.loc/\b.kind=.atomic)/\(MemAct.ofEvent e).low B:=by
     intro e a
     simp at a
     obtain rfl|rfl:=a<;>exact⟨λb j=>by obtain rfl:=x_ j;exact⟨.inl rfl,rfl⟩,q⟩
    have y:∀e∈[(⟨.cell (stA r pre),false,true⟩:Event),⟨.cell (stA r pre),true,true⟩],(∀b,(MemAct.ofEvent e).touch?=some b->KD r pre b.loc/\b.kind=.atomic)/\MemAct.ofEvent e≠.mark (.release (stA r pre)):=by
     intro e a
     refine⟨(H e a).1,?_⟩
     simp at a
     obtain rfl|rfl:=a<;>simp[MemAct.ofEvent]
    have v:∀k,k < [(⟨.cell (stA r pre),false,true⟩:Event),⟨.cell (stA r pre),true,true⟩].length->deafBehind (Deaf t c) ([(⟨.cell (stA r pre),false,true⟩:Event),⟨.cell (stA r pre),true,true⟩].take k).toArray≠0:=by
     intro k J
     rw[D]
     simp only[List.length_cons,List.length_nil]at J
     obtain _|_|k:=k
     .simp[deafBehind]
     .simp[deafBehind]
     .omega
    have jh:∀e∈JM (stA r pre),∀b,(MemAct.ofEvent e).touch?=some b->b.kind≠.plain:=λe a b j=>by
     have:=((H e (by simpa [JM]using a)).1 b j).2
     rw[this];simp
    have zF:Deaf (t++MemOp.ofEvents c o.gA.frame.fn o.gA.frame.place (JM (stA r pre))) c=1:=(by rw[Deaf_own,D];rfl);cases w0 with
    |false=>
     simp only[Bool.false_eq_true,if_false]at s p
     refine⟨o.nF,o.gF,(w.at d).setCell (stA r pre) (.int .u64 0),JM (stA r pre),by omega,O.add0 _ p.cellSt p.Pz,Oh hZ _ d,⟨B,w_ _,by rw[G7];exact R,Si (l:=[_,_]) N hW hM E H v⟩,EU E jh,.inr (.inr (.inr (.inl ⟨rfl,m,?_,p.setSt 0,Ol (l:=[_,_]) I y v⟩)))⟩
     rw[zF];exact O.fin0
    |true=>
     simp only[if_true]at s p
     refine⟨o.k3+(o.k4+o.nP+4),o.gW,(w.at d).setCell (stA r pre) (.int .u64 1),JM (stA r pre),by omega,O.add1 _ p.cellSt p.Pz,Oh hZ _ d,⟨B,w_ _,by rw[G7];exact R,Si (l:=[_,_]) N hW hM E H v⟩,EU E jh,.inr (.inr (.inr (.inr (.inl ⟨rfl,m,o.k3,rfl,O.s3,p.setSt 1,zF,Ol (l:=[_,_]) I y v⟩))))⟩
  .cases n with
   |zero=>rw[K.1]at T;cases T
   |succ n=>
    obtain⟨hf,_⟩|⟨_,X,es,F,BI,W⟩:=K
    .rw[hf]at T;cases T
    .refine⟨n,X,w.at d,es,by omega,BI _,BZ.at w d,⟨B,w_ _,R,RZ N hM (λe a=>⟨touch_mute (F e a),low_mute (F e a) B⟩)⟩,EU E (λe a b j=>by rw[touch_mute (F e a)]at j;cases j),.inr (.inr (.inr (.inl ⟨G,m,?_,s.keep hZ M,Qu I (Ux F _)⟩)))⟩;rw[Deaf_own];exact W
  .cases k with
   |succ k=>
    obtain⟨_,L,l,hl,z,A⟩:=f
    have q:r<B:=by have:=s.lt;omega
    have Y:∀e∈l,e=(⟨.cell (stA r pre),false,true⟩:Event):=by
     intro e a
     obtain rfl|rfl:=hl
     .cases a
     .simpa using a
    have H:∀e∈l,(∀b,(MemAct.ofEvent e).touch?=some b->KD r pre b.loc/\b.kind=.atomic)/\(MemAct.ofEvent e).low B:=by
     intro e a
     obtain rfl:=Y e a
     exact⟨λb j=>by obtain rfl:=x_ j;exact⟨.inl rfl,rfl⟩,q⟩
    have y:∀e∈l,(∀b,(MemAct.ofEvent e).touch?=some b->KD r pre b.loc/\b.kind=.atomic)/\MemAct.ofEvent e≠.mark (.release (stA r pre)):=by
     intro e a
     refine⟨(H e a).1,?_⟩
     obtain rfl:=Y e a
     simp[MemAct.ofEvent]
    have v:∀k,k<l.length->deafBehind (Deaf t c) (l.take k).toArray≠0:=by
     intro k J
     have:l.length<=1:=by obtain rfl|rfl:=hl<;>simp
     obtain rfl:k=0:=by omega
     rw[D];simp[deafBehind]
    refine⟨k+(o.k4+o.nP+4),L,w.at d,l.toArray,by omega,z _ (s.keep hZ M),BZ.at w d,⟨B,w_ _,R,Si N hW hM E H v⟩,EU E (λe a b j=>by
      have:=((H e (by simpa using a)).1 b j).2
      rw[this];simp),.inr (.inr (.inr (.inr (.inl ⟨G,m,k,rfl,A,s.keep hZ M,?_,Ol I y v⟩))))⟩;rw[Deaf_own,D];obtain rfl|rfl:=hl<;>rfl
   |zero=>
    obtain rfl:g=o.gS:=f
    have p:=s.keep hZ M
    have q:r<B:=by have:=s.lt;omega
    have H:∀e∈[(⟨.cell (stA r pre),true,true⟩:Event)],(∀b,(MemAct.ofEvent e).touch?=some b->KD r pre b.loc/\b.kind=.atomic)/\(MemAct.ofEvent e).low B:=by
     intro e a
     simp at a
     subst a
     exact⟨λb j=>by obtain rfl:=x_ j;exact⟨.inl rfl,rfl⟩,q⟩
    have y:∀e∈[(⟨.cell (stA r pre),true,true⟩:Event)],(∀b,(MemAct.ofEvent e).touch?=some b->KD r pre b.loc/\b.kind=.atomic)/\MemAct.ofEvent e≠.mark (.release (stA r pre)):=by
     intro e a
     refine⟨(H e a).1,?_⟩
     simp at a
     subst a
     simp[MemAct.ofEvent]
    have v:∀k,k < [(⟨.cell (stA r pre),true,true⟩:Event)].length->deafBehind (Deaf t c) ([(⟨.cell (stA r pre),true,true⟩:Event)].take k).toArray≠0:=by
     intro k J
     rw[D]
     simp only[List.length_cons,List.length_nil]at J
     obtain _|k:=k
     .simp[deafBehind]
     .omega
    refine⟨o.k4+(o.nP+2),o.gS',(w.at d).setCell (stA r pre) (.int .u64 0),#[⟨.cell (stA r pre),true,true⟩],by omega,O.sto _ p.cellSt p.Pz,Oh hZ _ d,⟨B,w_ _,by rw[G7];exact R,Si (l:=[_]) N hW hM E H v⟩,EU E (λe a b j=>by
      have:=((H e (by simpa using a)).1 b j).2
      rw[this];simp),.inr (.inr (.inr (.inr (.inr (.inl ⟨G,m,o.k4,rfl,O.s4,p.setSt 0,?_,Ol (l:=[_]) I y v⟩)))))⟩;rw[Deaf_own,D];rfl
  .cases k with
   |succ k=>
    obtain⟨L,z,A⟩:=C f (s.is d)
    exact⟨k+(o.nP+2),L,w.at d,#[],by omega,z,BZ.at w d,⟨B,w_ _,R,by rw[DC];exact N⟩,by rw[DC];exact⟨E,.inr (.inr (.inr (.inr (.inr (.inl ⟨G,m,k,rfl,A,s.keep hZ M,D,I⟩)))))⟩⟩
   |zero=>
    obtain rfl:g=o.gP:=f
    have p:=s.keep hZ M
    have q:r<B:=by have:=s.lt;omega
    have H:∀e∈[(⟨.mark .disable,false,true⟩:Event),⟨.cell (smA r pre),false,true⟩,⟨.cell (smA r pre),true,true⟩,⟨.mark .enable,false,true⟩],(∀b,(MemAct.ofEvent e).touch?=some b->KD r pre b.loc/\b.kind=.atomic)/\(MemAct.ofEvent e).low B:=by
     intro e a
     simp at a
     obtain rfl|rfl|rfl|rfl:=a
     .exact⟨λb j=>(by cases j),trivial⟩
     .exact⟨λb j=>by obtain rfl:=x_ j;exact⟨.inr rfl,rfl⟩,q⟩
     .exact⟨λb j=>by obtain rfl:=x_ j;exact⟨.inr rfl,rfl⟩,q⟩
     .exact⟨λb j=>(by cases j),trivial⟩
    have y:∀e∈[(⟨.mark .disable,false,true⟩:Event),⟨.cell (smA r pre),false,true⟩,⟨.cell (smA r pre),true,true⟩,⟨.mark .enable,false,true⟩],(∀b,(MemAct.ofEvent e).touch?=some b->KD r pre b.loc/\b.kind=.atomic)/\MemAct.ofEvent e≠.mark (.release (stA r pre)):=by
     intro e a
     refine⟨(H e a).1,?_⟩
     simp at a
     obtain rfl|rfl|rfl|rfl:=a<;>simp[MemAct.ofEvent]
    have v:∀k,k < [(⟨.mark .disable,false,true⟩:Event),⟨.cell (smA r pre),false,true⟩,⟨.cell (smA r pre),true,true⟩,⟨.mark .enable,false,true⟩].length->deafBehind (Deaf t c) ([(⟨.mark .disable,false,true⟩:Event),⟨.cell (smA r pre),false,true⟩,⟨.cell (smA r pre),true,true⟩,⟨.mark .enable,false,true⟩].take k).toArray≠0:=by
     intro k J
     rw[D]
     simp only[List.length_cons,List.length_nil]at J
     obtain _|_|_|_|k:=k
     .simp[deafBehind]
     .simp[deafBehind]
     .simp[deafBehind]
     .simp[deafBehind]
     .omega
    refine⟨o.nP,o.gP',(w.at d).setCell (smA r pre) (.int .u32 1),semEvents (smA r pre),by omega,O.sem _ p.cellSm p.kC,Oh hZ _ d,⟨B,w_ _,by rw[G7];exact R,Si (l:=[_,_,_,_]) N hW hM E H v⟩,EU E (λe a b j=>by
      have:=((H e (by simpa [semEvents]using a)).1 b j).2
      rw[this];simp),.inr (.inr (.inr (.inr (.inr (.inr ⟨G,m,?_,p.setSm 1,Ol (l:=[_,_,_,_]) I y v⟩)))))⟩;rw[Deaf_own,D];exact O.fin1
  .cases n with
   |zero=>rw[K.1]at T;cases T
   |succ n=>
    obtain⟨hf,_⟩|⟨_,X,es,F,BI,W⟩:=K
    .rw[hf]at T;cases T
    .refine⟨n,X,w.at d,es,by omega,BI _,BZ.at w d,⟨B,w_ _,R,RZ N hM (λe a=>⟨touch_mute (F e a),low_mute (F e a) B⟩)⟩,EU E (λe a b j=>by rw[touch_mute (F e a)]at j;cases j),.inr (.inr (.inr (.inr (.inr (.inr ⟨G,m,?_,s.keep hZ M,Qu I (Ux F _)⟩)))))⟩;rw[Deaf_own];exact W
end
section
variable {Ac Still:Loc->Prop} {Mem Ai:Nat->Prop} {B h:Nat} {t u:Trace}
def Q9 (Still:Loc->Prop) (c:Nat) (t:Trace):Prop:=∀i a,touchAt t i=some a->a.write=true->Still a.loc->Knows t c i
theorem Q9.app {c:Nat} (H:Q9 Still c t) (hu:∀op∈u,∀b,op.act.touch?=some b->Still b.loc->b.write=false):Q9 Still c (t++u):=by
 intro i a j d f;obtain⟨x,k,e⟩:=touch_of j;obtain⟨_,g⟩|⟨_,h⟩:=getElem?_append_cases k
 .exact(H i a (by rw[touchAt_of g];exact e) d f).app u
 .rw[hu x h a e f]at d;cases d
theorem PX.fG {g:Nat} (H:PX Ac Still Mem Ai B h t) (hg:Q9 Still g t) (hM:¬Mem g) (hL:Ai g) (hu:∀op∈u,op.g=g) (hr:∀op∈u,∀b,op.act.touch?=some b->b.write=false/\Still b.loc)
  (hl:∀op∈u,op.act.low B):PX Ac Still Mem Ai B h (t++u):=by
 refine⟨λsaid=>noRace_append (H.clean said) hu λi a e op p b s o=>?_,λi a e v=>?_,λi a e n r q m=>?_,H.Og hu (λx=>(hM x).elim),seen_app H.seen hl⟩
 .obtain⟨k,l⟩:=hr op p b s;obtain x|x:=o.2.2.1
  .exact hg i a e x (o.1 ▸ l)
  .rw[k]at x;cases x
 .obtain⟨x,f,c⟩:=touch_of e;obtain⟨_,j⟩|⟨_,d⟩:=getElem?_append_cases f
  .exact H.old j c v
  .exact .inr (.inl ⟨.inl (hr x d a c).1,(hr x d a c).2,g,by rw[g?_of f,hu x d],hL⟩)
 .obtain⟨x,f,c⟩:=touch_of e;obtain⟨_,j⟩|⟨_,d⟩:=getElem?_append_cases f
  .exact(H.wrote i a (by rw[touchAt_of j];exact c) n r q m).app u
  .rw[(hr x d a c).1]at n;cases n
end
def zS (w:o_) (cC:Array CommCase) (kq cq:Nat) (zq:n_):Prop:=
 cC[kq]?=some (rcase cq zq)/\(∃k,w.heap[cq]?=some (.chan 0 #[] true k k false))/\∀(m:Nat) cc,m≠kq->cC[m]?=some cc->FY w cc
def Ce (P:l_) (c r:Nat) (pre:X_) (ty:j_) (o:QJ) (Ph:Bool->Nat->m_->o_->Trace->Prop) (X:o_->Prop) (w0:Bool) (n:Nat) (g:m_) (w:o_) (t:Trace):Prop:=
 Ph w0 n g w t\/(Zv P c r pre ty o w0 n g w t/\X w)
def Uk (Z:Nat->Prop) (r:Nat) (X:o_->Prop):Prop:=∀w w':o_,X w->(∀x,x≠r->Z x->w'.heap[x]?=w.heap[x]?)->X w'
structure LQ (P:l_) (Z:Nat->Prop) (Ac Still:Loc->Prop) (Ai:Nat->Prop) (c r:Nat) (pre:X_) (ty:j_) (o:QJ) (Ph:Bool->Nat->m_->o_->Trace->Prop) (X:o_->Prop):Prop where
 status:∀{w0 n g w t},Ph w0 n g w t->g.status=.running/\0<n
 run:∀{w0 n g w t},Ph w0 n g w t->Bh r pre ty w (if w0 then KK+1 else KK) 0
 calm:∀{w0 n g w t} (w':o_) (u:Trace),Ph w0 n g w t->I5 Z w w'->Meek Ac Still c u->Ph w0 n g w' (t++u)
 mark:∀{w0 n g w t} {es:Array Event} {fn:h_} {pos:String} (d:Nat),(∀e∈es,(MemAct.ofEvent e).touch?=none/\∀a,MemAct.ofEvent e≠.mark (.release a))->Ph w0 n g w t->Ph w0 n g (w.at d) (t++MemOp.ofEvents 0 fn pos es)
 up:∀{n g w t} {fn:h_} {pos:String} (d:Nat),Bh r pre ty w KK 0->Ph false n g w t->Ph true n g ((w.at d).setCell (stA r pre) (.int .u64 (KK+1))) (t++MemOp.ofEvents 0 fn pos (JM (stA r pre)))
 step:∀{Mem:Nat->Prop} {w0 n g w t B},¬Mem c->Ph w0 n g w t->PX Ac Still Mem Ai B 0 t->w.heap.size<=B->∀d,
  (∃n' g' w' es,n'<n/\stepG P false g (w.at d)=.go g' w' es/\BZ Z w w'/\bb9 (λB t=>PX Ac Still Mem Ai B 0 t) B w' (t++MemOp.ofEvents c g.frame.fn g.frame.place es)/\Ce P c r pre ty o Ph X w0 n' g' w' (t++MemOp.ofEvents c g.frame.fn g.frame.place es))\/
  (∃n' g₂ cases shape es k cq z cap s r' tm,n'<n/\stepG P false g (w.at d)=.comm g₂ cases true shape (w.at d) es/\cases[k]?=some (rcase cq z)/\w.heap[cq]?=some (.chan cap #[] true s r' tm)/\(∀(m:Nat) cc,m≠k->cases[m]?=some cc->FY w cc)/\
   PX Ac Still Mem Ai B 0 (t++(MemOp.ofEvents c g.frame.fn g.frame.place es++#[{ g:=c,fn:=g₂.frame.fn,pos:=g₂.frame.place,act:=.recvClosed cq }]))/\
   Ce P c r pre ty o Ph X w0 n' (Conc.served g₂ (commResult cases shape k z false)) (w.at d) (t++(MemOp.ofEvents c g.frame.fn g.frame.place es++#[{ g:=c,fn:=g₂.frame.fn,pos:=g₂.frame.place,act:=.recvClosed cq }])))
 low:∀{w0 n g w t d g' w' es st'},Ph w0 n g w t->stepG P false g (w.at d)=.go g' w' es->Bh r pre ty w' st' 1->False
 keep:Uk Z r X
def lL (P:l_) (c r:Nat) (pre:X_) (ty:j_) (o:QJ) (K:o_->Prop) (Still:Loc->Prop) (cC:Array CommCase) (home:m_->Prop) (kq cq:Nat) (zq:n_) (kR:Nat) (w0:Bool) (n:Nat) (g:m_) (w:o_) (t:Trace):Prop:=
 ∃k,n=k+1+(kR+(o.k1+o.k2+o.k3+o.k4+o.nF+o.nP+10))/\JO c r pre t/\K w/\zS w cC kq cq zq/\Bh r pre ty w (if w0 then KK+1 else KK) 0/\Deaf t c=0/\Q9 Still c t/\g.status=.running/\Gs P false K Still cC .select home k g
section
variable {P:l_} {Z:Nat->Prop} {Ac Still:Loc->Prop} {Mem Ai:Nat->Prop} {r:Nat} {pre:X_} {ty:j_} {c B:Nat} {t:Trace} {o:QJ} {w0:Bool} {K:o_->Prop} {cC:Array CommCase} {home:m_->Prop} {kq cq kR:Nat} {zq:n_} {Ph:Bool->Nat->m_->o_->Trace->Prop} {X:o_->Prop}
theorem Qq (O:NU P r pre ty o) (hZ:Z r) (hW:∀l,KD r pre l->Ac l/\¬Still l) (hc:c≠0) (hM:¬Mem c) (hX:Uk Z r X):
  Gp P Z Ac Still (λB t=>PX Ac Still Mem Ai B 0 t) c (λn g w t=>Zv P c r pre ty o w0 n g w t/\X w):=by
 have A:=ab9 (Z:=λx=>x=r) (Ac:=Ac) (Still:=Still) (Mem:=Mem) (Ai:=Ai) (ty:=ty) (w0:=w0) O rfl hW hc hM;have q:∀{w f:o_},I5 Z w f->I5 (λx=>x=r) w f:=λi x v=>by subst v;exact i _ hZ
 refine⟨λh=>A.status h.1,λh f i=>A.again h.1 f (q i),λf u h i M=>⟨A.calm f u h.1 (q i) M,hX _ _ h.2 λx _ N=>i x N⟩,?_⟩;rintro n g w t B ⟨h,D⟩ F G L d;obtain⟨y,K,f,p,a1,a2,b,j,m⟩|⟨y,a,C,E,p,a1,a2,b,j,m⟩|⟨y,a,C,E,p,k,J,z,cap,s,Q,R,a1,a2,b,j,m,H,I⟩:=A.step h F G L d
 .exact .inl ⟨y,K,f,p,a1,a2,⟨b.size,λx v=>b.same x (λe=>v (by rw[e];exact hZ)),b.os,b.output,b.tape⟩,j,m,hX _ _ D λx v _=>b.same x v⟩
 .exact .inr (.inl ⟨y,a,C,E,p,a1,a2,b,j,m,hX _ _ D λ_ _ _=>rfl⟩)
 .exact .inr (.inr ⟨y,a,C,E,p,k,J,z,cap,s,Q,R,a1,a2,b,j,m,H,I,hX _ _ D λ_ _ _=>rfl⟩)
theorem Oj (H:LQ P Z Ac Still Ai c r pre ty o Ph X) (O:NU P r pre ty o) (hZ:Z r) (hW:∀l,KD r pre l->Ac l/\¬Still l) (hc:c≠0) (hM:¬Mem c):
  Gp P Z Ac Still (λB t=>PX Ac Still Mem Ai B 0 t) c (Ce P c r pre ty o Ph X w0) where
 status:=by
  rintro n g w t (h|h)
  .exact .inl (H.status h)
  .exact(Qq (Z:=Z) (Ac:=Ac) (Still:=Still) (Mem:=Mem) (Ai:=Ai) O hZ hW hc hM H.keep).status h
 again:=by
  rintro n g w t (h|h) b p
  .exact again_running _ (.inl (H.status h).1)
  .exact(Qq (Z:=Z) (Ac:=Ac) (Still:=Still) (Mem:=Mem) (Ai:=Ai) O hZ hW hc hM H.keep).again h b p
 calm:=by
  rintro n g w t b u (h|h) p C
  .exact .inl (H.calm b u h p C)
  .exact .inr ((Qq (Z:=Z) (Ac:=Ac) (Still:=Still) (Mem:=Mem) (Ai:=Ai) O hZ hW hc hM H.keep).calm b u h p C)
 step:=by
  rintro n g w t B (h|h) D y A d
  .have v:(c==0)=false:=(by simpa using hc);rw[v];exact(H.step hM h y A d).imp id .inr
  .obtain⟨m,I,b,j,a1,a2,e,f,i⟩|⟨m,a,q,x,j,a1,a2,e,f,i⟩|⟨m,a,q,x,j,k,G,z,cap,s,J,K,a1,a2,e,f,i,E,F⟩:=(Qq (Z:=Z) (Ac:=Ac) (Still:=Still) (Mem:=Mem) (Ai:=Ai) O hZ hW hc hM H.keep).step h D y A d
   .exact .inl ⟨m,I,b,j,a1,a2,e,f,.inr i⟩
   .exact .inr (.inl ⟨m,a,q,x,j,a1,a2,e,f,.inr i⟩)
   .exact .inr (.inr ⟨m,a,q,x,j,k,G,z,cap,s,J,K,a1,a2,e,f,i,E,.inr F⟩)
theorem Y6 {u:Trace} (hu:Meek Ac Still c u):Deaf (t++u) c=Deaf t c:=Deaf_quiet λop e d=>by
 have b:=(hu op e).1;obtain⟨g,fn,pos,a⟩:=op;simp only at b;cases a with
 |mark f=>cases f<;>simp[deafStep,b]
 |_=>rfl
theorem fE {w:o_} {st sm:Int} {x:Nat} {ob:Obj} (hr:Bh r pre ty w st sm) (hx:w.heap[x]?=some ob) (hob:∀cells ty at_,ob≠.cells cells ty at_) (v:n_) (d:Nat):((w.at d).setCell (stA r pre) v).heap[x]?=some ob:=by
 have a:r≠x:=λe=>by subst e;unfold Bh at hr;rw[hr]at hx;exact hob _ _ _ (x_ hx).symm
 simp[World.setCell,World.at,stA,Array.getElem?_modify,a,hx]
theorem ac4 (L:QP Z Still K) (hzC:∀cc∈cC,∀c z,cc=rcase c z->Z c) (hZ:Z r) (hW:∀l,KD r pre l->Ac l/\¬Still l) (hc:c≠0) (hL:Ai c)
  (hR:∀g₂,home g₂->J5 P (Dj r pre ty) false kR (Conc.served g₂ (commResult cC .select kq zq false)) o.gR) (hKs:∀w (n:Int) d,K w->K ((w.at d).setCell (stA r pre) (.int .u64 n))):
  LQ P Z Ac Still Ai c r pre ty o (lL P c r pre ty o K Still cC home kq cq zq kR) (λ_=>True) where
 status:=by
  rintro U n g w t ⟨k,rfl,_,_,_,_,_,_,q,_⟩
  exact⟨q,by omega⟩
 run:=by
  rintro U n g w t ⟨k,_,_,_,_,h,_⟩
  exact h
 calm:=by
  rintro U n g w t w' u ⟨k,C,y,j,⟨F,⟨E,G⟩,O⟩,s,A,v,J,p⟩ X hu
  refine⟨k,C,y.calm (λl hl=>(hW l hl).1) hu,L.keep w w' X j,⟨F,⟨E,?_⟩,λm cc hm V=>?_⟩,s.keep hZ X,(Y6 hu).trans A,v.app λop a b f q=>(((hu op a).2.1 b f).1 q).1,J,p⟩
  .rw[X cq (hzC _ (Array.mem_of_getElem? F) _ _ rfl)];exact G
  .obtain⟨W,z',k'',e,hc'⟩:=O m cc hm V;exact⟨W,z',k'',e,by rw[X W (hzC _ (Array.mem_of_getElem? V) _ _ e)];exact hc'⟩
 mark:=by
  rintro U n g w t R fn pos d H ⟨k,C,y,j,h4,s,A,v,J,p⟩
  have Q:I5 Z w (w.at d):=λ_ _=>rfl
  refine⟨k,C,y.app λop a b f _=>?_,L.keep w _ Q j,h4,s.keep hZ Q,by rw[Deaf_other t (g':=0) (Ne.symm hc) _ ofEvents_g];exact A,v.app λop a b f=>?_,J,p⟩
  .obtain⟨e,M,rfl⟩:=Go.Conc.mem_ofEvents a;rw[(H e M).1]at f;cases f
  .obtain⟨e,M,rfl⟩:=Go.Conc.mem_ofEvents a;rw[(H e M).1]at f;cases f
 up:=by
  rintro n g w t fn pos d D ⟨k,C,y,j,⟨F,⟨E,G⟩,O⟩,s,A,v,J,p⟩
  have FW:∀op∈MemOp.ofEvents 0 fn pos (JM (stA r pre)),op.act.touch?=some ⟨.cell (stA r pre),false,.atomic⟩\/op.act.touch?=some ⟨.cell (stA r pre),true,.atomic⟩:=by
   intro op a
   obtain⟨e,M,rfl⟩:=Go.Conc.mem_ofEvents a
   simp only[JM,List.mem_toArray,r_,List.not_mem_nil,or_false]at M
   obtain rfl|rfl:=M
   .exact .inl rfl
   .exact .inr rfl
  refine⟨k,C,y.app λop a b f _=>?_,hKs _ _ _ j,⟨F,⟨E,fE D G (by simp) _ d⟩,λm cc hm V=>?_⟩,Bh.setSt (w:=w.at d) D _,by rw[Deaf_other t (g':=0) (Ne.symm hc) _ ofEvents_g];exact A,v.app λop a b f q=>?_,J,p⟩
  .obtain e|e:=FW op a<;>(rw[e]at f;obtain rfl:=x_ f;simp)
  .obtain⟨W,z',k2,e,h⟩:=O m cc hm V;exact⟨W,z',k2,e,fE D h (by simp) _ d⟩
  .obtain e|e:=FW op a<;>(rw[e]at f;obtain rfl:=x_ f)
   .rfl
   .exact((hW _ (.inl rfl)).2 q).elim
 step:=by
  rintro Mem U n g w t B hM ⟨k,rfl,y,j,⟨F,⟨E,G⟩,O⟩,s,A,v,J,p⟩ IU hB d
  have I:K (w.at d):=L.keep w (w.at d) (λ_ _=>rfl) j
  cases k with
  |zero=>
   obtain⟨g₂,R,hh,hr,H,Y⟩:=p
   obtain⟨N,r2,r3⟩:=GY (B:=B) (i:=c) (fn:=g.frame.fn) (pos:=g.frame.place) L j hB H
   have XP:=IU.fG v hM hL ofEvents_g N r3
   have hcB:cq<B:=by have:=(y_.1 G).1;omega
   have S:∀op∈(#[{ g:=c,fn:=g₂.frame.fn,pos:=g₂.frame.place,act:=.recvClosed cq }]:Trace),op.g=c/\op.act.touch?=none/\op.act.low B/\(∀d,deafStep c d op=d):=by
    intro op a
    simp only[List.mem_toArray,r_,List.not_mem_nil,or_false]at a
    subst a
    exact⟨rfl,rfl,hcB,λ_=>rfl⟩
   refine .inr ⟨kR+(o.k1+o.k2+o.k3+o.k4+o.nF+o.nP+10),g₂,cC,.select,R,kq,cq,zq,0,E,E,false,by omega,Y _ I,F,G,O,?_,.inr ⟨⟨?_,.inl ⟨kR,rfl,hR g₂ hh,s.keep hZ (λ_ _=>rfl),?_⟩⟩,trivial⟩⟩
   .rw[<-Array.append_assoc];exact XP.appMute (λop a=>(S op a).1) (λop a=>(S op a).2.1) (λx=>(hM x).elim) (λop a=>(S op a).2.2.1)
   .rw[<-Array.append_assoc];refine(y.app λop a b f T=>?_).app λop a b f _=>by rw[(S op a).2.1]at f;cases f
    exact((hW _ T).2 (N op a b f).2).elim
   .rw[<-Array.append_assoc,Deaf_quiet (λop a d=>(S op a).2.2.2 d),r2 t];exact A
  |succ k=>
   obtain⟨g',R,hr,H,Y,hw'⟩:=p
   obtain⟨N,r2,r3⟩:=GY (B:=B) (i:=c) (fn:=g.frame.fn) (pos:=g.frame.place) L j hB H
   refine .inl ⟨k+1+(kR+(o.k1+o.k2+o.k3+o.k4+o.nF+o.nP+10)),g',w.at d,R,by omega,Y _ I,BZ.at w d,⟨B,w_ _,hB,IU.fG v hM hL ofEvents_g N r3⟩,.inl ⟨k,rfl,?_,I,⟨F,⟨E,G⟩,O⟩,s.keep hZ (λ_ _=>rfl),(r2 t).trans A,v.app λop a b f _=>(N op a b f).1,hr,hw'⟩⟩
   exact y.app λop a b f T=>((hW _ T).2 (N op a b f).2).elim
 low:=by
  rintro U n g w t d g' w' R st' ⟨k,_,_,j,_,s,_,_,_,p⟩ q C
  have Q:I5 Z w (w.at d):=λ_ _=>rfl
  have I:K (w.at d):=L.keep w (w.at d) Q j
  cases k with
  |zero=>obtain⟨g₂,Cm,_,_,_,Ip⟩:=p;rw[Ip _ I]at q;cases q
  |succ k=>
   obtain⟨g1,Cm,_,_,hgo,_⟩:=p
   rw[hgo _ I]at q
   injection q with _ T _
   subst T
   exact absurd ((s.keep hZ Q).eq C).2 (by decide)
 keep:=λ_ _ _ _=>trivial
def bc5 (_:Bool) (_:Nat) (_:m_) (_:o_) (_:Trace):Prop:=False
theorem an0:LQ P Z Ac Still Ai c r pre ty o bc5 (λ_=>True):=
 ⟨λh=>h.elim,λh=>h.elim,λ_ _ h=>h.elim,λ_ _ h=>h.elim,λ_ _ h=>h.elim,λ_ h=>h.elim,λh=>h.elim,λ_ _ _ _=>trivial⟩
theorem BZ.sub {Z':Nat->Prop} {w w':o_} (hs:∀x,Z x->Z' x) (h:BZ Z w w'):BZ Z' w w':=⟨h.size,λx a=>h.same x (λe=>a (hs x e)),h.os,h.output,h.tape⟩
theorem LQ.sub {Z':Nat->Prop} (H:LQ P Z Ac Still Ai c r pre ty o Ph X) (hs:∀x,Z x->Z' x):LQ P Z' Ac Still Ai c r pre ty o Ph X:=
 ⟨H.status,H.run,λa u h b p=>H.calm a u h (λx e=>b x (hs x e)) p,H.mark,H.up,λm h f l d=>(H.step m h f l d).imp (λ⟨s,k,a,j,a1,a2,g,i⟩=>⟨s,k,a,j,a1,a2,g.sub hs,i⟩) id,H.low,λw a e b=>H.keep w a e λx n q=>b x n (hs x q)⟩
theorem pz {Z':Nat->Prop} {X2:o_->Prop} (H:LQ P Z Ac Still Ai c r pre ty o Ph X) (O:NU P r pre ty o) (hZ:Z r) (hW:∀l,KD r pre l->Ac l/\¬Still l) (hc:c≠0) (hM:¬Mem c) (hs:∀x,Z x->Z' x) (hX2:∀w w':o_,X2 w->(∀x,¬Z x->Z' x->w'.heap[x]?=w.heap[x]?)->X2 w'):
  Gp P Z' Ac Still (λB t=>PX Ac Still Mem Ai B 0 t) c (λn g w t=>Ce P c r pre ty o Ph X w0 n g w t/\X2 w):=by
 have q:=Oj (Mem:=Mem) (w0:=w0) H O hZ hW hc hM;have m:∀{w w':o_},I5 Z' w w'->I5 Z w w':=λe x A=>e x (hs x A)
 refine⟨λh=>q.status h.1,λh w' e=>q.again h.1 w' (m e),λw' u h e L=>⟨q.calm w' u h.1 (m e) L,hX2 _ _ h.2 λx _ M=>e x M⟩,?_⟩;rintro n g w t B ⟨h,y⟩ D E K d;obtain⟨p,J,w',j,a1,a2,b,f,i⟩|⟨p,a,v,C,j,a1,a2,b,f,i⟩|⟨p,a,v,C,j,k,I,z,cap,s,N,Q,a1,a2,b,f,i,F,G⟩:=q.step h D E K d
 .exact .inl ⟨p,J,w',j,a1,a2,b.sub hs,f,i,hX2 _ _ y λx A _=>b.same x A⟩
 .exact .inr (.inl ⟨p,a,v,C,j,a1,a2,b,f,i,hX2 _ _ y λ_ _ _=>rfl⟩)
 .exact .inr (.inr ⟨p,a,v,C,j,k,I,z,cap,s,N,Q,a1,a2,b,f,i,F,G,hX2 _ _ y λ_ _ _=>rfl⟩)
def EJ (δ:Nat) (By:Nat->m_->o_->Trace->Prop) (n:Nat) (g:m_) (w:o_) (t:Trace):Prop:=By n g w t/\Deaf t 0=δ
theorem oZ {j:Nat} {u:Trace} (hu:Meek Ac Still j u):Deaf (t++u) 0=Deaf t 0:=Deaf_quiet λop c d=>by
 have b:=(hu op c).2.2.2;obtain⟨g,fn,pos,a⟩:=op;cases a with
 |mark e=>
  cases e with
  |disable=>have:=b (.inl rfl);simp only at this;simp[deafStep,this]
  |enable=>have:=b (.inr rfl);simp only at this;simp[deafStep,this]
  |_=>rfl
 |_=>rfl
theorem Sr {δ j:Nat} {Tr:Nat->Trace->Prop} {By:Nat->m_->o_->Trace->Prop} (hj:j≠0) (O:Gp P Z Ac Still Tr j By):Gp P Z Ac Still Tr j (EJ δ By) where
 status h:=O.status h.1
 again h:=O.again h.1
 calm q u h hk hu:=⟨O.calm q u h.1 hk hu,(oZ hu).trans h.2⟩
 step:=by
  rintro n g w t B ⟨h,o⟩ r v C d
  obtain⟨l,g',q,i,a1,a2,c,e,f⟩|⟨l,a,m,p,i,a1,a2,c,e,f⟩|⟨l,a,m,p,i,k,A,z,cap,s,D,E,a1,a2,c,e,f,x,y⟩:=O.step h r v C d
  .exact .inl ⟨l,g',q,i,a1,a2,c,e,f,by rw[Deaf_other t (g':=j) hj _ ofEvents_g];exact o⟩
  .exact .inr (.inl ⟨l,a,m,p,i,a1,a2,c,e,f,by rw[Deaf_other t (g':=j) hj _ ofEvents_g];exact o⟩)
  .refine .inr (.inr ⟨l,a,m,p,i,k,A,z,cap,s,D,E,a1,a2,c,e,f,x,y,?_⟩);rw[Deaf_other t (g':=j) hj _ (λop b=>by
    obtain b|b:=Array.mem_append.1 b
    .exact ofEvents_g op b
    .simp at b;subst b;rfl)]
   exact o
theorem ab8 {n:Nat} {g:m_} {w:o_} {t:Trace} (h:Zv P c r pre ty o w0 n g w t):Dj r pre ty w:=by
 obtain⟨_,⟨_,_,_,h,_⟩|⟨_,_,_,_,h,_⟩|⟨_,_,_,_,h,_⟩|⟨_,_,_,h,_⟩|⟨_,_,_,_,_,h,_⟩|⟨_,_,_,_,_,h,_⟩|⟨_,_,_,h,_⟩⟩:=h<;>exact⟨_,_,h⟩
theorem WI (H:LQ P Z Ac Still Ai c r pre ty o Ph X) {n:Nat} {g:m_} {w:o_} {t:Trace} (h:Ce P c r pre ty o Ph X w0 n g w t):Dj r pre ty w:=by
 obtain h|h:=h
 .exact⟨_,_,H.run h⟩
 .exact ab8 h.1
theorem GM {h j:Nat} {By:Nat->m_->o_->Trace->Prop} {J:o_->Prop} (hJ:∀n b w t,By n b w t->∀d,J (w.at d)) (O:Gp P Z Ac Still (fun B t=>PX Ac Still Mem Ai B h t) j By) {a':m_}:∀(k:Nat) {a:m_} (_:J5 P J (h==0) k a a') {n B:Nat} {gs:Array m_} {w:o_} {sl:d_ (W_)} {t:Trace} {q:Nat->Nat},
  gs[h]?=some a->Duo P Ac Still Mem Ai B h j By n gs w t q->AA P gs w sl t λA7 w' t'=>∃q' n' B',A7[h]?=some a'/\BZ Z w w'/\B<=B'/\Duo P Ac Still Mem Ai B' h j By n' A7 w' t' q'
 |0,a,i,n,B,gs,w,sl,t,q,e,D=>.now ⟨q,n,B,by rw[e,show a=a' from i],BZ.refl w,w_ _,D⟩
 |k+1,a,i,n,B,gs,w,sl,t,q,e,D=>by
  obtain⟨u,a1,s,x⟩:=i
  refine go_duo (Ko:=Mem) (Loose':=Ai) O e u D D.mem λr g w1 c H M Q z f A d=>⟨a1,w1.at d,#[],r,s _ (hJ _ _ _ _ f d),w_ _,c,by rw[DC];exact A,By,H,?_,λA7 q' n' N y v K=>?_⟩
  .rw[DC,woken_of_again (O.again f (w1.at d) (λ_ _=>rfl))];have:=O.calm (w1.at d) #[] f (λ_ _=>rfl) (λop p=>by simp at p);simpa using this
  .exact(GM hJ O k x y v).mono λo L I ⟨m,l,B'',C,E,F,G⟩=>⟨m,l,B'',C,z.trans ((BZ.at w1 d).trans E),Nat.le_trans g F,G⟩
end
end Go.Fxa
