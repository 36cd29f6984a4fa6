/- The child's way out: it releas -/
import Derived.Test.YtmhplpfpcnjekaaGreatA06
import Derived.Conc.AtomicLaws2
import Derived.Conc.MarkLaws
namespace Go.Fxa
open Go.Conc
open Go.ConcN (sumTo upd sumTo_upd upd_ne upd_same)
def KK:Int:=4294967296
def Lp (a:Addr):Event:=⟨.mark (.releaseMerge a),false,true⟩
def Nn (a:Addr):Event:=⟨.mark (.acquire a),false,true⟩
def GR:Event:=⟨.mark .disable,false,true⟩
def Jd:Event:=⟨.mark .enable,false,true⟩
def Ij (a:Addr):Array Event:=#[⟨.cell a,false,true⟩,⟨.cell a,true,true⟩]
def A7 (r:Nat) (pre:X_) (ty:TypeId) (w:World) (st sm:Int):Prop:=w.heap[r]?=some (.cells (pre++#[.int .u64 st,.int .u32 sm]) ty (0,0))
def stA (r:Nat) (pre:X_):Addr:=(T_ r pre.size)
def smA (r:Nat) (pre:X_):Addr:=(T_ r (pre.size+1))
section
variable {r:Nat} {pre:X_} {ty:TypeId} {w:World} {st sm:Int}
theorem A7.cellSt (h:A7 r pre ty w st sm):w.cell? (stA r pre)=some (.int .u64 st):=by
 unfold World.cell? stA;unfold A7 at h;simp only;rw[h];simp
theorem A7.cellSm (h:A7 r pre ty w st sm):w.cell? (smA r pre)=some (.int .u32 sm):=by
 unfold World.cell? smA;unfold A7 at h;simp only;rw[h];simp
theorem A7.Mm (h:A7 r pre ty w st sm):w.frozen? (stA r pre)=false:=by
 unfold World.frozen? stA;unfold A7 at h;simp only;rw[h];simp
theorem A7.ZP (h:A7 r pre ty w st sm):w.frozen? (smA r pre)=false:=by
 unfold World.frozen? smA;unfold A7 at h;simp only;rw[h];simp
theorem A7.setSt (h:A7 r pre ty w st sm) (st':Int):A7 r pre ty (w.setCell (stA r pre) (.int .u64 st')) st' sm:=by
 unfold A7 at h ⊢;simp only[World.setCell,stA,Array.getElem?_modify,if_true,h,Option.map_some,Option.some.injEq];have:(pre++#[Value.int .u64 st,.int .u32 sm]).setIfInBounds pre.size (.int .u64 st')=pre++#[Value.int .u64 st',.int .u32 sm]:=by
  apply Array.ext'
  simp
 simp[this]
theorem A7.setSm (h:A7 r pre ty w st sm) (sm':Int):A7 r pre ty (w.setCell (smA r pre) (.int .u32 sm')) st sm':=by
 unfold A7 at h ⊢;simp only[World.setCell,smA,Array.getElem?_modify,if_true,h,Option.map_some,Option.some.injEq];have:(pre++#[Value.int .u64 st,.int .u32 sm]).setIfInBounds (pre.size+1) (.int .u32 sm')=pre++#[Value.int .u64 st,.int .u32 sm']:=by
  apply Array.ext'
  simp
 simp[this]
theorem A7.lt (h:A7 r pre ty w st sm):r<w.heap.size:=(Array.getElem?_eq_some_iff.1 h).1
theorem A7.keep {Z:Nat->Prop} {w':World} (h:A7 r pre ty w st sm) (hz:Z r) (hk:GK Z w w'):A7 r pre ty w' st sm:=by
 unfold A7;rw[hk r hz];exact h
theorem A7.eq {st' sm':Int} (h:A7 r pre ty w st sm) (h':A7 r pre ty w st' sm'):st=st'/\sm=sm':=by
 have h1:=h.cellSt;have h2:=h.cellSm;rw[h'.cellSt]at h1;rw[h'.cellSm]at h2;simp only[Option.some.injEq,Value.int.injEq,true_and]at h1 h2;exact⟨h1.symm,h2.symm⟩
theorem KR {Z:Nat->Prop} {a:Addr} (hz:Z a.block) (x:Value) (d:Nat):BO Z w ((w.at d).setCell a x):=by
 refine⟨by simp[World.setCell,World.at],fun k hk=>?_,rfl,rfl,rfl⟩;have:a.block≠k:=fun e=>hk (e ▸ hz)
 simp[World.setCell,World.at,Array.getElem?_modify,this]
end
theorem FQ {w:World} {a:Addr} {x:Value} {d:Nat}:((w.at d).setCell a x).heap.size=w.heap.size:=by simp[World.setCell,World.at]
def Cv (r:Nat) (pre:X_) (ty:TypeId) (w:World):Prop:=∃st sm,A7 r pre ty w st sm
theorem A7.is {r:Nat} {pre:X_} {ty:TypeId} {w:World} {st sm:Int} (h:A7 r pre ty w st sm) (d:Nat):Cv r pre ty (w.at d):=⟨st,sm,h⟩
def IJ (P:Program) (J:World->Prop) (main:Bool):Nat->Goroutine->Goroutine->Prop
 | 0,g,g'=>g=g'
 | n+1,g,g'=>g.status=.running/\∃g1,(∀w,J w->stepG P main g w=.go g1 w #[])/\IJ P J main n g1 g'
theorem IJ.status {P:Program} {J:World->Prop} {main:Bool} {g':Goroutine} (hs:g'.status=.running):∀{n:Nat} {g:Goroutine},IJ P J main n g g'->g.status=.running
 | 0,_,h=>h ▸ hs
 | _+1,_,h=>h.1
def l8 (P:Program) (r:Nat) (pre:X_) (ty:TypeId):Nat->Goroutine->Goroutine->Prop
 | 0,g,g'=>g=g'
 | n+1,g,g'=>g.status=.running/\∃g1 l,(l=[]\/l=[(⟨.cell (stA r pre),false,true⟩:Event)])/\(∀w,A7 r pre ty w 1 0->stepG P false g w=.go g1 w l.toArray)/\l8 P r pre ty n g1 g'
theorem l8.status {P:Program} {r:Nat} {pre:X_} {ty:TypeId} {g':Goroutine} (hs:g'.status=.running):∀{n:Nat} {g:Goroutine},l8 P r pre ty n g g'->g.status=.running
 | 0,_,h=>h ▸ hs
 | _+1,_,h=>h.1
structure NR where
 gR:Goroutine
 gR':Goroutine
 gD:Goroutine
 gD':Goroutine
 gA:Goroutine
 gF:Goroutine
 gW:Goroutine
 gS:Goroutine
 gS':Goroutine
 gP:Goroutine
 gP':Goroutine
 k1:Nat
 k2:Nat
 k3:Nat
 k4:Nat
 nF:Nat
 nP:Nat
structure KE (P:Program) (r:Nat) (pre:X_) (ty:TypeId) (o:NR):Prop where
 runs:o.gR.status=.running/\o.gD.status=.running/\o.gA.status=.running/\o.gS.status=.running/\o.gP.status=.running
 rel:∀w,stepG P false o.gR w=.go o.gR' w #[Lp (stA r pre)]
 s1:IJ P (Cv r pre ty) false o.k1 o.gR' o.gD
 TG:∀w,stepG P false o.gD w=.go o.gD' w #[GR]
 s2:IJ P (Cv r pre ty) false o.k2 o.gD' o.gA
 add0:∀w,w.cell? (stA r pre)=some (.int .u64 KK)->w.frozen? (stA r pre)=false->stepG P false o.gA w=.go o.gF (w.setCell (stA r pre) (.int .u64 0)) (Ij (stA r pre))
 mP:QuitsD P o.nF 1 o.gF
 add1:∀w,w.cell? (stA r pre)=some (.int .u64 (KK+1))->w.frozen? (stA r pre)=false->stepG P false o.gA w=.go o.gW (w.setCell (stA r pre) (.int .u64 1)) (Ij (stA r pre))
 s3:l8 P r pre ty o.k3 o.gW o.gS
 sto:∀w,w.cell? (stA r pre)=some (.int .u64 1)->w.frozen? (stA r pre)=false->stepG P false o.gS w=.go o.gS' (w.setCell (stA r pre) (.int .u64 0)) #[⟨.cell (stA r pre),true,true⟩]
 s4:IJ P (Cv r pre ty) false o.k4 o.gS' o.gP
 sem:∀w,w.cell? (smA r pre)=some (.int .u32 0)->w.frozen? (smA r pre)=false->stepG P false o.gP w=.go o.gP' (w.setCell (smA r pre) (.int .u32 1)) (semEvents (smA r pre))
 ai5:QuitsD P o.nP 1 o.gP'
 wake:mayWake P o.gP=true/\o.gP'.status=.running
def I8 (r:Nat) (pre:X_) (l:Loc):Prop:=l=.cell (stA r pre)\/l=.cell (smA r pre)
structure Kr (c:Nat) (r:Nat) (pre:X_) (m:Nat) (t:Trace):Prop where
 at_:∃op,t[m]?=some op/\op.g=c/\op.act=.mark (.releaseMerge (stA r pre))
 heard:t.deaf c m=0
 after:∀i b,m<=i->touchAt t i=some b->t.g? i=some c->I8 r pre b.loc/\b.kind=.atomic/\¬t.heard i
 norel:∀k,m<k->t.act? k≠some (.mark (.release (stA r pre)))
def Il (c r:Nat) (pre:X_) (t:Trace):Prop:=∀i a,touchAt t i=some a->I8 r pre a.loc->a.kind=.plain->Knows t c i
section
variable {P:Program} {Z:Nat->Prop} {Ac Still:Loc->Prop} {r:Nat} {pre:X_} {ty:TypeId} {c m:Nat} {t u:Trace} {o:NR}
theorem Il.app (h:Il c r pre t) (hu:∀op∈u,∀b,op.act.touch?=some b->I8 r pre b.loc->b.kind≠.plain):Il c r pre (t++u):=by
 intro i a ha hw hp;obtain⟨x,hx,D5⟩:=touch_of ha;rcases getElem?_append_cases hx with⟨_,Fj⟩|⟨_,G7⟩
 ·exact(h i a (by rw[touchAt_of Fj];exact D5) hw hp).app u
 ·exact(hu x G7 a D5 hw hp).elim
theorem Kr.app (h:Kr c r pre m t) (hu:∀op∈u,op.act≠.mark (.release (stA r pre))) (ha:∀k op b,u[k]?=some op->op.g=c->op.act.touch?=some b->I8 r pre b.loc/\b.kind=.atomic/\(t++u).deaf c (t.size+k)≠0):Kr c r pre m (t++u):=by
 obtain⟨op,AO,hg,hact⟩:=h.at_;have BC:=lt_size_of_getElem? AO;refine⟨⟨op,by rw[getElem?_append_old BC];exact AO,hg,hact⟩,by rw[deaf_old (Nat.le_of_lt BC)];exact h.heard,fun i b hi hb hgi=>?_,fun k hk e=>?_⟩
 ·obtain⟨x,hx,D5⟩:=touch_of hb;rcases getElem?_append_cases hx with⟨Gl,Fj⟩|⟨hge,_⟩
  ·rw[g?_old Gl]at hgi;have:=h.after i b hi (by rw[touchAt_of Fj];exact D5) hgi;exact⟨this.1,this.2.1,by rw[heard_old Gl];exact this.2.2⟩
  ·have G7:u[i-t.size]?=some x:=by
    rw[<-hx,Array.getElem?_append_right hge]
   have hxg:x.g=c:=(by rw[g?_of hx]at hgi;exact Option.some.inj hgi);obtain⟨h1,h2,h3⟩:=ha (i-t.size) x b G7 hxg D5;refine⟨h1,h2,?_⟩;rintro⟨g',hg',Ih⟩;rw[hgi]at hg';obtain rfl:=Option.some.inj hg';rw[show t.size+(i-t.size)=i from by omega]at h3;exact h3 Ih
 ·obtain⟨x,hx,D5⟩:=Option.map_eq_some_iff.1 (show((t++u)[k]?).map (·.act)=_ from e);rcases getElem?_append_cases hx with⟨Gl,Fj⟩|⟨_,G7⟩
  ·exact h.norel k hk (by rw[act?_of Fj,D5])
  ·exact hu x G7 D5
theorem Kr.calm (h:Kr c r pre m t) (hu:Ry Ac Still c u):Kr c r pre m (t++u):=
 h.app (fun op AO=>(hu op AO).2.2.1 _) fun _ op _ hk hg _=>((hu op (Array.mem_of_getElem? hk)).1 hg).elim
theorem Il.calm (h:Il c r pre t) (hW:∀l,I8 r pre l->Ac l) (hu:Ry Ac Still c u):Il c r pre (t++u):=
 h.app fun op AO b hb hw=>((hu op AO).2.1 b hb).2 (hW _ hw)
end
def Vy (P:Program) (c r:Nat) (pre:X_) (ty:TypeId) (o:NR) (w0:Bool) (n:Nat) (g:Goroutine) (w:World) (t:Trace):Prop:=
 Il c r pre t/\
 ((∃k,n=k+(o.k1+o.k2+o.k3+o.k4+o.nF+o.nP+10)/\IJ P (Cv r pre ty) false k g o.gR/\A7 r pre ty w (if w0 then KK+1 else KK) 0/\Deaf t c=0)\/
  (∃m k,n=k+(o.k2+o.k3+o.k4+o.nF+o.nP+8)/\IJ P (Cv r pre ty) false k g o.gD/\A7 r pre ty w (if w0 then KK+1 else KK) 0/\Deaf t c=0/\Kr c r pre m t)\/
  (∃m k,n=k+(o.k3+o.k4+o.nF+o.nP+6)/\IJ P (Cv r pre ty) false k g o.gA/\A7 r pre ty w (if w0 then KK+1 else KK) 0/\Deaf t c=1/\Kr c r pre m t)\/
  (w0=false/\∃m,QuitsD P n (Deaf t c) g/\A7 r pre ty w 0 0/\Kr c r pre m t)\/
  (w0=true/\∃m k,n=k+(o.k4+o.nP+4)/\l8 P r pre ty k g o.gS/\A7 r pre ty w 1 0/\Deaf t c=1/\Kr c r pre m t)\/
  (w0=true/\∃m k,n=k+(o.nP+2)/\IJ P (Cv r pre ty) false k g o.gP/\A7 r pre ty w 0 0/\Deaf t c=1/\Kr c r pre m t)\/
  (w0=true/\∃m,QuitsD P n (Deaf t c) g/\A7 r pre ty w 0 1/\Kr c r pre m t))
section
variable {P:Program} {Z:Nat->Prop} {Ac Still:Loc->Prop} {Mem Ak:Nat->Prop} {r:Nat} {pre:X_} {ty:TypeId} {c B:Nat} {t:Trace} {o:NR} {w0:Bool}
theorem CG (g:Nat) (fn:FuncId) (pos:String):t++MemOp.ofEvents g fn pos #[]=t:=by simp[MemOp.ofEvents]
theorem O1 (H:PX Ac Still Mem Ak B 0 t) (hM:¬Mem c) {fn:FuncId} {pos:String} {es:Array Event} (Ex:∀e∈es,(MemAct.ofEvent e).touch?=none/\(MemAct.ofEvent e).low B):PX Ac Still Mem Ak B 0 (t++MemOp.ofEvents c fn pos es):=
 H.appMute ofEvents_g (fun op AO=>by obtain⟨e,he,rfl⟩:=Go.Conc.mem_ofEvents AO;exact(Ex e he).1) (fun x=>(hM x).elim) (fun op AO=>by obtain⟨e,he,rfl⟩:=Go.Conc.mem_ofEvents AO;exact(Ex e he).2)
theorem Ee (H:Il c r pre t) {g:Nat} {fn:FuncId} {pos:String} {es:Array Event} (Ex:∀e∈es,∀b,(MemAct.ofEvent e).touch?=some b->b.kind≠.plain):Il c r pre (t++MemOp.ofEvents g fn pos es):=
 H.app fun op AO b hb _=>by obtain⟨e,he,rfl⟩:=Go.Conc.mem_ofEvents AO;exact Ex e he b hb
theorem iI (t:Trace) (g:Nat) (fn:FuncId) (pos:String):∀(l:List Event) (k:Nat),k<=l.length->(t++MemOp.ofEvents g fn pos l.toArray).deaf g (t.size+k)=deafBehind (Deaf t g) (l.take k).toArray:=by
 intro l k
 induction k with
 | zero=>intro _;simp only[Nat.add_zero,List.take_zero];rw[deaf_old (Nat.le_refl _)];rfl
 | succ k ih=>
  intro hk
  have hy:(t++MemOp.ofEvents g fn pos l.toArray)[t.size+k]?=some { g:=g,fn:=fn,pos:=pos,act:=.ofEvent l[k] }:=by
   rw[at_new,ofEvents_eq]
   simp[List.getElem?_eq_getElem (show k<l.length by omega)]
  rw[<-Nat.add_assoc,deaf_succ hy,ih (by omega),List.take_succ_eq_append_getElem (by omega)]
  simp only[deafBehind,List.foldl_toArray',List.foldl_append,List.foldl_cons,List.foldl_nil]
  generalize List.foldl _ (Deaf t g) (List.take k l)=x
  cases hl:l[k]with
  | mk loc wr sy=>
   cases loc with
   | obj q=>cases wr<;>cases sy<;>rfl
   | mark mm=>cases mm<;>simp[deafStep,MemAct.ofEvent]
   | _=>rfl
theorem O3 (H:PX Ac Still Mem Ak B 0 t) (hW:∀l,I8 r pre l->Ac l/\¬Still l) (hM:¬Mem c) (hN:Il c r pre t) {fn:FuncId} {pos:String} {l:List Event}
  (Ex:∀e∈l,(∀b,(MemAct.ofEvent e).touch?=some b->I8 r pre b.loc/\b.kind=.atomic)/\(MemAct.ofEvent e).low B) (hd:∀k,k<l.length->deafBehind (Deaf t c) (l.take k).toArray≠0):PX Ac Still Mem Ak B 0 (t++MemOp.ofEvents c fn pos l.toArray):=by
 refine H.wI (W:=I8 r pre) hW hN hM ofEvents_g (fun op AO b hb=>?_) (fun k hk=>?_) (fun op AO=>?_)
 ·obtain⟨e,he,rfl⟩:=Go.Conc.mem_ofEvents AO;exact(Ex e (by simpa using he)).1 b hb
 ·have:k<l.length:=by rw[ofEvents_eq]at hk;simpa using hk
  rw[iI _ _ _ _ _ _ (by omega)];exact hd k this
 ·obtain⟨e,he,rfl⟩:=Go.Conc.mem_ofEvents AO;exact(Ex e (by simpa using he)).2
theorem KY {m:Nat} (H:Kr c r pre m t) {fn:FuncId} {pos:String} {l:List Event}
  (Ex:∀e∈l,(∀b,(MemAct.ofEvent e).touch?=some b->I8 r pre b.loc/\b.kind=.atomic)/\MemAct.ofEvent e≠.mark (.release (stA r pre))) (hd:∀k,k<l.length->deafBehind (Deaf t c) (l.take k).toArray≠0):Kr c r pre m (t++MemOp.ofEvents c fn pos l.toArray):=by
 refine H.app (fun op AO=>?_) (fun k op b hk _ hb=>?_)
 ·obtain⟨e,he,rfl⟩:=Go.Conc.mem_ofEvents AO;exact(Ex e (by simpa using he)).2
 ·have BC:k<l.length:=by
   have:=(Array.getElem?_eq_some_iff.1 hk).1
   rw[ofEvents_eq]at this;simpa using this
  obtain⟨e,he,rfl⟩:=Go.Conc.mem_ofEvents (Array.mem_of_getElem? hk);have h1:=(Ex e (by simpa using he)).1 b hb;exact⟨h1.1,h1.2,by rw[iI _ _ _ _ _ _ (by omega)];exact hd k BC⟩
theorem Nv {m:Nat} (H:Kr c r pre m t) {fn:FuncId} {pos:String} {es:Array Event} (Ex:∀e∈es,(MemAct.ofEvent e).touch?=none/\MemAct.ofEvent e≠.mark (.release (stA r pre))):Kr c r pre m (t++MemOp.ofEvents c fn pos es):=
 H.app (fun op AO=>by obtain⟨e,he,rfl⟩:=Go.Conc.mem_ofEvents AO;exact(Ex e he).2) (fun k op b hk _ hb=>by
  obtain⟨e,he,rfl⟩:=Go.Conc.mem_ofEvents (Array.mem_of_getElem? hk)
  rw[(Ex e he).1]at hb;cases hb)
theorem Qv {es:Array Event} (h:∀e∈es,e.mute=true) (a:Addr):∀e∈es,(MemAct.ofEvent e).touch?=none/\MemAct.ofEvent e≠.mark (.release a):=fun e he=>by
 refine⟨touch_mute (h e he),?_⟩;have:=h e he;obtain⟨loc,wr,sy⟩:=e;cases loc<;>simp[Event.mute]at this;rename_i mm;cases mm<;>simp[MemAct.ofEvent]at this ⊢
theorem uj (O:KE P r pre ty o) (hZ:Z r) (hW:∀l,I8 r pre l->Ac l/\¬Still l) (hc:c≠0) (hM:¬Mem c):Fp P Z Ac Still (fun B t=>PX Ac Still Mem Ak B 0 t) c (Vy P c r pre ty o w0) where
 status:=by
  rintro n g w t ⟨_,⟨k,rfl,hs,_⟩|⟨m,k,rfl,hs,_⟩|⟨m,k,rfl,hs,_⟩|⟨_,m,hq,_⟩|⟨_,m,k,rfl,hs,_⟩|⟨_,m,k,rfl,hs,_⟩|⟨_,m,hq,_⟩⟩
  ·exact .inl ⟨hs.status O.runs.1,by omega⟩
  ·exact .inl ⟨hs.status O.runs.2.1,by omega⟩
  ·exact .inl ⟨hs.status O.runs.2.2.1,by omega⟩
  ·cases n with
   | zero=>exact .inr (.inr hq.1)
   | succ n=>exact hq.status.elim (fun x=>.inl ⟨x,by omega⟩) fun x=>.inr (.inr x)
  ·exact .inl ⟨hs.status O.runs.2.2.2.1,by omega⟩
  ·exact .inl ⟨hs.status O.runs.2.2.2.2,by omega⟩
  ·cases n with
   | zero=>exact .inr (.inr hq.1)
   | succ n=>exact hq.status.elim (fun x=>.inl ⟨x,by omega⟩) fun x=>.inr (.inr x)
 again:=by
  rintro n g w t ⟨_,⟨k,rfl,hs,_⟩|⟨m,k,rfl,hs,_⟩|⟨m,k,rfl,hs,_⟩|⟨_,m,hq,_⟩|⟨_,m,k,rfl,hs,_⟩|⟨_,m,k,rfl,hs,_⟩|⟨_,m,hq,_⟩⟩ w' _
  ·exact again_running _ (.inl (hs.status O.runs.1))
  ·exact again_running _ (.inl (hs.status O.runs.2.1))
  ·exact again_running _ (.inl (hs.status O.runs.2.2.1))
  ·exact again_running _ hq.status
  ·exact again_running _ (.inl (hs.status O.runs.2.2.2.1))
  ·exact again_running _ (.inl (hs.status O.runs.2.2.2.2))
  ·exact again_running _ hq.status
 calm:=by
  intro n g w t w' u h hk hu
  have hd:Deaf (t++u) c=Deaf t c:=Deaf_quiet fun op AO d=>by
   have BN:=(hu op AO).1
   obtain⟨g,fn,pos,act⟩:=op
   simp only at BN
   cases act with
   | mark mm=>cases mm<;>simp[deafStep,BN]
   | _=>rfl
  obtain⟨hN,h⟩:=h
  refine⟨hN.calm (fun l hl=>(hW l hl).1) hu,?_⟩
  rw[hd]
  rcases h with⟨k,h1,h2,h3,h4⟩|⟨m,k,h1,h2,h3,h4,h5⟩|⟨m,k,h1,h2,h3,h4,h5⟩|⟨hw,m,h1,h2,h3⟩|⟨hw,m,k,h1,h2,h3,h4,h5⟩|⟨hw,m,k,h1,h2,h3,h4,h5⟩|⟨hw,m,h1,h2,h3⟩
  ·exact .inl ⟨k,h1,h2,h3.keep hZ hk,h4⟩
  ·exact .inr (.inl ⟨m,k,h1,h2,h3.keep hZ hk,h4,h5.calm hu⟩)
  ·exact .inr (.inr (.inl ⟨m,k,h1,h2,h3.keep hZ hk,h4,h5.calm hu⟩))
  ·exact .inr (.inr (.inr (.inl ⟨hw,m,h1,h2.keep hZ hk,h3.calm hu⟩)))
  ·exact .inr (.inr (.inr (.inr (.inl ⟨hw,m,k,h1,h2,h3.keep hZ hk,h4,h5.calm hu⟩))))
  ·exact .inr (.inr (.inr (.inr (.inr (.inl ⟨hw,m,k,h1,h2,h3.keep hZ hk,h4,h5.calm hu⟩)))))
  ·exact .inr (.inr (.inr (.inr (.inr (.inr ⟨hw,m,h1,h2.keep hZ hk,h3.calm hu⟩)))))
 step:=by
  intro n g w t B h Bg Gw hB d
  have hc0:(c==0)=false:=by simpa using hc
  rw[hc0]
  refine .inl ?_
  obtain⟨hN,h⟩:=h
  have Cw:GK Z w (w.at d):=fun _ _=>rfl
  have silent:∀{k:Nat} {g':Goroutine},IJ P (Cv r pre ty) false (k+1) g g'->Cv r pre ty (w.at d)->∃g1,stepG P false g (w.at d)=.go g1 (w.at d) #[]/\IJ P (Cv r pre ty) false k g1 g':=fun hs hJ=>by
   obtain⟨_,g1,h1,h2⟩:=hs
   exact⟨g1,h1 _ hJ,h2⟩
  rcases h with⟨k,rfl,hs,hr,hd⟩|⟨m,k,rfl,hs,hr,hd,hm⟩|⟨m,k,rfl,hs,hr,hd,hm⟩|⟨hw,m,hq,hr,hm⟩|⟨hw,m,k,rfl,hs,hr,hd,hm⟩|⟨hw,m,k,rfl,hs,hr,hd,hm⟩|⟨hw,m,hq,hr,hm⟩
  ·cases k with
   | succ k=>
    obtain⟨g1,h1,h2⟩:=silent hs (hr.is d)
    exact⟨k+(o.k1+o.k2+o.k3+o.k4+o.nF+o.nP+10),g1,w.at d,#[],by omega,h1,BO.at w d,⟨B,Nat.le_refl _,hB,by rw[CG];exact Gw⟩,by rw[CG];exact⟨hN,.inl ⟨k,rfl,h2,hr.keep hZ Cw,hd⟩⟩⟩
   | zero=>
    obtain rfl:g=o.gR:=hs
    have hlow:r<B:=by have:=hr.lt;omega
    have hn:∀e∈#[Lp (stA r pre)],(MemAct.ofEvent e).touch?=none/\(MemAct.ofEvent e).low B:=by
     intro e he
     simp at he;subst he
     exact⟨rfl,hlow⟩
    refine⟨o.k1+(o.k2+o.k3+o.k4+o.nF+o.nP+8),o.gR',w.at d,_,by omega,O.rel _,BO.at w d,⟨B,Nat.le_refl _,hB,O1 Gw hM hn⟩,Ee hN (fun e he b hb=>by rw[(hn e he).1]at hb;cases hb),.inr (.inl ⟨t.size,o.k1,rfl,O.s1,hr.keep hZ Cw,?_,?_⟩)⟩
    ·rw[Deaf_own,hd];rfl
    ·have e0:(t++MemOp.ofEvents c o.gR.frame.fn o.gR.frame.place #[Lp (stA r pre)])[t.size]?=some { g:=c,fn:=o.gR.frame.fn,pos:=o.gR.frame.place,act:=.mark (.releaseMerge (stA r pre)) }:=by
      have:=at_new t (MemOp.ofEvents c o.gR.frame.fn o.gR.frame.place #[Lp (stA r pre)]) 0
      rw[Nat.add_zero]at this
      rw[this,ofEvents_eq];simp[Lp,MemAct.ofEvent]
     have BA:(t++MemOp.ofEvents c o.gR.frame.fn o.gR.frame.place #[Lp (stA r pre)]).size=t.size+1:=(by rw[Array.size_append,ofEvents_eq];simp);refine⟨⟨_,e0,rfl,rfl⟩,by rw[deaf_old (Nat.le_refl _)];exact hd,fun i b hi hb _=>?_,fun k hk e=>?_⟩
     ·obtain⟨x,hx,D5⟩:=touch_of hb;have:=lt_size_of_getElem? hx;obtain rfl:i=t.size:=(by omega);rw[e0]at hx;rw[<-Option.some.inj hx]at D5;cases D5
     ·obtain⟨x,hx,_⟩:=Option.map_eq_some_iff.1 (show((t++MemOp.ofEvents c o.gR.frame.fn o.gR.frame.place #[Lp (stA r pre)])[k]?).map (·.act)=_ from e);have:=lt_size_of_getElem? hx;omega
  ·cases k with
   | succ k=>
    obtain⟨g1,h1,h2⟩:=silent hs (hr.is d)
    exact⟨k+(o.k2+o.k3+o.k4+o.nF+o.nP+8),g1,w.at d,#[],by omega,h1,BO.at w d,⟨B,Nat.le_refl _,hB,by rw[CG];exact Gw⟩,by rw[CG];exact⟨hN,.inr (.inl ⟨m,k,rfl,h2,hr.keep hZ Cw,hd,hm⟩)⟩⟩
   | zero=>
    obtain rfl:g=o.gD:=hs
    have hn:∀e∈#[GR],(MemAct.ofEvent e).touch?=none/\(MemAct.ofEvent e).low B:=by
     intro e he
     simp at he;subst he
     exact⟨rfl,trivial⟩
    have hn2:∀e∈#[GR],(MemAct.ofEvent e).touch?=none/\MemAct.ofEvent e≠.mark (.release (stA r pre)):=by
     intro e he
     simp at he;subst he
     exact⟨rfl,by simp[GR,MemAct.ofEvent]⟩
    refine⟨o.k2+(o.k3+o.k4+o.nF+o.nP+6),o.gD',w.at d,_,by omega,O.TG _,BO.at w d,⟨B,Nat.le_refl _,hB,O1 Gw hM hn⟩,Ee hN (fun e he b hb=>by rw[(hn e he).1]at hb;cases hb),.inr (.inr (.inl ⟨m,o.k2,rfl,O.s2,hr.keep hZ Cw,?_,Nv hm hn2⟩))⟩
    rw[Deaf_own,hd];rfl
  ·cases k with
   | succ k=>
    obtain⟨g1,h1,h2⟩:=silent hs (hr.is d)
    exact⟨k+(o.k3+o.k4+o.nF+o.nP+6),g1,w.at d,#[],by omega,h1,BO.at w d,⟨B,Nat.le_refl _,hB,by rw[CG];exact Gw⟩,by rw[CG];exact⟨hN,.inr (.inr (.inl ⟨m,k,rfl,h2,hr.keep hZ Cw,hd,hm⟩))⟩⟩
   | zero=>
    obtain rfl:g=o.gA:=hs
    have hrd:=hr.keep hZ Cw
    have hlow:r<B:=by have:=hr.lt;omega
    have EY:∀e∈[(⟨.cell (stA r pre),false,true⟩:Event),⟨.cell (stA r pre),true,true⟩],(∀b,(MemAct.ofEvent e).touch?=some b->I8 r pre b.loc/\b.kind=.atomic)/\(MemAct.ofEvent e).low B:=by
     intro e he
     simp at he
     rcases he with rfl|rfl<;>exact⟨fun b hb=>by obtain rfl:=Option.some.inj hb;exact⟨.inl rfl,rfl⟩,hlow⟩
    have WR:∀e∈[(⟨.cell (stA r pre),false,true⟩:Event),⟨.cell (stA r pre),true,true⟩],(∀b,(MemAct.ofEvent e).touch?=some b->I8 r pre b.loc/\b.kind=.atomic)/\MemAct.ofEvent e≠.mark (.release (stA r pre)):=by
     intro e he
     refine⟨(EY e he).1,?_⟩
     simp at he
     rcases he with rfl|rfl<;>simp[MemAct.ofEvent]
    have hdf:∀k,k < [(⟨.cell (stA r pre),false,true⟩:Event),⟨.cell (stA r pre),true,true⟩].length->deafBehind (Deaf t c) ([(⟨.cell (stA r pre),false,true⟩:Event),⟨.cell (stA r pre),true,true⟩].take k).toArray≠0:=by
     intro k hk
     rw[hd]
     simp only[List.length_cons,List.length_nil]at hk
     rcases k with _|_|k
     ·simp[deafBehind]
     ·simp[deafBehind]
     ·omega
    have Zd:∀e∈Ij (stA r pre),∀b,(MemAct.ofEvent e).touch?=some b->b.kind≠.plain:=fun e he b hb=>by
     have:=((EY e (by simpa [Ij]using he)).1 b hb).2
     rw[this];simp
    have oJ:Deaf (t++MemOp.ofEvents c o.gA.frame.fn o.gA.frame.place (Ij (stA r pre))) c=1:=(by rw[Deaf_own,hd];rfl);cases w0 with
    | false=>
     simp only[Bool.false_eq_true,if_false]at hr hrd
     refine⟨o.nF,o.gF,(w.at d).setCell (stA r pre) (.int .u64 0),Ij (stA r pre),by omega,O.add0 _ hrd.cellSt hrd.Mm,KR hZ _ d,⟨B,Nat.le_refl _,by rw[FQ];exact hB,O3 (l:=[_,_]) Gw hW hM hN EY hdf⟩,Ee hN Zd,.inr (.inr (.inr (.inl ⟨rfl,m,?_,hrd.setSt 0,KY (l:=[_,_]) hm WR hdf⟩)))⟩
     rw[oJ];exact O.mP
    | true=>
     simp only[if_true]at hr hrd
     refine⟨o.k3+(o.k4+o.nP+4),o.gW,(w.at d).setCell (stA r pre) (.int .u64 1),Ij (stA r pre),by omega,O.add1 _ hrd.cellSt hrd.Mm,KR hZ _ d,⟨B,Nat.le_refl _,by rw[FQ];exact hB,O3 (l:=[_,_]) Gw hW hM hN EY hdf⟩,Ee hN Zd,.inr (.inr (.inr (.inr (.inl ⟨rfl,m,o.k3,rfl,O.s3,hrd.setSt 1,oJ,KY (l:=[_,_]) hm WR hdf⟩))))⟩
  ·cases n with
   | zero=>rw[hq.1]at Bg;cases Bg
   | succ n=>
    rcases hq with⟨hf,_⟩|⟨_,g',es,hmu,BH,hq'⟩
    ·rw[hf]at Bg;cases Bg
    ·refine⟨n,g',w.at d,es,by omega,BH _,BO.at w d,⟨B,Nat.le_refl _,hB,O1 Gw hM (fun e he=>⟨touch_mute (hmu e he),low_mute (hmu e he) B⟩)⟩,Ee hN (fun e he b hb=>by rw[touch_mute (hmu e he)]at hb;cases hb),.inr (.inr (.inr (.inl ⟨hw,m,?_,hr.keep hZ Cw,Nv hm (Qv hmu _)⟩)))⟩;rw[Deaf_own];exact hq'
  ·cases k with
   | succ k=>
    obtain⟨_,g1,l,hl,h1,h2⟩:=hs
    have hlow:r<B:=by have:=hr.lt;omega
    have hin:∀e∈l,e=(⟨.cell (stA r pre),false,true⟩:Event):=by
     intro e he
     rcases hl with rfl|rfl
     ·cases he
     ·simpa using he
    have EY:∀e∈l,(∀b,(MemAct.ofEvent e).touch?=some b->I8 r pre b.loc/\b.kind=.atomic)/\(MemAct.ofEvent e).low B:=by
     intro e he
     obtain rfl:=hin e he
     exact⟨fun b hb=>by obtain rfl:=Option.some.inj hb;exact⟨.inl rfl,rfl⟩,hlow⟩
    have WR:∀e∈l,(∀b,(MemAct.ofEvent e).touch?=some b->I8 r pre b.loc/\b.kind=.atomic)/\MemAct.ofEvent e≠.mark (.release (stA r pre)):=by
     intro e he
     refine⟨(EY e he).1,?_⟩
     obtain rfl:=hin e he
     simp[MemAct.ofEvent]
    have hdf:∀k,k<l.length->deafBehind (Deaf t c) (l.take k).toArray≠0:=by
     intro k hk
     have:l.length<=1:=by rcases hl with rfl|rfl<;>simp
     obtain rfl:k=0:=by omega
     rw[hd];simp[deafBehind]
    refine⟨k+(o.k4+o.nP+4),g1,w.at d,l.toArray,by omega,h1 _ (hr.keep hZ Cw),BO.at w d,⟨B,Nat.le_refl _,hB,O3 Gw hW hM hN EY hdf⟩,Ee hN (fun e he b hb=>by
      have:=((EY e (by simpa using he)).1 b hb).2
      rw[this];simp),.inr (.inr (.inr (.inr (.inl ⟨hw,m,k,rfl,h2,hr.keep hZ Cw,?_,KY hm WR hdf⟩))))⟩;rw[Deaf_own,hd];rcases hl with rfl|rfl<;>rfl
   | zero=>
    obtain rfl:g=o.gS:=hs
    have hrd:=hr.keep hZ Cw
    have hlow:r<B:=by have:=hr.lt;omega
    have EY:∀e∈[(⟨.cell (stA r pre),true,true⟩:Event)],(∀b,(MemAct.ofEvent e).touch?=some b->I8 r pre b.loc/\b.kind=.atomic)/\(MemAct.ofEvent e).low B:=by
     intro e he
     simp at he
     subst he
     exact⟨fun b hb=>by obtain rfl:=Option.some.inj hb;exact⟨.inl rfl,rfl⟩,hlow⟩
    have WR:∀e∈[(⟨.cell (stA r pre),true,true⟩:Event)],(∀b,(MemAct.ofEvent e).touch?=some b->I8 r pre b.loc/\b.kind=.atomic)/\MemAct.ofEvent e≠.mark (.release (stA r pre)):=by
     intro e he
     refine⟨(EY e he).1,?_⟩
     simp at he
     subst he
     simp[MemAct.ofEvent]
    have hdf:∀k,k < [(⟨.cell (stA r pre),true,true⟩:Event)].length->deafBehind (Deaf t c) ([(⟨.cell (stA r pre),true,true⟩:Event)].take k).toArray≠0:=by
     intro k hk
     rw[hd]
     simp only[List.length_cons,List.length_nil]at hk
     rcases k with _|k
     ·simp[deafBehind]
     ·omega
    refine⟨o.k4+(o.nP+2),o.gS',(w.at d).setCell (stA r pre) (.int .u64 0),#[⟨.cell (stA r pre),true,true⟩],by omega,O.sto _ hrd.cellSt hrd.Mm,KR hZ _ d,⟨B,Nat.le_refl _,by rw[FQ];exact hB,O3 (l:=[_]) Gw hW hM hN EY hdf⟩,Ee hN (fun e he b hb=>by
      have:=((EY e (by simpa using he)).1 b hb).2
      rw[this];simp),.inr (.inr (.inr (.inr (.inr (.inl ⟨hw,m,o.k4,rfl,O.s4,hrd.setSt 0,?_,KY (l:=[_]) hm WR hdf⟩)))))⟩;rw[Deaf_own,hd];rfl
  ·cases k with
   | succ k=>
    obtain⟨g1,h1,h2⟩:=silent hs (hr.is d)
    exact⟨k+(o.nP+2),g1,w.at d,#[],by omega,h1,BO.at w d,⟨B,Nat.le_refl _,hB,by rw[CG];exact Gw⟩,by rw[CG];exact⟨hN,.inr (.inr (.inr (.inr (.inr (.inl ⟨hw,m,k,rfl,h2,hr.keep hZ Cw,hd,hm⟩)))))⟩⟩
   | zero=>
    obtain rfl:g=o.gP:=hs
    have hrd:=hr.keep hZ Cw
    have hlow:r<B:=by have:=hr.lt;omega
    have EY:∀e∈[(⟨.mark .disable,false,true⟩:Event),⟨.cell (smA r pre),false,true⟩,⟨.cell (smA r pre),true,true⟩,⟨.mark .enable,false,true⟩],(∀b,(MemAct.ofEvent e).touch?=some b->I8 r pre b.loc/\b.kind=.atomic)/\(MemAct.ofEvent e).low B:=by
     intro e he
     simp at he
     rcases he with rfl|rfl|rfl|rfl
     ·exact⟨fun b hb=>(by cases hb),trivial⟩
     ·exact⟨fun b hb=>by obtain rfl:=Option.some.inj hb;exact⟨.inr rfl,rfl⟩,hlow⟩
     ·exact⟨fun b hb=>by obtain rfl:=Option.some.inj hb;exact⟨.inr rfl,rfl⟩,hlow⟩
     ·exact⟨fun b hb=>(by cases hb),trivial⟩
    have WR:∀e∈[(⟨.mark .disable,false,true⟩:Event),⟨.cell (smA r pre),false,true⟩,⟨.cell (smA r pre),true,true⟩,⟨.mark .enable,false,true⟩],(∀b,(MemAct.ofEvent e).touch?=some b->I8 r pre b.loc/\b.kind=.atomic)/\MemAct.ofEvent e≠.mark (.release (stA r pre)):=by
     intro e he
     refine⟨(EY e he).1,?_⟩
     simp at he
     rcases he with rfl|rfl|rfl|rfl<;>simp[MemAct.ofEvent]
    have hdf:∀k,k < [(⟨.mark .disable,false,true⟩:Event),⟨.cell (smA r pre),false,true⟩,⟨.cell (smA r pre),true,true⟩,⟨.mark .enable,false,true⟩].length->deafBehind (Deaf t c) ([(⟨.mark .disable,false,true⟩:Event),⟨.cell (smA r pre),false,true⟩,⟨.cell (smA r pre),true,true⟩,⟨.mark .enable,false,true⟩].take k).toArray≠0:=by
     intro k hk
     rw[hd]
     simp only[List.length_cons,List.length_nil]at hk
     rcases k with _|_|_|_|k
     ·simp[deafBehind]
     ·simp[deafBehind]
     ·simp[deafBehind]
     ·simp[deafBehind]
     ·omega
    refine⟨o.nP,o.gP',(w.at d).setCell (smA r pre) (.int .u32 1),semEvents (smA r pre),by omega,O.sem _ hrd.cellSm hrd.ZP,KR hZ _ d,⟨B,Nat.le_refl _,by rw[FQ];exact hB,O3 (l:=[_,_,_,_]) Gw hW hM hN EY hdf⟩,Ee hN (fun e he b hb=>by
      have:=((EY e (by simpa [semEvents]using he)).1 b hb).2
      rw[this];simp),.inr (.inr (.inr (.inr (.inr (.inr ⟨hw,m,?_,hrd.setSm 1,KY (l:=[_,_,_,_]) hm WR hdf⟩)))))⟩;rw[Deaf_own,hd];exact O.ai5
  ·cases n with
   | zero=>rw[hq.1]at Bg;cases Bg
   | succ n=>
    rcases hq with⟨hf,_⟩|⟨_,g',es,hmu,BH,hq'⟩
    ·rw[hf]at Bg;cases Bg
    ·refine⟨n,g',w.at d,es,by omega,BH _,BO.at w d,⟨B,Nat.le_refl _,hB,O1 Gw hM (fun e he=>⟨touch_mute (hmu e he),low_mute (hmu e he) B⟩)⟩,Ee hN (fun e he b hb=>by rw[touch_mute (hmu e he)]at hb;cases hb),.inr (.inr (.inr (.inr (.inr (.inr ⟨hw,m,?_,hr.keep hZ Cw,Nv hm (Qv hmu _)⟩)))))⟩;rw[Deaf_own];exact hq'
end
section
variable {Ac Still:Loc->Prop} {Mem Ak:Nat->Prop} {B h:Nat} {t u:Trace}
def Ov (Still:Loc->Prop) (c:Nat) (t:Trace):Prop:=∀i a,touchAt t i=some a->a.write=true->Still a.loc->Knows t c i
theorem Ov.app {c:Nat} (H:Ov Still c t) (hu:∀op∈u,∀b,op.act.touch?=some b->Still b.loc->b.write=false):Ov Still c (t++u):=by
 intro i a ha hw hS;obtain⟨x,hx,D5⟩:=touch_of ha;rcases getElem?_append_cases hx with⟨_,Fj⟩|⟨_,G7⟩
 ·exact(H i a (by rw[touchAt_of Fj];exact D5) hw hS).app u
 ·rw[hu x G7 a D5 hS]at hw;cases hw
theorem PX.Yh {g:Nat} (H:PX Ac Still Mem Ak B h t) (hg:Ov Still g t) (hM:¬Mem g) (hL:Ak g) (hu:∀op∈u,op.g=g) (hr:∀op∈u,∀b,op.act.touch?=some b->b.write=false/\Still b.loc)
  (hl:∀op∈u,op.act.low B):PX Ac Still Mem Ak B h (t++u):=by
 refine⟨fun said=>noRace_append (H.clean said) hu fun i a ha op AO b hb hc=>?_,fun i a ha hm=>?_,fun i a ha hw hS g' hg'=>?_,H.KQ hu (fun x=>(hM x).elim),seen_app H.seen hl⟩
 ·obtain⟨hb0,hbS⟩:=hr op AO b hb;rcases hc.2.2.1 with x|x
  ·exact hg i a ha x (hc.1 ▸ hbS)
  ·rw[hb0]at x;cases x
 ·obtain⟨x,hx,D5⟩:=touch_of ha;rcases getElem?_append_cases hx with⟨_,Fj⟩|⟨_,G7⟩
  ·exact H.old Fj D5 hm
  ·exact .inr (.inl ⟨.inl (hr x G7 a D5).1,(hr x G7 a D5).2,g,by rw[g?_of hx,hu x G7],hL⟩)
 ·obtain⟨x,hx,D5⟩:=touch_of ha;rcases getElem?_append_cases hx with⟨_,Fj⟩|⟨_,G7⟩
  ·exact(H.wrote i a (by rw[touchAt_of Fj];exact D5) hw hS g' hg').app u
  ·rw[(hr x G7 a D5).1]at hw;cases hw
end
def o6 (w:World) (cC:Array CommCase) (kq cq:Nat) (zq:Value):Prop:=
 cC[kq]?=some (rcase cq zq)/\(∃k,w.heap[cq]?=some (.chan 0 #[] true k k false))/\∀(m:Nat) cc,m≠kq->cC[m]?=some cc->ET w cc
def BP (P:Program) (c r:Nat) (pre:X_) (ty:TypeId) (o:NR) (Ph:Bool->Nat->Goroutine->World->Trace->Prop) (X:World->Prop) (w0:Bool) (n:Nat) (g:Goroutine) (w:World) (t:Trace):Prop:=
 Ph w0 n g w t\/(Vy P c r pre ty o w0 n g w t/\X w)
def Ql (Z:Nat->Prop) (r:Nat) (X:World->Prop):Prop:=∀w w':World,X w->(∀x,x≠r->Z x->w'.heap[x]?=w.heap[x]?)->X w'
structure JF (P:Program) (Z:Nat->Prop) (Ac Still:Loc->Prop) (Ak:Nat->Prop) (c r:Nat) (pre:X_) (ty:TypeId) (o:NR) (Ph:Bool->Nat->Goroutine->World->Trace->Prop) (X:World->Prop):Prop where
 status:∀{w0 n g w t},Ph w0 n g w t->g.status=.running/\0<n
 run:∀{w0 n g w t},Ph w0 n g w t->A7 r pre ty w (if w0 then KK+1 else KK) 0
 calm:∀{w0 n g w t} (w':World) (u:Trace),Ph w0 n g w t->GK Z w w'->Ry Ac Still c u->Ph w0 n g w' (t++u)
 mark:∀{w0 n g w t} {es:Array Event} {fn:FuncId} {pos:String} (d:Nat),(∀e∈es,(MemAct.ofEvent e).touch?=none/\∀a,MemAct.ofEvent e≠.mark (.release a))->Ph w0 n g w t->Ph w0 n g (w.at d) (t++MemOp.ofEvents 0 fn pos es)
 up:∀{n g w t} {fn:FuncId} {pos:String} (d:Nat),A7 r pre ty w KK 0->Ph false n g w t->Ph true n g ((w.at d).setCell (stA r pre) (.int .u64 (KK+1))) (t++MemOp.ofEvents 0 fn pos (Ij (stA r pre)))
 step:∀{Mem:Nat->Prop} {w0 n g w t B},¬Mem c->Ph w0 n g w t->PX Ac Still Mem Ak B 0 t->w.heap.size<=B->∀d,
  (∃n' g' w' es,n'<n/\stepG P false g (w.at d)=.go g' w' es/\BO Z w w'/\aj6 (fun B t=>PX Ac Still Mem Ak B 0 t) B w' (t++MemOp.ofEvents c g.frame.fn g.frame.place es)/\BP P c r pre ty o Ph X w0 n' g' w' (t++MemOp.ofEvents c g.frame.fn g.frame.place es))\/
  (∃n' g₂ cases shape es k cq z cap s r' tm,n'<n/\stepG P false g (w.at d)=.comm g₂ cases true shape (w.at d) es/\cases[k]?=some (rcase cq z)/\w.heap[cq]?=some (.chan cap #[] true s r' tm)/\(∀(m:Nat) cc,m≠k->cases[m]?=some cc->ET w cc)/\
   PX Ac Still Mem Ak B 0 (t++(MemOp.ofEvents c g.frame.fn g.frame.place es++#[{ g:=c,fn:=g₂.frame.fn,pos:=g₂.frame.place,act:=.recvClosed cq }]))/\
   BP P c r pre ty o Ph X w0 n' (Conc.served g₂ (commResult cases shape k z false)) (w.at d) (t++(MemOp.ofEvents c g.frame.fn g.frame.place es++#[{ g:=c,fn:=g₂.frame.fn,pos:=g₂.frame.place,act:=.recvClosed cq }])))
 low:∀{w0 n g w t d g' w' es st'},Ph w0 n g w t->stepG P false g (w.at d)=.go g' w' es->A7 r pre ty w' st' 1->False
 keep:Ql Z r X
def aJ (P:Program) (c r:Nat) (pre:X_) (ty:TypeId) (o:NR) (K:World->Prop) (Still:Loc->Prop) (cC:Array CommCase) (home:Goroutine->Prop) (kq cq:Nat) (zq:Value) (kR:Nat) (w0:Bool) (n:Nat) (g:Goroutine) (w:World) (t:Trace):Prop:=
 ∃k,n=k+1+(kR+(o.k1+o.k2+o.k3+o.k4+o.nF+o.nP+10))/\Il c r pre t/\K w/\o6 w cC kq cq zq/\A7 r pre ty w (if w0 then KK+1 else KK) 0/\Deaf t c=0/\Ov Still c t/\g.status=.running/\Fu P false K Still cC .select home k g
section
variable {P:Program} {Z:Nat->Prop} {Ac Still:Loc->Prop} {Mem Ak:Nat->Prop} {r:Nat} {pre:X_} {ty:TypeId} {c B:Nat} {t:Trace} {o:NR} {w0:Bool} {K:World->Prop} {cC:Array CommCase} {home:Goroutine->Prop} {kq cq kR:Nat} {zq:Value} {Ph:Bool->Nat->Goroutine->World->Trace->Prop} {X:World->Prop}
theorem Ns (O:KE P r pre ty o) (hZ:Z r) (hW:∀l,I8 r pre l->Ac l/\¬Still l) (hc:c≠0) (hM:¬Mem c) (hX:Ql Z r X):
  Fp P Z Ac Still (fun B t=>PX Ac Still Mem Ak B 0 t) c (fun n g w t=>Vy P c r pre ty o w0 n g w t/\X w):=by
 have OT:=uj (Z:=fun x=>x=r) (Ac:=Ac) (Still:=Still) (Mem:=Mem) (Ak:=Ak) (ty:=ty) (w0:=w0) O rfl hW hc hM;have hkz:∀{w w':World},GK Z w w'->GK (fun x=>x=r) w w':=fun hk x hx=>by subst hx;exact hk _ hZ
 refine⟨fun h=>OT.status h.1,fun h w' hk=>OT.again h.1 w' (hkz hk),fun w' u h hk hu=>⟨OT.calm w' u h.1 (hkz hk) hu,hX _ _ h.2 fun x _ hz=>hk x hz⟩,?_⟩;rintro n g w t B ⟨h,hq⟩ Bg Gw hB d;rcases OT.step h Bg Gw hB d with⟨n',g',w',es,a1,a2,a3,a4,a5⟩|⟨n',g₂,cs,sh,es,a1,a2,a3,a4,a5⟩|⟨n',g₂,cs,sh,es,k,c',z,cap,s,r',tm,a1,a2,a3,a4,a5,a6,a7⟩
 ·exact .inl ⟨n',g',w',es,a1,a2,⟨a3.size,fun x hx=>a3.same x (fun e=>hx (by rw[e];exact hZ)),a3.os,a3.output,a3.tape⟩,a4,a5,hX _ _ hq fun x hx _=>a3.same x hx⟩
 ·exact .inr (.inl ⟨n',g₂,cs,sh,es,a1,a2,a3,a4,a5,hX _ _ hq fun _ _ _=>rfl⟩)
 ·exact .inr (.inr ⟨n',g₂,cs,sh,es,k,c',z,cap,s,r',tm,a1,a2,a3,a4,a5,a6,a7,hX _ _ hq fun _ _ _=>rfl⟩)
theorem KU (H:JF P Z Ac Still Ak c r pre ty o Ph X) (O:KE P r pre ty o) (hZ:Z r) (hW:∀l,I8 r pre l->Ac l/\¬Still l) (hc:c≠0) (hM:¬Mem c):
  Fp P Z Ac Still (fun B t=>PX Ac Still Mem Ak B 0 t) c (BP P c r pre ty o Ph X w0) where
 status:=by
  rintro n g w t (h|h)
  ·exact .inl (H.status h)
  ·exact(Ns (Z:=Z) (Ac:=Ac) (Still:=Still) (Mem:=Mem) (Ak:=Ak) O hZ hW hc hM H.keep).status h
 again:=by
  rintro n g w t (h|h) w' hk
  ·exact again_running _ (.inl (H.status h).1)
  ·exact(Ns (Z:=Z) (Ac:=Ac) (Still:=Still) (Mem:=Mem) (Ak:=Ak) O hZ hW hc hM H.keep).again h w' hk
 calm:=by
  rintro n g w t w' u (h|h) hk hu
  ·exact .inl (H.calm w' u h hk hu)
  ·exact .inr ((Ns (Z:=Z) (Ac:=Ac) (Still:=Still) (Mem:=Mem) (Ak:=Ak) O hZ hW hc hM H.keep).calm w' u h hk hu)
 step:=by
  rintro n g w t B (h|h) Bg Gw hB d
  ·have hc0:(c==0)=false:=(by simpa using hc);rw[hc0];exact(H.step hM h Gw hB d).imp id .inr
  ·rcases(Ns (Z:=Z) (Ac:=Ac) (Still:=Still) (Mem:=Mem) (Ak:=Ak) O hZ hW hc hM H.keep).step h Bg Gw hB d with⟨n',g',w',es,a1,a2,a3,a4,a5⟩|⟨n',g₂,cs,sh,es,a1,a2,a3,a4,a5⟩|⟨n',g₂,cs,sh,es,k,c',z,cap,s,r',tm,a1,a2,a3,a4,a5,a6,a7⟩
   ·exact .inl ⟨n',g',w',es,a1,a2,a3,a4,.inr a5⟩
   ·exact .inr (.inl ⟨n',g₂,cs,sh,es,a1,a2,a3,a4,.inr a5⟩)
   ·exact .inr (.inr ⟨n',g₂,cs,sh,es,k,c',z,cap,s,r',tm,a1,a2,a3,a4,a5,a6,.inr a7⟩)
theorem Ve {u:Trace} (hu:Ry Ac Still c u):Deaf (t++u) c=Deaf t c:=Deaf_quiet fun op AO d=>by
 have BN:=(hu op AO).1;obtain⟨g,fn,pos,act⟩:=op;simp only at BN;cases act with
 | mark mm=>cases mm<;>simp[deafStep,BN]
 | _=>rfl
theorem Yf {w:World} {st sm:Int} {x:Nat} {ob:Obj} (hr:A7 r pre ty w st sm) (hx:w.heap[x]?=some ob) (hob:∀cells ty at_,ob≠.cells cells ty at_) (v:Value) (d:Nat):((w.at d).setCell (stA r pre) v).heap[x]?=some ob:=by
 have BN:r≠x:=fun e=>by subst e;unfold A7 at hr;rw[hr]at hx;exact hob _ _ _ (Option.some.inj hx).symm
 simp[World.setCell,World.at,stA,Array.getElem?_modify,BN,hx]
theorem uw (L:N9 Z Still K) (hzC:∀cc∈cC,∀c z,cc=rcase c z->Z c) (hZ:Z r) (hW:∀l,I8 r pre l->Ac l/\¬Still l) (hc:c≠0) (hL:Ak c)
  (hR:∀g₂,home g₂->IJ P (Cv r pre ty) false kR (Conc.served g₂ (commResult cC .select kq zq false)) o.gR) (hKs:∀w (n:Int) d,K w->K ((w.at d).setCell (stA r pre) (.int .u64 n))):
  JF P Z Ac Still Ak c r pre ty o (aJ P c r pre ty o K Still cC home kq cq zq kR) (fun _=>True) where
 status:=by
  rintro w0 n g w t ⟨k,rfl,_,_,_,_,_,_,hs,_⟩
  exact⟨hs,by omega⟩
 run:=by
  rintro w0 n g w t ⟨k,_,_,_,_,h,_⟩
  exact h
 calm:=by
  rintro w0 n g w t w' u ⟨k,h1,h2,h3,⟨s1,⟨k',s2⟩,s3⟩,h5,h6,h7,h8,h9⟩ hk hu
  refine⟨k,h1,h2.calm (fun l hl=>(hW l hl).1) hu,L.keep w w' hk h3,⟨s1,⟨k',?_⟩,fun m cc hm Fa=>?_⟩,h5.keep hZ hk,(Ve hu).trans h6,h7.app fun op AO b hb hs=>(((hu op AO).2.1 b hb).1 hs).1,h8,h9⟩
  ·rw[hk cq (hzC _ (Array.mem_of_getElem? s1) _ _ rfl)];exact s2
  ·obtain⟨c',z',k'',e,hc'⟩:=s3 m cc hm Fa;exact⟨c',z',k'',e,by rw[hk c' (hzC _ (Array.mem_of_getElem? Fa) _ _ e)];exact hc'⟩
 mark:=by
  rintro w0 n g w t es fn pos d Ex ⟨k,h1,h2,h3,h4,h5,h6,h7,h8,h9⟩
  have Cw:GK Z w (w.at d):=fun _ _=>rfl
  refine⟨k,h1,h2.app fun op AO b hb _=>?_,L.keep w _ Cw h3,h4,h5.keep hZ Cw,by rw[Deaf_other t (g':=0) (Ne.symm hc) _ ofEvents_g];exact h6,h7.app fun op AO b hb=>?_,h8,h9⟩
  ·obtain⟨e,he,rfl⟩:=Go.Conc.mem_ofEvents AO;rw[(Ex e he).1]at hb;cases hb
  ·obtain⟨e,he,rfl⟩:=Go.Conc.mem_ofEvents AO;rw[(Ex e he).1]at hb;cases hb
 up:=by
  rintro n g w t fn pos d Li ⟨k,h1,h2,h3,⟨s1,⟨k',s2⟩,s3⟩,h5,h6,h7,h8,h9⟩
  have EY:∀op∈MemOp.ofEvents 0 fn pos (Ij (stA r pre)),op.act.touch?=some ⟨.cell (stA r pre),false,.atomic⟩\/op.act.touch?=some ⟨.cell (stA r pre),true,.atomic⟩:=by
   intro op AO
   obtain⟨e,he,rfl⟩:=Go.Conc.mem_ofEvents AO
   simp only[Ij,List.mem_toArray,List.mem_cons,List.not_mem_nil,or_false]at he
   rcases he with rfl|rfl
   ·exact .inl rfl
   ·exact .inr rfl
  refine⟨k,h1,h2.app fun op AO b hb _=>?_,hKs _ _ _ h3,⟨s1,⟨k',Yf Li s2 (by simp) _ d⟩,fun m cc hm Fa=>?_⟩,A7.setSt (w:=w.at d) Li _,by rw[Deaf_other t (g':=0) (Ne.symm hc) _ ofEvents_g];exact h6,h7.app fun op AO b hb hs=>?_,h8,h9⟩
  ·rcases EY op AO with e|e<;>(rw[e]at hb;obtain rfl:=Option.some.inj hb;simp)
  ·obtain⟨c',z',k2,e,h⟩:=s3 m cc hm Fa;exact⟨c',z',k2,e,Yf Li h (by simp) _ d⟩
  ·rcases EY op AO with e|e<;>(rw[e]at hb;obtain rfl:=Option.some.inj hb)
   ·rfl
   ·exact((hW _ (.inl rfl)).2 hs).elim
 step:=by
  rintro Mem w0 n g w t B hM ⟨k,rfl,h2,h3,⟨s1,⟨k',s2⟩,s3⟩,h5,h6,h7,h8,h9⟩ Gw hB d
  have Rh:K (w.at d):=L.keep w (w.at d) (fun _ _=>rfl) h3
  cases k with
  | zero=>
   obtain⟨g₂,es,hh,hr,Ex,BH⟩:=h9
   obtain⟨r1,r2,r3⟩:=FM (B:=B) (i:=c) (fn:=g.frame.fn) (pos:=g.frame.place) L h3 hB Ex
   have TQ:=Gw.Yh h7 hM hL ofEvents_g r1 r3
   have hcB:cq<B:=by have:=(Array.getElem?_eq_some_iff.1 s2).1;omega
   have hn:∀op∈(#[{ g:=c,fn:=g₂.frame.fn,pos:=g₂.frame.place,act:=.recvClosed cq }]:Trace),op.g=c/\op.act.touch?=none/\op.act.low B/\(∀d,deafStep c d op=d):=by
    intro op AO
    simp only[List.mem_toArray,List.mem_cons,List.not_mem_nil,or_false]at AO
    subst AO
    exact⟨rfl,rfl,hcB,fun _=>rfl⟩
   refine .inr ⟨kR+(o.k1+o.k2+o.k3+o.k4+o.nF+o.nP+10),g₂,cC,.select,es,kq,cq,zq,0,k',k',false,by omega,BH _ Rh,s1,s2,s3,?_,.inr ⟨⟨?_,.inl ⟨kR,rfl,hR g₂ hh,h5.keep hZ (fun _ _=>rfl),?_⟩⟩,trivial⟩⟩
   ·rw[<-Array.append_assoc];exact TQ.appMute (fun op AO=>(hn op AO).1) (fun op AO=>(hn op AO).2.1) (fun x=>(hM x).elim) (fun op AO=>(hn op AO).2.2.1)
   ·rw[<-Array.append_assoc];refine(h2.app fun op AO b hb hw=>?_).app fun op AO b hb _=>by rw[(hn op AO).2.1]at hb;cases hb
    exact((hW _ hw).2 (r1 op AO b hb).2).elim
   ·rw[<-Array.append_assoc,Deaf_quiet (fun op AO d=>(hn op AO).2.2.2 d),r2 t];exact h6
  | succ k=>
   obtain⟨g',es,hr,Ex,BH,hw'⟩:=h9
   obtain⟨r1,r2,r3⟩:=FM (B:=B) (i:=c) (fn:=g.frame.fn) (pos:=g.frame.place) L h3 hB Ex
   refine .inl ⟨k+1+(kR+(o.k1+o.k2+o.k3+o.k4+o.nF+o.nP+10)),g',w.at d,es,by omega,BH _ Rh,BO.at w d,⟨B,Nat.le_refl _,hB,Gw.Yh h7 hM hL ofEvents_g r1 r3⟩,.inl ⟨k,rfl,?_,Rh,⟨s1,⟨k',s2⟩,s3⟩,h5.keep hZ (fun _ _=>rfl),(r2 t).trans h6,h7.app fun op AO b hb _=>(r1 op AO b hb).1,hr,hw'⟩⟩
   exact h2.app fun op AO b hb hw=>((hW _ hw).2 (r1 op AO b hb).2).elim
 low:=by
  rintro w0 n g w t d g' w' es st' ⟨k,_,_,h3,_,h5,_,_,_,h9⟩ hs h1
  have Cw:GK Z w (w.at d):=fun _ _=>rfl
  have Rh:K (w.at d):=L.keep w (w.at d) Cw h3
  cases k with
  | zero=>obtain⟨g₂,BQ,_,_,_,GA⟩:=h9;rw[GA _ Rh]at hs;cases hs
  | succ k=>
   obtain⟨g1,BQ,_,_,hgo,_⟩:=h9
   rw[hgo _ Rh]at hs
   injection hs with _ hw _
   subst hw
   exact absurd ((h5.keep hZ Cw).eq h1).2 (by decide)
 keep:=fun _ _ _ _=>trivial
def aj7 (_:Bool) (_:Nat) (_:Goroutine) (_:World) (_:Trace):Prop:=False
theorem xX:JF P Z Ac Still Ak c r pre ty o aj7 (fun _=>True):=
 ⟨fun h=>h.elim,fun h=>h.elim,fun _ _ h=>h.elim,fun _ _ h=>h.elim,fun _ _ h=>h.elim,fun _ h=>h.elim,fun h=>h.elim,fun _ _ _ _=>trivial⟩
theorem BO.sub {Z':Nat->Prop} {w w':World} (hs:∀x,Z x->Z' x) (h:BO Z w w'):BO Z' w w':=⟨h.size,fun x hx=>h.same x (fun e=>hx (hs x e)),h.os,h.output,h.tape⟩
theorem JF.sub {Z':Nat->Prop} (H:JF P Z Ac Still Ak c r pre ty o Ph X) (hs:∀x,Z x->Z' x):JF P Z' Ac Still Ak c r pre ty o Ph X:=
 ⟨H.status,H.run,fun w' u h hk hu=>H.calm w' u h (fun x hx=>hk x (hs x hx)) hu,H.mark,H.up,fun hM h Gw hB d=>(H.step hM h Gw hB d).imp (fun⟨n',g',w',es,a1,a2,a3,a4⟩=>⟨n',g',w',es,a1,a2,a3.sub hs,a4⟩) id,H.low,fun w w' hx hk=>H.keep w w' hx fun x hr hz=>hk x hr (hs x hz)⟩
theorem dX {Z':Nat->Prop} {X2:World->Prop} (H:JF P Z Ac Still Ak c r pre ty o Ph X) (O:KE P r pre ty o) (hZ:Z r) (hW:∀l,I8 r pre l->Ac l/\¬Still l) (hc:c≠0) (hM:¬Mem c) (hs:∀x,Z x->Z' x) (hX2:∀w w':World,X2 w->(∀x,¬Z x->Z' x->w'.heap[x]?=w.heap[x]?)->X2 w'):
  Fp P Z' Ac Still (fun B t=>PX Ac Still Mem Ak B 0 t) c (fun n g w t=>BP P c r pre ty o Ph X w0 n g w t/\X2 w):=by
 have OT:=KU (Mem:=Mem) (w0:=w0) H O hZ hW hc hM;have hkz:∀{w w':World},GK Z' w w'->GK Z w w':=fun hk x hx=>hk x (hs x hx)
 refine⟨fun h=>OT.status h.1,fun h w' hk=>OT.again h.1 w' (hkz hk),fun w' u h hk hu=>⟨OT.calm w' u h.1 (hkz hk) hu,hX2 _ _ h.2 fun x _ hz=>hk x hz⟩,?_⟩;rintro n g w t B ⟨h,hq⟩ Bg Gw hB d;rcases OT.step h Bg Gw hB d with⟨n',g',w',es,a1,a2,a3,a4,a5⟩|⟨n',g₂,cs,sh,es,a1,a2,a3,a4,a5⟩|⟨n',g₂,cs,sh,es,k,c',z,cap,s,r',tm,a1,a2,a3,a4,a5,a6,a7⟩
 ·exact .inl ⟨n',g',w',es,a1,a2,a3.sub hs,a4,a5,hX2 _ _ hq fun x hx _=>a3.same x hx⟩
 ·exact .inr (.inl ⟨n',g₂,cs,sh,es,a1,a2,a3,a4,a5,hX2 _ _ hq fun _ _ _=>rfl⟩)
 ·exact .inr (.inr ⟨n',g₂,cs,sh,es,k,c',z,cap,s,r',tm,a1,a2,a3,a4,a5,a6,a7,hX2 _ _ hq fun _ _ _=>rfl⟩)
def DU (δ:Nat) (By:Nat->Goroutine->World->Trace->Prop) (n:Nat) (g:Goroutine) (w:World) (t:Trace):Prop:=By n g w t/\Deaf t 0=δ
theorem dU {j:Nat} {u:Trace} (hu:Ry Ac Still j u):Deaf (t++u) 0=Deaf t 0:=Deaf_quiet fun op AO d=>by
 have hx:=(hu op AO).2.2.2;obtain⟨g,fn,pos,act⟩:=op;cases act with
 | mark mm=>
  cases mm with
  | disable=>have:=hx (.inl rfl);simp only at this;simp[deafStep,this]
  | enable=>have:=hx (.inr rfl);simp only at this;simp[deafStep,this]
  | _=>rfl
 | _=>rfl
theorem Pf {δ j:Nat} {Tr:Nat->Trace->Prop} {By:Nat->Goroutine->World->Trace->Prop} (hj:j≠0) (O:Fp P Z Ac Still Tr j By):Fp P Z Ac Still Tr j (DU δ By) where
 status h:=O.status h.1
 again h:=O.again h.1
 calm w' u h hk hu:=⟨O.calm w' u h.1 hk hu,(dU hu).trans h.2⟩
 step:=by
  rintro n g w t B ⟨h,hd⟩ Bg Gw hB d
  rcases O.step h Bg Gw hB d with⟨n',g',w',es,a1,a2,a3,a4,a5⟩|⟨n',g₂,cs,sh,es,a1,a2,a3,a4,a5⟩|⟨n',g₂,cs,sh,es,k,c',z,cap,s,r',tm,a1,a2,a3,a4,a5,a6,a7⟩
  ·exact .inl ⟨n',g',w',es,a1,a2,a3,a4,a5,by rw[Deaf_other t (g':=j) hj _ ofEvents_g];exact hd⟩
  ·exact .inr (.inl ⟨n',g₂,cs,sh,es,a1,a2,a3,a4,a5,by rw[Deaf_other t (g':=j) hj _ ofEvents_g];exact hd⟩)
  ·refine .inr (.inr ⟨n',g₂,cs,sh,es,k,c',z,cap,s,r',tm,a1,a2,a3,a4,a5,a6,a7,?_⟩);rw[Deaf_other t (g':=j) hj _ (fun op AO=>by
    rcases Array.mem_append.1 AO with AO|AO
    ·exact ofEvents_g op AO
    ·simp at AO;subst AO;rfl)]
   exact hd
theorem ui {n:Nat} {g:Goroutine} {w:World} {t:Trace} (h:Vy P c r pre ty o w0 n g w t):Cv r pre ty w:=by
 obtain⟨_,⟨_,_,_,h,_⟩|⟨_,_,_,_,h,_⟩|⟨_,_,_,_,h,_⟩|⟨_,_,_,h,_⟩|⟨_,_,_,_,_,h,_⟩|⟨_,_,_,_,_,h,_⟩|⟨_,_,_,h,_⟩⟩:=h<;>exact⟨_,_,h⟩
theorem Sl (H:JF P Z Ac Still Ak c r pre ty o Ph X) {n:Nat} {g:Goroutine} {w:World} {t:Trace} (h:BP P c r pre ty o Ph X w0 n g w t):Cv r pre ty w:=by
 rcases h with h|h
 ·exact⟨_,_,H.run h⟩
 ·exact ui h.1
theorem FJ {h j:Nat} {By:Nat->Goroutine->World->Trace->Prop} {J:World->Prop} (hJ:∀n b w t,By n b w t->∀d,J (w.at d)) (O:Fp P Z Ac Still (fun B t=>PX Ac Still Mem Ak B h t) j By) {a':Goroutine}:∀(k:Nat) {a:Goroutine} (_:IJ P J (h==0) k a a') {n B:Nat} {gs:Array Goroutine} {w:World} {sl:Option (W_)} {t:Trace} {q:Nat->Nat},
  gs[h]?=some a->Duo P Ac Still Mem Ak B h j By n gs w t q->AB P gs w sl t fun AZ w' t'=>∃q' n' B',AZ[h]?=some a'/\BO Z w w'/\B<=B'/\Duo P Ac Still Mem Ak B' h j By n' AZ w' t' q'
 | 0,a,hs,n,B,gs,w,sl,t,q,h0,D=>.now ⟨q,n,B,by rw[h0,show a=a' from hs],BO.refl w,Nat.le_refl _,D⟩
 | k+1,a,hs,n,B,gs,w,sl,t,q,h0,D=>by
  obtain⟨Bg,a1,BH,FD⟩:=hs
  refine go_duo (IQ:=Mem) (Loose':=Ak) O h0 Bg D D.mem fun B1 hB1 w1 hsz1 n1 b1 t1 ho hB hp d=>⟨a1,w1.at d,#[],B1,BH _ (hJ _ _ _ _ hB d),Nat.le_refl _,hsz1,by rw[CG];exact hp,By,n1,?_,fun AZ q' n' hz h1 D1 Cz=>?_⟩
  ·rw[CG,woken_of_again (O.again hB (w1.at d) (fun _ _=>rfl))];have:=O.calm (w1.at d) #[] hB (fun _ _=>rfl) (fun op AO=>by simp at AO);simpa using this
  ·exact(FJ hJ O k FD h1 D1).mono fun gs'' Jl t'' ⟨q'',n'',B'',j1,j2,j3,j4⟩=>⟨q'',n'',B'',j1,ho.trans ((BO.at w1 d).trans j2),Nat.le_trans hB1 j3,j4⟩
end
end Go.Fxa
