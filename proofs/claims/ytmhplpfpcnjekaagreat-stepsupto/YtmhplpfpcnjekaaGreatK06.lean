/- The child's way out: it releases, goes deaf, counts itself off the group, and leaves. The channel 'quit' is closed: the child, on its way to its select or parked there, finds it so and leaves. The close of 'quit'; and the group's Wait, fast or slow. -/
import Derived.Test.YtmhplpfpcnjekaaGreatK05
import Derived.Conc.AtomicLaws2
import Derived.Conc.MarkLaws
namespace Go.Fxa
open Go.Conc
open Go.ConcN (sumTo upd sumTo_upd upd_ne upd_same)
def KK:Int:=4294967296
def relMark (a:Addr):Event:=⟨.mark (.releaseMerge a),false,true⟩
def acqMark (a:Addr):Event:=⟨.mark (.acquire a),false,true⟩
def ao8:Event:=⟨.mark .disable,false,true⟩
def enaMark:Event:=⟨.mark .enable,false,true⟩
def rwEv (a:Addr):Array Event:=#[⟨.cell a,false,true⟩,⟨.cell a,true,true⟩]
def RunAt (r:Nat) (pre:Array Value) (ty:TypeId) (w:World) (st sm:Int):Prop:=w.heap[r]?=some (.cells (pre++#[.int .u64 st,.int .u32 sm]) ty (0,0))
def stA (r:Nat) (pre:Array Value):Addr:=⟨r,pre.size,none⟩
def smA (r:Nat) (pre:Array Value):Addr:=⟨r,pre.size+1,none⟩
section
variable {r:Nat} {pre:Array Value} {ty:TypeId} {w:World} {st sm:Int}
theorem RunAt.cellSt (h:RunAt r pre ty w st sm):w.cell? (stA r pre)=some (.int .u64 st):=by
 unfold World.cell? stA;unfold RunAt at h;simp only;rw[h]
 simp
theorem RunAt.cellSm (h:RunAt r pre ty w st sm):w.cell? (smA r pre)=some (.int .u32 sm):=by
 unfold World.cell? smA;unfold RunAt at h;simp only;rw[h]
 simp
theorem RunAt.thawSt (h:RunAt r pre ty w st sm):w.frozen? (stA r pre)=false:=by
 unfold World.frozen? stA;unfold RunAt at h;simp only;rw[h];simp
theorem RunAt.thawSm (h:RunAt r pre ty w st sm):w.frozen? (smA r pre)=false:=by
 unfold World.frozen? smA;unfold RunAt at h;simp only;rw[h];simp
theorem RunAt.setSt (h:RunAt r pre ty w st sm) (st':Int):RunAt r pre ty (w.setCell (stA r pre) (.int .u64 st')) st' sm:=by
 unfold RunAt at h ⊢
 simp only[World.setCell,stA,Array.getElem?_modify,if_true,h,Option.map_some,Option.some.injEq]
 have:(pre++#[Value.int .u64 st,.int .u32 sm]).setIfInBounds pre.size (.int .u64 st')=pre++#[Value.int .u64 st',.int .u32 sm]:=by
  apply Array.ext'
  simp
 simp[this]
theorem RunAt.setSm (h:RunAt r pre ty w st sm) (sm':Int):RunAt r pre ty (w.setCell (smA r pre) (.int .u32 sm')) st sm':=by
 unfold RunAt at h ⊢
 simp only[World.setCell,smA,Array.getElem?_modify,if_true,h,Option.map_some,Option.some.injEq]
 have:(pre++#[Value.int .u64 st,.int .u32 sm]).setIfInBounds (pre.size+1) (.int .u32 sm')=pre++#[Value.int .u64 st,.int .u32 sm']:=by
  apply Array.ext'
  simp
 simp[this]
theorem RunAt.lt (h:RunAt r pre ty w st sm):r<w.heap.size:=(Array.getElem?_eq_some_iff.1 h).1
theorem RunAt.keep {Z:Nat→Prop} {w':World} (h:RunAt r pre ty w st sm) (hz:Z r) (hk:KeepZ Z w w'):RunAt r pre ty w' st sm:=by
 unfold RunAt;rw[hk r hz];exact h
theorem RunAt.eq {st' sm':Int} (h:RunAt r pre ty w st sm) (h':RunAt r pre ty w st' sm'):st=st'∧sm=sm':=by
 have h1:=h.cellSt;have h2:=h.cellSm
 rw[h'.cellSt]at h1;rw[h'.cellSm]at h2
 simp only[Option.some.injEq,Value.int.injEq,true_and]at h1 h2
 exact⟨h1.symm,h2.symm⟩
theorem offZ_set {Z:Nat→Prop} {a:Addr} (hz:Z a.block) (x:Value) (d:Nat):OffZ Z w ((w.at d).setCell a x):=by
 refine⟨by simp[World.setCell,World.at],fun k hk=>?_,rfl,rfl,rfl⟩
 have:a.block≠k:=fun e=>hk (e ▸ hz)
 simp[World.setCell,World.at,Array.getElem?_modify,this]
end
def IsRun (r:Nat) (pre:Array Value) (ty:TypeId) (w:World):Prop:=∃st sm,RunAt r pre ty w st sm
theorem RunAt.is {r:Nat} {pre:Array Value} {ty:TypeId} {w:World} {st sm:Int} (h:RunAt r pre ty w st sm) (d:Nat):IsRun r pre ty (w.at d):=⟨st,sm,h⟩
def Sil (P:Program) (J:World→Prop) (main:Bool):Nat→Goroutine→Goroutine→Prop
 | 0,g,g'=>g=g'
 | n+1,g,g'=>g.status=.running∧∃g1,(∀w,J w→stepG P main g w=.go g1 w #[])∧Sil P J main n g1 g'
theorem Sil.status {P:Program} {J:World→Prop} {main:Bool} {g':Goroutine} (hs:g'.status=.running):∀{n:Nat} {g:Goroutine},Sil P J main n g g'→g.status=.running
 | 0,_,h=>h ▸ hs
 | _+1,_,h=>h.1
def Lod (P:Program) (r:Nat) (pre:Array Value) (ty:TypeId):Nat→Goroutine→Goroutine→Prop
 | 0,g,g'=>g=g'
 | n+1,g,g'=>g.status=.running∧∃g1 l,(l=[]∨l=[(⟨.cell (stA r pre),false,true⟩:Event)])∧(∀w,RunAt r pre ty w 1 0→stepG P false g w=.go g1 w l.toArray)∧Lod P r pre ty n g1 g'
theorem Lod.status {P:Program} {r:Nat} {pre:Array Value} {ty:TypeId} {g':Goroutine} (hs:g'.status=.running):∀{n:Nat} {g:Goroutine},Lod P r pre ty n g g'→g.status=.running
 | 0,_,h=>h ▸ hs
 | _+1,_,h=>h.1
structure Outs where
 gR:Goroutine
 gR':Goroutine
 gD:Goroutine
 gD':Goroutine
 gA:Goroutine
 gF:Goroutine
 gW:Goroutine
 gS:Goroutine
 gS':Goroutine
 gP:Goroutine
 gP':Goroutine
 k1:Nat
 k2:Nat
 k3:Nat
 k4:Nat
 nF:Nat
 nP:Nat
structure OutsOk (P:Program) (r:Nat) (pre:Array Value) (ty:TypeId) (o:Outs):Prop where
 runs:o.gR.status=.running∧o.gD.status=.running∧o.gA.status=.running∧o.gS.status=.running∧o.gP.status=.running
 rel:∀w,stepG P false o.gR w=.go o.gR' w #[relMark (stA r pre)]
 s1:Sil P (IsRun r pre ty) false o.k1 o.gR' o.gD
 dis:∀w,stepG P false o.gD w=.go o.gD' w #[ao8]
 s2:Sil P (IsRun r pre ty) false o.k2 o.gD' o.gA
 add0:∀w,w.cell? (stA r pre)=some (.int .u64 KK)→w.frozen? (stA r pre)=false→stepG P false o.gA w=.go o.gF (w.setCell (stA r pre) (.int .u64 0)) (rwEv (stA r pre))
 fin0:QuitsD P o.nF 1 o.gF
 add1:∀w,w.cell? (stA r pre)=some (.int .u64 (KK+1))→w.frozen? (stA r pre)=false→stepG P false o.gA w=.go o.gW (w.setCell (stA r pre) (.int .u64 1)) (rwEv (stA r pre))
 s3:Lod P r pre ty o.k3 o.gW o.gS
 sto:∀w,w.cell? (stA r pre)=some (.int .u64 1)→w.frozen? (stA r pre)=false→stepG P false o.gS w=.go o.gS' (w.setCell (stA r pre) (.int .u64 0)) #[⟨.cell (stA r pre),true,true⟩]
 s4:Sil P (IsRun r pre ty) false o.k4 o.gS' o.gP
 sem:∀w,w.cell? (smA r pre)=some (.int .u32 0)→w.frozen? (smA r pre)=false→stepG P false o.gP w=.go o.gP' (w.setCell (smA r pre) (.int .u32 1)) (semEvents (smA r pre))
 fin1:QuitsD P o.nP 1 o.gP'
 wake:mayWake P o.gP=true∧o.gP'.status=.running
def OfW (r:Nat) (pre:Array Value) (l:Loc):Prop:=l=.cell (stA r pre)∨l=.cell (smA r pre)
structure RelM (c:Nat) (r:Nat) (pre:Array Value) (m:Nat) (t:Trace):Prop where
 at_:∃op,t[m]?=some op∧op.g=c∧op.act=.mark (.releaseMerge (stA r pre))
 heard:t.deaf c m=0
 after:∀i b,m≤i→touchAt t i=some b→t.g? i=some c→OfW r pre b.loc∧b.kind=.atomic∧¬t.heard i
 norel:∀k,m<k→t.act? k≠some (.mark (.release (stA r pre)))
def NoPl (c r:Nat) (pre:Array Value) (t:Trace):Prop:=∀i a,touchAt t i=some a→OfW r pre a.loc→a.kind=.plain→Knows t c i
section
variable {P:Program} {Z:Nat→Prop} {Shun Still:Loc→Prop} {r:Nat} {pre:Array Value} {ty:TypeId} {c m:Nat} {t u:Trace} {o:Outs}
theorem NoPl.app (h:NoPl c r pre t) (hu:∀op∈u,∀b,op.act.touch?=some b→OfW r pre b.loc→b.kind≠.plain):NoPl c r pre (t++u):=by
 intro i a ha hw hp
 obtain⟨x,hx,hxa⟩:=touch_of ha
 rcases getElem?_append_cases hx with⟨_,hx'⟩|⟨_,hxu⟩
 ·exact(h i a (by rw[touchAt_of hx'];exact hxa) hw hp).app u
 ·exact(hu x hxu a hxa hw hp).elim
theorem RelM.app (h:RelM c r pre m t) (hu:∀op∈u,op.act≠.mark (.release (stA r pre))) (ha:∀k op b,u[k]?=some op→op.g=c→op.act.touch?=some b→OfW r pre b.loc∧b.kind=.atomic∧(t++u).deaf c (t.size+k)≠0):RelM c r pre m (t++u):=by
 obtain⟨op,hop,hg,hact⟩:=h.at_
 have hlt:=lt_size_of_getElem? hop
 refine⟨⟨op,by rw[getElem?_append_old hlt];exact hop,hg,hact⟩,by rw[deaf_old (Nat.le_of_lt hlt)];exact h.heard,fun i b hi hb hgi=>?_,fun k hk e=>?_⟩
 ·obtain⟨x,hx,hxa⟩:=touch_of hb
  rcases getElem?_append_cases hx with⟨hil,hx'⟩|⟨hge,_⟩
  ·rw[g?_old hil]at hgi
   have:=h.after i b hi (by rw[touchAt_of hx'];exact hxa) hgi
   exact⟨this.1,this.2.1,by rw[heard_old hil];exact this.2.2⟩
  ·have hxu:u[i-t.size]?=some x:=by
    rw[←hx,Array.getElem?_append_right hge]
   have hxg:x.g=c:=by rw[g?_of hx]at hgi;exact Option.some.inj hgi
   obtain⟨h1,h2,h3⟩:=ha (i-t.size) x b hxu hxg hxa
   refine⟨h1,h2,?_⟩
   rintro⟨g',hg',hd'⟩
   rw[hgi]at hg'
   obtain rfl:=Option.some.inj hg'
   rw[show t.size+(i-t.size)=i from by omega]at h3
   exact h3 hd'
 ·obtain⟨x,hx,hxa⟩:=Option.map_eq_some_iff.1 (show((t++u)[k]?).map (·.act)=_ from e)
  rcases getElem?_append_cases hx with⟨hil,hx'⟩|⟨_,hxu⟩
  ·exact h.norel k hk (by rw[act?_of hx',hxa])
  ·exact hu x hxu hxa
theorem RelM.calm (h:RelM c r pre m t) (hu:Meek Shun Still c u):RelM c r pre m (t++u):=
 h.app (fun op hop=>(hu op hop).2.2.1 _) fun _ op _ hk hg _=>((hu op (Array.mem_of_getElem? hk)).1 hg).elim
theorem NoPl.calm (h:NoPl c r pre t) (hW:∀l,OfW r pre l→Shun l) (hu:Meek Shun Still c u):NoPl c r pre (t++u):=
 h.app fun op hop b hb hw=>((hu op hop).2.1 b hb).2 (hW _ hw)
end
def TailBy (P:Program) (c r:Nat) (pre:Array Value) (ty:TypeId) (o:Outs) (w0:Bool) (n:Nat) (g:Goroutine) (w:World) (t:Trace):Prop:=
 NoPl c r pre t∧
 ((∃k,n=k+(o.k1+o.k2+o.k3+o.k4+o.nF+o.nP+10)∧Sil P (IsRun r pre ty) false k g o.gR∧RunAt r pre ty w (if w0 then KK+1 else KK) 0∧Deaf t c=0)∨
  (∃m k,n=k+(o.k2+o.k3+o.k4+o.nF+o.nP+8)∧Sil P (IsRun r pre ty) false k g o.gD∧RunAt r pre ty w (if w0 then KK+1 else KK) 0∧Deaf t c=0∧RelM c r pre m t)∨
  (∃m k,n=k+(o.k3+o.k4+o.nF+o.nP+6)∧Sil P (IsRun r pre ty) false k g o.gA∧RunAt r pre ty w (if w0 then KK+1 else KK) 0∧Deaf t c=1∧RelM c r pre m t)∨
  (w0=false∧∃m,QuitsD P n (Deaf t c) g∧RunAt r pre ty w 0 0∧RelM c r pre m t)∨
  (w0=true∧∃m k,n=k+(o.k4+o.nP+4)∧Lod P r pre ty k g o.gS∧RunAt r pre ty w 1 0∧Deaf t c=1∧RelM c r pre m t)∨
  (w0=true∧∃m k,n=k+(o.nP+2)∧Sil P (IsRun r pre ty) false k g o.gP∧RunAt r pre ty w 0 0∧Deaf t c=1∧RelM c r pre m t)∨
  (w0=true∧∃m,QuitsD P n (Deaf t c) g∧RunAt r pre ty w 0 1∧RelM c r pre m t))
section
variable {P:Program} {Z:Nat→Prop} {Shun Still:Loc→Prop} {Mem Loose:Nat→Prop} {r:Nat} {pre:Array Value} {ty:TypeId} {c B:Nat} {t:Trace} {o:Outs} {w0:Bool}
theorem ae3 (g:Nat) (fn:FuncId) (pos:String):t++MemOp.ofEvents g fn pos #[]=t:=by simp[MemOp.ofEvents]
theorem px_mark (H:PX Shun Still Mem Loose B 0 t) (hM:¬Mem c) {fn:FuncId} {pos:String} {es:Array Event} (hes:∀e∈es,(MemAct.ofEvent e).touch?=none∧(MemAct.ofEvent e).low B):PX Shun Still Mem Loose B 0 (t++MemOp.ofEvents c fn pos es):=
 H.appMute aa6 (fun op hop=>by obtain⟨e,he,rfl⟩:=Go.Conc.mem_ofEvents hop;exact(hes e he).1) (fun x=>(hM x).elim) (fun op hop=>by obtain⟨e,he,rfl⟩:=Go.Conc.mem_ofEvents hop;exact(hes e he).2)
theorem ah6 (H:NoPl c r pre t) {g:Nat} {fn:FuncId} {pos:String} {es:Array Event} (hes:∀e∈es,∀b,(MemAct.ofEvent e).touch?=some b→b.kind≠.plain):NoPl c r pre (t++MemOp.ofEvents g fn pos es):=
 H.app fun op hop b hb _=>by obtain⟨e,he,rfl⟩:=Go.Conc.mem_ofEvents hop;exact hes e he b hb
theorem deaf_at (t:Trace) (g:Nat) (fn:FuncId) (pos:String):∀(l:List Event) (k:Nat),k≤l.length→(t++MemOp.ofEvents g fn pos l.toArray).deaf g (t.size+k)=deafBehind (Deaf t g) (l.take k).toArray:=by
 intro l k
 induction k with
 | zero=>intro _;simp only[Nat.add_zero,List.take_zero];rw[deaf_old (Nat.le_refl _)];rfl
 | succ k ih=>
  intro hk
  have hy:(t++MemOp.ofEvents g fn pos l.toArray)[t.size+k]?=some { g:=g,fn:=fn,pos:=pos,act:=.ofEvent l[k] }:=by
   rw[at_new,ofEvents_eq]
   simp[List.getElem?_eq_getElem (show k<l.length by omega)]
  rw[←Nat.add_assoc,deaf_succ hy,ih (by omega),List.take_succ_eq_append_getElem (by omega)]
  simp only[deafBehind,List.foldl_toArray',List.foldl_append,List.foldl_cons,List.foldl_nil]
  generalize List.foldl _ (Deaf t g) (List.take k l)=x
  cases hl:l[k]with
  | mk loc wr sy=>
   cases loc with
   | obj q=>cases wr<;>cases sy<;>rfl
   | mark mm=>cases mm<;>simp[deafStep,MemAct.ofEvent]
   | _=>rfl
theorem px_deaf (H:PX Shun Still Mem Loose B 0 t) (hW:∀l,OfW r pre l→Shun l∧¬Still l) (hM:¬Mem c) (hN:NoPl c r pre t) {fn:FuncId} {pos:String} {l:List Event}
  (hes:∀e∈l,(∀b,(MemAct.ofEvent e).touch?=some b→OfW r pre b.loc∧b.kind=.atomic)∧(MemAct.ofEvent e).low B) (hd:∀k,k<l.length→deafBehind (Deaf t c) (l.take k).toArray≠0):PX Shun Still Mem Loose B 0 (t++MemOp.ofEvents c fn pos l.toArray):=by
 refine H.appDeaf (W:=OfW r pre) hW hN hM aa6 (fun op hop b hb=>?_) (fun k hk=>?_) (fun op hop=>?_)
 ·obtain⟨e,he,rfl⟩:=Go.Conc.mem_ofEvents hop
  exact(hes e (by simpa using he)).1 b hb
 ·have:k<l.length:=by rw[ofEvents_eq]at hk;simpa using hk
  rw[deaf_at _ _ _ _ _ _ (by omega)]
  exact hd k this
 ·obtain⟨e,he,rfl⟩:=Go.Conc.mem_ofEvents hop
  exact(hes e (by simpa using he)).2
theorem relM_deaf {m:Nat} (H:RelM c r pre m t) {fn:FuncId} {pos:String} {l:List Event}
  (hes:∀e∈l,(∀b,(MemAct.ofEvent e).touch?=some b→OfW r pre b.loc∧b.kind=.atomic)∧MemAct.ofEvent e≠.mark (.release (stA r pre))) (hd:∀k,k<l.length→deafBehind (Deaf t c) (l.take k).toArray≠0):RelM c r pre m (t++MemOp.ofEvents c fn pos l.toArray):=by
 refine H.app (fun op hop=>?_) (fun k op b hk _ hb=>?_)
 ·obtain⟨e,he,rfl⟩:=Go.Conc.mem_ofEvents hop
  exact(hes e (by simpa using he)).2
 ·have hlt:k<l.length:=by
   have:=(Array.getElem?_eq_some_iff.1 hk).1
   rw[ofEvents_eq]at this;simpa using this
  obtain⟨e,he,rfl⟩:=Go.Conc.mem_ofEvents (Array.mem_of_getElem? hk)
  have h1:=(hes e (by simpa using he)).1 b hb
  exact⟨h1.1,h1.2,by rw[deaf_at _ _ _ _ _ _ (by omega)];exact hd k hlt⟩
theorem relM_mark {m:Nat} (H:RelM c r pre m t) {fn:FuncId} {pos:String} {es:Array Event} (hes:∀e∈es,(MemAct.ofEvent e).touch?=none∧MemAct.ofEvent e≠.mark (.release (stA r pre))):RelM c r pre m (t++MemOp.ofEvents c fn pos es):=
 H.app (fun op hop=>by obtain⟨e,he,rfl⟩:=Go.Conc.mem_ofEvents hop;exact(hes e he).2) (fun k op b hk _ hb=>by
  obtain⟨e,he,rfl⟩:=Go.Conc.mem_ofEvents (Array.mem_of_getElem? hk)
  rw[(hes e he).1]at hb;cases hb)
theorem mute_mark {es:Array Event} (h:∀e∈es,e.mute=true) (a:Addr):∀e∈es,(MemAct.ofEvent e).touch?=none∧MemAct.ofEvent e≠.mark (.release a):=fun e he=>by
 refine⟨touch_mute (h e he),?_⟩
 have:=h e he
 obtain⟨loc,wr,sy⟩:=e
 cases loc<;>simp[Event.mute]at this
 rename_i mm
 cases mm<;>simp[MemAct.ofEvent]at this ⊢
theorem tail_by (O:OutsOk P r pre ty o) (hZ:Z r) (hW:∀l,OfW r pre l→Shun l∧¬Still l) (hc:c≠0) (hM:¬Mem c):ByOk P Z Shun Still (fun B t=>PX Shun Still Mem Loose B 0 t) c (TailBy P c r pre ty o w0) where
 status:=by
  rintro n g w t ⟨_,⟨k,rfl,hs,_⟩|⟨m,k,rfl,hs,_⟩|⟨m,k,rfl,hs,_⟩|⟨_,m,hq,_⟩|⟨_,m,k,rfl,hs,_⟩|⟨_,m,k,rfl,hs,_⟩|⟨_,m,hq,_⟩⟩
  ·exact .inl ⟨hs.status O.runs.1,by omega⟩
  ·exact .inl ⟨hs.status O.runs.2.1,by omega⟩
  ·exact .inl ⟨hs.status O.runs.2.2.1,by omega⟩
  ·cases n with
   | zero=>exact .inr (.inr hq.1)
   | succ n=>exact hq.status.elim (fun x=>.inl ⟨x,by omega⟩) fun x=>.inr (.inr x)
  ·exact .inl ⟨hs.status O.runs.2.2.2.1,by omega⟩
  ·exact .inl ⟨hs.status O.runs.2.2.2.2,by omega⟩
  ·cases n with
   | zero=>exact .inr (.inr hq.1)
   | succ n=>exact hq.status.elim (fun x=>.inl ⟨x,by omega⟩) fun x=>.inr (.inr x)
 again:=by
  rintro n g w t ⟨_,⟨k,rfl,hs,_⟩|⟨m,k,rfl,hs,_⟩|⟨m,k,rfl,hs,_⟩|⟨_,m,hq,_⟩|⟨_,m,k,rfl,hs,_⟩|⟨_,m,k,rfl,hs,_⟩|⟨_,m,hq,_⟩⟩ w' _
  ·exact again_running _ (.inl (hs.status O.runs.1))
  ·exact again_running _ (.inl (hs.status O.runs.2.1))
  ·exact again_running _ (.inl (hs.status O.runs.2.2.1))
  ·exact again_running _ hq.status
  ·exact again_running _ (.inl (hs.status O.runs.2.2.2.1))
  ·exact again_running _ (.inl (hs.status O.runs.2.2.2.2))
  ·exact again_running _ hq.status
 calm:=by
  intro n g w t w' u h hk hu
  have hd:Deaf (t++u) c=Deaf t c:=Deaf_quiet fun op hop d=>by
   have hne:=(hu op hop).1
   obtain⟨g,fn,pos,act⟩:=op
   simp only at hne
   cases act with
   | mark mm=>cases mm<;>simp[deafStep,hne]
   | _=>rfl
  obtain⟨hN,h⟩:=h
  refine⟨hN.calm (fun l hl=>(hW l hl).1) hu,?_⟩
  rw[hd]
  rcases h with⟨k,h1,h2,h3,h4⟩|⟨m,k,h1,h2,h3,h4,h5⟩|⟨m,k,h1,h2,h3,h4,h5⟩|⟨hw,m,h1,h2,h3⟩|⟨hw,m,k,h1,h2,h3,h4,h5⟩|⟨hw,m,k,h1,h2,h3,h4,h5⟩|⟨hw,m,h1,h2,h3⟩
  ·exact .inl ⟨k,h1,h2,h3.keep hZ hk,h4⟩
  ·exact .inr (.inl ⟨m,k,h1,h2,h3.keep hZ hk,h4,h5.calm hu⟩)
  ·exact .inr (.inr (.inl ⟨m,k,h1,h2,h3.keep hZ hk,h4,h5.calm hu⟩))
  ·exact .inr (.inr (.inr (.inl ⟨hw,m,h1,h2.keep hZ hk,h3.calm hu⟩)))
  ·exact .inr (.inr (.inr (.inr (.inl ⟨hw,m,k,h1,h2,h3.keep hZ hk,h4,h5.calm hu⟩))))
  ·exact .inr (.inr (.inr (.inr (.inr (.inl ⟨hw,m,k,h1,h2,h3.keep hZ hk,h4,h5.calm hu⟩)))))
  ·exact .inr (.inr (.inr (.inr (.inr (.inr ⟨hw,m,h1,h2.keep hZ hk,h3.calm hu⟩)))))
 step:=by
  intro n g w t B h hrun htr hB d
  have hc0:(c==0)=false:=by simpa using hc
  rw[hc0]
  refine .inl ?_
  obtain⟨hN,h⟩:=h
  have keep0:KeepZ Z w (w.at d):=fun _ _=>rfl
  have silent:∀{k:Nat} {g':Goroutine},Sil P (IsRun r pre ty) false (k+1) g g'→IsRun r pre ty (w.at d)→∃g1,stepG P false g (w.at d)=.go g1 (w.at d) #[]∧Sil P (IsRun r pre ty) false k g1 g':=fun hs hJ=>by
   obtain⟨_,g1,h1,h2⟩:=hs
   exact⟨g1,h1 _ hJ,h2⟩
  rcases h with⟨k,rfl,hs,hr,hd⟩|⟨m,k,rfl,hs,hr,hd,hm⟩|⟨m,k,rfl,hs,hr,hd,hm⟩|⟨hw,m,hq,hr,hm⟩|⟨hw,m,k,rfl,hs,hr,hd,hm⟩|⟨hw,m,k,rfl,hs,hr,hd,hm⟩|⟨hw,m,hq,hr,hm⟩
  ·cases k with
   | succ k=>
    obtain⟨g1,h1,h2⟩:=silent hs (hr.is d)
    exact⟨k+(o.k1+o.k2+o.k3+o.k4+o.nF+o.nP+10),g1,w.at d,#[],by omega,h1,OffZ.at w d,by rw[ae3];exact htr,by rw[ae3];exact⟨hN,.inl ⟨k,rfl,h2,hr.keep hZ keep0,hd⟩⟩⟩
   | zero=>
    obtain rfl:g=o.gR:=hs
    have hlow:r<B:=by have:=hr.lt;omega
    have hn:∀e∈#[relMark (stA r pre)],(MemAct.ofEvent e).touch?=none∧(MemAct.ofEvent e).low B:=by
     intro e he
     simp at he;subst he
     exact⟨rfl,hlow⟩
    refine⟨o.k1+(o.k2+o.k3+o.k4+o.nF+o.nP+8),o.gR',w.at d,_,by omega,O.rel _,OffZ.at w d,px_mark htr hM hn,ah6 hN (fun e he b hb=>by rw[(hn e he).1]at hb;cases hb),.inr (.inl ⟨t.size,o.k1,rfl,O.s1,hr.keep hZ keep0,?_,?_⟩)⟩
    ·rw[Deaf_own,hd];rfl
    ·have e0:(t++MemOp.ofEvents c o.gR.frame.fn o.gR.frame.place #[relMark (stA r pre)])[t.size]?=some { g:=c,fn:=o.gR.frame.fn,pos:=o.gR.frame.place,act:=.mark (.releaseMerge (stA r pre)) }:=by
      have:=at_new t (MemOp.ofEvents c o.gR.frame.fn o.gR.frame.place #[relMark (stA r pre)]) 0
      rw[Nat.add_zero]at this
      rw[this,ofEvents_eq];simp[relMark,MemAct.ofEvent]
     have hsz:(t++MemOp.ofEvents c o.gR.frame.fn o.gR.frame.place #[relMark (stA r pre)]).size=t.size+1:=by rw[Array.size_append,ofEvents_eq];simp
     refine⟨⟨_,e0,rfl,rfl⟩,by rw[deaf_old (Nat.le_refl _)];exact hd,fun i b hi hb _=>?_,fun k hk e=>?_⟩
     ·obtain⟨x,hx,hxa⟩:=touch_of hb
      have:=lt_size_of_getElem? hx
      obtain rfl:i=t.size:=by omega
      rw[e0]at hx
      rw[←Option.some.inj hx]at hxa
      cases hxa
     ·obtain⟨x,hx,_⟩:=Option.map_eq_some_iff.1 (show((t++MemOp.ofEvents c o.gR.frame.fn o.gR.frame.place #[relMark (stA r pre)])[k]?).map (·.act)=_ from e)
      have:=lt_size_of_getElem? hx
      omega
  ·cases k with
   | succ k=>
    obtain⟨g1,h1,h2⟩:=silent hs (hr.is d)
    exact⟨k+(o.k2+o.k3+o.k4+o.nF+o.nP+8),g1,w.at d,#[],by omega,h1,OffZ.at w d,by rw[ae3];exact htr,by rw[ae3];exact⟨hN,.inr (.inl ⟨m,k,rfl,h2,hr.keep hZ keep0,hd,hm⟩)⟩⟩
   | zero=>
    obtain rfl:g=o.gD:=hs
    have hn:∀e∈#[ao8],(MemAct.ofEvent e).touch?=none∧(MemAct.ofEvent e).low B:=by
     intro e he
     simp at he;subst he
     exact⟨rfl,trivial⟩
    have hn2:∀e∈#[ao8],(MemAct.ofEvent e).touch?=none∧MemAct.ofEvent e≠.mark (.release (stA r pre)):=by
     intro e he
     simp at he;subst he
     exact⟨rfl,by simp[ao8,MemAct.ofEvent]⟩
    refine⟨o.k2+(o.k3+o.k4+o.nF+o.nP+6),o.gD',w.at d,_,by omega,O.dis _,OffZ.at w d,px_mark htr hM hn,ah6 hN (fun e he b hb=>by rw[(hn e he).1]at hb;cases hb),.inr (.inr (.inl ⟨m,o.k2,rfl,O.s2,hr.keep hZ keep0,?_,relM_mark hm hn2⟩))⟩
    rw[Deaf_own,hd];rfl
  ·cases k with
   | succ k=>
    obtain⟨g1,h1,h2⟩:=silent hs (hr.is d)
    exact⟨k+(o.k3+o.k4+o.nF+o.nP+6),g1,w.at d,#[],by omega,h1,OffZ.at w d,by rw[ae3];exact htr,by rw[ae3];exact⟨hN,.inr (.inr (.inl ⟨m,k,rfl,h2,hr.keep hZ keep0,hd,hm⟩))⟩⟩
   | zero=>
    obtain rfl:g=o.gA:=hs
    have hrd:=hr.keep hZ keep0
    have hlow:r<B:=by have:=hr.lt;omega
    have hev:∀e∈[(⟨.cell (stA r pre),false,true⟩:Event),⟨.cell (stA r pre),true,true⟩],(∀b,(MemAct.ofEvent e).touch?=some b→OfW r pre b.loc∧b.kind=.atomic)∧(MemAct.ofEvent e).low B:=by
     intro e he
     simp at he
     rcases he with rfl|rfl<;>exact⟨fun b hb=>by obtain rfl:=Option.some.inj hb;exact⟨.inl rfl,rfl⟩,hlow⟩
    have hev2:∀e∈[(⟨.cell (stA r pre),false,true⟩:Event),⟨.cell (stA r pre),true,true⟩],(∀b,(MemAct.ofEvent e).touch?=some b→OfW r pre b.loc∧b.kind=.atomic)∧MemAct.ofEvent e≠.mark (.release (stA r pre)):=by
     intro e he
     refine⟨(hev e he).1,?_⟩
     simp at he
     rcases he with rfl|rfl<;>simp[MemAct.ofEvent]
    have hdf:∀k,k < [(⟨.cell (stA r pre),false,true⟩:Event),⟨.cell (stA r pre),true,true⟩].length→deafBehind (Deaf t c) ([(⟨.cell (stA r pre),false,true⟩:Event),⟨.cell (stA r pre),true,true⟩].take k).toArray≠0:=by
     intro k hk
     rw[hd]
     simp only[List.length_cons,List.length_nil]at hk
     rcases k with _|_|k
     ·simp[deafBehind]
     ·simp[deafBehind]
     ·omega
    have hnp:∀e∈rwEv (stA r pre),∀b,(MemAct.ofEvent e).touch?=some b→b.kind≠.plain:=fun e he b hb=>by
     have:=((hev e (by simpa [rwEv]using he)).1 b hb).2
     rw[this];simp
    have hdeaf':Deaf (t++MemOp.ofEvents c o.gA.frame.fn o.gA.frame.place (rwEv (stA r pre))) c=1:=by rw[Deaf_own,hd];rfl
    cases w0 with
    | false=>
     simp only[Bool.false_eq_true,if_false]at hr hrd
     refine⟨o.nF,o.gF,(w.at d).setCell (stA r pre) (.int .u64 0),rwEv (stA r pre),by omega,O.add0 _ hrd.cellSt hrd.thawSt,offZ_set hZ _ d,px_deaf (l:=[_,_]) htr hW hM hN hev hdf,ah6 hN hnp,.inr (.inr (.inr (.inl ⟨rfl,m,?_,hrd.setSt 0,relM_deaf (l:=[_,_]) hm hev2 hdf⟩)))⟩
     rw[hdeaf'];exact O.fin0
    | true=>
     simp only[if_true]at hr hrd
     refine⟨o.k3+(o.k4+o.nP+4),o.gW,(w.at d).setCell (stA r pre) (.int .u64 1),rwEv (stA r pre),by omega,O.add1 _ hrd.cellSt hrd.thawSt,offZ_set hZ _ d,px_deaf (l:=[_,_]) htr hW hM hN hev hdf,ah6 hN hnp,.inr (.inr (.inr (.inr (.inl ⟨rfl,m,o.k3,rfl,O.s3,hrd.setSt 1,hdeaf',relM_deaf (l:=[_,_]) hm hev2 hdf⟩))))⟩
  ·cases n with
   | zero=>rw[hq.1]at hrun;cases hrun
   | succ n=>
    rcases hq with⟨hf,_⟩|⟨_,g',es,hmu,hst,hq'⟩
    ·rw[hf]at hrun;cases hrun
    ·refine⟨n,g',w.at d,es,by omega,hst _,OffZ.at w d,px_mark htr hM (fun e he=>⟨touch_mute (hmu e he),low_mute (hmu e he) B⟩),ah6 hN (fun e he b hb=>by rw[touch_mute (hmu e he)]at hb;cases hb),.inr (.inr (.inr (.inl ⟨hw,m,?_,hr.keep hZ keep0,relM_mark hm (mute_mark hmu _)⟩)))⟩
     rw[Deaf_own];exact hq'
  ·cases k with
   | succ k=>
    obtain⟨_,g1,l,hl,h1,h2⟩:=hs
    have hlow:r<B:=by have:=hr.lt;omega
    have hin:∀e∈l,e=(⟨.cell (stA r pre),false,true⟩:Event):=by
     intro e he
     rcases hl with rfl|rfl
     ·cases he
     ·simpa using he
    have hev:∀e∈l,(∀b,(MemAct.ofEvent e).touch?=some b→OfW r pre b.loc∧b.kind=.atomic)∧(MemAct.ofEvent e).low B:=by
     intro e he
     obtain rfl:=hin e he
     exact⟨fun b hb=>by obtain rfl:=Option.some.inj hb;exact⟨.inl rfl,rfl⟩,hlow⟩
    have hev2:∀e∈l,(∀b,(MemAct.ofEvent e).touch?=some b→OfW r pre b.loc∧b.kind=.atomic)∧MemAct.ofEvent e≠.mark (.release (stA r pre)):=by
     intro e he
     refine⟨(hev e he).1,?_⟩
     obtain rfl:=hin e he
     simp[MemAct.ofEvent]
    have hdf:∀k,k<l.length→deafBehind (Deaf t c) (l.take k).toArray≠0:=by
     intro k hk
     have:l.length≤1:=by rcases hl with rfl|rfl<;>simp
     obtain rfl:k=0:=by omega
     rw[hd];simp[deafBehind]
    refine⟨k+(o.k4+o.nP+4),g1,w.at d,l.toArray,by omega,h1 _ (hr.keep hZ keep0),OffZ.at w d,px_deaf htr hW hM hN hev hdf,ah6 hN (fun e he b hb=>by
      have:=((hev e (by simpa using he)).1 b hb).2
      rw[this];simp),.inr (.inr (.inr (.inr (.inl ⟨hw,m,k,rfl,h2,hr.keep hZ keep0,?_,relM_deaf hm hev2 hdf⟩))))⟩
    rw[Deaf_own,hd]
    rcases hl with rfl|rfl<;>rfl
   | zero=>
    obtain rfl:g=o.gS:=hs
    have hrd:=hr.keep hZ keep0
    have hlow:r<B:=by have:=hr.lt;omega
    have hev:∀e∈[(⟨.cell (stA r pre),true,true⟩:Event)],(∀b,(MemAct.ofEvent e).touch?=some b→OfW r pre b.loc∧b.kind=.atomic)∧(MemAct.ofEvent e).low B:=by
     intro e he
     simp at he
     subst he
     exact⟨fun b hb=>by obtain rfl:=Option.some.inj hb;exact⟨.inl rfl,rfl⟩,hlow⟩
    have hev2:∀e∈[(⟨.cell (stA r pre),true,true⟩:Event)],(∀b,(MemAct.ofEvent e).touch?=some b→OfW r pre b.loc∧b.kind=.atomic)∧MemAct.ofEvent e≠.mark (.release (stA r pre)):=by
     intro e he
     refine⟨(hev e he).1,?_⟩
     simp at he
     subst he
     simp[MemAct.ofEvent]
    have hdf:∀k,k < [(⟨.cell (stA r pre),true,true⟩:Event)].length→deafBehind (Deaf t c) ([(⟨.cell (stA r pre),true,true⟩:Event)].take k).toArray≠0:=by
     intro k hk
     rw[hd]
     simp only[List.length_cons,List.length_nil]at hk
     rcases k with _|k
     ·simp[deafBehind]
     ·omega
    refine⟨o.k4+(o.nP+2),o.gS',(w.at d).setCell (stA r pre) (.int .u64 0),#[⟨.cell (stA r pre),true,true⟩],by omega,O.sto _ hrd.cellSt hrd.thawSt,offZ_set hZ _ d,px_deaf (l:=[_]) htr hW hM hN hev hdf,ah6 hN (fun e he b hb=>by
      have:=((hev e (by simpa using he)).1 b hb).2
      rw[this];simp),.inr (.inr (.inr (.inr (.inr (.inl ⟨hw,m,o.k4,rfl,O.s4,hrd.setSt 0,?_,relM_deaf (l:=[_]) hm hev2 hdf⟩)))))⟩
    rw[Deaf_own,hd];rfl
  ·cases k with
   | succ k=>
    obtain⟨g1,h1,h2⟩:=silent hs (hr.is d)
    exact⟨k+(o.nP+2),g1,w.at d,#[],by omega,h1,OffZ.at w d,by rw[ae3];exact htr,by rw[ae3];exact⟨hN,.inr (.inr (.inr (.inr (.inr (.inl ⟨hw,m,k,rfl,h2,hr.keep hZ keep0,hd,hm⟩)))))⟩⟩
   | zero=>
    obtain rfl:g=o.gP:=hs
    have hrd:=hr.keep hZ keep0
    have hlow:r<B:=by have:=hr.lt;omega
    have hev:∀e∈[(⟨.mark .disable,false,true⟩:Event),⟨.cell (smA r pre),false,true⟩,⟨.cell (smA r pre),true,true⟩,⟨.mark .enable,false,true⟩],(∀b,(MemAct.ofEvent e).touch?=some b→OfW r pre b.loc∧b.kind=.atomic)∧(MemAct.ofEvent e).low B:=by
     intro e he
     simp at he
     rcases he with rfl|rfl|rfl|rfl
     ·exact⟨fun b hb=>(by cases hb),trivial⟩
     ·exact⟨fun b hb=>by obtain rfl:=Option.some.inj hb;exact⟨.inr rfl,rfl⟩,hlow⟩
     ·exact⟨fun b hb=>by obtain rfl:=Option.some.inj hb;exact⟨.inr rfl,rfl⟩,hlow⟩
     ·exact⟨fun b hb=>(by cases hb),trivial⟩
    have hev2:∀e∈[(⟨.mark .disable,false,true⟩:Event),⟨.cell (smA r pre),false,true⟩,⟨.cell (smA r pre),true,true⟩,⟨.mark .enable,false,true⟩],(∀b,(MemAct.ofEvent e).touch?=some b→OfW r pre b.loc∧b.kind=.atomic)∧MemAct.ofEvent e≠.mark (.release (stA r pre)):=by
     intro e he
     refine⟨(hev e he).1,?_⟩
     simp at he
     rcases he with rfl|rfl|rfl|rfl<;>simp[MemAct.ofEvent]
    have hdf:∀k,k < [(⟨.mark .disable,false,true⟩:Event),⟨.cell (smA r pre),false,true⟩,⟨.cell (smA r pre),true,true⟩,⟨.mark .enable,false,true⟩].length→deafBehind (Deaf t c) ([(⟨.mark .disable,false,true⟩:Event),⟨.cell (smA r pre),false,true⟩,⟨.cell (smA r pre),true,true⟩,⟨.mark .enable,false,true⟩].take k).toArray≠0:=by
     intro k hk
     rw[hd]
     simp only[List.length_cons,List.length_nil]at hk
     rcases k with _|_|_|_|k
     ·simp[deafBehind]
     ·simp[deafBehind]
     ·simp[deafBehind]
     ·simp[deafBehind]
     ·omega
    refine⟨o.nP,o.gP',(w.at d).setCell (smA r pre) (.int .u32 1),semEvents (smA r pre),by omega,O.sem _ hrd.cellSm hrd.thawSm,offZ_set hZ _ d,px_deaf (l:=[_,_,_,_]) htr hW hM hN hev hdf,ah6 hN (fun e he b hb=>by
      have:=((hev e (by simpa [semEvents]using he)).1 b hb).2
      rw[this];simp),.inr (.inr (.inr (.inr (.inr (.inr ⟨hw,m,?_,hrd.setSm 1,relM_deaf (l:=[_,_,_,_]) hm hev2 hdf⟩)))))⟩
    rw[Deaf_own,hd];exact O.fin1
  ·cases n with
   | zero=>rw[hq.1]at hrun;cases hrun
   | succ n=>
    rcases hq with⟨hf,_⟩|⟨_,g',es,hmu,hst,hq'⟩
    ·rw[hf]at hrun;cases hrun
    ·refine⟨n,g',w.at d,es,by omega,hst _,OffZ.at w d,px_mark htr hM (fun e he=>⟨touch_mute (hmu e he),low_mute (hmu e he) B⟩),ah6 hN (fun e he b hb=>by rw[touch_mute (hmu e he)]at hb;cases hb),.inr (.inr (.inr (.inr (.inr (.inr ⟨hw,m,?_,hr.keep hZ keep0,relM_mark hm (mute_mark hmu _)⟩)))))⟩
     rw[Deaf_own];exact hq'
end
section
variable {Shun Still:Loc→Prop} {Mem Loose:Nat→Prop} {B h:Nat} {t u:Trace}
def WroteC (Still:Loc→Prop) (c:Nat) (t:Trace):Prop:=∀i a,touchAt t i=some a→a.write=true→Still a.loc→Knows t c i
theorem WroteC.app {c:Nat} (H:WroteC Still c t) (hu:∀op∈u,∀b,op.act.touch?=some b→Still b.loc→b.write=false):WroteC Still c (t++u):=by
 intro i a ha hw hS
 obtain⟨x,hx,hxa⟩:=touch_of ha
 rcases getElem?_append_cases hx with⟨_,hx'⟩|⟨_,hxu⟩
 ·exact(H i a (by rw[touchAt_of hx'];exact hxa) hw hS).app u
 ·rw[hu x hxu a hxa hS]at hw;cases hw
theorem PX.appReadC {g:Nat} (H:PX Shun Still Mem Loose B h t) (hg:WroteC Still g t) (hM:¬Mem g) (hL:Loose g) (hu:∀op∈u,op.g=g) (hr:∀op∈u,∀b,op.act.touch?=some b→b.write=false∧Still b.loc)
  (hl:∀op∈u,op.act.low B):PX Shun Still Mem Loose B h (t++u):=by
 refine⟨fun said=>noRace_append (H.clean said) hu fun i a ha op hop b hb hc=>?_,fun i a ha hm=>?_,fun i a ha hw hS g' hg'=>?_,H.oldHears hu (fun x=>(hM x).elim),seen_app H.seen hl⟩
 ·obtain⟨hb0,hbS⟩:=hr op hop b hb
  rcases hc.2.2.1 with x|x
  ·exact hg i a ha x (hc.1 ▸ hbS)
  ·rw[hb0]at x;cases x
 ·obtain⟨x,hx,hxa⟩:=touch_of ha
  rcases getElem?_append_cases hx with⟨_,hx'⟩|⟨_,hxu⟩
  ·exact H.old hx' hxa hm
  ·exact .inr (.inl ⟨(hr x hxu a hxa).1,(hr x hxu a hxa).2,g,by rw[g?_of hx,hu x hxu],hL⟩)
 ·obtain⟨x,hx,hxa⟩:=touch_of ha
  rcases getElem?_append_cases hx with⟨_,hx'⟩|⟨_,hxu⟩
  ·exact(H.wrote i a (by rw[touchAt_of hx'];exact hxa) hw hS g' hg').app u
  ·rw[(hr x hxu a hxa).1]at hw;cases hw
end
def ShutIn (w:World) (cC:Array CommCase) (kq cq:Nat) (zq:Value):Prop:=
 cC[kq]?=some (rcase cq zq)∧(∃k,w.heap[cq]?=some (.chan 0 #[] true k k false))∧∀(m:Nat) cc,m≠kq→cC[m]?=some cc→OpenIn w cc
def CloseBy (P:Program) (c r:Nat) (pre:Array Value) (ty:TypeId) (o:Outs) (K:World→Prop) (Still:Loc→Prop) (cC:Array CommCase) (home:Goroutine→Prop) (kq cq:Nat) (zq:Value) (kR:Nat) (w0:Bool) (n:Nat) (g:Goroutine) (w:World) (t:Trace):Prop:=
 (∃k,n=k+1+(kR+(o.k1+o.k2+o.k3+o.k4+o.nF+o.nP+10))∧NoPl c r pre t∧K w∧ShutIn w cC kq cq zq∧RunAt r pre ty w (if w0 then KK+1 else KK) 0∧Deaf t c=0∧WroteC Still c t∧g.status=.running∧SeatWalk P false K Still cC .select home k g)∨
 TailBy P c r pre ty o w0 n g w t
section
variable {P:Program} {Z:Nat→Prop} {Shun Still:Loc→Prop} {Mem Loose:Nat→Prop} {r:Nat} {pre:Array Value} {ty:TypeId} {c B:Nat} {t:Trace} {o:Outs} {w0:Bool} {K:World→Prop} {cC:Array CommCase} {home:Goroutine→Prop} {kq cq kR:Nat} {zq:Value}
theorem close_by (L:Leans Z Still K) (hzC:∀cc∈cC,∀c z,cc=rcase c z→Z c) (O:OutsOk P r pre ty o) (hZ:Z r) (hW:∀l,OfW r pre l→Shun l∧¬Still l) (hc:c≠0) (hM:¬Mem c) (hL:Loose c)
  (hR:∀g₂,home g₂→Sil P (IsRun r pre ty) false kR (Conc.served g₂ (commResult cC .select kq zq false)) o.gR):
  ByOk P Z Shun Still (fun B t=>PX Shun Still Mem Loose B 0 t) c (CloseBy P c r pre ty o K Still cC home kq cq zq kR w0) where
 status:=by
  rintro n g w t (⟨k,rfl,_,_,_,_,_,_,hs,_⟩|h)
  ·exact .inl ⟨hs,by omega⟩
  ·exact(tail_by (Z:=Z) (Shun:=Shun) (Still:=Still) (Mem:=Mem) (Loose:=Loose) O hZ hW hc hM).status h
 again:=by
  rintro n g w t (⟨k,rfl,_,_,_,_,_,_,hs,_⟩|h) w' hk
  ·exact again_running _ (.inl hs)
  ·exact(tail_by (Z:=Z) (Shun:=Shun) (Still:=Still) (Mem:=Mem) (Loose:=Loose) O hZ hW hc hM).again h w' hk
 calm:=by
  rintro n g w t w' u (⟨k,h1,h2,h3,⟨s1,⟨k',s2⟩,s3⟩,h5,h6,h7,h8,h9⟩|h) hk hu
  ·refine .inl ⟨k,h1,h2.calm (fun l hl=>(hW l hl).1) hu,L.keep w w' hk h3,⟨s1,⟨k',?_⟩,fun m cc hm hcc=>?_⟩,h5.keep hZ hk,?_,h7.app fun op hop b hb=>((hu op hop).2.1 b hb).1,h8,h9⟩
   ·rw[hk cq (hzC _ (Array.mem_of_getElem? s1) _ _ rfl)];exact s2
   ·obtain⟨c',z',k'',e,hc'⟩:=s3 m cc hm hcc
    exact⟨c',z',k'',e,by rw[hk c' (hzC _ (Array.mem_of_getElem? hcc) _ _ e)];exact hc'⟩
   ·rw[←h6]
    exact Deaf_quiet fun op hop d=>by
     have hne:=(hu op hop).1
     obtain⟨g,fn,pos,act⟩:=op
     simp only at hne
     cases act with
     | mark mm=>cases mm<;>simp[deafStep,hne]
     | _=>rfl
  ·exact .inr ((tail_by (Z:=Z) (Shun:=Shun) (Still:=Still) (Mem:=Mem) (Loose:=Loose) O hZ hW hc hM).calm w' u h hk hu)
 step:=by
  rintro n g w t B (⟨k,rfl,h2,h3,⟨s1,⟨k',s2⟩,s3⟩,h5,h6,h7,h8,h9⟩|h) hrun htr hB d
  ·have hKd:K (w.at d):=L.keep w (w.at d) (fun _ _=>rfl) h3
   have hc0:(c==0)=false:=by simpa using hc
   rw[hc0]
   cases k with
   | zero=>
    obtain⟨g₂,es,hh,hr,hes,hst⟩:=h9
    obtain⟨r1,r2,r3⟩:=ak8 (B:=B) (i:=c) (fn:=g.frame.fn) (pos:=g.frame.place) L h3 hB hes
    have htr1:=htr.appReadC h7 hM hL aa6 r1 r3
    have hcB:cq<B:=by have:=(Array.getElem?_eq_some_iff.1 s2).1;omega
    have hn:∀op∈(#[{ g:=c,fn:=g₂.frame.fn,pos:=g₂.frame.place,act:=.recvClosed cq }]:Trace),op.g=c∧op.act.touch?=none∧op.act.low B∧(∀d,deafStep c d op=d):=by
     intro op hop
     simp only[List.mem_toArray,List.mem_cons,List.not_mem_nil,or_false]at hop
     subst hop
     exact⟨rfl,rfl,hcB,fun _=>rfl⟩
    refine .inr (.inr ⟨kR+(o.k1+o.k2+o.k3+o.k4+o.nF+o.nP+10),g₂,cC,.select,es,kq,cq,zq,0,k',k',false,by omega,hst _ hKd,s1,s2,s3,?_,.inr ⟨?_,.inl ⟨kR,rfl,hR g₂ hh,h5.keep hZ (fun _ _=>rfl),?_⟩⟩⟩)
    ·rw[←Array.append_assoc]
     exact htr1.appMute (fun op hop=>(hn op hop).1) (fun op hop=>(hn op hop).2.1) (fun x=>(hM x).elim) (fun op hop=>(hn op hop).2.2.1)
    ·rw[←Array.append_assoc]
     refine(h2.app fun op hop b hb hw=>?_).app fun op hop b hb _=>by rw[(hn op hop).2.1]at hb;cases hb
     exact((hW _ hw).2 (r1 op hop b hb).2).elim
    ·rw[←Array.append_assoc,Deaf_quiet (fun op hop d=>(hn op hop).2.2.2 d),r2 t]
     exact h6
   | succ k=>
    obtain⟨g',es,hr,hes,hst,hw'⟩:=h9
    obtain⟨r1,r2,r3⟩:=ak8 (B:=B) (i:=c) (fn:=g.frame.fn) (pos:=g.frame.place) L h3 hB hes
    refine .inl ⟨k+1+(kR+(o.k1+o.k2+o.k3+o.k4+o.nF+o.nP+10)),g',w.at d,es,by omega,hst _ hKd,OffZ.at w d,htr.appReadC h7 hM hL aa6 r1 r3,.inl ⟨k,rfl,?_,hKd,⟨s1,⟨k',s2⟩,s3⟩,h5.keep hZ (fun _ _=>rfl),(r2 t).trans h6,h7.app fun op hop b hb _=>(r1 op hop b hb).1,hr,hw'⟩⟩
    exact h2.app fun op hop b hb hw=>((hW _ hw).2 (r1 op hop b hb).2).elim
  ·rcases(tail_by (Z:=Z) (Shun:=Shun) (Still:=Still) (Mem:=Mem) (Loose:=Loose) O hZ hW hc hM).step h hrun htr hB d with⟨n',g',w',es,a1,a2,a3,a4,a5⟩|⟨n',g₂,cs,sh,es,a1,a2,a3,a4,a5⟩|⟨n',g₂,cs,sh,es,k,c',z,cap,s,r',tm,a1,a2,a3,a4,a5,a6,a7⟩
   ·exact .inl ⟨n',g',w',es,a1,a2,a3,a4,.inr a5⟩
   ·exact .inr (.inl ⟨n',g₂,cs,sh,es,a1,a2,a3,a4,.inr a5⟩)
   ·exact .inr (.inr ⟨n',g₂,cs,sh,es,k,c',z,cap,s,r',tm,a1,a2,a3,a4,a5,a6,.inr a7⟩)
def DeafBy (δ:Nat) (By:Nat→Goroutine→World→Trace→Prop) (n:Nat) (g:Goroutine) (w:World) (t:Trace):Prop:=By n g w t∧Deaf t 0=δ
theorem deaf0_meek {j:Nat} {u:Trace} (hu:Meek Shun Still j u):Deaf (t++u) 0=Deaf t 0:=Deaf_quiet fun op hop d=>by
 have hx:=(hu op hop).2.2.2
 obtain⟨g,fn,pos,act⟩:=op
 cases act with
 | mark mm=>
  cases mm with
  | disable=>have:=hx (.inl rfl);simp only at this;simp[deafStep,this]
  | enable=>have:=hx (.inr rfl);simp only at this;simp[deafStep,this]
  | _=>rfl
 | _=>rfl
theorem deaf_by {δ j:Nat} {Tr:Nat→Trace→Prop} {By:Nat→Goroutine→World→Trace→Prop} (hj:j≠0) (O:ByOk P Z Shun Still Tr j By):ByOk P Z Shun Still Tr j (DeafBy δ By) where
 status h:=O.status h.1
 again h:=O.again h.1
 calm w' u h hk hu:=⟨O.calm w' u h.1 hk hu,(deaf0_meek hu).trans h.2⟩
 step:=by
  rintro n g w t B ⟨h,hd⟩ hrun htr hB d
  rcases O.step h hrun htr hB d with⟨n',g',w',es,a1,a2,a3,a4,a5⟩|⟨n',g₂,cs,sh,es,a1,a2,a3,a4,a5⟩|⟨n',g₂,cs,sh,es,k,c',z,cap,s,r',tm,a1,a2,a3,a4,a5,a6,a7⟩
  ·exact .inl ⟨n',g',w',es,a1,a2,a3,a4,a5,by rw[Deaf_other t (g':=j) hj _ aa6];exact hd⟩
  ·exact .inr (.inl ⟨n',g₂,cs,sh,es,a1,a2,a3,a4,a5,by rw[Deaf_other t (g':=j) hj _ aa6];exact hd⟩)
  ·refine .inr (.inr ⟨n',g₂,cs,sh,es,k,c',z,cap,s,r',tm,a1,a2,a3,a4,a5,a6,a7,?_⟩)
   rw[Deaf_other t (g':=j) hj _ (fun op hop=>by
    rcases Array.mem_append.1 hop with hop|hop
    ·exact aa6 op hop
    ·simp at hop;subst hop;rfl)]
   exact hd
theorem tail_is {n:Nat} {g:Goroutine} {w:World} {t:Trace} (h:TailBy P c r pre ty o w0 n g w t):IsRun r pre ty w:=by
 obtain⟨_,⟨_,_,_,h,_⟩|⟨_,_,_,_,h,_⟩|⟨_,_,_,_,h,_⟩|⟨_,_,_,h,_⟩|⟨_,_,_,_,_,h,_⟩|⟨_,_,_,_,_,h,_⟩|⟨_,_,_,h,_⟩⟩:=h<;>exact⟨_,_,h⟩
theorem close_is {n:Nat} {g:Goroutine} {w:World} {t:Trace} (h:CloseBy P c r pre ty o K Still cC home kq cq zq kR w0 n g w t):IsRun r pre ty w:=by
 rcases h with⟨_,_,_,_,_,h,_⟩|h
 ·exact⟨_,_,h⟩
 ·exact tail_is h
theorem am6 {h j:Nat} {By:Nat→Goroutine→World→Trace→Prop} {J:World→Prop} (hJ:∀n b w t,By n b w t→∀d,J (w.at d)) (O:ByOk P Z Shun Still (fun B t=>PX Shun Still Mem Loose B h t) j By) {a':Goroutine}:∀(k:Nat) {a:Goroutine} (_:Sil P J (h==0) k a a') {n B:Nat} {gs:Array Goroutine} {w:World} {sl:Option (Nat×Nat)} {t:Trace} {q:Nat→Nat},
  gs[h]?=some a→Duo P Shun Still Mem Loose B h j By n gs w t q→ComesTo P gs w sl t fun gs' w' t'=>∃q' n' B',gs'[h]?=some a'∧OffZ Z w w'∧B≤B'∧Duo P Shun Still Mem Loose B' h j By n' gs' w' t' q'
 | 0,a,hs,n,B,gs,w,sl,t,q,h0,D=>.now ⟨q,n,B,by rw[h0,show a=a' from hs],OffZ.refl w,Nat.le_refl _,D⟩
 | k+1,a,hs,n,B,gs,w,sl,t,q,h0,D=>by
  obtain⟨hrun,a1,hst,hs'⟩:=hs
  refine go_duo (Mem':=Mem) (Loose':=Loose) O h0 hrun D D.mem fun w1 n1 b1 t1 ho hB hp d=>⟨a1,w1.at d,#[],B,hst _ (hJ _ _ _ _ hB d),Nat.le_refl _,by rw[show(w1.at d).heap.size=w.heap.size from ho.size];exact D.size,by rw[ae3];exact hp,By,n1,?_,fun gs' q' n' hz h1 D1 sl'=>?_⟩
  ·rw[ae3,woken_of_again (O.again hB (w1.at d) (fun _ _=>rfl))]
   have:=O.calm (w1.at d) #[] hB (fun _ _=>rfl) (fun op hop=>by simp at hop)
   simpa using this
  ·exact(am6 hJ O k hs' h1 D1).mono fun gs'' w'' t'' ⟨q'',n'',B'',j1,j2,j3,j4⟩=>⟨q'',n'',B'',j1,ho.trans ((OffZ.at w1 d).trans j2),j3,j4⟩
end
section
variable {P:Program} {Z:Nat→Prop} {Shun Still:Loc→Prop} {Mem Loose:Nat→Prop} {r:Nat} {pre:Array Value} {ty:TypeId} {c B:Nat} {t:Trace} {o:Outs} {w0:Bool} {K K1:World→Prop} {TT:Trace→Prop} {cC:Array CommCase} {home:Goroutine→Prop} {kq cq kR:Nat} {zq:Value}
theorem close_evH (hSo:∀x,¬Still (.obj x)) (hc:cq<B):∀e∈closeEvents cq,EvH Shun Still B e:=by
 intro e he
 simp only[closeEvents,List.mem_toArray,List.mem_cons,List.not_mem_nil,or_false]at he
 rcases he with rfl|rfl
 ·refine⟨fun x hx=>?_,by simp,by simp,hc,by simp⟩
  obtain rfl:=Option.some.inj hx
  exact⟨fun hs=>(hSo _ hs).elim,fun _=>by simp⟩
 ·exact⟨fun x hx=>(by cases hx),by simp,by simp,hc,by simp⟩
theorem ao5 (hz:Z cq) (w:World) (d k:Nat) (cl:Bool):OffZ Z w ((w.at d).setChan cq 0 #[] cl k k false):=by
 refine⟨by simp[World.setChan,World.at],fun x hx=>?_,rfl,rfl,rfl⟩
 have:cq≠x:=fun e=>hx (e ▸ hz)
 simp[World.setChan,World.at,Array.getElem?_setIfInBounds_ne this]
theorem close_seat (L1:Leans Z Still K1) (hK1:∀w,K1 w→K w) (hT:Lasts Shun Still c TT) (hc:c≠0) (hSo:∀x,¬Still (.obj x)) (hzC:∀cc∈cC,∀c z,cc=rcase c z→Z c) (hLc:Loose c)
  (hTT:∀t,TT t→NoPl c r pre t) (hK1r:∀w,K1 w→RunAt r pre ty w KK 0) (hKq:∀w k,K w→K (w.setChan cq 0 #[] true k k false)) (hrq:r≠cq)
  (hkq:cC[kq]?=some (rcase cq zq)) (hoq:∀(m:Nat) cc,m≠kq→cC[m]?=some cc→cc.chan≠.chan (some cq))
  (hretry:∀g₂,home g₂→SeatWalk P false K Still cC .select home 0 { parked g₂ cC .select with status:=.running })
  {a a':Goroutine} (hwake:mayWake P a=true) (ha':a'.status=.running) (hrun:a.status=.running)
  (hclose:∀(w1:World) k,K1 w1→w1.heap[cq]?=some (.chan 0 #[] false k k false)→∀d,stepG P true a (w1.at d)=.go a' ((w1.at d).setChan cq 0 #[] true k k false) (closeEvents cq))
  {n:Nat} {gs:Array Goroutine} {w:World} {sl:Option (Nat×Nat)} {q:Nat→Nat} (h0:gs[0]?=some a) (D:Duo P Shun Still (fun g=>g=0∨g=c) Loose B 0 c (SeatBy P (c==0) K K1 TT Still cC .select home) n gs w t q):
  ComesTo P gs w sl t fun gs' w' t'=>∃q' n' B',gs'[0]?=some a'∧OffZ Z w w'∧B≤B'∧Duo P Shun Still (fun g=>g=0) Loose B' 0 c (CloseBy P c r pre ty o K Still cC home kq cq zq kR false) n' gs' w' t' q':=by
 have hc0:(c==0)=false:=by simpa using hc
 refine go_duo (Mem':=fun g=>g=0) (Loose':=Loose) (seat_by L1 hK1 hT hzC (.inr rfl) hLc) h0 hrun D (fun g hg=>.inl hg) fun w1 n1 b1 t1 ho hB hpx d=>?_
 obtain⟨⟨hK,hTt⟩,hop,hseat⟩:=hB
 rw[hc0]at hseat
 obtain⟨c',z',k,e',hch⟩:=hop _ (Array.mem_of_getElem? hkq)
 have:c'=cq:=by simp[rcase]at e';exact e'.1.symm
 subst this
 have hzq:Z c':=hzC _ (Array.mem_of_getElem? hkq) _ _ rfl
 have hsz:w1.heap.size≤B:=by rw[ho.size];exact D.size
 have hcB:c'<B:=by have:=(Array.getElem?_eq_some_iff.1 hch).1;omega
 have hev:=close_evH (Shun:=Shun) (Still:=Still) hSo hcB
 have hpx2:=(hpx.own (fn:=a.frame.fn) (pos:=a.frame.place) hev).fewer (Mem':=fun g=>g=0) fun g hg=>.inl hg
 have hmeek:Meek Shun Still c (MemOp.ofEvents 0 a.frame.fn a.frame.place (closeEvents c')):=ai1 (Ne.symm hc) hev
 have hsame:∀x,x≠c'→((w1.at d).setChan c' 0 #[] true k k false).heap[x]?=w1.heap[x]?:=fun x hx=>by
  simp[World.setChan,World.at,Array.getElem?_setIfInBounds_ne (Ne.symm hx)]
 have hself:((w1.at d).setChan c' 0 #[] true k k false).heap[c']?=some (.chan 0 #[] true k k false):=by
  have:=(Array.getElem?_eq_some_iff.1 hch).1
  simp[World.setChan,World.at,this]
 have hshut:ShutIn ((w1.at d).setChan c' 0 #[] true k k false) cC kq c' zq:=by
  refine⟨hkq,⟨k,hself⟩,fun m cc hm hcc=>?_⟩
  obtain⟨c2,z2,k2,e2,h2⟩:=hop cc (Array.mem_of_getElem? hcc)
  refine⟨c2,z2,k2,e2,?_⟩
  rw[hsame c2 (fun e=>hoq m cc hm hcc (by rw[e2,e];rfl))]
  exact h2
 have hrn:RunAt r pre ty ((w1.at d).setChan c' 0 #[] true k k false) (if false=true then KK+1 else KK) 0:=by
  unfold RunAt;rw[hsame r hrq];exact hK1r _ hK
 have hdf:Deaf (t1++MemOp.ofEvents 0 a.frame.fn a.frame.place (closeEvents c')) c=0:=by
  rw[Deaf_other t1 (g':=0) (Ne.symm hc) _ aa6];exact hpx.hears c (.inr rfl)
 have hwr:WroteC Still c (t1++MemOp.ofEvents 0 a.frame.fn a.frame.place (closeEvents c')):=by
  refine WroteC.app (fun i x hx hw hS=>hpx.wrote i x hx hw hS c (.inr rfl)) fun op hop b hb=>((hmeek op hop).2.1 b hb).1
 have hKw:K ((w1.at d).setChan c' 0 #[] true k k false):=hKq _ _ (hK1 _ (L1.keep w1 (w1.at d) (fun _ _=>rfl) hK))
 refine⟨a',(w1.at d).setChan c' 0 #[] true k k false,closeEvents c',B,hclose w1 k hK hch d,Nat.le_refl _,by rw[(ao5 (Z:=Z) hzq w1 d k true).size];exact hsz,hpx2,CloseBy P c r pre ty o K Still cC home kq c' zq kR false,?_⟩
 have hno:=(hTT _ hTt).calm (Shun:=OfW r pre) (Still:=Still) (c:=c) (fun _ h=>h) (u:=MemOp.ofEvents 0 a.frame.fn a.frame.place (closeEvents c')) (fun op hop=>by
  refine⟨(hmeek op hop).1,fun b hb=>⟨((hmeek op hop).2.1 b hb).1,fun hw=>?_⟩,(hmeek op hop).2.2⟩
  obtain⟨e,he,rfl⟩:=Go.Conc.mem_ofEvents hop
  simp only[closeEvents,List.mem_toArray,List.mem_cons,List.not_mem_nil,or_false]at he
  rcases he with rfl|rfl
  ·obtain rfl:=Option.some.inj hb;simp
  ·cases hb)
 rcases hseat with⟨rfl,g₂,rfl,hh,hr⟩|⟨k2,rfl,hs,hw⟩
 ·refine⟨_,.inl ⟨0,rfl,hno,hKw,hshut,hrn,hdf,hwr,?_⟩,fun gs' q' n' hsz' h0' D' sl'=>.now ⟨q',n',B,h0',(ho.trans (ao5 hzq w1 d k true)),Nat.le_refl _,D'⟩⟩
  have hw:woken P a a' ((w1.at d).setChan c' 0 #[] true k k false) (parked g₂ cC .select)={ parked g₂ cC .select with status:=.running }:=by
   unfold woken
   simp only[hwake,ha',Bool.true_and]
   rw[if_pos (by decide)]
   exact again_some_closed hkq hself
  rw[hw]
  exact⟨rfl,hretry g₂ hh⟩
 ·refine⟨_,.inl ⟨k2,rfl,hno,hKw,hshut,hrn,hdf,hwr,?_⟩,fun gs' q' n' hsz' h0' D' sl'=>.now ⟨q',n',B,h0',(ho.trans (ao5 hzq w1 d k true)),Nat.le_refl _,D'⟩⟩
  rw[woken_run hs]
  exact⟨hs,hw⟩
theorem tail_open_by (O:OutsOk P r pre ty o) (hZ:Z r) (hW:∀l,OfW r pre l→Shun l∧¬Still l) (hc:c≠0) (hM:¬Mem c) (hzq:Z cq) (hrq:r≠cq) (ob:Obj):
  ByOk P Z Shun Still (fun B t=>PX Shun Still Mem Loose B 0 t) c (fun n g w t=>TailBy P c r pre ty o w0 n g w t∧w.heap[cq]?=some ob):=by
 have OT:=tail_by (Z:=fun x=>x=r) (Shun:=Shun) (Still:=Still) (Mem:=Mem) (Loose:=Loose) (ty:=ty) (w0:=w0) O rfl hW hc hM
 have hkz:∀{w w':World},KeepZ Z w w'→KeepZ (fun x=>x=r) w w':=fun hk x hx=>by subst hx;exact hk _ hZ
 refine⟨fun h=>OT.status h.1,fun h w' hk=>OT.again h.1 w' (hkz hk),fun w' u h hk hu=>⟨OT.calm w' u h.1 (hkz hk) hu,by rw[hk cq hzq];exact h.2⟩,?_⟩
 rintro n g w t B ⟨h,hq⟩ hrun htr hB d
 rcases OT.step h hrun htr hB d with⟨n',g',w',es,a1,a2,a3,a4,a5⟩|⟨n',g₂,cs,sh,es,a1,a2,a3,a4,a5⟩|⟨n',g₂,cs,sh,es,k,c',z,cap,s,r',tm,a1,a2,a3,a4,a5,a6,a7⟩
 ·exact .inl ⟨n',g',w',es,a1,a2,⟨a3.size,fun x hx=>a3.same x (fun e=>hx (by rw[e];exact hZ)),a3.os,a3.output,a3.tape⟩,a4,a5,by rw[a3.same cq (fun e=>hrq e.symm)];exact hq⟩
 ·exact .inr (.inl ⟨n',g₂,cs,sh,es,a1,a2,a3,a4,a5,hq⟩)
 ·exact .inr (.inr ⟨n',g₂,cs,sh,es,k,c',z,cap,s,r',tm,a1,a2,a3,a4,a5,a6,a7,hq⟩)
theorem close_tail (O:OutsOk P r pre ty o) (hZ:Z r) (hW:∀l,OfW r pre l→Shun l∧¬Still l) (hc:c≠0) (hSo:∀x,¬Still (.obj x)) (hzq:Z cq) (hrq:r≠cq)
  {a a':Goroutine} (hrun:a.status=.running) {k:Nat} (hclose:∀(w1:World),w1.heap[cq]?=some (.chan 0 #[] false k k false)→∀d,stepG P true a (w1.at d)=.go a' ((w1.at d).setChan cq 0 #[] true k k false) (closeEvents cq))
  {n:Nat} {gs:Array Goroutine} {w:World} {sl:Option (Nat×Nat)} {q:Nat→Nat} (h0:gs[0]?=some a)
  (D:Duo P Shun Still (fun g=>g=0) Loose B 0 c (fun n g w t=>TailBy P c r pre ty o false n g w t∧w.heap[cq]?=some (.chan 0 #[] false k k false)) n gs w t q)
  (OB:ByOk P Z Shun Still (fun B t=>PX Shun Still (fun g=>g=0) Loose B 0 t) c (fun n g w t=>TailBy P c r pre ty o false n g w t∧w.heap[cq]?=some (.chan 0 #[] false k k false))):
  ComesTo P gs w sl t fun gs' w' t'=>∃q' n' B',gs'[0]?=some a'∧OffZ Z w w'∧B≤B'∧Duo P Shun Still (fun g=>g=0) Loose B' 0 c (CloseBy P c r pre ty o K Still cC home kq cq zq kR false) n' gs' w' t' q':=by
 refine go_duo (Mem':=fun g=>g=0) (Loose':=Loose) OB h0 hrun D (fun g hg=>.inl hg) fun w1 n1 b1 t1 ho hB hpx d=>?_
 obtain⟨hTl,hch⟩:=hB
 have hsz:w1.heap.size≤B:=by rw[ho.size];exact D.size
 have hcB:cq<B:=by have:=(Array.getElem?_eq_some_iff.1 hch).1;omega
 have hev:=close_evH (Shun:=Shun) (Still:=Still) hSo hcB
 have hmeek:Meek Shun Still c (MemOp.ofEvents 0 a.frame.fn a.frame.place (closeEvents cq)):=ai1 (Ne.symm hc) hev
 have OT:=tail_by (Z:=fun x=>x=r) (Shun:=Shun) (Still:=Still) (Mem:=fun g=>g=0) (Loose:=Loose) (ty:=ty) (w0:=false) O rfl hW hc (fun e=>hc e)
 have hk:KeepZ (fun x=>x=r) w1 ((w1.at d).setChan cq 0 #[] true k k false):=fun x hx=>by
  subst hx
  simp[World.setChan,World.at,Array.getElem?_setIfInBounds_ne (Ne.symm hrq)]
 refine⟨a',(w1.at d).setChan cq 0 #[] true k k false,closeEvents cq,B,hclose w1 hch d,Nat.le_refl _,by rw[(ao5 (Z:=Z) hzq w1 d k true).size];exact hsz,hpx.own hev,CloseBy P c r pre ty o K Still cC home kq cq zq kR false,n1,?_,fun gs' q' n' hsz' h0' D' sl'=>.now ⟨q',n',B,h0',(ho.trans (ao5 hzq w1 d k true)),Nat.le_refl _,D'⟩⟩
 have hwk:woken P a a' ((w1.at d).setChan cq 0 #[] true k k false) b1=b1:=woken_of_again (OT.again hTl _ hk)
 rw[hwk]
 exact .inr (OT.calm _ _ hTl hk hmeek)
end
end Go.Fxa
