/- The holder reads what is its own; draws an order; the go statement, the close, at a record. The child holds: from the head of its loop to a select. The child is answered: what it does with the answer is a piece of plain code; then round again. Goroutine 0's records, at this program: goOn, Start, Answer, Stop; what is reckoned of them. -/
import Derived.Test.YtmhplpfpcnjekaaGreatK10
import Derived.Conc.TokenWalk
namespace Go.Fxa
open Go.Conc
open Go.ConcN (sumTo upd sumTo_upd upd_ne upd_same)
def ag7 (P:Program) (x:Frame×List Frame) (vs:List Value):Option (List Addr×Value):=match opAt x with
 | some o=>match (execOp x.1.eval o).feed P vs with
  | some (l,.value y)=>if(P.funcs[x.1.fn]?).any (·.norace)then none else some (l,y)
  | _=>none
 | none=>none
theorem reads_step {P:Program} {main:Bool} {x:Frame×List Frame} {vs:List Value} {ads:List Addr} {y:Value} {w:World} (h:ag7 P x vs=some (ads,y)) (hc:Cells w ads vs):stepG P main (gOf x) w=.go (gOf (did x y)) w (al2 ads):=by
 unfold ag7 at h
 split at h
 ·rename_i o ho
  split at h
  ·rename_i l y' hf
   split at h
   ·cases h
   ·rename_i hq
    simp only[Option.some.injEq,Prod.mk.injEq]at h
    obtain⟨rfl,rfl⟩:=h
    exact read_at ho hf hc (by simpa using hq)
  ·cases h
 ·cases h
theorem cells_twin {Od:Old} {Z:Nat→Prop} {v w:World} (T:Twin Od Z v w):∀{ads:List Addr} {vs:List Value},Cells v ads vs→Cells w ads vs∧∀a∈ads,¬Z a.block∧a.block<w.heap.size
 | [],_,_=>⟨trivial,by simp⟩
 | a::ads,[],h=>h.elim
 | a::ads,v0::vs,h=>by
  obtain⟨h1,h2⟩:=h
  obtain⟨c1,c2,c3,_⟩:=T.cell h1
  obtain⟨d1,d2⟩:=cells_twin T h2
  refine⟨⟨c1,d1⟩,fun b hb=>?_⟩
  rcases List.mem_cons.1 hb with rfl|hb
  ·exact⟨c2,c3⟩
  ·exact d2 b hb
def drawsAt (x:Frame×List Frame):Option (Nat×Array Oper×List Item):=match x.1.roundOf,x.1.mode,x.1.todo with
 | none,.run,.code (.region id ops true)::k=>some (id,ops,k)
 | _,_,_=>none
def ordered (x:Frame×List Frame) (ops:Array Oper) (k:List Item) (l:List Nat):Frame×List Frame:=({ x.1 with todo:=.inRegion ops l::k },x.2)
def aj2 (ops:Array Oper) (listed:Array Bool):List Nat:=(List.range ops.size).filter fun i=>!listed.getD i true && ((ops[i]?).map (·.after.all fun e=>!Region.binds .any e || listed.getD e.on false)).getD false
def allLin (ops:Array Oper):Nat→Array Bool→List (List Nat)
 | 0,_=>[[]]
 | fuel+1,listed=>if(aj2 ops listed).isEmpty then[[]]else(aj2 ops listed).flatMap fun i=>(allLin ops fuel (listed.setIfInBounds i true)).map (i::·)
theorem lin_mem (ops:Array Oper):∀(fuel t:Nat) (listed:Array Bool) (acc:List Nat),∃l∈allLin ops fuel listed,Region.linearise.go .any ops fuel t listed acc=acc.reverse++l
 | 0,t,listed,acc=>⟨[],by simp[allLin],by simp[Region.linearise.go]⟩
 | fuel+1,t,listed,acc=>by
  have e0:Region.linearise.go .any ops (fuel+1) t listed acc=match (aj2 ops listed)[t % (aj2 ops listed).length]? with
   | some i=>Region.linearise.go .any ops fuel (t / (aj2 ops listed).length) (listed.setIfInBounds i true) (i::acc)
   | none=>acc.reverse:=rfl
  rw[e0]
  cases hi:(aj2 ops listed)[t % (aj2 ops listed).length]? with
  | some i=>
   obtain⟨l,hl,e⟩:=lin_mem ops fuel (t / (aj2 ops listed).length) (listed.setIfInBounds i true) (i::acc)
   refine⟨i::l,?_,by simp only;rw[e];simp⟩
   have hm:=List.mem_of_getElem? hi
   have hne:(aj2 ops listed).isEmpty=false:=by
    cases hrs:aj2 ops listed with
    | nil=>rw[hrs]at hm;cases hm
    | cons=>rfl
   simp only[allLin,hne,Bool.false_eq_true,if_false]
   exact List.mem_flatMap.2 ⟨i,hm,List.mem_map.2 ⟨l,hl,rfl⟩⟩
  | none=>
   have hn:aj2 ops listed=[]:=by
    rw[List.getElem?_eq_none_iff]at hi
    cases hrs:aj2 ops listed with
    | nil=>rfl
    | cons a l=>
     rw[hrs]at hi
     have:=Nat.mod_lt t (show 0<(a::l).length by simp)
     omega
   refine⟨[],?_,by simp⟩
   simp[allLin,hn]
theorem schedule_mem {P:Program} (hm:P.follows .mixedOrders=true) (ops:Array Oper) (t:Nat):Region.schedule (P.follows .mixedOrders) ops t∈allLin ops ops.size (Array.replicate ops.size false):=by
 rw[hm]
 obtain⟨l,hl,e⟩:=lin_mem ops ops.size t (Array.replicate ops.size false) []
 have:Region.schedule true ops t=l:=by
  simp only[Region.schedule,Bool.true_or,if_true,Region.linearise]
  rw[e];simp
 rw[this];exact hl
theorem draw_step {P:Program} {main:Bool} {x:Frame×List Frame} {id:Nat} {ops:Array Oper} {k:List Item} (h:drawsAt x=some (id,ops,k)) (w:World):
  stepG P main (gOf x) w=.go (gOf (ordered x ops k (Region.schedule (P.follows .mixedOrders) ops (w.tape w.drawn (.order x.1.fn id))))) { w with drawn:=w.drawn+1 } #[]:=by
 obtain⟨⟨fn,tmps,todo,ds,mode,kind,ro⟩,cs⟩:=x
 unfold drawsAt at h
 simp only at h
 split at h
 ·simp only[Option.some.injEq,Prod.mk.injEq]at h
  obtain⟨rfl,rfl,rfl⟩:=h
  simp[gOf,ordered,G,stepG,stepG.exec,choose,Sem.run,Question.forced,Question.cut]
 ·cases h
def goesAt (P:Program) (x:Frame×List Frame):Option Deferred:=match opAt x with
 | some o=>match (execOp x.1.eval o).pureRun P with
  | some (.spawn ⟨.fn (.func f) c,ar⟩)=>some ⟨.fn (.func f) c,ar⟩
  | _=>none
 | none=>none
theorem spawn_step {P:Program} {main:Bool} {x:Frame×List Frame} {d:Deferred} (h:goesAt P x=some d) (w:World):
  stepG P main (gOf x) w=.spawn (gOf (did x undef)) (gOf ({ (default:Frame)with fn:=P.funcs.size,defers:=[d],mode:=.panicking [goexitEntry] },[])) w #[]:=by
 unfold goesAt at h
 split at h
 ·rename_i o ho
  split at h
  ·rename_i f c ar hf
   obtain rfl:=Option.some.inj h
   obtain⟨e1,e2⟩:=op_apply (P:=P) (main:=main) (w:=w) ho
   show stepG P main (G x.1 x.2) w=_
   rw[e1]
   simp only[stepG.apply,am4 hf w #[],if_true,GStep.after,Array.append_empty,e2,Bool.false_eq_true,if_false,seen_none,Bool.and_false,Bool.false_and]
   rfl
  ·cases h
 ·cases h
def closesAt (P:Program) (x:Frame×List Frame):Option Nat:=match x.1.roundOf,x.1.mode,x.1.kind==CallKind.early,x.1.todo with
 | none,.run,false,.inRegion ops (i::_)::_=>match ops[i]? with
  | some o=>if Region.wanted o (yielded ops x.1.tmps)then match o.op with
   | .call { callee:=.builtin .close,args:=ar,argTypes:=_ }=>match ar.toList with
    | [y]=>match x.1.eval y with
     | .chan (some c)=>if(P.funcs[x.1.fn]?).any (·.norace)then none else some c
     | _=>none
    | _=>none
   | _=>none
   else none
  | none=>none
 | _,_,_,_=>none
theorem close_step {P:Program} {main:Bool} {x:Frame×List Frame} {c:Nat} (h:closesAt P x=some c) {w:World} {cap s r:Nat} {buf:Array Value} {tm:Bool} (hc:w.heap[c]?=some (.chan cap buf false s r tm)):
  stepG P main (gOf x) w=.go (gOf (did x (.tuple #[]))) (w.setChan c cap buf true s r tm) (closeEvents c):=by
 obtain⟨⟨fn,tmps,todo,ds,mode,kind,ro⟩,cs⟩:=x
 unfold closesAt at h
 simp only at h
 split at h
 ·rename_i ops i r2 r3 r4
  split at h
  ·rename_i o ho
   split at h
   ·rename_i hw
    split at h
    ·rename_i ar ats hop
     split at h
     ·rename_i y har
      have har':ar=#[y]:=by apply Array.ext';simpa using har
      subst har'
      split at h
      ·rename_i c' hy
       split at h
       ·cases h
       rename_i hq
       obtain rfl:=Option.some.inj h
       have hk:kind≠.early:=fun e=>by subst e;simp at r4
       have hm:(Frame.mk fn tmps (.inRegion ops (i::r2)::r3) ds .run kind none).eval=(Act.mk tmps ds).eval:=Frame.eval_at' (Frame.mk fn tmps [] ds .run kind none) ⟨tmps,ds⟩ (.inRegion ops (i::r2)::r3)
       rw[hm]at hy
       refine(stepG_close (b:=Frame.mk fn tmps [] ds .run kind none) (a:=⟨tmps,ds⟩) (kk:=r3) ho hw hk hop hy hc (by simpa using hq)).trans ?_
       unfold did Act.put Frame.at Frame.finish gOf
       simp only[ho,Option.bind_some]
       cases o.dst<;>rfl
      ·cases h
     ·cases h
    ·cases h
   ·cases h
  ·cases h
 ·cases h
section
variable {P:Program} {Z:Nat→Prop} {Shun Still:Loc→Prop} {Mem Loose:Nat→Prop} {h j:Nat} {By:Nat→Goroutine→World→Trace→Prop} {gs:Array Goroutine} {w:World} {sl:Option (Nat×Nat)} {t:Trace} {J:World→Prop}
theorem Holds.reads {Od:Old} (hu:Under Shun Z) (O:ByOk P Z Shun Still (fun B t=>PX Shun Still Mem Loose B h t) j By) {x:Frame×List Frame} {vs:List Value} {ads:List Addr} {y:Value} (hr:ag7 P x vs=some (ads,y)) (hc:∀v,J v→Cells v ads vs)
  (H:Holds Od P Z Shun Still Mem Loose h j By (fun g v=>g=gOf x∧J v) gs w t):ComesTo P gs w sl t (Holds Od P Z Shun Still Mem Loose h j By (fun g v=>g=gOf (did x y)∧J v)):=by
 obtain⟨q,n,B,g,v,h1,⟨rfl,h2⟩,T,hZ,D⟩:=H
 refine go_duo (Mem':=Mem) (Loose':=Loose) O h1 rfl D D.mem fun w1 n1 b1 t1 ho hB hp d=>?_
 have T1:Twin Od Z v (w1.at d):=(T.off ho).off (OffZ.at w1 d)
 obtain⟨hcw,hnz⟩:=cells_twin T1 (hc v h2)
 have hsz:w1.heap.size≤B:=by rw[ho.size];exact D.size
 have hev:∀e∈al2 ads,EvH Shun Still B e:=fun e he=>by
  simp only[al2,List.mem_toArray,List.mem_map]at he
  obtain⟨a,ha,rfl⟩:=he
  obtain⟨z1,z2⟩:=hnz a ha
  refine⟨fun b hb=>?_,by simp,by simp,Nat.lt_of_lt_of_le z2 hsz,by simp⟩
  obtain rfl:=Option.some.inj hb
  exact⟨fun _=>rfl,fun hs=>(z1 (hu.1 _ hs)).elim⟩
 refine⟨_,_,_,B,reads_step hr hcw,Nat.le_refl _,hsz,hp.own hev,By,n1,?_,fun gs' q' n' hz h1' D1 sl'=>.now ⟨q',n',B,_,v,h1',⟨rfl,h2⟩,T1,hZ,D1⟩⟩
 rw[woken_of_again (O.again hB (w1.at d) (fun _ _=>rfl))]
 exact O.calm (w1.at d) _ hB (fun _ _=>rfl) (ai1 D.ne hev)
theorem Holds.draws {Od:Old} (hm:P.follows .mixedOrders=true) (O:ByOk P Z Shun Still (fun B t=>PX Shun Still Mem Loose B h t) j By) {x:Frame×List Frame} {id:Nat} {ops:Array Oper} {k:List Item} {L:List (List Nat)} (hd:drawsAt x=some (id,ops,k)) (hL:allLin ops ops.size (Array.replicate ops.size false)=L)
  (H:Holds Od P Z Shun Still Mem Loose h j By (fun g v=>g=gOf x∧J v) gs w t):ComesTo P gs w sl t (Holds Od P Z Shun Still Mem Loose h j By (fun g v=>(∃l∈L,g=gOf (ordered x ops k l))∧J v)):=by
 obtain⟨q,n,B,g,v,h1,⟨rfl,h2⟩,T,hZ,D⟩:=H
 refine go_duo (Mem':=Mem) (Loose':=Loose) O h1 rfl D D.mem fun w1 n1 b1 t1 ho hB hp d=>?_
 have hsz:w1.heap.size≤B:=by rw[ho.size];exact D.size
 refine⟨_,w1.at (d+1),#[],B,draw_step hd _,Nat.le_refl _,hsz,hp.own (by simp),By,n1,?_,fun gs' q' n' hz h1' D1 sl'=>.now ⟨q',n',B,_,v,h1',⟨⟨_,by rw[←hL];exact schedule_mem hm ops _,rfl⟩,h2⟩,(T.off ho).off (OffZ.at w1 (d+1)),hZ,D1⟩⟩
 rw[woken_of_again (O.again hB (w1.at (d+1)) (fun _ _=>rfl))]
 exact O.calm (w1.at (d+1)) _ hB (fun _ _=>rfl) (ai1 D.ne (B:=B) (by simp))
end
end Go.Fxa
namespace Go.Fxa
open Go.Conc
structure StepOk (P:Program) (N:Fence) (m:Nat) (r:Nat) (sv:Value) (n:Int) (I:Int→World→Prop) (Cd:Int→Value→World→Prop) (Bd:World→Prop):Prop where
 wp:∀i v f,I i v→0≤i→i<n→∀τ d,(reg2 P).wpIn N m P (fun e a w'=>e=.normal∧a.defers=[]∧∃f' oc x,a.tmps=T32 (ups f' (sl6 r sv n i oc x))∧((oc=0∧I (i+1) w')∨(oc=1∧Cd i x w')∨(oc=2∧Bd w'))) ⟨T32 (ups f (sl4 r sv n i)),[]⟩ (v.re τ d)
 tI:∀i,Tapeless (I i)
 tC:∀i x,Tapeless (Cd i x)
 tB:Tapeless Bd
def AtSel (P:Program) (r q0 q2 q3:Nat) (sv:Value) (n lo:Int) (Y:List Frame) (I:Int→World→Prop) (Cd:Int→Value→World→Prop) (Bd:World→Prop) (g:Goroutine) (v:World):Prop:=
 (∃i f x,lo≤i∧i<n∧g=gOf (k3 P q0 q3 (ups f (sl6 r sv n i 1 x)) Y)∧Cd i x v)∨(∃i f x,g=gOf (e3 P q2 q3 (ups f (sl6 r sv n i 2 x)) Y)∧Bd v)∨(∃f,g=gOf (d3 P q2 q3 (ups f (sl4 r sv n n)) Y)∧I n v)
section
variable {P:Program} {L:FuncId→Prop} {p:Oper→Bool} {N:Fence} {m:Nat} {Z:Nat→Prop} {Shun Still:Loc→Prop} {Mem Loose:Nat→Prop} {c:Nat} {By:Nat→Goroutine→World→Trace→Prop} {K:World→Prop} {b5 b2 b3 r q0 q1 q2 q3:Nat} {sv:Value} {n:Int} {I:Int→World→Prop} {Cd:Int→Value→World→Prop} {Bd:World→Prop} {Y:List Frame} {hostF:FuncId}
theorem child_loop {Od:Old} (F:ChildFacts P b5 b2 b3 r q0 q1 q2 q3 sv n) (R:ReadOk K Still b5 b2 b3 r q0 q1 q2 q3 sv n) (S:StepOk P N m r sv n I Cd Bd) (hn:n≤1000) (FN:Fenced P L p N) (hu:Under Shun Z) (hstZ:Under Still Z)
  (hJ:∀n b w t,By n b w t→∀d,K (w.at d)) (hst:∀w a,K w→Still (.cell a)→a.block<w.heap.size) (hSS:∀l,Still l→¬Shun l) (O:ByOk P Z Shun Still (fun B t=>PX Shun Still Mem Loose B c t) 0 By)
  (hf:N.fn hostF) (hq:∀es,seen P 136 es=seen P hostF es) (hc2:(reg2 P).allOps p=true) {lo:Int} (hlo:0≤lo):
  ∀(k:Nat) (i:Int) (f:Nat→Value) (gs:Array Goroutine) (w:World) (sl:Option (Nat×Nat)) (t:Trace),(n-i).toNat≤k→lo≤i→i≤n→
  Holds Od P Z Shun Still Mem Loose c 0 By (fun g v=>g=gOf (LH P (ups f (sl4 r sv n i)) Y)∧I i v) gs w t→ComesTo P gs w sl t (Holds Od P Z Shun Still Mem Loose c 0 By (AtSel P r q0 q2 q3 sv n lo Y I Cd Bd)):=by
 intro k
 induction k with
 | zero=>
  intro i f gs w sl t hk h0 hle H
  obtain rfl:i=n:=by omega
  refine(H.walk (sl:=sl) hJ hst hSS O (child_spent F R f Y (by omega))).mono fun gs' w' t' H'=>H'.mono fun g v ⟨hg,hv⟩=>.inr (.inr ⟨f,hg,hv⟩)
 | succ k ih=>
  intro i f gs w sl t hk h0 hle H
  by_cases hi:i<n
  ·obtain⟨f1,hw1⟩:=child_more (main:=c==0) (K:=K) (Still:=Still) F f Y hi
   refine(H.walk (sl:=sl) hJ hst hSS O hw1).bind fun gs1 w1 sl1 t1 _ H1=>?_
   refine(Holds.piece (sl:=sl1) FN hu hstZ O hf hq rfl hc2 (fun e a w hx=>⟨.inl hx.1,hx.2.1⟩) (fun v hv=>S.wp i v f1 hv (by omega) hi) H1).bind fun gs2 w2 sl2 t2 _ H2=>?_
   obtain⟨q,n',B,g,v,j1,⟨tm,τ,d,hb⟩,j3,j4,j5⟩:=H2
   rcases hb with⟨rfl,_,_,f',oc,x,ht,hx⟩|⟨todo,_,he,_⟩
   ·simp only at ht
    subst ht
    rcases hx with⟨rfl,hx⟩|⟨rfl,hx⟩|⟨rfl,hx⟩
    ·obtain⟨f2,hw2⟩:=child_on (main:=c==0) (K:=K) (Still:=Still) F f' Y i x
     have e:IntKind.i64.wrap (i+1)=i+1:=by simp[IntKind.wrap,IntKind.bits,IntKind.signed];omega
     rw[e]at hw2
     refine(Holds.walk (sl:=sl2) (J:=I (i+1)) hJ hst hSS O ⟨q,n',B,_,v,j1,⟨rfl,(S.tI _).back hx⟩,j3,j4,j5⟩ hw2).bind fun gs3 w3 sl3 t3 _ H3=>?_
     exact ih (i+1) f2 gs3 w3 sl3 t3 (by omega) (by omega) (by omega) H3
    ·refine(Holds.walk (sl:=sl2) (J:=Cd i x) hJ hst hSS O ⟨q,n',B,_,v,j1,⟨rfl,(S.tC _ _).back hx⟩,j3,j4,j5⟩ (child_calls F R f' Y i x)).mono fun gs' w' t' H'=>H'.mono fun g v ⟨hg,hv⟩=>.inl ⟨i,f',x,h0,hi,hg,hv⟩
    ·refine(Holds.walk (sl:=sl2) (J:=Bd) hJ hst hSS O ⟨q,n',B,_,v,j1,⟨rfl,S.tB.back hx⟩,j3,j4,j5⟩ (child_bad F R f' Y i x)).mono fun gs' w' t' H'=>H'.mono fun g v ⟨hg,hv⟩=>.inr (.inl ⟨i,f',x,hg,hv⟩)
   ·cases he
  ·obtain rfl:i=n:=by omega
   refine(H.walk (sl:=sl) hJ hst hSS O (child_spent F R f Y (by omega))).mono fun gs' w' t' H'=>H'.mono fun g v ⟨hg,hv⟩=>.inr (.inr ⟨f,hg,hv⟩)
end
end Go.Fxa
namespace Go.Fxa
open Go.Conc
open Go.Proofs
def TN (n:Nat) (f:Nat→Value):Array Value:=((List.range n).map f).toArray
theorem TN_eta {T:Array Value} {n:Nat} (h:T.size=n):T=TN n fun i=>T.getD i undef:=by
 apply Array.ext
 ·simp[TN,h]
 ·intro i h1 h2
  simp[TN,Array.getD,h1]
theorem at_toldN {x:Frame×List Frame} {fn:FuncId} {todo:List Item} {ds:List Deferred} {kd:CallKind} {Y:List Frame} {l:List (Nat×Value)} {n:Nat} (h:ae2 x=(fn,todo,ds,.run,kd,none,Y)) (hs:ad0 x (l.map (·.1))=l.map (·.2)) (hz:x.1.tmps.size=n):
  x=(Frame.mk fn (TN n (ups (slot x) l)) todo ds .run kd none,Y):=by
 rw[slots_ups hs]
 obtain⟨⟨a,b,c,d,e,f,g⟩,y⟩:=x
 simp only[ae2,Prod.mk.injEq]at h
 obtain⟨rfl,rfl,rfl,rfl,rfl,rfl,rfl⟩:=h
 simp only[Prod.mk.injEq,Frame.mk.injEq,and_true,true_and]
 exact TN_eta hz
section
variable (P:Program) (r q0 q1 q3:Nat) (sv:Value) (n i:Int) (w A:Value) (f g:Nat→Value) (Y:List Frame) (td:List Item)
def a0:=did (m3 P q0 q1 q3 w f Y) (commResult (an1 q1 q3) .select 0 A true)
def a1:=run P 6 (a0 P q0 q1 q3 w A f Y)
def ansC:Code:=match (a1 P 0 0 0 (.int .u16 0) zAns (ups u0 (sl6 0 (pr 0) 0 0 1 (.int .u16 0))) []).1.todo with
 | .code c::_=>c
 | _=>.skip
def todoA:List Item:=(a1 P 0 0 0 (.int .u16 0) zAns (ups u0 (sl6 0 (pr 0) 0 0 1 (.int .u16 0))) []).1.todo.tail
def YA:=(m3 P q0 q1 q3 w f Y).2
def slA:List (Nat×Value):=[(1,sv),(29,commResult (an1 q1 q3) .select 0 A true)]
def a2:Frame×List Frame:=(Frame.mk 187 (TN 49 (ups g [(6,.bool true)])) td [] .returning .normal none,YA P q0 q1 q3 w f Y)
end
structure AnsFacts (P:Program) (r q0 q1 q3:Nat) (sv:Value) (n:Int):Prop where
 h1:∀(f:Nat→Value) (Y:List Frame) (i:Int) (w A:Value),logs P 6 (a0 P q0 q1 q3 w A (ups f (sl6 r sv n i 1 w)) Y)=some []
 h2:∀(f:Nat→Value) (Y:List Frame) (i:Int) (w A:Value),ae2 (a1 P q0 q1 q3 w A (ups f (sl6 r sv n i 1 w)) Y)=(187,.code (ansC P)::todoA P,[],.run,.normal,none,YA P q0 q1 q3 w (ups f (sl6 r sv n i 1 w)) Y)
 h3:∀(f:Nat→Value) (Y:List Frame) (i:Int) (w A:Value),ad0 (a1 P q0 q1 q3 w A (ups f (sl6 r sv n i 1 w)) Y) [1,29]=[sv,commResult (an1 q1 q3) .select 0 A true]
 h4:∀(f:Nat→Value) (Y:List Frame) (i:Int) (w A:Value),(a1 P q0 q1 q3 w A (ups f (sl6 r sv n i 1 w)) Y).1.tmps.size=49
 j1:∀(f g:Nat→Value) (Y:List Frame) (td:List Item) (i:Int) (w:Value),logs P 12 (a2 P q0 q1 q3 w (ups f (sl6 r sv n i 1 w)) g Y td)=some []
 j2:∀(f g:Nat→Value) (Y:List Frame) (td:List Item) (i:Int) (w:Value),ae2 (run P 12 (a2 P q0 q1 q3 w (ups f (sl6 r sv n i 1 w)) g Y td))=(136,todoLH P,[],.run,.normal,none,Y)
 j3:∀(f g:Nat→Value) (Y:List Frame) (td:List Item) (i:Int) (w:Value),ad0 (run P 12 (a2 P q0 q1 q3 w (ups f (sl6 r sv n i 1 w)) g Y td)) [0,1,8,9]=[pr r,sv,.int .i64 n,.int .i64 (IntKind.i64.wrap (i+1))]
 j4:∀(f g:Nat→Value) (Y:List Frame) (td:List Item) (i:Int) (w:Value),(run P 12 (a2 P q0 q1 q3 w (ups f (sl6 r sv n i 1 w)) g Y td)).1.tmps.size=32
section
variable {r q0 q1 q3:Nat} {sv:Value} {n:Int}
theorem ans_facts:AnsFacts Tryz.prog r q0 q1 q3 sv n:=by
 constructor<;>intros<;>kernel_rfl
end
section
variable {P:Program} {K:World→Prop} {Still:Loc→Prop} {main:Bool} {r q0 q1 q3:Nat} {sv:Value} {n:Int}
theorem child_answered (F:AnsFacts P r q0 q1 q3 sv n) (f:Nat→Value) (Y:List Frame) (i:Int) (w A:Value):
  ∃f',RW P main K Still 6 (Conc.served (gOf (m3 P q0 q1 q3 w (ups f (sl6 r sv n i 1 w)) Y)) (commResult (an1 q1 q3) .select 0 A true)) (gOf (Frame.mk 187 (TN 49 (ups f' (slA q1 q3 sv A))) (.code (ansC P)::todoA P) [] .run .normal none,YA P q0 q1 q3 w (ups f (sl6 r sv n i 1 w)) Y)):=by
 have h:RW P main K Still 6 (gOf (a0 P q0 q1 q3 w A (ups f (sl6 r sv n i 1 w)) Y)) (gOf (a1 P q0 q1 q3 w A (ups f (sl6 r sv n i 1 w)) Y)):=RW.logs (F.h1 f Y i w A)
 have e:=at_toldN (l:=slA q1 q3 sv A) (F.h2 f Y i w A) (F.h3 f Y i w A) (F.h4 f Y i w A)
 refine⟨slot (a1 P q0 q1 q3 w A (ups f (sl6 r sv n i 1 w)) Y),?_⟩
 rw[e]at h
 exact h
theorem child_again (F:AnsFacts P r q0 q1 q3 sv n) (f g:Nat→Value) (Y:List Frame) (td:List Item) (i:Int) (w:Value):
  ∃f',RW P main K Still 12 (gOf (a2 P q0 q1 q3 w (ups f (sl6 r sv n i 1 w)) g Y td)) (gOf (LH P (ups f' (sl4 r sv n (IntKind.i64.wrap (i+1)))) Y)):=by
 have h:=RW.logs (main:=main) (K:=K) (Still:=Still) (F.j1 f g Y td i w)
 have e:=at_told (l:=sl4 r sv n (IntKind.i64.wrap (i+1))) (F.j2 f g Y td i w) (F.j3 f g Y td i w) (F.j4 f g Y td i w)
 refine⟨slot (run P 12 (a2 P q0 q1 q3 w (ups f (sl6 r sv n i 1 w)) g Y td)),?_⟩
 rw[e]at h
 exact h
end
theorem ag2 {x:Frame×List Frame} {fn:FuncId} {todo:List Item} {ds:List Deferred} {m:FrameMode} {kd:CallKind} {Y:List Frame} {l:List (Nat×Value)} {n:Nat} (h:ae2 x=(fn,todo,ds,m,kd,none,Y)) (hs:ad0 x (l.map (·.1))=l.map (·.2)) (hz:x.1.tmps.size=n):
  x=(Frame.mk fn (TN n (ups (slot x) l)) todo ds m kd none,Y):=by
 rw[slots_ups hs]
 obtain⟨⟨a,b,c,d,e,f,g⟩,y⟩:=x
 simp only[ae2,Prod.mk.injEq]at h
 obtain⟨rfl,rfl,rfl,rfl,rfl,rfl,rfl⟩:=h
 simp only[Prod.mk.injEq,Frame.mk.injEq,and_true,true_and]
 exact TN_eta hz
def hdC (x:Frame×List Frame):Code:=match x.1.todo with
 | .code c::_=>c
 | _=>.skip
def tlT (x:Frame×List Frame):List Item:=x.1.todo.tail
def below (x:Frame×List Frame):Frame×List Frame:=match x.2 with
 | c::cs=>(c,cs)
 | []=>(default,[])
def pv (pa:Addr):Value:=.pointer (some pa)
def ag0:Value:=.slice none 0 0
def a00:Addr:=⟨0,0,none⟩
def commAt (P:Program) (x:Frame×List Frame):Option (Array CommCase×CommShape):=match opAt x with
 | some o=>match (execOp x.1.eval o).pureRun P with
  | some (.comm cs true sh)=>some (cs,sh)
  | _=>none
 | none=>none
theorem comm_step {P:Program} {main:Bool} {x:Frame×List Frame} {cs:Array CommCase} {sh:CommShape} (h:commAt P x=some (cs,sh)) (w:World):stepG P main (gOf x) w=.comm (gOf x) cs true sh w #[]:=by
 unfold commAt at h
 split at h
 ·rename_i o ho
  split at h
  ·rename_i cs' sh' hf
   simp only[Option.some.injEq,Prod.mk.injEq]at h
   obtain⟨rfl,rfl⟩:=h
   exact comm_at ho hf
  ·cases h
 ·cases h
def sk4 (kv:Value) (pa:Addr) (n:Int) (told:Value):List (Nat×Value):=[(0,kv),(1,pv pa),(2,.int .i64 n),(7,told)]
def slS (kv:Value) (pa:Addr) (told:Value) (r:Nat):List (Nat×Value):=[(0,kv),(1,pv pa),(7,told),(8,pr r)]
def slX (kv:Value) (pa:Addr) (told:Value) (r:Nat) (x:Value):List (Nat×Value):=[(0,kv),(1,pv pa),(7,told),(8,pr r),(9,x)]
def slF (kv:Value) (pa:Addr) (told:Value) (r bA:Nat):List (Nat×Value):=[(0,kv),(1,pv pa),(7,told),(8,pr r),(10,pr bA),(59,.bool false)]
def sl18 (b2 b3 b5:Nat):List (Nat×Value):=[(2,pr b2),(3,pr b3),(5,pr b5)]
def sl97 (r:Nat) (A:Value) (bB:Nat):List (Nat×Value):=[(0,pr r),(1,A),(3,pr bB)]
def cKer (q0 q2:Nat):Array CommCase:=#[rcase q0 (.int .u16 0),rcase q2 (.int .i64 0)]
def cAns (q1:Nat) (A:Value):Array CommCase:=#[scase q1 A (.tuple #[])]
def dsK (r:Nat):List Deferred:=[⟨.fn (.func 94) #[],#[pr r]⟩]
section
variable (P:Program) (kv:Value) (pa:Addr) (n:Int) (told:Value) (f g:Nat→Value) (cs Y:List Frame) (b2 b3 b5 r q0 q1 q2 q3 bA bB:Nat) (x A:Value) (o:Int) (td:List Item)
def z0:Frame×List Frame:=(Frame.enter P 56 #[kv,pv pa,.int .i64 n] .normal,cs)
def z1:=run P 9 (z0 P kv pa n cs)
def R2:Code:=hdC (z1 P (pr 0) a00 0 [])
def T2:List Item:=tlT (z1 P (pr 0) a00 0 [])
def f56 (ds:List Deferred):Frame×List Frame:=(Frame.mk 56 (TN 76 f) td ds .run .normal none,cs)
def R3:Code:=hdC (run P 1 (f56 u0 [] (T2 P) []))
def T3:List Item:=tlT (run P 1 (f56 u0 [] (T2 P) []))
def z5:=run P 8 (f56 (ups f (sk4 kv pa n told)) cs (T3 P) [])
def S0:Code:=hdC (z5 P (pr 0) a00 0 ag0 u0 [])
def U0:List Item:=tlT (z5 P (pr 0) a00 0 ag0 u0 [])
def Y4:=(z5 P kv pa n told f cs).2
def f93:Frame×List Frame:=(Frame.mk 93 (TN 18 g) td [] .run .normal none,Y)
def S1:Code:=hdC (run P 1 (f93 u0 [] (U0 P)))
def U1:List Item:=tlT (run P 1 (f93 u0 [] (U0 P)))
def y3:=run P 2 (f93 (ups g (sl18 b2 b3 b5)) Y (U1 P))
def y4:=run P 3 (did (y3 P g Y b2 b3 b5) (pr r))
def cA:Frame:=(below (y4 P g Y b2 b3 b5 r)).1
def y5:Frame×List Frame:=((cA P g Y b2 b3 b5 r).finish (.tuple #[]),Y)
def y6:=run P 4 (y5 P g Y b2 b3 b5 r)
def y7:=run P 3 (did (y6 P g Y b2 b3 b5 r) undef)
def y8:=run P 28 (did (y7 P g (Y4 P kv pa n told f cs) b2 b3 b5 r) (pr r))
def y9:=run P 17 (did (y8 P kv pa n told f g cs b2 b3 b5 r) (chn q0))
def y10:=run P 7 (did (y9 P kv pa n told f g cs b2 b3 b5 r q0) (chn q2))
def todoK:List Item:=(y10 P (pr 0) a00 0 ag0 u0 u0 [] 0 0 0 0 0 0).1.todo
def kS:Frame×List Frame:=f56 f cs (todoK P) (dsK r)
def x0:=did (kS P (ups f (slS kv pa told r)) cs r) (commResult (cKer q0 q2) .select 0 x true)
def x1:=run P 12 (x0 P kv pa told f cs r q0 q2 x)
def R10:Code:=hdC (x1 P (pr 0) a00 ag0 u0 [] 0 0 0 (.int .u16 0))
def T10:List Item:=tlT (x1 P (pr 0) a00 ag0 u0 [] 0 0 0 (.int .u16 0))
def R11:Code:=hdC (run P 2 (f56 u0 [] (T10 P) []))
def T11:List Item:=tlT (run P 2 (f56 u0 [] (T10 P) []))
def R15:Code:=hdC (run P 3 (f56 (ups u0 [(39,.bool false)]) [] (T11 P) []))
def T15:List Item:=tlT (run P 3 (f56 (ups u0 [(39,.bool false)]) [] (T11 P) []))
def R16:Code:=hdC (run P 2 (f56 u0 [] (T15 P) []))
def T16:List Item:=tlT (run P 2 (f56 u0 [] (T15 P) []))
def x18:=run P 4 (f56 (ups f (slF kv pa told r bA)) cs (T16 P) (dsK r))
def x19:=run P 2 (did (x18 P kv pa told f cs r bA) A)
def A0:Code:=hdC (x19 P (pr 0) a00 ag0 u0 [] 0 0 zAns)
def V97:List Item:=tlT (x19 P (pr 0) a00 ag0 u0 [] 0 0 zAns)
def Y18:=(x19 P kv pa told f cs r bA A).2
def f97:Frame×List Frame:=(Frame.mk 97 (TN 9 g) td [] .run .normal none,Y)
def ops97:Array Oper:=match drawsAt (f97 u0 [] (V97 P))with
 | some (_,ops,_)=>ops
 | none=>#[]
def lin (l:List Nat):Frame×List Frame:=ordered (f97 (ups g (sl97 r A bB)) Y (V97 P)) (ops97 P) [] l
def xs:Frame×List Frame:=(Frame.mk 97 (TN 9 (ups g [(0,pr r),(1,A),(3,pr bB),(4,pr r),(5,pr r),(6,.pointer (some ⟨r,1,none⟩)),(7,chn q1),(8,A)])) [.inRegion (ops97 P) [5]] [] .run .normal none,Y)
def v0:=did (xs P g (Y18 P kv pa told f cs r bA A) r q1 bB A) (commResult (cAns q1 A) .send 0 undef false)
def v1:=run P 22 (v0 P kv pa told f g cs r q1 bA bB A)
def v2:=run P 17 (did (v1 P kv pa told f g cs r q1 bA bB A) (chn q0))
def v3:=run P 7 (did (v2 P kv pa told f g cs r q0 q1 bA bB A) (chn q2))
def n0:=did (kS P (ups f (slS kv pa told r)) cs r) (commResult (cKer q0 q2) .select 1 (.int .i64 o) true)
def R21:Code:=hdC (run P 19 (n0 P (pr 0) a00 ag0 u0 [] 0 0 0 2))
def T21:List Item:=tlT (run P 19 (n0 P (pr 0) a00 ag0 u0 [] 0 0 0 2))
def w1:=run P 13 (f56 (ups f [(7,told),(59,.bool true)]) cs (T16 P) (dsK r))
def w2:=run P 32 (n0 P kv pa told f cs r q0 q2 0)
def w3:=run P 12 (f56 (ups f [(7,told)]) cs (T21 P) (dsK r))
def F56r:Frame:=Frame.mk 56 (TN 76 f) td [] .returning .normal none
def tdE1:List Item:=(below (w1 P ag0 u0 [] 0)).1.todo
def tdE2:List Item:=(below (w2 P (pr 0) a00 ag0 u0 [] 0 0 0)).1.todo
def tdE3:List Item:=(below (w3 P ag0 u0 [] 0)).1.todo
def sR:=run P 5 (Frame.enter P 94 #[pr r] .deferred,Y)
def sC:=did (sR P Y r) (chn q3)
def sD:=did (sC P Y r q3) (.tuple #[])
def c94:Frame:=(below (run P 6 (sD P Y r q3))).1
end
structure KerFacts (P:Program):Prop where
 z1a:∀(kv:Value) (pa:Addr) (n:Int) (cs:List Frame),logs P 9 (z0 P kv pa n cs)=some []
 z1b:∀(kv:Value) (pa:Addr) (n:Int) (cs:List Frame),ae2 (z1 P kv pa n cs)=(56,.code (R2 P)::T2 P,[],.run,.normal,none,cs)
 z1c:∀(kv:Value) (pa:Addr) (n:Int) (cs:List Frame),ad0 (z1 P kv pa n cs) [0,1,2,7]=[kv,pv pa,.int .i64 n,ag0]
 z1d:∀(kv:Value) (pa:Addr) (n:Int) (cs:List Frame),(z1 P kv pa n cs).1.tmps.size=76
 z3:∀(f:Nat→Value) (cs:List Frame),ah7 P (some (257,6)) 1 (f56 f cs (T2 P) [])=some ([],f56 f cs (.code (R3 P)::T3 P) [])
 z5a:∀(kv:Value) (pa:Addr) (n:Int) (told:Value) (f:Nat→Value) (cs:List Frame),logs P 8 (f56 (ups f (sk4 kv pa n told)) cs (T3 P) [])=some []
 z5b:∀(kv:Value) (pa:Addr) (n:Int) (told:Value) (f:Nat→Value) (cs:List Frame),ae2 (z5 P kv pa n told f cs)=(93,.code (S0 P)::U0 P,[],.run,.normal,none,Y4 P kv pa n told f cs)
 z5c:∀(kv:Value) (pa:Addr) (n:Int) (told:Value) (f:Nat→Value) (cs:List Frame),ad0 (z5 P kv pa n told f cs) [0,1]=[.pointer (some (pa.add 5)),.int .i64 n]
 z5d:∀(kv:Value) (pa:Addr) (n:Int) (told:Value) (f:Nat→Value) (cs:List Frame),(z5 P kv pa n told f cs).1.tmps.size=18
 y1:∀(g:Nat→Value) (Y:List Frame),ah7 P (some (257,6)) 1 (f93 g Y (U0 P))=some ([],f93 g Y (.code (S1 P)::U1 P))
 y3a:∀(g:Nat→Value) (Y:List Frame) (b2 b3 b5:Nat),logs P 2 (f93 (ups g (sl18 b2 b3 b5)) Y (U1 P))=some []
 y3b:∀(g:Nat→Value) (Y:List Frame) (b2 b3 b5 r:Nat),ag1 P (y3 P g Y b2 b3 b5) (pr r)=some ([⟨b5,0,none⟩],pr r)
 y4a:∀(g:Nat→Value) (Y:List Frame) (b2 b3 b5 r:Nat),logs P 3 (did (y3 P g Y b2 b3 b5) (pr r))=some []
 y4b:∀(g:Nat→Value) (Y:List Frame) (b2 b3 b5 r:Nat),y4 P g Y b2 b3 b5 r=aS P r (cA P g Y b2 b3 b5 r::Y)
 y6a:∀(g:Nat→Value) (Y:List Frame) (b2 b3 b5 r:Nat),logs P 4 (y5 P g Y b2 b3 b5 r)=some []
 y6b:∀(g:Nat→Value) (Y:List Frame) (b2 b3 b5 r:Nat),goesAt P (y6 P g Y b2 b3 b5 r)=some ⟨.fn (.func 134) #[pr b5,pr b2,pr b3],#[]⟩
 y7a:∀(g:Nat→Value) (Y:List Frame) (b2 b3 b5 r:Nat),logs P 3 (did (y6 P g Y b2 b3 b5 r) undef)=some []
 y7b:∀(g:Nat→Value) (Y:List Frame) (b2 b3 b5 r:Nat),ag1 P (y7 P g Y b2 b3 b5 r) (pr r)=some ([⟨b5,0,none⟩],pr r)
 y8a:∀(kv:Value) (pa:Addr) (n:Int) (told:Value) (f g:Nat→Value) (cs:List Frame) (b2 b3 b5 r:Nat),logs P 28 (did (y7 P g (Y4 P kv pa n told f cs) b2 b3 b5 r) (pr r))=some []
 y8b:∀(kv:Value) (pa:Addr) (n:Int) (told:Value) (f g:Nat→Value) (cs:List Frame) (b2 b3 b5 r q0:Nat),ag1 P (y8 P kv pa n told f g cs b2 b3 b5 r) (chn q0)=some ([⟨r,0,none⟩],chn q0)
 y9a:∀(kv:Value) (pa:Addr) (n:Int) (told:Value) (f g:Nat→Value) (cs:List Frame) (b2 b3 b5 r q0:Nat),logs P 17 (did (y8 P kv pa n told f g cs b2 b3 b5 r) (chn q0))=some []
 y9b:∀(kv:Value) (pa:Addr) (n:Int) (told:Value) (f g:Nat→Value) (cs:List Frame) (b2 b3 b5 r q0 q2:Nat),ag1 P (y9 P kv pa n told f g cs b2 b3 b5 r q0) (chn q2)=some ([⟨r,2,none⟩],chn q2)
 y10a:∀(kv:Value) (pa:Addr) (n:Int) (told:Value) (f g:Nat→Value) (cs:List Frame) (b2 b3 b5 r q0 q2:Nat),logs P 7 (did (y9 P kv pa n told f g cs b2 b3 b5 r q0) (chn q2))=some []
 y10b:∀(kv:Value) (pa:Addr) (n:Int) (told:Value) (f g:Nat→Value) (cs:List Frame) (b2 b3 b5 r q0 q2:Nat),ae2 (y10 P kv pa n told f g cs b2 b3 b5 r q0 q2)=(56,todoK P,dsK r,.run,.normal,none,cs)
 y10c:∀(kv:Value) (pa:Addr) (n:Int) (told:Value) (f g:Nat→Value) (cs:List Frame) (b2 b3 b5 r q0 q2:Nat),ad0 (y10 P kv pa n told f g cs b2 b3 b5 r q0 q2) [0,1,7,8,25,27]=[kv,pv pa,told,pr r,chn q0,chn q2]
 y10d:∀(kv:Value) (pa:Addr) (n:Int) (told:Value) (f g:Nat→Value) (cs:List Frame) (b2 b3 b5 r q0 q2:Nat),(y10 P kv pa n told f g cs b2 b3 b5 r q0 q2).1.tmps.size=76
 k1:∀(f:Nat→Value) (cs:List Frame) (r q0 q2:Nat),casesAt P (kS P (ups f [(25,chn q0),(27,chn q2)]) cs r)=some (cKer q0 q2)
 x1a:∀(kv:Value) (pa:Addr) (told:Value) (f:Nat→Value) (cs:List Frame) (r q0 q2:Nat) (x:Value),logs P 12 (x0 P kv pa told f cs r q0 q2 x)=some []
 x1b:∀(kv:Value) (pa:Addr) (told:Value) (f:Nat→Value) (cs:List Frame) (r q0 q2:Nat) (x:Value),ae2 (x1 P kv pa told f cs r q0 q2 x)=(56,.code (R10 P)::T10 P,dsK r,.run,.normal,none,cs)
 x1c:∀(kv:Value) (pa:Addr) (told:Value) (f:Nat→Value) (cs:List Frame) (r q0 q2:Nat) (x:Value),ad0 (x1 P kv pa told f cs r q0 q2 x) [0,1,7,8,9]=[kv,pv pa,told,pr r,x]
 x1d:∀(kv:Value) (pa:Addr) (told:Value) (f:Nat→Value) (cs:List Frame) (r q0 q2:Nat) (x:Value),(x1 P kv pa told f cs r q0 q2 x).1.tmps.size=76
 x2:∀(f:Nat→Value) (cs:List Frame) (r:Nat),ah7 P (some (257,6)) 2 (f56 f cs (T10 P) (dsK r))=some ([],f56 f cs (.code (R11 P)::T11 P) (dsK r))
 x3:∀(f:Nat→Value) (cs:List Frame) (r:Nat),ah7 P (some (257,6)) 3 (f56 (ups f [(39,.bool false)]) cs (T11 P) (dsK r))=some ([],f56 (ups f [(39,.bool false)]) cs (.code (R15 P)::T15 P) (dsK r))
 x4:∀(f:Nat→Value) (cs:List Frame) (r:Nat),ah7 P (some (257,6)) 2 (f56 f cs (T15 P) (dsK r))=some ([],f56 f cs (.code (R16 P)::T16 P) (dsK r))
 x18a:∀(kv:Value) (pa:Addr) (told:Value) (f:Nat→Value) (cs:List Frame) (r bA:Nat),logs P 4 (f56 (ups f (slF kv pa told r bA)) cs (T16 P) (dsK r))=some []
 x18b:∀(kv:Value) (pa:Addr) (told:Value) (f:Nat→Value) (cs:List Frame) (r bA:Nat) (s0 s1 s2:Value),ag7 P (x18 P kv pa told f cs r bA) [s0,s1,s2]=some ([⟨bA,0,none⟩,⟨bA,1,none⟩,⟨bA,2,none⟩],.agg #[s0,s1,s2])
 x19a:∀(kv:Value) (pa:Addr) (told:Value) (f:Nat→Value) (cs:List Frame) (r bA:Nat) (A:Value),logs P 2 (did (x18 P kv pa told f cs r bA) A)=some []
 x19b:∀(kv:Value) (pa:Addr) (told:Value) (f:Nat→Value) (cs:List Frame) (r bA:Nat) (A:Value),ae2 (x19 P kv pa told f cs r bA A)=(97,.code (A0 P)::V97 P,[],.run,.normal,none,Y18 P kv pa told f cs r bA A)
 x19c:∀(kv:Value) (pa:Addr) (told:Value) (f:Nat→Value) (cs:List Frame) (r bA:Nat) (A:Value),ad0 (x19 P kv pa told f cs r bA A) [0,1]=[pr r,A]
 x19d:∀(kv:Value) (pa:Addr) (told:Value) (f:Nat→Value) (cs:List Frame) (r bA:Nat) (A:Value),(x19 P kv pa told f cs r bA A).1.tmps.size=9
 dr:∀(g:Nat→Value) (Y:List Frame),drawsAt (f97 g Y (V97 P))=some (1,ops97 P,[])
 dl:allLin (ops97 P) (ops97 P).size (Array.replicate (ops97 P).size false)=[[0,1,2,3,4,5],[0,1,2,4,3,5],[0,1,4,2,3,5],[0,4,1,2,3,5],[4,0,1,2,3,5]]
 l1a:∀(g:Nat→Value) (Y:List Frame) (r bB:Nat) (A:Value),logs P 3 (lin P g Y r bB A [0,1,2,3,4,5])=some []
 l1b:∀(g:Nat→Value) (Y:List Frame) (r bB q1:Nat) (A:Value),ag1 P (run P 3 (lin P g Y r bB A [0,1,2,3,4,5])) (chn q1)=some ([⟨r,1,none⟩],chn q1)
 l1c:∀(g:Nat→Value) (Y:List Frame) (r bB q1:Nat) (A:Value) (s0 s1 s2:Value),ag7 P (did (run P 3 (lin P g Y r bB A [0,1,2,3,4,5])) (chn q1)) [s0,s1,s2]=some ([⟨bB,0,none⟩,⟨bB,1,none⟩,⟨bB,2,none⟩],.agg #[s0,s1,s2])
 l1d:∀(g:Nat→Value) (Y:List Frame) (r bB q1:Nat) (A:Value),did (did (run P 3 (lin P g Y r bB A [0,1,2,3,4,5])) (chn q1)) A=xs P g Y r q1 bB A
 l2a:∀(g:Nat→Value) (Y:List Frame) (r bB:Nat) (A:Value),logs P 3 (lin P g Y r bB A [0,1,2,4,3,5])=some []
 l2b:∀(g:Nat→Value) (Y:List Frame) (r bB:Nat) (A:Value) (s0 s1 s2:Value),ag7 P (run P 3 (lin P g Y r bB A [0,1,2,4,3,5])) [s0,s1,s2]=some ([⟨bB,0,none⟩,⟨bB,1,none⟩,⟨bB,2,none⟩],.agg #[s0,s1,s2])
 l2c:∀(g:Nat→Value) (Y:List Frame) (r bB q1:Nat) (A:Value),ag1 P (did (run P 3 (lin P g Y r bB A [0,1,2,4,3,5])) A) (chn q1)=some ([⟨r,1,none⟩],chn q1)
 l2d:∀(g:Nat→Value) (Y:List Frame) (r bB q1:Nat) (A:Value),did (did (run P 3 (lin P g Y r bB A [0,1,2,4,3,5])) A) (chn q1)=xs P g Y r q1 bB A
 l3a:∀(g:Nat→Value) (Y:List Frame) (r bB:Nat) (A:Value),logs P 2 (lin P g Y r bB A [0,1,4,2,3,5])=some []
 l3b:∀(g:Nat→Value) (Y:List Frame) (r bB:Nat) (A:Value) (s0 s1 s2:Value),ag7 P (run P 2 (lin P g Y r bB A [0,1,4,2,3,5])) [s0,s1,s2]=some ([⟨bB,0,none⟩,⟨bB,1,none⟩,⟨bB,2,none⟩],.agg #[s0,s1,s2])
 l3c:∀(g:Nat→Value) (Y:List Frame) (r bB:Nat) (A:Value),logs P 1 (did (run P 2 (lin P g Y r bB A [0,1,4,2,3,5])) A)=some []
 l3d:∀(g:Nat→Value) (Y:List Frame) (r bB q1:Nat) (A:Value),ag1 P (run P 1 (did (run P 2 (lin P g Y r bB A [0,1,4,2,3,5])) A)) (chn q1)=some ([⟨r,1,none⟩],chn q1)
 l3e:∀(g:Nat→Value) (Y:List Frame) (r bB q1:Nat) (A:Value),did (run P 1 (did (run P 2 (lin P g Y r bB A [0,1,4,2,3,5])) A)) (chn q1)=xs P g Y r q1 bB A
 l4a:∀(g:Nat→Value) (Y:List Frame) (r bB:Nat) (A:Value),logs P 1 (lin P g Y r bB A [0,4,1,2,3,5])=some []
 l4b:∀(g:Nat→Value) (Y:List Frame) (r bB:Nat) (A:Value) (s0 s1 s2:Value),ag7 P (run P 1 (lin P g Y r bB A [0,4,1,2,3,5])) [s0,s1,s2]=some ([⟨bB,0,none⟩,⟨bB,1,none⟩,⟨bB,2,none⟩],.agg #[s0,s1,s2])
 l4c:∀(g:Nat→Value) (Y:List Frame) (r bB:Nat) (A:Value),logs P 2 (did (run P 1 (lin P g Y r bB A [0,4,1,2,3,5])) A)=some []
 l4d:∀(g:Nat→Value) (Y:List Frame) (r bB q1:Nat) (A:Value),ag1 P (run P 2 (did (run P 1 (lin P g Y r bB A [0,4,1,2,3,5])) A)) (chn q1)=some ([⟨r,1,none⟩],chn q1)
 l4e:∀(g:Nat→Value) (Y:List Frame) (r bB q1:Nat) (A:Value),did (run P 2 (did (run P 1 (lin P g Y r bB A [0,4,1,2,3,5])) A)) (chn q1)=xs P g Y r q1 bB A
 l5a:∀(g:Nat→Value) (Y:List Frame) (r bB:Nat) (A:Value),logs P 0 (lin P g Y r bB A [4,0,1,2,3,5])=some []
 l5b:∀(g:Nat→Value) (Y:List Frame) (r bB:Nat) (A:Value) (s0 s1 s2:Value),ag7 P (run P 0 (lin P g Y r bB A [4,0,1,2,3,5])) [s0,s1,s2]=some ([⟨bB,0,none⟩,⟨bB,1,none⟩,⟨bB,2,none⟩],.agg #[s0,s1,s2])
 l5c:∀(g:Nat→Value) (Y:List Frame) (r bB:Nat) (A:Value),logs P 3 (did (run P 0 (lin P g Y r bB A [4,0,1,2,3,5])) A)=some []
 l5d:∀(g:Nat→Value) (Y:List Frame) (r bB q1:Nat) (A:Value),ag1 P (run P 3 (did (run P 0 (lin P g Y r bB A [4,0,1,2,3,5])) A)) (chn q1)=some ([⟨r,1,none⟩],chn q1)
 l5e:∀(g:Nat→Value) (Y:List Frame) (r bB q1:Nat) (A:Value),did (run P 3 (did (run P 0 (lin P g Y r bB A [4,0,1,2,3,5])) A)) (chn q1)=xs P g Y r q1 bB A
 xs:∀(g:Nat→Value) (Y:List Frame) (r bB q1:Nat) (A:Value),commAt P (xs P g Y r q1 bB A)=some (cAns q1 A,.send)
 v1a:∀(kv:Value) (pa:Addr) (told:Value) (f g:Nat→Value) (cs:List Frame) (r q1 bA bB:Nat) (A:Value),logs P 22 (v0 P kv pa told f g cs r q1 bA bB A)=some []
 v1b:∀(kv:Value) (pa:Addr) (told:Value) (f g:Nat→Value) (cs:List Frame) (r q0 q1 bA bB:Nat) (A:Value),ag1 P (v1 P kv pa told f g cs r q1 bA bB A) (chn q0)=some ([⟨r,0,none⟩],chn q0)
 v2a:∀(kv:Value) (pa:Addr) (told:Value) (f g:Nat→Value) (cs:List Frame) (r q0 q1 bA bB:Nat) (A:Value),logs P 17 (did (v1 P kv pa told f g cs r q1 bA bB A) (chn q0))=some []
 v2b:∀(kv:Value) (pa:Addr) (told:Value) (f g:Nat→Value) (cs:List Frame) (r q0 q1 q2 bA bB:Nat) (A:Value),ag1 P (v2 P kv pa told f g cs r q0 q1 bA bB A) (chn q2)=some ([⟨r,2,none⟩],chn q2)
 v3a:∀(kv:Value) (pa:Addr) (told:Value) (f g:Nat→Value) (cs:List Frame) (r q0 q1 q2 bA bB:Nat) (A:Value),logs P 7 (did (v2 P kv pa told f g cs r q0 q1 bA bB A) (chn q2))=some []
 v3b:∀(kv:Value) (pa:Addr) (told:Value) (f g:Nat→Value) (cs:List Frame) (r q0 q1 q2 bA bB:Nat) (A:Value),ae2 (v3 P kv pa told f g cs r q0 q1 q2 bA bB A)=(56,todoK P,dsK r,.run,.normal,none,cs)
 v3c:∀(kv:Value) (pa:Addr) (told:Value) (f g:Nat→Value) (cs:List Frame) (r q0 q1 q2 bA bB:Nat) (A:Value),ad0 (v3 P kv pa told f g cs r q0 q1 q2 bA bB A) [0,1,7,8,25,27]=[kv,pv pa,told,pr r,chn q0,chn q2]
 v3d:∀(kv:Value) (pa:Addr) (told:Value) (f g:Nat→Value) (cs:List Frame) (r q0 q1 q2 bA bB:Nat) (A:Value),(v3 P kv pa told f g cs r q0 q1 q2 bA bB A).1.tmps.size=76
 n1a:∀(kv:Value) (pa:Addr) (told:Value) (f:Nat→Value) (cs:List Frame) (r q0 q2:Nat),logs P 19 (n0 P kv pa told f cs r q0 q2 2)=some []
 n1b:∀(kv:Value) (pa:Addr) (told:Value) (f:Nat→Value) (cs:List Frame) (r q0 q2:Nat),ae2 (run P 19 (n0 P kv pa told f cs r q0 q2 2))=(56,.code (R21 P)::T21 P,dsK r,.run,.normal,none,cs)
 n1c:∀(kv:Value) (pa:Addr) (told:Value) (f:Nat→Value) (cs:List Frame) (r q0 q2:Nat),ad0 (run P 19 (n0 P kv pa told f cs r q0 q2 2)) [0,1,7,8]=[kv,pv pa,told,pr r]
 n1d:∀(kv:Value) (pa:Addr) (told:Value) (f:Nat→Value) (cs:List Frame) (r q0 q2:Nat),(run P 19 (n0 P kv pa told f cs r q0 q2 2)).1.tmps.size=76
 w1a:∀(told:Value) (f:Nat→Value) (cs:List Frame) (r:Nat),logs P 13 (f56 (ups f [(7,told),(59,.bool true)]) cs (T16 P) (dsK r))=some []
 w1b:∀(told:Value) (f:Nat→Value) (cs:List Frame) (r:Nat),(w1 P told f cs r).1=(sR P [] r).1
 w1c:∀(told:Value) (f:Nat→Value) (cs:List Frame) (r:Nat),(w1 P told f cs r).2=(below (w1 P told f cs r)).1::cs
 w1d:∀(told:Value) (f:Nat→Value) (cs:List Frame) (r:Nat),ae2 (below (w1 P told f cs r))=(56,tdE1 P,[],.returning,.normal,none,cs)
 w1e:∀(told:Value) (f:Nat→Value) (cs:List Frame) (r:Nat),ad0 (below (w1 P told f cs r)) [6]=[told]
 w1f:∀(told:Value) (f:Nat→Value) (cs:List Frame) (r:Nat),(below (w1 P told f cs r)).1.tmps.size=76
 w2a:∀(kv:Value) (pa:Addr) (told:Value) (f:Nat→Value) (cs:List Frame) (r q0 q2:Nat),logs P 32 (n0 P kv pa told f cs r q0 q2 0)=some []
 w2b:∀(kv:Value) (pa:Addr) (told:Value) (f:Nat→Value) (cs:List Frame) (r q0 q2:Nat),(w2 P kv pa told f cs r q0 q2).1=(sR P [] r).1
 w2c:∀(kv:Value) (pa:Addr) (told:Value) (f:Nat→Value) (cs:List Frame) (r q0 q2:Nat),(w2 P kv pa told f cs r q0 q2).2=(below (w2 P kv pa told f cs r q0 q2)).1::cs
 w2d:∀(kv:Value) (pa:Addr) (told:Value) (f:Nat→Value) (cs:List Frame) (r q0 q2:Nat),ae2 (below (w2 P kv pa told f cs r q0 q2))=(56,tdE2 P,[],.returning,.normal,none,cs)
 w2e:∀(kv:Value) (pa:Addr) (told:Value) (f:Nat→Value) (cs:List Frame) (r q0 q2:Nat),ad0 (below (w2 P kv pa told f cs r q0 q2)) [6]=[told]
 w2f:∀(kv:Value) (pa:Addr) (told:Value) (f:Nat→Value) (cs:List Frame) (r q0 q2:Nat),(below (w2 P kv pa told f cs r q0 q2)).1.tmps.size=76
 w3a:∀(told:Value) (f:Nat→Value) (cs:List Frame) (r:Nat),logs P 12 (f56 (ups f [(7,told)]) cs (T21 P) (dsK r))=some []
 w3b:∀(told:Value) (f:Nat→Value) (cs:List Frame) (r:Nat),(w3 P told f cs r).1=(sR P [] r).1
 w3c:∀(told:Value) (f:Nat→Value) (cs:List Frame) (r:Nat),(w3 P told f cs r).2=(below (w3 P told f cs r)).1::cs
 w3d:∀(told:Value) (f:Nat→Value) (cs:List Frame) (r:Nat),ae2 (below (w3 P told f cs r))=(56,tdE3 P,[],.returning,.normal,none,cs)
 w3e:∀(told:Value) (f:Nat→Value) (cs:List Frame) (r:Nat),ad0 (below (w3 P told f cs r)) [6]=[told]
 w3f:∀(told:Value) (f:Nat→Value) (cs:List Frame) (r:Nat),(below (w3 P told f cs r)).1.tmps.size=76
 sRf:∀(Y:List Frame) (r:Nat),sR P Y r=((sR P [] r).1,Y)
 sRa:∀(Y:List Frame) (r q3:Nat),ag1 P (sR P Y r) (chn q3)=some ([⟨r,3,none⟩],chn q3)
 sCa:∀(Y:List Frame) (r q3:Nat),closesAt P (sC P Y r q3)=some q3
 sCw:∀(Y:List Frame) (r q3:Nat),mayWake P (gOf (sC P Y r q3))=true
 sDa:∀(Y:List Frame) (r q3:Nat),logs P 6 (sD P Y r q3)=some []
 sDb:∀(Y:List Frame) (r q3:Nat),run P 6 (sD P Y r q3)=wS P r (c94 P Y r q3::Y)
 end_:∀(f:Nat→Value) (td:List Item) (told:Value) (c:Frame) (cs:List Frame) (r q3:Nat),ah7 P (some (257,6)) 4 ((c94 P (F56r (ups f [(6,told)]) td::c::cs) r q3).finish (.tuple #[]),F56r (ups f [(6,told)]) td::c::cs)=some ([],(c.finish told,cs))
theorem ker_facts:KerFacts Tryz.prog:=by
 constructor<;>intros<;>kernel_rfl
end Go.Fxa
