/- The token goes from one to the -/
import Derived.Test.YtmhplpfpcnjekaaGreatA11
import Derived.Conc.TokenWalk
open Go.Proofs.Tryz
namespace Go.Fxa
open Go.Conc
open Go.ConcN (sumTo upd sumTo_upd upd_ne upd_same)
section
variable {P:Program} {Z:Nat->Prop} {Ac Still:Loc->Prop} {Mem:Nat->Prop} {h j:Nat} {gs:Array Goroutine} {w:World} {sl:Option (W_)} {t:Trace} {K K1:World->Prop} {TT:Trace->Prop} {cJ cH cN:Array CommCase} {Rt TD shN:CommShape} {kh kj c k:Nat} {v z zj:Value} {a gS:Goroutine} {home:Goroutine->Prop} {J:World->Prop}
structure Gives (P:Program) (Z:Nat->Prop) (Ac Still:Loc->Prop) (Mem:Nat->Prop) (h j:Nat) (K K1:World->Prop) (TT:Trace->Prop) (cJ cH:Array CommCase) (kh kj c:Nat) (v z zj:Value):Prop where
 leans:N9 Z Still K1
 weak:∀w,K1 w->K w
 lasts:UH Ac Still j TT
 meets:RN Z cH cJ kh kj c v z zj
 jm:Mem h
 jl:Mem j
 opens:∀w,K1 w->∀(m:Nat) cc,m≠kh->cH[m]?=some cc->ET w cc
 keeps:∀w d k,K1 w->K1 ((w.at d).setChan c 0 #[] false k k false)
theorem Holds.give {Od:Old} (M:Gives P Z Ac Still Mem h j K K1 TT cJ cH kh kj c v z zj) (hoN:∀w,K1 w->∀cc∈cN,ET w cc) (Bg:a.status=.running) (GA:∀w,stepG P (h==0) a w=.comm a cH true TD w #[])
  (NW:Fu P (h==0) K Still cN shN home k (Conc.served a (commResult cH TD kh undef false)))
  (H:Holds Od P Z Ac Still Mem (fun g=>g=j) h j (KD P (j==0) K K1 TT Still cJ Rt (·=gS)) (fun g v=>g=a/\J v) gs w t):
  AB P gs w sl t (Holds Od P Z Ac Still Mem (fun g=>g=h) j h (KD P (h==0) K K1 TT Still cN shN home) (fun g v'=>g=Conc.served gS (commResult cJ Rt kj v true)/\J v')):=by
 obtain⟨q,n,B,g,v0,h1,⟨rfl,h2⟩,T,hZ,D⟩:=H;obtain⟨b,hb,xH⟩:=D.idle;have iY:K1 w:=xH.1.1;refine(Sg (Ak:=fun g=>g=j) M.leans M.weak M.lasts M.meets M.jm M.jl rfl (es:=#[]) (n+sumTo gs.size q+1) n gs g w sl t q B (by omega) h1 Bg D (M.opens w iY) (fun d=>GA (w.at d)) (by simp)).bind fun AZ w' Cz t' BA Mt=>?_
 obtain⟨q',g₂,d,k',m1,m2,m3,m4,m5,rfl,m7,m8,m9,m10,_⟩:=Mt;have hzc:Z c:=by
  obtain⟨c',z',e',hz'⟩:=M.meets.hrj _ (Array.mem_of_getElem? M.meets.hkj)
  have:c=c':=by simp[rcase]at e';exact e'.1
  rw[this];exact hz'
 have off:BO Z w ((w.at d).setChan c 0 #[] false (k'+1) (k'+1) false):=Jr hzc w d (k'+1) false;have hK':K1 ((w.at d).setChan c 0 #[] false (k'+1) (k'+1) false):=M.keeps w d (k'+1) iY;refine .now ⟨q',k+1,B,_,v0,m2,⟨by rw[m3],h2⟩,T.off hZ off,hZ,⟨D.ne.symm,D.zero.symm,fun g hg=>(D.mem g hg).symm,⟨_,m1,⟨hK',m10⟩,hoN _ hK',.inr ⟨k,rfl,rfl,NW⟩⟩,fun i g h1 h2 h3=>m7 i g h2 h1 h3,m8,m9.loosen (fun g hg=>(hg.2 hg.1).elim),?_⟩⟩;rw[GY];exact D.size
end
def EW (P:Program) (x:Frame×Z_) (vs:U_):Option (List Addr×Value):=match opAt x with
 | some o=>match (execOp x.1.eval o).feed P vs with
  | some (l,.value y)=>if(P.funcs[x.1.fn]?).any (·.norace)then none else some (l,y)
  | _=>none
 | none=>none
theorem SS {P:Program} {main:Bool} {x:Frame×Z_} {vs:U_} {TK:List Addr} {y:Value} {w:World} (h:EW P x vs=some (TK,y)) (hc:Cells w TK vs):stepG P main (Bv x) w=.go (Bv (Bj x y)) w (FK TK):=by
 unfold EW at h;split at h
 ·rename_i o ho;split at h
  ·rename_i l y' hf;split at h
   ·cases h
   ·rename_i hq;simp only[Option.some.injEq,Prod.mk.injEq]at h;obtain⟨rfl,rfl⟩:=h;exact gZ ho hf hc (by simpa using hq)
  ·cases h
 ·cases h
theorem LJ {Od:Old} {Z:Nat->Prop} {v w:World} (T:Twin Od Z v w):∀{TK:List Addr} {vs:U_},Cells v TK vs->Cells w TK vs/\∀a∈TK,¬Z a.block/\a.block<w.heap.size
 | [],_,_=>⟨trivial,by simp⟩
 | a::TK,[],h=>h.elim
 | a::TK,v0::vs,h=>by
  obtain⟨h1,h2⟩:=h
  obtain⟨c1,c2,c3,_⟩:=T.cell h1
  obtain⟨d1,d2⟩:=LJ T h2
  refine⟨⟨c1,d1⟩,fun b hb=>?_⟩
  rcases List.mem_cons.1 hb with rfl|hb
  ·exact⟨c2,c3⟩
  ·exact d2 b hb
def O9 (x:Frame×Z_):Option (Nat×Array Oper×List Item):=match x.1.roundOf,x.1.mode,x.1.todo with
 | none,.run,.code (.region id ops true)::k=>some (id,ops,k)
 | _,_,_=>none
def ordered (x:Frame×Z_) (ops:Array Oper) (k:List Item) (l:List Nat):Frame×Z_:=({ x.1 with todo:=.inRegion ops l::k },x.2)
def E5 (ops:Array Oper) (listed:Array Bool):List Nat:=(List.range ops.size).filter fun i=>!listed.getD i true && ((ops[i]?).map (·.after.all fun e=>!Region.binds .any e || listed.getD e.on false)).getD false
def Mw (ops:Array Oper):Nat->Array Bool->List (List Nat)
 | 0,_=>[[]]
 | fuel+1,listed=>if(E5 ops listed).isEmpty then[[]]else(E5 ops listed).flatMap fun i=>(Mw ops fuel (listed.setIfInBounds i true)).map (i::·)
theorem iA (ops:Array Oper):∀(fuel t:Nat) (listed:Array Bool) (acc:List Nat),∃l∈Mw ops fuel listed,Region.linearise.go .any ops fuel t listed acc=acc.reverse++l
 | 0,t,listed,acc=>⟨[],by simp[Mw],by simp[Region.linearise.go]⟩
 | fuel+1,t,listed,acc=>by
  have e0:Region.linearise.go .any ops (fuel+1) t listed acc=match (E5 ops listed)[t % (E5 ops listed).length]? with
   | some i=>Region.linearise.go .any ops fuel (t / (E5 ops listed).length) (listed.setIfInBounds i true) (i::acc)
   | none=>acc.reverse:=rfl
  rw[e0]
  cases hi:(E5 ops listed)[t % (E5 ops listed).length]? with
  | some i=>
   obtain⟨l,hl,e⟩:=iA ops fuel (t / (E5 ops listed).length) (listed.setIfInBounds i true) (i::acc)
   refine⟨i::l,?_,by simp only;rw[e];simp⟩
   have hm:=List.mem_of_getElem? hi
   have BN:(E5 ops listed).isEmpty=false:=by
    cases hrs:E5 ops listed with
    | nil=>rw[hrs]at hm;cases hm
    | cons=>rfl
   simp only[Mw,BN,Bool.false_eq_true,if_false]
   exact List.mem_flatMap.2 ⟨i,hm,List.mem_map.2 ⟨l,hl,rfl⟩⟩
  | none=>
   have hn:E5 ops listed=[]:=by
    rw[List.getElem?_eq_none_iff]at hi
    cases hrs:E5 ops listed with
    | nil=>rfl
    | cons a l=>
     rw[hrs]at hi
     have:=Nat.mod_lt t (show 0<(a::l).length by simp)
     omega
   refine⟨[],?_,by simp⟩
   simp[Mw,hn]
theorem Wh {P:Program} (hm:P.follows .mixedOrders=true) (ops:Array Oper) (t:Nat):Region.schedule (P.follows .mixedOrders) ops t∈Mw ops ops.size (Array.replicate ops.size false):=by
 rw[hm];obtain⟨l,hl,e⟩:=iA ops ops.size t (Array.replicate ops.size false) [];have:Region.schedule true ops t=l:=by
  simp only[Region.schedule,Bool.true_or,if_true,Region.linearise]
  rw[e];simp
 rw[this];exact hl
theorem kM {P:Program} {main:Bool} {x:Frame×Z_} {id:Nat} {ops:Array Oper} {k:List Item} (h:O9 x=some (id,ops,k)) (w:World):
  stepG P main (Bv x) w=.go (Bv (ordered x ops k (Region.schedule (P.follows .mixedOrders) ops (w.tape w.drawn (.order x.1.fn id))))) { w with drawn:=w.drawn+1 } #[]:=by
 obtain⟨⟨fn,tmps,todo,ds,mode,kind,ro⟩,cs⟩:=x;unfold O9 at h;simp only at h;split at h
 ·simp only[Option.some.injEq,Prod.mk.injEq]at h;obtain⟨rfl,rfl,rfl⟩:=h;simp[Bv,ordered,G,stepG,stepG.exec,choose,Sem.run,Question.forced,Question.cut]
 ·cases h
def goesAt (P:Program) (x:Frame×Z_):Option Deferred:=match opAt x with
 | some o=>match (execOp x.1.eval o).GN P with
  | some (.spawn ⟨.fn (.func f) c,ar⟩)=>some ⟨.fn (.func f) c,ar⟩
  | _=>none
 | none=>none
theorem bO {P:Program} {main:Bool} {x:Frame×Z_} {d:Deferred} (h:goesAt P x=some d) (w:World):
  stepG P main (Bv x) w=.spawn (Bv (Bj x undef)) (Bv ({ (default:Frame)with fn:=P.funcs.size,defers:=[d],mode:=.panicking [goexitEntry] },[])) w #[]:=by
 unfold goesAt at h;split at h
 ·rename_i o ho;split at h
  ·rename_i f c ar hf;obtain rfl:=Option.some.inj h;obtain⟨e1,e2⟩:=MI (P:=P) (main:=main) (w:=w) ho;show stepG P main (G x.1 x.2) w=_;rw[e1];simp only[stepG.apply,GZ hf w #[],if_true,GStep.after,Array.append_empty,e2,Bool.false_eq_true,if_false,seen_none,Bool.and_false,Bool.false_and]
   rfl
  ·cases h
 ·cases h
def Sk (P:Program) (x:Frame×Z_):Option Nat:=match x.1.roundOf,x.1.mode,x.1.kind==CallKind.early,x.1.todo with
 | none,.run,false,.inRegion ops (i::_)::_=>match ops[i]? with
  | some o=>if Region.wanted o (yielded ops x.1.tmps)then match o.op with
   | .call { callee:=.builtin .close,args:=ar,argTypes:=_ }=>match ar.toList with
    | [y]=>match x.1.eval y with
     | .chan (some c)=>if(P.funcs[x.1.fn]?).any (·.norace)then none else some c
     | _=>none
    | _=>none
   | _=>none
   else none
  | none=>none
 | _,_,_,_=>none
theorem Tp {P:Program} {main:Bool} {x:Frame×Z_} {c:Nat} (h:Sk P x=some c) {w:World} {cap s r:Nat} {buf:X_} {tm:Bool} (hc:w.heap[c]?=some (.chan cap buf false s r tm)):
  stepG P main (Bv x) w=.go (Bv (Bj x (.tuple #[]))) (w.setChan c cap buf true s r tm) (closeEvents c):=by
 obtain⟨⟨fn,tmps,todo,ds,mode,kind,ro⟩,cs⟩:=x;unfold Sk at h;simp only at h;split at h
 ·rename_i ops i r2 r3 r4;split at h
  ·rename_i o ho;split at h
   ·rename_i hw;split at h
    ·rename_i ar ats AO;split at h
     ·rename_i y har;have har':ar=#[y]:=(by apply Array.ext';simpa using har);subst har';split at h
      ·rename_i c' hy;split at h
       ·cases h
       rename_i hq;obtain rfl:=Option.some.inj h;have hk:kind≠.early:=fun e=>by subst e;simp at r4
       have hm:(Frame.mk fn tmps (.inRegion ops (i::r2)::r3) ds .run kind none).eval=(Act.mk tmps ds).eval:=Frame.eval_at' (Frame.mk fn tmps [] ds .run kind none) ⟨tmps,ds⟩ (.inRegion ops (i::r2)::r3);rw[hm]at hy;refine(stepG_close (b:=Frame.mk fn tmps [] ds .run kind none) (a:=⟨tmps,ds⟩) (kk:=r3) ho hw hk AO hy hc (by simpa using hq)).trans ?_;unfold Bj Act.put Frame.at Frame.finish Bv;simp only[ho,Option.bind_some];cases o.dst<;>rfl
      ·cases h
     ·cases h
    ·cases h
   ·cases h
  ·cases h
 ·cases h
section
variable {P:Program} {Z:Nat->Prop} {Ac Still:Loc->Prop} {Mem Ak:Nat->Prop} {h j:Nat} {By:Nat->Goroutine->World->Trace->Prop} {gs:Array Goroutine} {w:World} {sl:Option (W_)} {t:Trace} {J:World->Prop}
theorem Holds.reads {Od:Old} (hu:EP Ac Z) (O:Fp P Z Ac Still (fun B t=>PX Ac Still Mem Ak B h t) j By) {x:Frame×Z_} {vs:U_} {TK:List Addr} {y:Value} (hr:EW P x vs=some (TK,y)) (hc:∀v,J v->Cells v TK vs)
  (H:Holds Od P Z Ac Still Mem Ak h j By (fun g v=>g=Bv x/\J v) gs w t):AB P gs w sl t (Holds Od P Z Ac Still Mem Ak h j By (fun g v=>g=Bv (Bj x y)/\J v)):=by
 obtain⟨q,n,B,g,v,h1,⟨rfl,h2⟩,T,hZ,D⟩:=H;refine go_duo (IQ:=Mem) (Loose':=Ak) O h1 rfl D D.mem fun B1 hB1 w1 BA n1 b1 t1 ho hB hp d=>?_
 have T1:Twin Od Z v (w1.at d):=(T.off hZ ho).off hZ (BO.at w1 d);obtain⟨hcw,hnz⟩:=LJ T1 (hc v h2);have EY:∀e∈FK TK,Ux Ac Still B1 e:=fun e he=>by
  simp only[FK,List.mem_toArray,List.mem_map]at he
  obtain⟨a,ha,rfl⟩:=he
  obtain⟨z1,z2⟩:=hnz a ha
  refine⟨fun b hb=>?_,by simp,by simp,Nat.lt_of_lt_of_le z2 BA,by simp⟩
  obtain rfl:=Option.some.inj hb
  exact⟨fun _=>⟨rfl,fun hs=>z1 (hu.1 _ hs)⟩,fun hs=>(z1 (hu.1 _ hs)).elim⟩
 refine⟨_,_,_,B1,SS hr hcw,Nat.le_refl _,BA,hp.own EY,By,n1,?_,fun AZ q' n' hz h1' D1 Cz=>.now ⟨q',n',B1,_,v,h1',⟨rfl,h2⟩,T1,hZ,D1⟩⟩;rw[woken_of_again (O.again hB (w1.at d) (fun _ _=>rfl))];exact O.calm (w1.at d) _ hB (fun _ _=>rfl) (Ej D.ne EY)
theorem Holds.draws {Od:Old} (hm:P.follows .mixedOrders=true) (O:Fp P Z Ac Still (fun B t=>PX Ac Still Mem Ak B h t) j By) {x:Frame×Z_} {id:Nat} {ops:Array Oper} {k:List Item} {L:List (List Nat)} (hd:O9 x=some (id,ops,k)) (hL:Mw ops ops.size (Array.replicate ops.size false)=L)
  (H:Holds Od P Z Ac Still Mem Ak h j By (fun g v=>g=Bv x/\J v) gs w t):AB P gs w sl t (Holds Od P Z Ac Still Mem Ak h j By (fun g v=>(∃l∈L,g=Bv (ordered x ops k l))/\J v)):=by
 obtain⟨q,n,B,g,v,h1,⟨rfl,h2⟩,T,hZ,D⟩:=H;refine go_duo (IQ:=Mem) (Loose':=Ak) O h1 rfl D D.mem fun B1 hB1 w1 BA n1 b1 t1 ho hB hp d=>?_
 refine⟨_,w1.at (d+1),#[],B1,kM hd _,Nat.le_refl _,BA,hp.own (by simp),By,n1,?_,fun AZ q' n' hz h1' D1 Cz=>.now ⟨q',n',B1,_,v,h1',⟨⟨_,by rw[<-hL];exact Wh hm ops _,rfl⟩,h2⟩,(T.off hZ ho).off hZ (BO.at w1 (d+1)),hZ,D1⟩⟩;rw[woken_of_again (O.again hB (w1.at (d+1)) (fun _ _=>rfl))];exact O.calm (w1.at (d+1)) _ hB (fun _ _=>rfl) (Ej D.ne (B:=B1) (by simp))
end
end Go.Fxa
namespace Go.Fxa
open Go.Conc
structure oW (P:Program) (N:Fence) (m:Nat) (r:Nat) (sv:Value) (n:Int) (I:Int->World->Prop) (Cd:Int->Value->World->Prop) (Bd:World->Prop):Prop where
 wp:∀i v f,I i v->0<=i->i<n->∀τ d,(Q3 P).wpIn N m P (fun e a w'=>e=.normal/\a.defers=[]/\∃f' oc x,a.tmps=fH (AR f' (DT r sv n i oc x))/\((oc=0/\I (i+1) w')\/(oc=1/\Cd i x w')\/(oc=2/\Bd w'))) ⟨fH (AR f (JY r sv n i)),[]⟩ (v.re τ d)
 tI:∀i,Cm (I i)
 tC:∀i x,Cm (Cd i x)
 tB:Cm Bd
def aq4 (P:Program) (r q0 q2 q3:Nat) (sv:Value) (n lo:Int) (Y:Z_) (I:Int->World->Prop) (Cd:Int->Value->World->Prop) (Bd:World->Prop) (g:Goroutine) (v:World):Prop:=
 (∃i f x,lo<=i/\i<n/\g=Bv (k3 P q0 q3 (AR f (DT r sv n i 1 x)) Y)/\Cd i x v)\/(∃i f x,g=Bv (e3 P q2 q3 (AR f (DT r sv n i 2 x)) Y)/\Bd v)\/(∃f,g=Bv (d3 P q2 q3 (AR f (JY r sv n n)) Y)/\I n v)
section
variable {P:Program} {L:FuncId->Prop} {p:FuncId->Oper->Bool} {N:Fence} {m:Nat} {Z:Nat->Prop} {Ac Still:Loc->Prop} {Mem Ak:Nat->Prop} {c:Nat} {By:Nat->Goroutine->World->Trace->Prop} {K:World->Prop} {b5 b2 b3 r q0 q1 q2 q3:Nat} {sv:Value} {n:Int} {I:Int->World->Prop} {Cd:Int->Value->World->Prop} {Bd:World->Prop} {Y:Z_} {nI:FuncId}
theorem eO {Od:Old} (F:Dh P b5 b2 b3 r q0 q1 q2 q3 sv n) (R:Ow K Still b5 b2 b3 r q0 q1 q2 q3 sv n) (S:oW P N m r sv n I Cd Bd) (hn:n<=1000) (FN:Qm P L p N) (hu:EP Ac Z) (ay5:EP Still Z)
  (hJ:∀n b w t,By n b w t->∀d,K (w.at d)) (BH:∀w a,K w->Still (.cell a)->a.block<w.heap.size) (hSS:∀l,Still l->¬Ac l) (O:Fp P Z Ac Still (fun B t=>PX Ac Still Mem Ak B c t) 0 By)
  (hf:UI L N nI) (hq:∀es,seen P 136 es=seen P nI es) (hc2:(Q3 P).A9 (p nI)=true) {lo:Int} (hlo:0<=lo):
  ∀(k:Nat) (i:Int) (f:Y_) (gs:Array Goroutine) (w:World) (sl:Option (W_)) (t:Trace),(n-i).toNat<=k->lo<=i->i<=n->
  Holds Od P Z Ac Still Mem Ak c 0 By (fun g v=>g=Bv (LH P (AR f (JY r sv n i)) Y)/\I i v) gs w t->AB P gs w sl t (Holds Od P Z Ac Still Mem Ak c 0 By (aq4 P r q0 q2 q3 sv n lo Y I Cd Bd)):=by
 intro k
 induction k with
 | zero=>
  intro i f gs w sl t hk h0 hle H
  obtain rfl:i=n:=by omega
  refine(H.walk (sl:=sl) hJ BH hSS O (QV F R f Y (by omega))).mono fun AZ w' t' H'=>H'.mono fun g v ⟨hg,hv⟩=>.inr (.inr ⟨f,hg,hv⟩)
 | succ k ih=>
  intro i f gs w sl t hk h0 hle H
  by_cases hi:i<n
  ·obtain⟨f1,hw1⟩:=eH (main:=c==0) (K:=K) (Still:=Still) F f Y hi;refine(H.walk (sl:=sl) hJ BH hSS O hw1).bind fun gs1 w1 G6 t1 _ H1=>?_
   refine(Holds.piece (sl:=G6) FN hu ay5 O hf hq rfl hc2 (fun e a w hx=>⟨.inl hx.1,hx.2.1⟩) (fun v hv=>S.wp i v f1 hv (by omega) hi) H1).bind fun gs2 w2 sl2 t2 _ H2=>?_
   obtain⟨q,n',B,g,v,j1,⟨tm,τ,d,hb⟩,j3,j4,j5⟩:=H2;rcases hb with⟨rfl,_,_,f',oc,x,ht,hx⟩|⟨todo,_,he,_⟩
   ·simp only at ht;subst ht;rcases hx with⟨rfl,hx⟩|⟨rfl,hx⟩|⟨rfl,hx⟩
    ·obtain⟨f2,hw2⟩:=rz (main:=c==0) (K:=K) (Still:=Still) F f' Y i x;have e:IntKind.i64.wrap (i+1)=i+1:=(by simp[IntKind.wrap,IntKind.bits,IntKind.signed];omega);rw[e]at hw2;refine(Holds.walk (sl:=sl2) (J:=I (i+1)) hJ BH hSS O ⟨q,n',B,_,v,j1,⟨rfl,(S.tI _).back hx⟩,j3,j4,j5⟩ hw2).bind fun lV w3 Zh t3 _ H3=>?_
     exact ih (i+1) f2 lV w3 Zh t3 (by omega) (by omega) (by omega) H3
    ·refine(Holds.walk (sl:=sl2) (J:=Cd i x) hJ BH hSS O ⟨q,n',B,_,v,j1,⟨rfl,(S.tC _ _).back hx⟩,j3,j4,j5⟩ (Y0 F R f' Y i x)).mono fun AZ w' t' H'=>H'.mono fun g v ⟨hg,hv⟩=>.inl ⟨i,f',x,h0,hi,hg,hv⟩
    ·refine(Holds.walk (sl:=sl2) (J:=Bd) hJ BH hSS O ⟨q,n',B,_,v,j1,⟨rfl,S.tB.back hx⟩,j3,j4,j5⟩ (kW F R f' Y i x)).mono fun AZ w' t' H'=>H'.mono fun g v ⟨hg,hv⟩=>.inr (.inl ⟨i,f',x,hg,hv⟩)
   ·cases he
  ·obtain rfl:i=n:=(by omega);refine(H.walk (sl:=sl) hJ BH hSS O (QV F R f Y (by omega))).mono fun AZ w' t' H'=>H'.mono fun g v ⟨hg,hv⟩=>.inr (.inr ⟨f,hg,hv⟩)
end
end Go.Fxa
namespace Go.Fxa
open Go.Conc Go.Proofs
def TN (n:Nat) (f:Y_):X_:=((List.range n).map f).toArray
theorem RY {T:X_} {n:Nat} (h:T.size=n):T=TN n fun i=>T.getD i undef:=by
 apply Array.ext
 ·simp[TN,h]
 ·intro i h1 h2;simp[TN,Array.getD,h1]
theorem at_toldN {x:Frame×Z_} {fn:FuncId} {todo:List Item} {ds:List Deferred} {kd:CallKind} {Y:Z_} {l:List (Nat×Value)} {n:Nat} (h:Ch x=(fn,todo,ds,.run,kd,none,Y)) (hs:slotsOf x (l.map (·.1))=l.map (·.2)) (hz:x.1.tmps.size=n):
  x=(Frame.mk fn (TN n (AR (slot x) l)) todo ds .run kd none,Y):=by
 rw[Qo hs];obtain⟨⟨a,b,c,d,e,f,g⟩,y⟩:=x;simp only[Ch,Prod.mk.injEq]at h;obtain⟨rfl,rfl,rfl,rfl,rfl,rfl,rfl⟩:=h;simp only[Prod.mk.injEq,Frame.mk.injEq,and_true,true_and];exact RY hz
section
variable (P:Program) (r q0 q1 q3:Nat) (sv:Value) (n i:Int) (w A:Value) (f g:Y_) (Y:Z_) (td:List Item)
def a0:=Bj (m3 P q0 q1 q3 w f Y) (commResult (Fh q1 q3) .select 0 A true)
def a1:=run P 6 (a0 P q0 q1 q3 w A f Y)
def TV:Code:=match (a1 P 0 0 0 (.int .u16 0) Zr (AR u0 (DT 0 (pr 0) 0 0 1 (.int .u16 0))) []).1.todo with
 | .code c::_=>c
 | _=>.skip
def xN:List Item:=(a1 P 0 0 0 (.int .u16 0) Zr (AR u0 (DT 0 (pr 0) 0 0 1 (.int .u16 0))) []).1.todo.tail
def YA:=(m3 P q0 q1 q3 w f Y).2
def slA:List (Nat×Value):=[(1,sv),(29,commResult (Fh q1 q3) .select 0 A true)]
def a2:Frame×Z_:=(Frame.mk 187 (TN 49 (AR g [(6,.bool true)])) td [] .returning .normal none,YA P q0 q1 q3 w f Y)
end
structure PL (P:Program) (r q0 q1 q3:Nat) (sv:Value) (n:Int):Prop where
 h1:∀(f:Y_) (Y:Z_) (i:Int) (w A:Value),Av P 6 (a0 P q0 q1 q3 w A (AR f (DT r sv n i 1 w)) Y)=some []
 h2:∀(f:Y_) (Y:Z_) (i:Int) (w A:Value),Ch (a1 P q0 q1 q3 w A (AR f (DT r sv n i 1 w)) Y)=(187,.code (TV P)::xN P,[],.run,.normal,none,YA P q0 q1 q3 w (AR f (DT r sv n i 1 w)) Y)
 h3:∀(f:Y_) (Y:Z_) (i:Int) (w A:Value),slotsOf (a1 P q0 q1 q3 w A (AR f (DT r sv n i 1 w)) Y) [1,29]=[sv,commResult (Fh q1 q3) .select 0 A true]
 h4:∀(f:Y_) (Y:Z_) (i:Int) (w A:Value),(a1 P q0 q1 q3 w A (AR f (DT r sv n i 1 w)) Y).1.tmps.size=49
 j1:∀(f g:Y_) (Y:Z_) (td:List Item) (i:Int) (w:Value),Av P 12 (a2 P q0 q1 q3 w (AR f (DT r sv n i 1 w)) g Y td)=some []
 j2:∀(f g:Y_) (Y:Z_) (td:List Item) (i:Int) (w:Value),Ch (run P 12 (a2 P q0 q1 q3 w (AR f (DT r sv n i 1 w)) g Y td))=(136,Vr P,[],.run,.normal,none,Y)
 j3:∀(f g:Y_) (Y:Z_) (td:List Item) (i:Int) (w:Value),slotsOf (run P 12 (a2 P q0 q1 q3 w (AR f (DT r sv n i 1 w)) g Y td)) [0,1,8,9]=[pr r,sv,.int .i64 n,.int .i64 (IntKind.i64.wrap (i+1))]
 j4:∀(f g:Y_) (Y:Z_) (td:List Item) (i:Int) (w:Value),(run P 12 (a2 P q0 q1 q3 w (AR f (DT r sv n i 1 w)) g Y td)).1.tmps.size=32
section
variable {r q0 q1 q3:Nat} {sv:Value} {n:Int}
theorem ll:PL prog r q0 q1 q3 sv n:=by
 constructor<;>intros<;>kernel_rfl
end
section
variable {P:Program} {K:World->Prop} {Still:Loc->Prop} {main:Bool} {r q0 q1 q3:Nat} {sv:Value} {n:Int}
theorem TC (F:PL P r q0 q1 q3 sv n) (f:Y_) (Y:Z_) (i:Int) (w A:Value):
  ∃f',RW P main K Still 6 (Conc.served (Bv (m3 P q0 q1 q3 w (AR f (DT r sv n i 1 w)) Y)) (commResult (Fh q1 q3) .select 0 A true)) (Bv (Frame.mk 187 (TN 49 (AR f' (slA q1 q3 sv A))) (.code (TV P)::xN P) [] .run .normal none,YA P q0 q1 q3 w (AR f (DT r sv n i 1 w)) Y)):=by
 have h:RW P main K Still 6 (Bv (a0 P q0 q1 q3 w A (AR f (DT r sv n i 1 w)) Y)) (Bv (a1 P q0 q1 q3 w A (AR f (DT r sv n i 1 w)) Y)):=RW.Av (F.h1 f Y i w A);have e:=at_toldN (l:=slA q1 q3 sv A) (F.h2 f Y i w A) (F.h3 f Y i w A) (F.h4 f Y i w A);refine⟨slot (a1 P q0 q1 q3 w A (AR f (DT r sv n i 1 w)) Y),?_⟩;rw[e]at h;exact h
theorem Y2 (F:PL P r q0 q1 q3 sv n) (f g:Y_) (Y:Z_) (td:List Item) (i:Int) (w:Value):
  ∃f',RW P main K Still 12 (Bv (a2 P q0 q1 q3 w (AR f (DT r sv n i 1 w)) g Y td)) (Bv (LH P (AR f' (JY r sv n (IntKind.i64.wrap (i+1)))) Y)):=by
 have h:=RW.Av (main:=main) (K:=K) (Still:=Still) (F.j1 f g Y td i w);have e:=at_told (l:=JY r sv n (IntKind.i64.wrap (i+1))) (F.j2 f g Y td i w) (F.j3 f g Y td i w) (F.j4 f g Y td i w);refine⟨slot (run P 12 (a2 P q0 q1 q3 w (AR f (DT r sv n i 1 w)) g Y td)),?_⟩;rw[e]at h;exact h
end
theorem at_toldM {x:Frame×Z_} {fn:FuncId} {todo:List Item} {ds:List Deferred} {m:FrameMode} {kd:CallKind} {Y:Z_} {l:List (Nat×Value)} {n:Nat} (h:Ch x=(fn,todo,ds,m,kd,none,Y)) (hs:slotsOf x (l.map (·.1))=l.map (·.2)) (hz:x.1.tmps.size=n):
  x=(Frame.mk fn (TN n (AR (slot x) l)) todo ds m kd none,Y):=by
 rw[Qo hs];obtain⟨⟨a,b,c,d,e,f,g⟩,y⟩:=x;simp only[Ch,Prod.mk.injEq]at h;obtain⟨rfl,rfl,rfl,rfl,rfl,rfl,rfl⟩:=h;simp only[Prod.mk.injEq,Frame.mk.injEq,and_true,true_and];exact RY hz
def lM (x:Frame×Z_):Code:=match x.1.todo with
 | .code c::_=>c
 | _=>.skip
def lG (x:Frame×Z_):List Item:=x.1.todo.tail
def below (x:Frame×Z_):Frame×Z_:=match x.2 with
 | c::cs=>(c,cs)
 | []=>(default,[])
def pv (pa:Addr):Value:=.pointer (some pa)
def Cb:Value:=.slice none 0 0
def je:Addr:=(S_ 0)
def ai (P:Program) (x:Frame×Z_):Option (Array CommCase×CommShape):=match opAt x with
 | some o=>match (execOp x.1.eval o).GN P with
  | some (.comm cs true sh)=>some (cs,sh)
  | _=>none
 | none=>none
theorem Vf {P:Program} {main:Bool} {x:Frame×Z_} {cs:Array CommCase} {sh:CommShape} (h:ai P x=some (cs,sh)) (w:World):stepG P main (Bv x) w=.comm (Bv x) cs true sh w #[]:=by
 unfold ai at h;split at h
 ·rename_i o ho;split at h
  ·rename_i cs' sh' hf;simp only[Option.some.injEq,Prod.mk.injEq]at h;obtain⟨rfl,rfl⟩:=h;exact iJ ho hf
  ·cases h
 ·cases h
def Zi (kv:Value) (pa:Addr) (n:Int) (told:Value):List (Nat×Value):=[(0,kv),(1,pv pa),(2,.int .i64 n),(7,told)]
def rV (kv:Value) (pa:Addr) (told:Value) (r:Nat):List (Nat×Value):=[(0,kv),(1,pv pa),(7,told),(8,pr r)]
def slX (kv:Value) (pa:Addr) (told:Value) (r:Nat) (x:Value):List (Nat×Value):=[(0,kv),(1,pv pa),(7,told),(8,pr r),(9,x)]
def slF (kv:Value) (pa:Addr) (told:Value) (r bA:Nat):List (Nat×Value):=[(0,kv),(1,pv pa),(7,told),(8,pr r),(10,pr bA),(59,.bool false)]
def jh (b2 b3 b5:Nat):List (Nat×Value):=[(2,pr b2),(3,pr b3),(5,pr b5)]
def ma (r:Nat) (A:Value) (bB:Nat):List (Nat×Value):=[(0,pr r),(1,A),(3,pr bB)]
def KL (q0 q2:Nat):Array CommCase:=#[rcase q0 (.int .u16 0),rcase q2 (.int .i64 0)]
def WS (q1:Nat) (A:Value):Array CommCase:=#[scase q1 A (.tuple #[])]
def Mg (r:Nat):List Deferred:=[⟨.fn (.func 94) #[],#[pr r]⟩]
section
variable (P:Program) (kv:Value) (pa:Addr) (n:Int) (told:Value) (f g:Y_) (cs Y:Z_) (b2 b3 b5 r q0 q1 q2 q3 bA bB:Nat) (x A:Value) (o:Int) (td:List Item)
def z0:Frame×Z_:=(Frame.enter P 56 #[kv,pv pa,.int .i64 n] .normal,cs)
def z1:=run P 9 (z0 P kv pa n cs)
def R2:Code:=lM (z1 P (pr 0) je 0 [])
def T2:List Item:=lG (z1 P (pr 0) je 0 [])
def f56 (ds:List Deferred):Frame×Z_:=(Frame.mk 56 (TN 76 f) td ds .run .normal none,cs)
def R3:Code:=lM (run P 1 (f56 u0 [] (T2 P) []))
def T3:List Item:=lG (run P 1 (f56 u0 [] (T2 P) []))
def z5:=run P 8 (f56 (AR f (Zi kv pa n told)) cs (T3 P) [])
def S0:Code:=lM (z5 P (pr 0) je 0 Cb u0 [])
def U0:List Item:=lG (z5 P (pr 0) je 0 Cb u0 [])
def Y4:=(z5 P kv pa n told f cs).2
def f93:Frame×Z_:=(Frame.mk 93 (TN 18 g) td [] .run .normal none,Y)
def S1:Code:=lM (run P 1 (f93 u0 [] (U0 P)))
def U1:List Item:=lG (run P 1 (f93 u0 [] (U0 P)))
def y3:=run P 2 (f93 (AR g (jh b2 b3 b5)) Y (U1 P))
def y4:=run P 3 (Bj (y3 P g Y b2 b3 b5) (pr r))
def cA:Frame:=(below (y4 P g Y b2 b3 b5 r)).1
def y5:Frame×Z_:=((cA P g Y b2 b3 b5 r).finish (.tuple #[]),Y)
def y6:=run P 4 (y5 P g Y b2 b3 b5 r)
def y7:=run P 3 (Bj (y6 P g Y b2 b3 b5 r) undef)
def y8:=run P 28 (Bj (y7 P g (Y4 P kv pa n told f cs) b2 b3 b5 r) (pr r))
def y9:=run P 17 (Bj (y8 P kv pa n told f g cs b2 b3 b5 r) (CK q0))
def y10:=run P 7 (Bj (y9 P kv pa n told f g cs b2 b3 b5 r q0) (CK q2))
def fP:List Item:=(y10 P (pr 0) je 0 Cb u0 u0 [] 0 0 0 0 0 0).1.todo
def kS:Frame×Z_:=f56 f cs (fP P) (Mg r)
def x0:=Bj (kS P (AR f (rV kv pa told r)) cs r) (commResult (KL q0 q2) .select 0 x true)
def x1:=run P 12 (x0 P kv pa told f cs r q0 q2 x)
def sU:Code:=lM (x1 P (pr 0) je Cb u0 [] 0 0 0 (.int .u16 0))
def T10:List Item:=lG (x1 P (pr 0) je Cb u0 [] 0 0 0 (.int .u16 0))
def sS:Code:=lM (run P 2 (f56 u0 [] (T10 P) []))
def sM:List Item:=lG (run P 2 (f56 u0 [] (T10 P) []))
def sP:Code:=lM (run P 3 (f56 (AR u0 [(39,.bool false)]) [] (sM P) []))
def T15:List Item:=lG (run P 3 (f56 (AR u0 [(39,.bool false)]) [] (sM P) []))
def R16:Code:=lM (run P 2 (f56 u0 [] (T15 P) []))
def rR:List Item:=lG (run P 2 (f56 u0 [] (T15 P) []))
def x18:=run P 4 (f56 (AR f (slF kv pa told r bA)) cs (rR P) (Mg r))
def xk:=run P 2 (Bj (x18 P kv pa told f cs r bA) A)
def A0:Code:=lM (xk P (pr 0) je Cb u0 [] 0 0 Zr)
def xK:List Item:=lG (xk P (pr 0) je Cb u0 [] 0 0 Zr)
def Y18:=(xk P kv pa told f cs r bA A).2
def f97:Frame×Z_:=(Frame.mk 97 (TN 9 g) td [] .run .normal none,Y)
def Uy:Array Oper:=match O9 (f97 u0 [] (xK P))with
 | some (_,ops,_)=>ops
 | none=>#[]
def Re (l:List Nat):Frame×Z_:=ordered (f97 (AR g (ma r A bB)) Y (xK P)) (Uy P) [] l
def xs:Frame×Z_:=(Frame.mk 97 (TN 9 (AR g [(0,pr r),(1,A),(3,pr bB),(4,pr r),(5,pr r),(6,.pointer (some (T_ r 1))),(7,CK q1),(8,A)])) [.inRegion (Uy P) [5]] [] .run .normal none,Y)
def v0:=Bj (xs P g (Y18 P kv pa told f cs r bA A) r q1 bB A) (commResult (WS q1 A) .send 0 undef false)
def v1:=run P 22 (v0 P kv pa told f g cs r q1 bA bB A)
def v2:=run P 17 (Bj (v1 P kv pa told f g cs r q1 bA bB A) (CK q0))
def v3:=run P 7 (Bj (v2 P kv pa told f g cs r q0 q1 bA bB A) (CK q2))
def n0:=Bj (kS P (AR f (rV kv pa told r)) cs r) (commResult (KL q0 q2) .select 1 (.int .i64 o) true)
def sO:Code:=lM (run P 19 (n0 P (pr 0) je Cb u0 [] 0 0 0 2))
def T21:List Item:=lG (run P 19 (n0 P (pr 0) je Cb u0 [] 0 0 0 2))
def w1:=run P 13 (f56 (AR f [(7,told),(59,.bool true)]) cs (rR P) (Mg r))
def w2:=run P 32 (n0 P kv pa told f cs r q0 q2 0)
def w3:=run P 12 (f56 (AR f [(7,told)]) cs (T21 P) (Mg r))
def jr:Frame:=Frame.mk 56 (TN 76 f) td [] .returning .normal none
def av8:List Item:=(below (w1 P Cb u0 [] 0)).1.todo
def av7:List Item:=(below (w2 P (pr 0) je Cb u0 [] 0 0 0)).1.todo
def av6:List Item:=(below (w3 P Cb u0 [] 0)).1.todo
def sR:=run P 5 (Frame.enter P 94 #[pr r] .deferred,Y)
def sC:=Bj (sR P Y r) (CK q3)
def sD:=Bj (sC P Y r q3) (.tuple #[])
def c94:Frame:=(below (run P 6 (sD P Y r q3))).1
end
structure PK (P:Program):Prop where
 z1a:∀(kv:Value) (pa:Addr) (n:Int) (cs:Z_),Av P 9 (z0 P kv pa n cs)=some []
 z1b:∀(kv:Value) (pa:Addr) (n:Int) (cs:Z_),Ch (z1 P kv pa n cs)=(56,.code (R2 P)::T2 P,[],.run,.normal,none,cs)
 z1c:∀(kv:Value) (pa:Addr) (n:Int) (cs:Z_),slotsOf (z1 P kv pa n cs) [0,1,2,7]=[kv,pv pa,.int .i64 n,Cb]
 z1d:∀(kv:Value) (pa:Addr) (n:Int) (cs:Z_),(z1 P kv pa n cs).1.tmps.size=76
 z3:∀(f:Y_) (cs:Z_),CQ P (some (257,6)) 1 (f56 f cs (T2 P) [])=some ([],f56 f cs (.code (R3 P)::T3 P) [])
 z5a:∀(kv:Value) (pa:Addr) (n:Int) (told:Value) (f:Y_) (cs:Z_),Av P 8 (f56 (AR f (Zi kv pa n told)) cs (T3 P) [])=some []
 z5b:∀(kv:Value) (pa:Addr) (n:Int) (told:Value) (f:Y_) (cs:Z_),Ch (z5 P kv pa n told f cs)=(93,.code (S0 P)::U0 P,[],.run,.normal,none,Y4 P kv pa n told f cs)
 z5c:∀(kv:Value) (pa:Addr) (n:Int) (told:Value) (f:Y_) (cs:Z_),slotsOf (z5 P kv pa n told f cs) [0,1]=[.pointer (some (pa.add 5)),.int .i64 n]
 z5d:∀(kv:Value) (pa:Addr) (n:Int) (told:Value) (f:Y_) (cs:Z_),(z5 P kv pa n told f cs).1.tmps.size=18
 y1:∀(g:Y_) (Y:Z_),CQ P (some (257,6)) 1 (f93 g Y (U0 P))=some ([],f93 g Y (.code (S1 P)::U1 P))
 y3a:∀(g:Y_) (Y:Z_) (b2 b3 b5:Nat),Av P 2 (f93 (AR g (jh b2 b3 b5)) Y (U1 P))=some []
 y3b:∀(g:Y_) (Y:Z_) (b2 b3 b5 r:Nat),CL P (y3 P g Y b2 b3 b5) (pr r)=some ([(S_ b5)],pr r)
 y4a:∀(g:Y_) (Y:Z_) (b2 b3 b5 r:Nat),Av P 3 (Bj (y3 P g Y b2 b3 b5) (pr r))=some []
 y4b:∀(g:Y_) (Y:Z_) (b2 b3 b5 r:Nat),y4 P g Y b2 b3 b5 r=aS P r (cA P g Y b2 b3 b5 r::Y)
 y6a:∀(g:Y_) (Y:Z_) (b2 b3 b5 r:Nat),Av P 4 (y5 P g Y b2 b3 b5 r)=some []
 y6b:∀(g:Y_) (Y:Z_) (b2 b3 b5 r:Nat),goesAt P (y6 P g Y b2 b3 b5 r)=some ⟨.fn (.func 134) #[pr b5,pr b2,pr b3],#[]⟩
 y7a:∀(g:Y_) (Y:Z_) (b2 b3 b5 r:Nat),Av P 3 (Bj (y6 P g Y b2 b3 b5 r) undef)=some []
 y7b:∀(g:Y_) (Y:Z_) (b2 b3 b5 r:Nat),CL P (y7 P g Y b2 b3 b5 r) (pr r)=some ([(S_ b5)],pr r)
 y8a:∀(kv:Value) (pa:Addr) (n:Int) (told:Value) (f g:Y_) (cs:Z_) (b2 b3 b5 r:Nat),Av P 28 (Bj (y7 P g (Y4 P kv pa n told f cs) b2 b3 b5 r) (pr r))=some []
 y8b:∀(kv:Value) (pa:Addr) (n:Int) (told:Value) (f g:Y_) (cs:Z_) (b2 b3 b5 r q0:Nat),CL P (y8 P kv pa n told f g cs b2 b3 b5 r) (CK q0)=some ([(S_ r)],CK q0)
 y9a:∀(kv:Value) (pa:Addr) (n:Int) (told:Value) (f g:Y_) (cs:Z_) (b2 b3 b5 r q0:Nat),Av P 17 (Bj (y8 P kv pa n told f g cs b2 b3 b5 r) (CK q0))=some []
 y9b:∀(kv:Value) (pa:Addr) (n:Int) (told:Value) (f g:Y_) (cs:Z_) (b2 b3 b5 r q0 q2:Nat),CL P (y9 P kv pa n told f g cs b2 b3 b5 r q0) (CK q2)=some ([(T_ r 2)],CK q2)
 as5:∀(kv:Value) (pa:Addr) (n:Int) (told:Value) (f g:Y_) (cs:Z_) (b2 b3 b5 r q0 q2:Nat),Av P 7 (Bj (y9 P kv pa n told f g cs b2 b3 b5 r q0) (CK q2))=some []
 as4:∀(kv:Value) (pa:Addr) (n:Int) (told:Value) (f g:Y_) (cs:Z_) (b2 b3 b5 r q0 q2:Nat),Ch (y10 P kv pa n told f g cs b2 b3 b5 r q0 q2)=(56,fP P,Mg r,.run,.normal,none,cs)
 as3:∀(kv:Value) (pa:Addr) (n:Int) (told:Value) (f g:Y_) (cs:Z_) (b2 b3 b5 r q0 q2:Nat),slotsOf (y10 P kv pa n told f g cs b2 b3 b5 r q0 q2) [0,1,7,8,25,27]=[kv,pv pa,told,pr r,CK q0,CK q2]
 as2:∀(kv:Value) (pa:Addr) (n:Int) (told:Value) (f g:Y_) (cs:Z_) (b2 b3 b5 r q0 q2:Nat),(y10 P kv pa n told f g cs b2 b3 b5 r q0 q2).1.tmps.size=76
 k1:∀(f:Y_) (cs:Z_) (r q0 q2:Nat),Kg P (kS P (AR f [(25,CK q0),(27,CK q2)]) cs r)=some (KL q0 q2)
 x1a:∀(kv:Value) (pa:Addr) (told:Value) (f:Y_) (cs:Z_) (r q0 q2:Nat) (x:Value),Av P 12 (x0 P kv pa told f cs r q0 q2 x)=some []
 x1b:∀(kv:Value) (pa:Addr) (told:Value) (f:Y_) (cs:Z_) (r q0 q2:Nat) (x:Value),Ch (x1 P kv pa told f cs r q0 q2 x)=(56,.code (sU P)::T10 P,Mg r,.run,.normal,none,cs)
 x1c:∀(kv:Value) (pa:Addr) (told:Value) (f:Y_) (cs:Z_) (r q0 q2:Nat) (x:Value),slotsOf (x1 P kv pa told f cs r q0 q2 x) [0,1,7,8,9]=[kv,pv pa,told,pr r,x]
 x1d:∀(kv:Value) (pa:Addr) (told:Value) (f:Y_) (cs:Z_) (r q0 q2:Nat) (x:Value),(x1 P kv pa told f cs r q0 q2 x).1.tmps.size=76
 x2:∀(f:Y_) (cs:Z_) (r:Nat),CQ P (some (257,6)) 2 (f56 f cs (T10 P) (Mg r))=some ([],f56 f cs (.code (sS P)::sM P) (Mg r))
 x3:∀(f:Y_) (cs:Z_) (r:Nat),CQ P (some (257,6)) 3 (f56 (AR f [(39,.bool false)]) cs (sM P) (Mg r))=some ([],f56 (AR f [(39,.bool false)]) cs (.code (sP P)::T15 P) (Mg r))
 x4:∀(f:Y_) (cs:Z_) (r:Nat),CQ P (some (257,6)) 2 (f56 f cs (T15 P) (Mg r))=some ([],f56 f cs (.code (R16 P)::rR P) (Mg r))
 av1:∀(kv:Value) (pa:Addr) (told:Value) (f:Y_) (cs:Z_) (r bA:Nat),Av P 4 (f56 (AR f (slF kv pa told r bA)) cs (rR P) (Mg r))=some []
 av0:∀(kv:Value) (pa:Addr) (told:Value) (f:Y_) (cs:Z_) (r bA:Nat) (s0 s1 s2:Value),EW P (x18 P kv pa told f cs r bA) [s0,s1,s2]=some ([(S_ bA),(T_ bA 1),(T_ bA 2)],.agg #[s0,s1,s2])
 au9:∀(kv:Value) (pa:Addr) (told:Value) (f:Y_) (cs:Z_) (r bA:Nat) (A:Value),Av P 2 (Bj (x18 P kv pa told f cs r bA) A)=some []
 au8:∀(kv:Value) (pa:Addr) (told:Value) (f:Y_) (cs:Z_) (r bA:Nat) (A:Value),Ch (xk P kv pa told f cs r bA A)=(97,.code (A0 P)::xK P,[],.run,.normal,none,Y18 P kv pa told f cs r bA A)
 au7:∀(kv:Value) (pa:Addr) (told:Value) (f:Y_) (cs:Z_) (r bA:Nat) (A:Value),slotsOf (xk P kv pa told f cs r bA A) [0,1]=[pr r,A]
 au6:∀(kv:Value) (pa:Addr) (told:Value) (f:Y_) (cs:Z_) (r bA:Nat) (A:Value),(xk P kv pa told f cs r bA A).1.tmps.size=9
 dr:∀(g:Y_) (Y:Z_),O9 (f97 g Y (xK P))=some (1,Uy P,[])
 dl:Mw (Uy P) (Uy P).size (Array.replicate (Uy P).size false)=[[0,1,2,3,4,5],[0,1,2,4,3,5],[0,1,4,2,3,5],[0,4,1,2,3,5],[4,0,1,2,3,5]]
 l1a:∀(g:Y_) (Y:Z_) (r bB:Nat) (A:Value),Av P 3 (Re P g Y r bB A [0,1,2,3,4,5])=some []
 l1b:∀(g:Y_) (Y:Z_) (r bB q1:Nat) (A:Value),CL P (run P 3 (Re P g Y r bB A [0,1,2,3,4,5])) (CK q1)=some ([(T_ r 1)],CK q1)
 l1c:∀(g:Y_) (Y:Z_) (r bB q1:Nat) (A:Value) (s0 s1 s2:Value),EW P (Bj (run P 3 (Re P g Y r bB A [0,1,2,3,4,5])) (CK q1)) [s0,s1,s2]=some ([(S_ bB),(T_ bB 1),(T_ bB 2)],.agg #[s0,s1,s2])
 l1d:∀(g:Y_) (Y:Z_) (r bB q1:Nat) (A:Value),Bj (Bj (run P 3 (Re P g Y r bB A [0,1,2,3,4,5])) (CK q1)) A=xs P g Y r q1 bB A
 l2a:∀(g:Y_) (Y:Z_) (r bB:Nat) (A:Value),Av P 3 (Re P g Y r bB A [0,1,2,4,3,5])=some []
 l2b:∀(g:Y_) (Y:Z_) (r bB:Nat) (A:Value) (s0 s1 s2:Value),EW P (run P 3 (Re P g Y r bB A [0,1,2,4,3,5])) [s0,s1,s2]=some ([(S_ bB),(T_ bB 1),(T_ bB 2)],.agg #[s0,s1,s2])
 l2c:∀(g:Y_) (Y:Z_) (r bB q1:Nat) (A:Value),CL P (Bj (run P 3 (Re P g Y r bB A [0,1,2,4,3,5])) A) (CK q1)=some ([(T_ r 1)],CK q1)
 l2d:∀(g:Y_) (Y:Z_) (r bB q1:Nat) (A:Value),Bj (Bj (run P 3 (Re P g Y r bB A [0,1,2,4,3,5])) A) (CK q1)=xs P g Y r q1 bB A
 l3a:∀(g:Y_) (Y:Z_) (r bB:Nat) (A:Value),Av P 2 (Re P g Y r bB A [0,1,4,2,3,5])=some []
 l3b:∀(g:Y_) (Y:Z_) (r bB:Nat) (A:Value) (s0 s1 s2:Value),EW P (run P 2 (Re P g Y r bB A [0,1,4,2,3,5])) [s0,s1,s2]=some ([(S_ bB),(T_ bB 1),(T_ bB 2)],.agg #[s0,s1,s2])
 l3c:∀(g:Y_) (Y:Z_) (r bB:Nat) (A:Value),Av P 1 (Bj (run P 2 (Re P g Y r bB A [0,1,4,2,3,5])) A)=some []
 l3d:∀(g:Y_) (Y:Z_) (r bB q1:Nat) (A:Value),CL P (run P 1 (Bj (run P 2 (Re P g Y r bB A [0,1,4,2,3,5])) A)) (CK q1)=some ([(T_ r 1)],CK q1)
 l3e:∀(g:Y_) (Y:Z_) (r bB q1:Nat) (A:Value),Bj (run P 1 (Bj (run P 2 (Re P g Y r bB A [0,1,4,2,3,5])) A)) (CK q1)=xs P g Y r q1 bB A
 l4a:∀(g:Y_) (Y:Z_) (r bB:Nat) (A:Value),Av P 1 (Re P g Y r bB A [0,4,1,2,3,5])=some []
 l4b:∀(g:Y_) (Y:Z_) (r bB:Nat) (A:Value) (s0 s1 s2:Value),EW P (run P 1 (Re P g Y r bB A [0,4,1,2,3,5])) [s0,s1,s2]=some ([(S_ bB),(T_ bB 1),(T_ bB 2)],.agg #[s0,s1,s2])
 l4c:∀(g:Y_) (Y:Z_) (r bB:Nat) (A:Value),Av P 2 (Bj (run P 1 (Re P g Y r bB A [0,4,1,2,3,5])) A)=some []
 l4d:∀(g:Y_) (Y:Z_) (r bB q1:Nat) (A:Value),CL P (run P 2 (Bj (run P 1 (Re P g Y r bB A [0,4,1,2,3,5])) A)) (CK q1)=some ([(T_ r 1)],CK q1)
 l4e:∀(g:Y_) (Y:Z_) (r bB q1:Nat) (A:Value),Bj (run P 2 (Bj (run P 1 (Re P g Y r bB A [0,4,1,2,3,5])) A)) (CK q1)=xs P g Y r q1 bB A
 l5a:∀(g:Y_) (Y:Z_) (r bB:Nat) (A:Value),Av P 0 (Re P g Y r bB A [4,0,1,2,3,5])=some []
 l5b:∀(g:Y_) (Y:Z_) (r bB:Nat) (A:Value) (s0 s1 s2:Value),EW P (run P 0 (Re P g Y r bB A [4,0,1,2,3,5])) [s0,s1,s2]=some ([(S_ bB),(T_ bB 1),(T_ bB 2)],.agg #[s0,s1,s2])
 l5c:∀(g:Y_) (Y:Z_) (r bB:Nat) (A:Value),Av P 3 (Bj (run P 0 (Re P g Y r bB A [4,0,1,2,3,5])) A)=some []
 l5d:∀(g:Y_) (Y:Z_) (r bB q1:Nat) (A:Value),CL P (run P 3 (Bj (run P 0 (Re P g Y r bB A [4,0,1,2,3,5])) A)) (CK q1)=some ([(T_ r 1)],CK q1)
 l5e:∀(g:Y_) (Y:Z_) (r bB q1:Nat) (A:Value),Bj (run P 3 (Bj (run P 0 (Re P g Y r bB A [4,0,1,2,3,5])) A)) (CK q1)=xs P g Y r q1 bB A
 xs:∀(g:Y_) (Y:Z_) (r bB q1:Nat) (A:Value),ai P (xs P g Y r q1 bB A)=some (WS q1 A,.send)
 v1a:∀(kv:Value) (pa:Addr) (told:Value) (f g:Y_) (cs:Z_) (r q1 bA bB:Nat) (A:Value),Av P 22 (v0 P kv pa told f g cs r q1 bA bB A)=some []
 v1b:∀(kv:Value) (pa:Addr) (told:Value) (f g:Y_) (cs:Z_) (r q0 q1 bA bB:Nat) (A:Value),CL P (v1 P kv pa told f g cs r q1 bA bB A) (CK q0)=some ([(S_ r)],CK q0)
 v2a:∀(kv:Value) (pa:Addr) (told:Value) (f g:Y_) (cs:Z_) (r q0 q1 bA bB:Nat) (A:Value),Av P 17 (Bj (v1 P kv pa told f g cs r q1 bA bB A) (CK q0))=some []
 v2b:∀(kv:Value) (pa:Addr) (told:Value) (f g:Y_) (cs:Z_) (r q0 q1 q2 bA bB:Nat) (A:Value),CL P (v2 P kv pa told f g cs r q0 q1 bA bB A) (CK q2)=some ([(T_ r 2)],CK q2)
 v3a:∀(kv:Value) (pa:Addr) (told:Value) (f g:Y_) (cs:Z_) (r q0 q1 q2 bA bB:Nat) (A:Value),Av P 7 (Bj (v2 P kv pa told f g cs r q0 q1 bA bB A) (CK q2))=some []
 v3b:∀(kv:Value) (pa:Addr) (told:Value) (f g:Y_) (cs:Z_) (r q0 q1 q2 bA bB:Nat) (A:Value),Ch (v3 P kv pa told f g cs r q0 q1 q2 bA bB A)=(56,fP P,Mg r,.run,.normal,none,cs)
 v3c:∀(kv:Value) (pa:Addr) (told:Value) (f g:Y_) (cs:Z_) (r q0 q1 q2 bA bB:Nat) (A:Value),slotsOf (v3 P kv pa told f g cs r q0 q1 q2 bA bB A) [0,1,7,8,25,27]=[kv,pv pa,told,pr r,CK q0,CK q2]
 v3d:∀(kv:Value) (pa:Addr) (told:Value) (f g:Y_) (cs:Z_) (r q0 q1 q2 bA bB:Nat) (A:Value),(v3 P kv pa told f g cs r q0 q1 q2 bA bB A).1.tmps.size=76
 n1a:∀(kv:Value) (pa:Addr) (told:Value) (f:Y_) (cs:Z_) (r q0 q2:Nat),Av P 19 (n0 P kv pa told f cs r q0 q2 2)=some []
 n1b:∀(kv:Value) (pa:Addr) (told:Value) (f:Y_) (cs:Z_) (r q0 q2:Nat),Ch (run P 19 (n0 P kv pa told f cs r q0 q2 2))=(56,.code (sO P)::T21 P,Mg r,.run,.normal,none,cs)
 n1c:∀(kv:Value) (pa:Addr) (told:Value) (f:Y_) (cs:Z_) (r q0 q2:Nat),slotsOf (run P 19 (n0 P kv pa told f cs r q0 q2 2)) [0,1,7,8]=[kv,pv pa,told,pr r]
 n1d:∀(kv:Value) (pa:Addr) (told:Value) (f:Y_) (cs:Z_) (r q0 q2:Nat),(run P 19 (n0 P kv pa told f cs r q0 q2 2)).1.tmps.size=76
 w1a:∀(told:Value) (f:Y_) (cs:Z_) (r:Nat),Av P 13 (f56 (AR f [(7,told),(59,.bool true)]) cs (rR P) (Mg r))=some []
 w1b:∀(told:Value) (f:Y_) (cs:Z_) (r:Nat),(w1 P told f cs r).1=(sR P [] r).1
 w1c:∀(told:Value) (f:Y_) (cs:Z_) (r:Nat),(w1 P told f cs r).2=(below (w1 P told f cs r)).1::cs
 w1d:∀(told:Value) (f:Y_) (cs:Z_) (r:Nat),Ch (below (w1 P told f cs r))=(56,av8 P,[],.returning,.normal,none,cs)
 w1e:∀(told:Value) (f:Y_) (cs:Z_) (r:Nat),slotsOf (below (w1 P told f cs r)) [6]=[told]
 w1f:∀(told:Value) (f:Y_) (cs:Z_) (r:Nat),(below (w1 P told f cs r)).1.tmps.size=76
 w2a:∀(kv:Value) (pa:Addr) (told:Value) (f:Y_) (cs:Z_) (r q0 q2:Nat),Av P 32 (n0 P kv pa told f cs r q0 q2 0)=some []
 w2b:∀(kv:Value) (pa:Addr) (told:Value) (f:Y_) (cs:Z_) (r q0 q2:Nat),(w2 P kv pa told f cs r q0 q2).1=(sR P [] r).1
 w2c:∀(kv:Value) (pa:Addr) (told:Value) (f:Y_) (cs:Z_) (r q0 q2:Nat),(w2 P kv pa told f cs r q0 q2).2=(below (w2 P kv pa told f cs r q0 q2)).1::cs
 w2d:∀(kv:Value) (pa:Addr) (told:Value) (f:Y_) (cs:Z_) (r q0 q2:Nat),Ch (below (w2 P kv pa told f cs r q0 q2))=(56,av7 P,[],.returning,.normal,none,cs)
 w2e:∀(kv:Value) (pa:Addr) (told:Value) (f:Y_) (cs:Z_) (r q0 q2:Nat),slotsOf (below (w2 P kv pa told f cs r q0 q2)) [6]=[told]
 w2f:∀(kv:Value) (pa:Addr) (told:Value) (f:Y_) (cs:Z_) (r q0 q2:Nat),(below (w2 P kv pa told f cs r q0 q2)).1.tmps.size=76
 w3a:∀(told:Value) (f:Y_) (cs:Z_) (r:Nat),Av P 12 (f56 (AR f [(7,told)]) cs (T21 P) (Mg r))=some []
 w3b:∀(told:Value) (f:Y_) (cs:Z_) (r:Nat),(w3 P told f cs r).1=(sR P [] r).1
 w3c:∀(told:Value) (f:Y_) (cs:Z_) (r:Nat),(w3 P told f cs r).2=(below (w3 P told f cs r)).1::cs
 w3d:∀(told:Value) (f:Y_) (cs:Z_) (r:Nat),Ch (below (w3 P told f cs r))=(56,av6 P,[],.returning,.normal,none,cs)
 w3e:∀(told:Value) (f:Y_) (cs:Z_) (r:Nat),slotsOf (below (w3 P told f cs r)) [6]=[told]
 w3f:∀(told:Value) (f:Y_) (cs:Z_) (r:Nat),(below (w3 P told f cs r)).1.tmps.size=76
 sRf:∀(Y:Z_) (r:Nat),sR P Y r=((sR P [] r).1,Y)
 sRa:∀(Y:Z_) (r q3:Nat),CL P (sR P Y r) (CK q3)=some ([(T_ r 3)],CK q3)
 sCa:∀(Y:Z_) (r q3:Nat),Sk P (sC P Y r q3)=some q3
 sCw:∀(Y:Z_) (r q3:Nat),mayWake P (Bv (sC P Y r q3))=true
 sDa:∀(Y:Z_) (r q3:Nat),Av P 6 (sD P Y r q3)=some []
 sDb:∀(Y:Z_) (r q3:Nat),run P 6 (sD P Y r q3)=wS P r (c94 P Y r q3::Y)
 end_:∀(f:Y_) (td:List Item) (told:Value) (c:Frame) (cs:Z_) (r q3:Nat),CQ P (some (257,6)) 4 ((c94 P (jr (AR f [(6,told)]) td::c::cs) r q3).finish (.tuple #[]),jr (AR f [(6,told)]) td::c::cs)=some ([],(c.finish told,cs))
theorem kC:PK prog:=by
 constructor<;>intros<;>kernel_rfl
def fF (kv:Value) (pa:Addr) (told:Value) (r bA:Nat):List (Nat×Value):=[(0,kv),(1,pv pa),(7,told),(8,pr r),(10,pr bA)]
section
variable (P:Program) (kv:Value) (pa:Addr) (told A:Value) (f g:Y_) (cs:Z_) (r q1 bA bB:Nat)
def sQ:Code:=lM (run P 2 (f56 (AR u0 [(39,.bool true)]) [] (sM P) []))
def T12:List Item:=lG (run P 2 (f56 (AR u0 [(39,.bool true)]) [] (sM P) []))
def x13:=run P 3 (f56 (AR f (fF kv pa told r bA)) cs (T12 P) (Mg r))
def x14:=run P 2 (Bj (x13 P kv pa told f cs r bA) A)
def Y13:=(x14 P kv pa told A f cs r bA).2
def vB:=Bj (xs P g (Y13 P kv pa told A f cs r bA) r q1 bB A) (commResult (WS q1 A) .send 0 undef false)
def w4:=run P 16 (vB P kv pa told A f g cs r q1 bA bB)
def af7:List Item:=(below (w4 P (pr 0) je Cb Zr u0 u0 [] 0 0 0 0)).1.todo
end
structure Yl (P:Program):Prop where
 y3:∀(f:Y_) (cs:Z_) (r:Nat),CQ P (some (257,6)) 2 (f56 (AR f [(39,.bool true)]) cs (sM P) (Mg r))=some ([],f56 (AR f [(39,.bool true)]) cs (.code (sQ P)::T12 P) (Mg r))
 a13:∀(kv:Value) (pa:Addr) (told:Value) (f:Y_) (cs:Z_) (r bA:Nat),Av P 3 (f56 (AR f (fF kv pa told r bA)) cs (T12 P) (Mg r))=some []
 b13:∀(kv:Value) (pa:Addr) (told:Value) (f:Y_) (cs:Z_) (r bA:Nat) (s0 s1 s2:Value),EW P (x13 P kv pa told f cs r bA) [s0,s1,s2]=some ([(S_ bA),(T_ bA 1),(T_ bA 2)],.agg #[s0,s1,s2])
 a14:∀(kv:Value) (pa:Addr) (told:Value) (f:Y_) (cs:Z_) (r bA:Nat) (A:Value),Av P 2 (Bj (x13 P kv pa told f cs r bA) A)=some []
 b14:∀(kv:Value) (pa:Addr) (told:Value) (f:Y_) (cs:Z_) (r bA:Nat) (A:Value),Ch (x14 P kv pa told A f cs r bA)=(97,.code (A0 P)::xK P,[],.run,.normal,none,Y13 P kv pa told A f cs r bA)
 c14:∀(kv:Value) (pa:Addr) (told:Value) (f:Y_) (cs:Z_) (r bA:Nat) (A:Value),slotsOf (x14 P kv pa told A f cs r bA) [0,1]=[pr r,A]
 d14:∀(kv:Value) (pa:Addr) (told:Value) (f:Y_) (cs:Z_) (r bA:Nat) (A:Value),(x14 P kv pa told A f cs r bA).1.tmps.size=9
 w4a:∀(kv:Value) (pa:Addr) (told:Value) (f g:Y_) (cs:Z_) (r q1 bA bB:Nat) (A:Value),Av P 16 (vB P kv pa told A f g cs r q1 bA bB)=some []
 w4b:∀(kv:Value) (pa:Addr) (told:Value) (f g:Y_) (cs:Z_) (r q1 bA bB:Nat) (A:Value),(w4 P kv pa told A f g cs r q1 bA bB).1=(sR P [] r).1
 w4c:∀(kv:Value) (pa:Addr) (told:Value) (f g:Y_) (cs:Z_) (r q1 bA bB:Nat) (A:Value),(w4 P kv pa told A f g cs r q1 bA bB).2=(below (w4 P kv pa told A f g cs r q1 bA bB)).1::cs
 w4d:∀(kv:Value) (pa:Addr) (told:Value) (f g:Y_) (cs:Z_) (r q1 bA bB:Nat) (A:Value),Ch (below (w4 P kv pa told A f g cs r q1 bA bB))=(56,af7 P,[],.returning,.normal,none,cs)
 w4e:∀(kv:Value) (pa:Addr) (told:Value) (f g:Y_) (cs:Z_) (r q1 bA bB:Nat) (A:Value),slotsOf (below (w4 P kv pa told A f g cs r q1 bA bB)) [6]=[told]
 w4f:∀(kv:Value) (pa:Addr) (told:Value) (f g:Y_) (cs:Z_) (r q1 bA bB:Nat) (A:Value),(below (w4 P kv pa told A f g cs r q1 bA bB)).1.tmps.size=76
theorem kZ:Yl prog:=by
 constructor<;>intros<;>kernel_rfl
end Go.Fxa
