/- Steps that look at no memory b -/
import Derived.Test.YtmhplpfpcnjekaaGreatA09
import Derived.Test.YtmhplpfpcnjekaaGreatProg
import Derived.Conc.DeferLaws
import Derived.Conc.Own2
open Go.Proofs.Tryz
namespace Go.Fxa
open Go.Conc
end Go.Fxa
namespace Go
open Go.Fxa Go.Conc
def Sem.OA (P:l_) (s:d_ (j_×Nat)) {α:Type}:Sem α->d_ (List Nat×α)
 |.pure a=>some ([],a)
 |.program k=>(k P).OA P s
 |.shape b k=>match (k s).OA P s with
  |some (l,a)=>some (b::l,a)
  |none=>none
 |_=>none
end Go
namespace Go.Fxa
open Go.Conc
section
variable {P:l_} {s:d_ (j_×Nat)} {w:o_} {main:Bool}
theorem vK {α:Type} {e:Sem α} {a:α}:∀{l:List Nat} (_:e.OA P s=some (l,a)) (_:∀b∈l,w.shape? b=s) (es:Array Event),e.runT P w es=(.ok a w,es):=by
 induction e with
 |pure b=>
  intro l h _ es
  simp only[Sem.OA,Option.some.injEq,Prod.mk.injEq]at h
  obtain⟨rfl,rfl⟩:=h
  rfl
 |program k d=>intro l h c es;exact d P h c es
 |shape b k d=>
  intro l h c es
  simp only[Sem.OA]at h
  split at h
  .rename_i m j g;simp only[Option.some.injEq,Prod.mk.injEq]at h;obtain⟨rfl,rfl⟩:=h;have f:=c b (List.mem_cons_self ..);simp only[Sem.runT,f];exact d s g (λx i=>c x (List.mem_cons_of_mem _ i)) es
  .cases h
 |_=>intro l h;simp[Sem.OA]at h
def bare (P:l_) (x:Frame×Z_):Bool:=
 match AQ x with
 |some (f,_)=>match P.funcs[f]? with
  |some fn=>fn.body.isNone
  |none=>false
 |none=>false
def WA (P:l_) (s:d_ (j_×Nat)) (x:Frame×Z_):d_ (List Nat×(Frame×Z_)):=
 if bare P x then none else
 match Qv P x with
 |some y=>some ([],y)
 |none=>match opAt x with
  |some o=>match (execOp x.1.eval o).OA P s with
   |some (l,.value v)=>some (l,BB x v)
   |_=>none
  |none=>none
def DR (P:l_) (s:d_ (j_×Nat)):Nat->Frame×Z_->d_ (List Nat×(Frame×Z_))
 |0,x=>some ([],x)
 |n+1,x=>match WA P s x with
  |some (l,y)=>match DR P s n y with
   |some (l',z)=>some (l++l',z)
   |none=>none
  |none=>none
theorem QB {x y:Frame×Z_} {l:List Nat} (h:WA P s x=some (l,y)) (hl:∀b∈l,w.shape? b=s):stepG P main (G x.1 x.2) w=.go (G y.1 y.2) w #[]:=by
 unfold WA at h;split at h
 .cases h
 split at h
 .rename_i f c;simp only[Option.some.injEq,Prod.mk.injEq]at h;obtain⟨_,rfl⟩:=h;exact quiet_step c w
 .split at h
  .rename_i o a;split at h
   .rename_i e v d;simp only[Option.some.injEq,Prod.mk.injEq]at h;obtain⟨rfl,rfl⟩:=h;obtain⟨e1,e2⟩:=PU (P:=P) (main:=main) (w:=w) a;rw[e1];simp only[stepG.apply,vK d hl #[],if_true,GStep.after,Array.append_empty,e2,Bool.false_eq_true,if_false,seen_none]
    rfl
   .cases h
  .cases h
theorem FU {J:o_->Prop} {r:Nat} (hJ:∀w,J w->w.shape? r=s):∀{n:Nat} {x z:Frame×Z_} {l:List Nat},DR P s n x=some (l,z)->(∀b∈l,b=r)->J5 P J main n (G x.1 x.2) (G z.1 z.2)
 |0,x,z,l,h,_=>by
  simp only[DR,Option.some.injEq,Prod.mk.injEq]at h
  obtain⟨_,rfl⟩:=h
  exact rfl
 |n+1,x,z,l,h,c=>by
  simp only[DR]at h
  split at h
  .rename_i g y e;split at h
   .rename_i i j f;simp only[Option.some.injEq,Prod.mk.injEq]at h;obtain⟨rfl,rfl⟩:=h;exact⟨rfl,G y.1 y.2,λw d=>QB e (λb a=>by rw[c b (List.mem_append_left _ a)];exact hJ w d),FU hJ f (λb a=>c b (List.mem_append_right _ a))⟩
   .cases h
  .cases h
theorem J5.trans {J:o_->Prop} {g g' g'':m_}:∀{n m:Nat},J5 P J main n g g'->J5 P J main m g' g''->J5 P J main (n+m) g g''
 |0,m,h,a=>by rw[Nat.zero_add,show g=g' from h];exact a
 |n+1,m,h,a=>by
  obtain⟨c,b,d,e⟩:=h
  rw[show n+1+m=(n+m)+1 from by omega]
  exact⟨c,b,d,e.trans a⟩
theorem sO {J:o_->Prop} {x:Frame×Z_} {f:h_} {args:X_} {e:X_->Sem n_} {v:n_} (h:AQ x=some (f,args)) (hE:Entry P f e) (he:e args=.pure v):
  J5 P J main 1 (G x.1 x.2) (G (BB x v).1 (BB x v).2):=
 ⟨rfl,_,λw _=>Fj (BA:=#[]) h hE (by rw[he];rfl) (by rw[he];rfl) (by simp),rfl⟩
end
def run (P:l_) (n:Nat) (x:Frame×Z_):Frame×Z_:=
 match DR P (some (257,6)) n x with
 |some (_,y)=>y
 |none=>x
def Ar (P:l_) (n:Nat) (x:Frame×Z_):d_ (List Nat):=(DR P (some (257,6)) n x).map (·.1)
def KN (x:Frame×Z_):d_ (h_×X_):=
 match x.1.roundOf,x.1.mode,x.1.defers with
 |none,.returning,⟨.fn (.func f) cap,args⟩::_=>if cap.size=0 then some (f,args)else none
 |_,_,_=>none
def Qm (P:l_) (f:h_):Func:=(P.funcs[f]?).getD default
theorem FK {P:Program} {f:FuncId} {e:Array Value->Sem Value} (h1:(P.funcs[f]?).isSome=true) (h2:((Qm P f).name== "runtime.NumGoroutine")=false) (h3:(Qm P f).body.isNone=true) (h4:Extern.findNext (Qm P f)=none) (h5:Extern.find (Qm P f)=some e):Entry P f e:=by
 obtain⟨fn,a⟩:=Option.isSome_iff_exists.1 h1;have:Qm P f=fn:=by unfold Qm;rw[a];rfl
 rw[this]at h2 h3 h4 h5;exact⟨fn,a,h2,h3,h4,h5⟩
def RP (x:Frame×Z_):Frame×Z_:=({ x.1 with defers:=x.1.defers.tail },x.2)
def BD (x:Frame×Z_):m_:=G x.1 x.2
section
variable {P:l_} {main:Bool} {x:Frame×Z_} {w:o_}
theorem ac5 {J:o_->Prop} {r n:Nat} {l:List Nat} (hJ:∀w,J w->w.shape? r=some (257,6)) (h:Ar P n x=some l) (hl:∀b∈l,b=r):J5 P J main n (BD x) (BD (run P n x)):=by
 unfold Ar at h;obtain⟨⟨c,y⟩,a,rfl⟩:=Option.map_eq_some_iff.1 h;have:run P n x=y:=by unfold run;rw[a]
 rw[this];exact FU hJ a hl
theorem Qc (m:Mark) (hm:∀g,m≠.extern g) {f:h_} {args:X_} (h:KN x=some (f,args)) (hE:Entry P f (fun _=>do mark m;pure Extern.Race.none_)):
  stepG P main (BD x) w=.go (BD (RP x)) w #[⟨.mark m,false,true⟩]:=by
 obtain⟨⟨fn,c,todo,t,k,kind,z⟩,s⟩:=x;obtain⟨n,q,d,o,r,p⟩:=hE;unfold KN at h;simp only at h;split at h
 .rename_i u cap e l;by_cases i:cap.size=0
  .rw[if_pos i]at h;simp only[Option.some.injEq,Prod.mk.injEq]at h;obtain⟨rfl,rfl⟩:=h;obtain rfl:=Array.eq_empty_of_size_eq_zero i;exact stepG_unwind_entry (v:=.tuple #[]) (b:=Frame.mk fn c [] [] .run kind none) (a:=⟨c,_⟩) (todo:=todo) rfl q d o r p (by simp[Extern.Race.none_]) (by simp) (by
    intro y j
    simp at j
    subst j
    exact⟨rfl,λg h=>hm g (by cases h;rfl)⟩)
  .rw[if_neg i]at h;cases h
 .cases h
theorem Gy {r:Nat} {a b c d:n_} (w:o_) (h:Dj r #[a,b,c,d] 257 w):w.shape? r=some (257,6):=by
 obtain⟨f,e,h⟩:=h;unfold Bh at h;simp[World.shape?,h]
def IX:n_:=.tuple #[]
section
variable (P:l_) (r:Nat) (Y:Z_)
def wS:Frame×Z_:=(Frame.enter P 137 #[.pointer (some (T_ r 4))] .normal,Y)
def wD:=run P 3 (wS P r Y)
def wL:=run P 19 (BB (wD P r Y) IX)
def wE:=run P 31 (BB (wL P r Y) (.int .u64 0))
def wQ:=run P 4 (BB (wE P r Y) IX)
def wK:=run P 48 (BB (wL P r Y) (.int .u64 4294967296))
def wL2:=run P 25 (BB (wK P r Y) (.bool false))
def wEa:=run P 31 (BB (wL2 P r Y) (.int .u64 0))
def wQa:=run P 4 (BB (wEa P r Y) IX)
def wW:=run P 20 (BB (wK P r Y) (.bool true))
def wM:=run P 23 (BB (wW P r Y) IX)
def wN:=run P 16 (BB (wM P r Y) IX)
def wEb:=run P 11 (BB (wN P r Y) (.int .u64 0))
def wQb:=run P 4 (BB (wEb P r Y) IX)
end
end
section
variable (r:Nat) (Y:Z_)
open Go.Proofs
theorem ar9:Entry prog 172 (Extern.Race.marked .releaseMerge):=FK (by kernel_rfl) (by kernel_rfl) (by kernel_rfl) (by kernel_rfl) (by kernel_rfl)
theorem Zg:Entry prog 173 (λ_=>do mark .disable;pure Extern.Race.none_):=FK (by kernel_rfl) (by kernel_rfl) (by kernel_rfl) (by kernel_rfl) (by kernel_rfl)
theorem XQ:Entry prog 174 (λ_=>do mark .enable;pure Extern.Race.none_):=FK (by kernel_rfl) (by kernel_rfl) (by kernel_rfl) (by kernel_rfl) (by kernel_rfl)
theorem uy:Entry prog 175 (λ_=>pure (.bool false)):=FK (by kernel_rfl) (by kernel_rfl) (by kernel_rfl) (by kernel_rfl) (by kernel_rfl)
theorem ar8:Entry prog 180 (Extern.Race.marked .read):=FK (by kernel_rfl) (by kernel_rfl) (by kernel_rfl) (by kernel_rfl) (by kernel_rfl)
theorem ar7:Entry prog 184 (Extern.Sync.semrelease):=FK (by kernel_rfl) (by kernel_rfl) (by kernel_rfl) (by kernel_rfl) (by kernel_rfl)
theorem ar6:Entry prog 188 (Extern.Race.marked .acquire):=FK (by kernel_rfl) (by kernel_rfl) (by kernel_rfl) (by kernel_rfl) (by kernel_rfl)
theorem ar5:Entry prog 191 (Extern.Race.marked .write):=FK (by kernel_rfl) (by kernel_rfl) (by kernel_rfl) (by kernel_rfl) (by kernel_rfl)
theorem aa9:Entry prog 192 (Extern.Sync.semacquire):=FK (by kernel_rfl) (by kernel_rfl) (by kernel_rfl) (by kernel_rfl) (by kernel_rfl)
theorem e223:Entry prog 223 (Extern.Atomic.update (Op.intArith .add) .u64 true):=FK (by kernel_rfl) (by kernel_rfl) (by kernel_rfl) (by kernel_rfl) (by kernel_rfl)
theorem e224:Entry prog 224 (Extern.Atomic.loadT (.int .u64)):=FK (by kernel_rfl) (by kernel_rfl) (by kernel_rfl) (by kernel_rfl) (by kernel_rfl)
theorem ar4:Entry prog 225 (Extern.Atomic.storeT):=FK (by kernel_rfl) (by kernel_rfl) (by kernel_rfl) (by kernel_rfl) (by kernel_rfl)
theorem e228:Entry prog 228 (Extern.Atomic.casT (.int .u64)):=FK (by kernel_rfl) (by kernel_rfl) (by kernel_rfl) (by kernel_rfl) (by kernel_rfl)
theorem ku:Ar prog 3 (wS prog r Y)=some []:=by kernel_rfl
theorem yu:AQ (wD prog r Y)=some (173,#[]):=by kernel_rfl
theorem jU:Ar prog 19 (BB (wD prog r Y) IX)=some []:=by kernel_rfl
theorem qE:AQ (wL prog r Y)=some (224,#[.pointer (some (T_ r 4))]):=by kernel_rfl
theorem jZ:Ar prog 31 (BB (wL prog r Y) (.int .u64 0))=some []:=by kernel_rfl
theorem yt:AQ (wE prog r Y)=some (174,#[]):=by kernel_rfl
theorem jR:Ar prog 4 (BB (wE prog r Y) IX)=some [r,r]:=by kernel_rfl
theorem yj:AQ (wQ prog r Y)=some (188,#[.pointer (some (T_ r 4))]):=by kernel_rfl
theorem jW:Ar prog 48 (BB (wL prog r Y) (.int .u64 4294967296))=some []:=by kernel_rfl
theorem qF:AQ (wK prog r Y)=some (228,#[.pointer (some (T_ r 4)),.int .u64 4294967296,.int .u64 4294967297]):=by kernel_rfl
theorem ZC:Ar prog 25 (BB (wK prog r Y) (.bool false))=some []:=by kernel_rfl
theorem jV:AQ (wL2 prog r Y)=some (224,#[.pointer (some (T_ r 4))]):=by kernel_rfl
theorem ZF:Ar prog 31 (BB (wL2 prog r Y) (.int .u64 0))=some []:=by kernel_rfl
theorem jY:AQ (wEa prog r Y)=some (174,#[]):=by kernel_rfl
theorem ZB:Ar prog 4 (BB (wEa prog r Y) IX)=some [r,r]:=by kernel_rfl
theorem jQ:AQ (wQa prog r Y)=some (188,#[.pointer (some (T_ r 4))]):=by kernel_rfl
theorem jO:Ar prog 20 (BB (wK prog r Y) (.bool true))=some [r,r]:=by kernel_rfl
theorem yh:AQ (wW prog r Y)=some (191,#[.pointer (some (T_ r 5))]):=by kernel_rfl
theorem jT:Ar prog 23 (BB (wW prog r Y) IX)=some []:=by kernel_rfl
theorem qC:AQ (wM prog r Y)=some (192,#[.pointer (some (T_ r 5)),.bool false]):=by kernel_rfl
theorem jS:Ar prog 16 (BB (wM prog r Y) IX)=some []:=by kernel_rfl
theorem yl:AQ (wN prog r Y)=some (224,#[.pointer (some (T_ r 4))]):=by kernel_rfl
theorem ZE:Ar prog 11 (BB (wN prog r Y) (.int .u64 0))=some []:=by kernel_rfl
theorem jX:AQ (wEb prog r Y)=some (174,#[]):=by kernel_rfl
theorem ZA:Ar prog 4 (BB (wEb prog r Y) IX)=some [r,r]:=by kernel_rfl
theorem jP:AQ (wQb prog r Y)=some (188,#[.pointer (some (T_ r 4))]):=by kernel_rfl
end
end Go.Fxa
namespace Go.Fxa
open Go.Conc Go.Proofs
structure QF (P:l_) (r:Nat) (c:Frame) (Y:Z_):Prop where
 Zg:Entry P 173 (λ_=>do mark .disable;pure Extern.Race.none_)
 XQ:Entry P 174 (λ_=>do mark .enable;pure Extern.Race.none_)
 ar6:Entry P 188 (Extern.Race.marked .acquire)
 ar5:Entry P 191 (Extern.Race.marked .write)
 aa9:Entry P 192 Extern.Sync.semacquire
 e224:Entry P 224 (Extern.Atomic.loadT (.int .u64))
 e228:Entry P 228 (Extern.Atomic.casT (.int .u64))
 ku:Ar P 3 (wS P r (c::Y))=some []
 yu:AQ (wD P r (c::Y))=some (173,#[])
 jU:Ar P 19 (BB (wD P r (c::Y)) IX)=some []
 qE:AQ (wL P r (c::Y))=some (224,#[.pointer (some (T_ r 4))])
 jZ:Ar P 31 (BB (wL P r (c::Y)) (.int .u64 0))=some []
 yt:AQ (wE P r (c::Y))=some (174,#[])
 jR:Ar P 4 (BB (wE P r (c::Y)) IX)=some [r,r]
 yj:AQ (wQ P r (c::Y))=some (188,#[.pointer (some (T_ r 4))])
 jW:Ar P 48 (BB (wL P r (c::Y)) (.int .u64 4294967296))=some []
 qF:AQ (wK P r (c::Y))=some (228,#[.pointer (some (T_ r 4)),.int .u64 4294967296,.int .u64 4294967297])
 ZC:Ar P 25 (BB (wK P r (c::Y)) (.bool false))=some []
 jV:AQ (wL2 P r (c::Y))=some (224,#[.pointer (some (T_ r 4))])
 ZF:Ar P 31 (BB (wL2 P r (c::Y)) (.int .u64 0))=some []
 jY:AQ (wEa P r (c::Y))=some (174,#[])
 ZB:Ar P 4 (BB (wEa P r (c::Y)) IX)=some [r,r]
 jQ:AQ (wQa P r (c::Y))=some (188,#[.pointer (some (T_ r 4))])
 jO:Ar P 20 (BB (wK P r (c::Y)) (.bool true))=some [r,r]
 yh:AQ (wW P r (c::Y))=some (191,#[.pointer (some (T_ r 5))])
 jT:Ar P 23 (BB (wW P r (c::Y)) IX)=some []
 qC:AQ (wM P r (c::Y))=some (192,#[.pointer (some (T_ r 5)),.bool false])
 jS:Ar P 16 (BB (wM P r (c::Y)) IX)=some []
 yl:AQ (wN P r (c::Y))=some (224,#[.pointer (some (T_ r 4))])
 ZE:Ar P 11 (BB (wN P r (c::Y)) (.int .u64 0))=some []
 jX:AQ (wEb P r (c::Y))=some (174,#[])
 ZA:Ar P 4 (BB (wEb P r (c::Y)) IX)=some [r,r]
 jP:AQ (wQb P r (c::Y))=some (188,#[.pointer (some (T_ r 4))])
 jM:DR P (some (257,6)) 20 (BB (wQ P r (c::Y)) IX)=some ([],(c.finish (.tuple #[]),Y))
 Zz:DR P (some (257,6)) 20 (BB (wQa P r (c::Y)) IX)=some ([],(c.finish (.tuple #[]),Y))
 Zy:DR P (some (257,6)) 10 (BB (wQb P r (c::Y)) IX)=some ([],(c.finish (.tuple #[]),Y))
section
variable {P:l_} {r:Nat} {c:Frame} {Y:Z_} {a b e d:n_}
theorem FC {x:Frame×Z_} {n:Nat} {l:List Nat} (h:Ar P n x=some l) (hl:∀y∈l,y=r) (main:Bool):J5 P (Dj r #[a,b,e,d] 257) main n (BD x) (BD (run P n x)):=
 ac5 (λw c=>Gy w c) h hl
theorem IZ:∀y∈([]:List Nat),y=r:=by simp
theorem yw:∀y∈[r,r],y=r:=by simp
def waits (P:l_) (r:Nat) (Y:Z_):Wts where
 mD:=BD (wD P r Y)
 mD':=BD (BB (wD P r Y) IX)
 mL:=BD (wL P r Y)
 mL0:=BD (BB (wL P r Y) (.int .u64 0))
 mLK:=BD (BB (wL P r Y) (.int .u64 KK))
 mC:=BD (wK P r Y)
 mC1:=BD (BB (wK P r Y) (.bool true))
 mC0:=BD (BB (wK P r Y) (.bool false))
 mW:=BD (wW P r Y)
 mW':=BD (BB (wW P r Y) IX)
 fr:=(wM P r Y).1
 cs:=(wM P r Y).2
 ϰ:=BD (BB (wM P r Y) IX)
 k0:=3
 k1:=19
 k2:=48
 k3:=20
 k4:=23
theorem ZN (F:QF P r c Y) {x y:Frame×Z_} {k1 k3:Nat} {l1:List Nat} (h1:Ar P k1 x=some l1) (hl1:∀z∈l1,z=r) (hE:AQ (run P k1 x)=some (174,#[])) (h2:Ar P 4 (BB (run P k1 x) IX)=some [r,r])
  (hQ:AQ (run P 4 (BB (run P k1 x) IX))=some (188,#[.pointer (some (T_ r 4))])) (h3:DR P (some (257,6)) k3 (BB (run P 4 (BB (run P k1 x) IX)) IX)=some ([],y)):
  ab5 P r #[a,b,e,d] 257 (BD y) (BD x):=
 ⟨k1,BD (run P k1 x),BD (BB (run P k1 x) IX),4,BD (run P 4 (BB (run P k1 x) IX)),BD (BB (run P 4 (BB (run P k1 x) IX)) IX),k3,
  FC h1 hl1 true,rfl,λw=>SY .enable (by simp) hE F.XQ,FC h2 yw true,rfl,λw=>QA .acquire (by simp) hQ F.ar6,FU (λw f=>Gy w f) h3 (by simp)⟩
theorem ab6 (F:QF P r c Y):zN P r #[a,b,e,d] 257 (BD (wS P r (c::Y))) (G (c.finish (.tuple #[])) Y) (waits P r (c::Y)) where
 runs:=⟨rfl,rfl,rfl,rfl⟩
 s0:=FC F.ku IZ true
 XG w:=SY .disable (by simp) F.yu F.Zg
 s1:=FC F.jU IZ true
 an6 w f:=Sj F.qE F.e224 f
 fin0:=ZN F F.jZ IZ F.yt F.jR F.yj F.jM
 an5 w f:=Sj F.qE F.e224 f
 s2:=FC F.jW IZ true
 Ik w f hz:=pU F.qF F.e228 f hz
 miss w f hz:=ja F.qF F.e228 f hz (by decide)
 lo0:=⟨25,BD (wL2 P r (c::Y)),_,FC F.ZC IZ true,rfl,λw f=>Sj F.jV F.e224 f,ZN F F.ZF IZ F.jY F.ZB F.jQ F.Zz⟩
 s3:=FC F.jO yw true
 wr w:=QA .write (by simp) F.yh F.ar5
 s4:=FC F.jT IZ true
 ay4 w f hz:=qm F.qC rfl F.aa9 f (by decide) hz
 am5 w f:=Vr F.qC rfl F.aa9 f
 lo1:=⟨16,BD (wN P r (c::Y)),_,FC F.jS IZ true,rfl,λw f=>Sj F.yl F.e224 f,ZN F F.ZE IZ F.jX F.ZA F.jP F.Zy⟩
end
section
variable (r:Nat) (c:Frame) (Y:Z_)
theorem jM:DR prog (some (257,6)) 20 (BB (wQ prog r (c::Y)) IX)=some ([],(c.finish (.tuple #[]),Y)):=by kernel_rfl
theorem Zz:DR prog (some (257,6)) 20 (BB (wQa prog r (c::Y)) IX)=some ([],(c.finish (.tuple #[]),Y)):=by kernel_rfl
theorem Zy:DR prog (some (257,6)) 10 (BB (wQb prog r (c::Y)) IX)=some ([],(c.finish (.tuple #[]),Y)):=by kernel_rfl
theorem lT:QF prog r c Y:=
 ⟨Zg,XQ,ar6,ar5,aa9,e224,e228,ku r _,yu r _,jU r _,qE r _,jZ r _,yt r _,jR r _,yj r _,jW r _,qF r _,ZC r _,jV r _,ZF r _,jY r _,ZB r _,jQ r _,
  jO r _,yh r _,jT r _,qC r _,jS r _,yl r _,ZE r _,jX r _,ZA r _,jP r _,jM r c Y,Zz r c Y,Zy r c Y⟩
end
section
variable (P:l_) (r:Nat) (Y:Z_)
def dS:Frame×Z_:=(Frame.enter P 135 #[.pointer (some (T_ r 4))] .deferred,Y)
def dR:=run P 15 (dS P r Y)
def dD:=run P 3 (BB (dR P r Y) IX)
def dB:=run P 11 (BB (dD P r Y) IX)
def dA:=run P 22 (BB (dB P r Y) (.bool false))
def dF:=run P 87 (BB (dA P r Y) (.int .u64 0))
def dM:=run P 103 (BB (dA P r Y) (.int .u64 1))
def dT:=run P 20 (BB (dM P r Y) (.int .u64 1))
def dP:=run P 27 (BB (dT P r Y) IX)
def dG:=run P 17 (BB (dP P r Y) IX)
def aS:Frame×Z_:=(Frame.enter P 133 #[.pointer (some (T_ r 4)),b_ 1] .normal,Y)
def aD:=run P 12 (aS P r Y)
def aB:=run P 11 (BB (aD P r Y) IX)
def aA:=run P 22 (BB (aB P r Y) (.bool false))
def aR:=run P 53 (BB (aA P r Y) (.int .u64 4294967296))
def aE:=run P 39 (BB (aR P r Y) IX)
end
def f134 (tm:X_) (td:List Item):Frame:=Frame.mk 134 tm td [] .returning .deferred none
def CE (P:l_):Frame:={ (default:Frame)with fn:=P.funcs.size,defers:=[],mode:=.panicking [goexitEntry] }
structure Ou (P:l_) (r:Nat) (tm:X_) (td:List Item):Prop where
 ar9:Entry P 172 (Extern.Race.marked .releaseMerge)
 Zg:Entry P 173 (λ_=>do mark .disable;pure Extern.Race.none_)
 XQ:Entry P 174 (λ_=>do mark .enable;pure Extern.Race.none_)
 uy:Entry P 175 (λ_=>pure (.bool false))
 ar7:Entry P 184 Extern.Sync.semrelease
 e223:Entry P 223 (Extern.Atomic.update (Op.intArith .add) .u64 true)
 e224:Entry P 224 (Extern.Atomic.loadT (.int .u64))
 ar4:Entry P 225 Extern.Atomic.storeT
 zK:Ar P 15 (dS P r [f134 tm td,CE P])=some [r,r]
 yK:AQ (dR P r [f134 tm td,CE P])=some (172,#[.pointer (some (T_ r 4))])
 kU:Ar P 3 (BB (dR P r [f134 tm td,CE P]) IX)=some []
 yP:AQ (dD P r [f134 tm td,CE P])=some (173,#[])
 kV:Ar P 11 (BB (dD P r [f134 tm td,CE P]) IX)=some []
 yQ:AQ (dB P r [f134 tm td,CE P])=some (175,#[])
 kW:Ar P 22 (BB (dB P r [f134 tm td,CE P]) (.bool false))=some []
 qQ:AQ (dA P r [f134 tm td,CE P])=some (223,#[.pointer (some (T_ r 4)),.int .u64 18446744069414584320])
 kQ:Ar P 87 (BB (dA P r [f134 tm td,CE P]) (.int .u64 0))=some []
 yO:KN (dF P r [f134 tm td,CE P])=some (174,#[])
 kT:DR P (some (257,6)) 5 (RP (dF P r [f134 tm td,CE P]))=some ([],(CE P,[]))
 kM:Ar P 103 (BB (dA P r [f134 tm td,CE P]) (.int .u64 1))=some []
 yM:AQ (dM P r [f134 tm td,CE P])=some (224,#[.pointer (some (T_ r 4))])
 kK:Ar P 20 (BB (dM P r [f134 tm td,CE P]) (.int .u64 1))=some []
 yJ:AQ (dT P r [f134 tm td,CE P])=some (225,#[.pointer (some (T_ r 4)),.int .u64 0])
 kL:Ar P 27 (BB (dT P r [f134 tm td,CE P]) IX)=some []
 yL:AQ (dP P r [f134 tm td,CE P])=some (184,#[.pointer (some (T_ r 5)),.bool false,b_ 0])
 kN:Ar P 17 (BB (dP P r [f134 tm td,CE P]) IX)=some []
 yN:KN (dG P r [f134 tm td,CE P])=some (174,#[])
 kP:DR P (some (257,6)) 5 (RP (dG P r [f134 tm td,CE P]))=some ([],(CE P,[]))
 wake:mayWake P (BD (dP P r [f134 tm td,CE P]))=true
structure WL (P:l_) (r:Nat) (c:Frame) (Y:Z_):Prop where
 Zg:Entry P 173 (λ_=>do mark .disable;pure Extern.Race.none_)
 XQ:Entry P 174 (λ_=>do mark .enable;pure Extern.Race.none_)
 uy:Entry P 175 (λ_=>pure (.bool false))
 ar8:Entry P 180 (Extern.Race.marked .read)
 e223:Entry P 223 (Extern.Atomic.update (Op.intArith .add) .u64 true)
 lH:Ar P 12 (aS P r (c::Y))=some []
 yT:AQ (aD P r (c::Y))=some (173,#[])
 lI:Ar P 11 (BB (aD P r (c::Y)) IX)=some []
 yU:AQ (aB P r (c::Y))=some (175,#[])
 lK:Ar P 22 (BB (aB P r (c::Y)) (.bool false))=some []
 yV:AQ (aA P r (c::Y))=some (223,#[.pointer (some (T_ r 4)),.int .u64 4294967296])
 lD:Ar P 53 (BB (aA P r (c::Y)) (.int .u64 4294967296))=some [r,r]
 yR:AQ (aR P r (c::Y))=some (180,#[.pointer (some (T_ r 5))])
 lF:Ar P 39 (BB (aR P r (c::Y)) IX)=some []
 yS:KN (aE P r (c::Y))=some (174,#[])
 lG:DR P (some (257,6)) 1 (RP (aE P r (c::Y)))=some ([],(c.finish (.tuple #[]),Y))
section
variable {P:l_} {r:Nat} {a b e d:n_}
theorem Rt {s:d_ (j_×Nat)} {δ m:Nat}:∀{n:Nat} {x y:Frame×Z_},DR P s n x=some ([],y)->QuitsD P m δ (BD y)->QuitsD P (n+m) δ (BD x)
 |0,x,y,h,a=>by
  simp only[DR,Option.some.injEq,Prod.mk.injEq,true_and]at h
  subst h
  rw[Nat.zero_add];exact a
 |n+1,x,y,h,a=>by
  simp only[DR]at h
  split at h
  .rename_i d z c;split at h
   .rename_i e f b;simp only[Option.some.injEq,Prod.mk.injEq,List.append_eq_nil_iff]at h;obtain⟨⟨rfl,rfl⟩,rfl⟩:=h;rw[show n+1+m=(n+m)+1 from by omega];exact .ctl rfl (λw=>QB c (by simp)) (Rt b a)
   .cases h
  .cases h
theorem YQ {δ m n:Nat} {x:Frame×Z_} (h:Ar P n x=some []) (hq:QuitsD P m δ (BD (run P n x))):QuitsD P (n+m) δ (BD x):=by
 unfold Ar at h;obtain⟨⟨l,y⟩,a,rfl⟩:=Option.map_eq_some_iff.1 h;have:run P n x=y:=by unfold run;rw[a]
 rw[this]at hq;exact Rt a hq
theorem nN:QuitsD P 1 0 (BD (CE P,[])):=by
 refine .inr ⟨rfl,{ BD (CE P,[])with status:=.finished },#[],by simp,λw=>?_,rfl,rfl⟩;simp[BD,G,CE,stepG,unwind,Frame.catches,goexitEntry]
 rfl
theorem TA {x:Frame×Z_} (h:KN x=some (174,#[])) (he:Entry P 174 (λ_=>do mark .enable;pure Extern.Race.none_)) (hend:DR P (some (257,6)) 5 (RP x)=some ([],(CE P,[]))):QuitsD P 7 1 (BD x):=
 .said ⟨.mark .enable,false,true⟩ rfl rfl (λw=>Qc .enable (by simp) h he) (Rt (m:=1) hend nN)
def outs (P:l_) (r:Nat) (Y:Z_):QJ where
 gR:=BD (dR P r Y)
 gR':=BD (BB (dR P r Y) IX)
 gD:=BD (dD P r Y)
 gD':=BD (BB (dD P r Y) IX)
 gA:=BD (dA P r Y)
 gF:=BD (BB (dA P r Y) (.int .u64 0))
 gW:=BD (BB (dA P r Y) (.int .u64 1))
 gS:=BD (dT P r Y)
 gS':=BD (BB (dT P r Y) IX)
 gP:=BD (dP P r Y)
 gP':=BD (BB (dP P r Y) IX)
 k1:=3
 k2:=11+(1+22)
 k3:=103+(1+20)
 k4:=27
 nF:=87+7
 nP:=17+7
theorem Ry {g g':m_}:∀{n:Nat},J5 P (Dj r #[a,b,e,d] 257) false n g g'->xJ P r #[a,b,e,d] 257 n g g'
 |0,h=>h
 |n+1,h=>by
  obtain⟨f,c,i,j⟩:=h
  exact⟨f,c,[],.inl rfl,λw k=>i w ⟨1,0,k⟩,Ry j⟩
theorem xJ.trans {g g' g'':m_}:∀{n m:Nat},xJ P r #[a,b,e,d] 257 n g g'->xJ P r #[a,b,e,d] 257 m g' g''->xJ P r #[a,b,e,d] 257 (n+m) g g''
 |0,m,h,c=>by rw[Nat.zero_add,show g=g' from h];exact c
 |n+1,m,h,c=>by
  obtain⟨i,f,l,j,k,o⟩:=h
  rw[show n+1+m=(n+m)+1 from by omega]
  exact⟨i,f,l,j,k,o.trans c⟩
theorem VJ {tm:X_} {td:List Item} (F:Ou P r tm td):NU P r #[a,b,e,d] 257 (outs P r [f134 tm td,CE P]) where
 runs:=⟨rfl,rfl,rfl,rfl,rfl⟩
 rel w:=QA .releaseMerge (by simp) F.yK F.ar9
 s1:=FC F.kU IZ false
 XG w:=SY .disable (by simp) F.yP F.Zg
 s2:=(FC F.kV IZ false).trans ((sO F.yQ F.uy rfl).trans (FC F.kW IZ false))
 add0 w c hz:=lC F.qQ F.e223 c hz
 fin0:=YQ F.kQ (TA F.yO F.XQ F.kT)
 add1 w c hz:=lC F.qQ F.e223 c hz
 s3:=(Ry (FC F.kM IZ false)).trans (xJ.trans (n:=1) (g':=BD (BB (dM P r [f134 tm td,CE P]) (.int .u64 1))) ⟨rfl,_,_,.inr rfl,λw c=>Sj F.yM F.e224 c.cellSt,rfl⟩ (Ry (FC F.kK IZ false)))
 sto w c hz:=Θ F.yJ F.ar4 c hz
 s4:=FC F.kL IZ false
 sem w c hz:=nI F.yL rfl F.ar7 c hz
 fin1:=YQ F.kN (TA F.yN F.XQ F.kP)
 wake:=⟨F.wake,rfl⟩
def adds (P:l_) (r:Nat) (Y:Z_):as6 where
 mD:=BD (aD P r Y)
 mD':=BD (BB (aD P r Y) IX)
 mA:=BD (aA P r Y)
 mA':=BD (BB (aA P r Y) (.int .u64 4294967296))
 mR:=BD (aR P r Y)
 mR':=BD (BB (aR P r Y) IX)
 mE:=BD (aE P r Y)
 mE':=BD (RP (aE P r Y))
 k0:=12
 k1:=11+(1+22)
 k2:=53
 k3:=39
 k4:=1
theorem ax5 {c:Frame} {Y:Z_} (F:WL P r c Y):ap2 P r #[a,b,e,d] 257 (BD (aS P r (c::Y))) (G (c.finish (.tuple #[])) Y) (adds P r (c::Y)) where
 runs:=⟨rfl,rfl,rfl,rfl⟩
 s0:=FC F.lH IZ true
 XG w:=SY .disable (by simp) F.yT F.Zg
 s1:=(FC F.lI IZ true).trans ((sO F.yU F.uy rfl).trans (FC F.lK IZ true))
 add w f hz:=lC F.yV F.e223 f hz
 s2:=FC F.lD yw true
 rd w:=QA .read (by simp) F.yR F.ar8
 s3:=FC F.lF IZ true
 ena w:=Qc .enable (by simp) F.yS F.XQ
 s4:=FU (λw f=>Gy w f) F.lG (by simp)
end
section
variable (r:Nat) (tm:X_) (td:List Item) (c:Frame) (Y:Z_)
theorem zK:Ar prog 15 (dS prog r [f134 tm td,CE prog])=some [r,r]:=by kernel_rfl
theorem yK:AQ (dR prog r [f134 tm td,CE prog])=some (172,#[.pointer (some (T_ r 4))]):=by kernel_rfl
theorem kU:Ar prog 3 (BB (dR prog r [f134 tm td,CE prog]) IX)=some []:=by kernel_rfl
theorem yP:AQ (dD prog r [f134 tm td,CE prog])=some (173,#[]):=by kernel_rfl
theorem kV:Ar prog 11 (BB (dD prog r [f134 tm td,CE prog]) IX)=some []:=by kernel_rfl
theorem yQ:AQ (dB prog r [f134 tm td,CE prog])=some (175,#[]):=by kernel_rfl
theorem kW:Ar prog 22 (BB (dB prog r [f134 tm td,CE prog]) (.bool false))=some []:=by kernel_rfl
theorem qQ:AQ (dA prog r [f134 tm td,CE prog])=some (223,#[.pointer (some (T_ r 4)),.int .u64 18446744069414584320]):=by kernel_rfl
theorem kQ:Ar prog 87 (BB (dA prog r [f134 tm td,CE prog]) (.int .u64 0))=some []:=by kernel_rfl
theorem yO:KN (dF prog r [f134 tm td,CE prog])=some (174,#[]):=by kernel_rfl
theorem kT:DR prog (some (257,6)) 5 (RP (dF prog r [f134 tm td,CE prog]))=some ([],(CE prog,[])):=by kernel_rfl
theorem kM:Ar prog 103 (BB (dA prog r [f134 tm td,CE prog]) (.int .u64 1))=some []:=by kernel_rfl
theorem yM:AQ (dM prog r [f134 tm td,CE prog])=some (224,#[.pointer (some (T_ r 4))]):=by kernel_rfl
theorem kK:Ar prog 20 (BB (dM prog r [f134 tm td,CE prog]) (.int .u64 1))=some []:=by kernel_rfl
theorem yJ:AQ (dT prog r [f134 tm td,CE prog])=some (225,#[.pointer (some (T_ r 4)),.int .u64 0]):=by kernel_rfl
theorem kL:Ar prog 27 (BB (dT prog r [f134 tm td,CE prog]) IX)=some []:=by kernel_rfl
theorem yL:AQ (dP prog r [f134 tm td,CE prog])=some (184,#[.pointer (some (T_ r 5)),.bool false,b_ 0]):=by kernel_rfl
theorem kN:Ar prog 17 (BB (dP prog r [f134 tm td,CE prog]) IX)=some []:=by kernel_rfl
theorem yN:KN (dG prog r [f134 tm td,CE prog])=some (174,#[]):=by kernel_rfl
theorem kP:DR prog (some (257,6)) 5 (RP (dG prog r [f134 tm td,CE prog]))=some ([],(CE prog,[])):=by kernel_rfl
theorem aj1:mayWake prog (BD (dP prog r [f134 tm td,CE prog]))=true:=by kernel_rfl
theorem oW:Ou prog r tm td:=
 ⟨ar9,Zg,XQ,uy,ar7,e223,e224,ar4,zK r tm td,yK r tm td,kU r tm td,yP r tm td,kV r tm td,yQ r tm td,kW r tm td,qQ r tm td,kQ r tm td,yO r tm td,kT r tm td,kM r tm td,yM r tm td,kK r tm td,yJ r tm td,kL r tm td,yL r tm td,kN r tm td,yN r tm td,kP r tm td,aj1 r tm td⟩
theorem lH:Ar prog 12 (aS prog r (c::Y))=some []:=by kernel_rfl
theorem yT:AQ (aD prog r (c::Y))=some (173,#[]):=by kernel_rfl
theorem lI:Ar prog 11 (BB (aD prog r (c::Y)) IX)=some []:=by kernel_rfl
theorem yU:AQ (aB prog r (c::Y))=some (175,#[]):=by kernel_rfl
theorem lK:Ar prog 22 (BB (aB prog r (c::Y)) (.bool false))=some []:=by kernel_rfl
theorem yV:AQ (aA prog r (c::Y))=some (223,#[.pointer (some (T_ r 4)),.int .u64 4294967296]):=by kernel_rfl
theorem lD:Ar prog 53 (BB (aA prog r (c::Y)) (.int .u64 4294967296))=some [r,r]:=by kernel_rfl
theorem yR:AQ (aR prog r (c::Y))=some (180,#[.pointer (some (T_ r 5))]):=by kernel_rfl
theorem lF:Ar prog 39 (BB (aR prog r (c::Y)) IX)=some []:=by kernel_rfl
theorem yS:KN (aE prog r (c::Y))=some (174,#[]):=by kernel_rfl
theorem lG:DR prog (some (257,6)) 1 (RP (aE prog r (c::Y)))=some ([],(c.finish (.tuple #[]),Y)):=by kernel_rfl
theorem wV:WL prog r c Y:=
 ⟨Zg,XQ,uy,ar8,e223,lH r c Y,yT r c Y,lI r c Y,yU r c Y,lK r c Y,yV r c Y,lD r c Y,yR r c Y,lF r c Y,yS r c Y,lG r c Y⟩
end
end Go.Fxa
namespace Go.Fxa
open Go.Conc
open Go.ConcN (sumTo upd sumTo_upd upd_ne upd_same)
def RW (P:l_) (main:Bool) (K:o_->Prop) (Still:Loc->Prop):Nat->m_->m_->Prop
 |0,g,g'=>g=g'
 |n+1,g,g'=>g.status=.running/\∃g1 es,(∀e∈es,EvR Still e)/\(∀w,K w->stepG P main g w=.go g1 w es)/\RW P main K Still n g1 g'
section
variable {P:l_} {Z:Nat->Prop} {Ac Still:Loc->Prop} {Mem Ai:Nat->Prop} {main:Bool} {K:o_->Prop} {h j:Nat} {By:Nat->m_->o_->Trace->Prop}
theorem RW.trans {g g' g'':m_}:∀{n m:Nat},RW P main K Still n g g'->RW P main K Still m g' g''->RW P main K Still (n+m) g g''
 |0,m,h,a=>by rw[Nat.zero_add,show g=g' from h];exact a
 |n+1,m,h,a=>by
  obtain⟨d,c,b,e,f,i⟩:=h
  rw[show n+1+m=(n+m)+1 from by omega]
  exact⟨d,c,b,e,f,i.trans a⟩
theorem RW.Zp {g g':m_}:∀{n:Nat},J5 P K main n g g'->RW P main K Still n g g'
 |0,h=>h
 |n+1,h=>by
  obtain⟨b,a,c,d⟩:=h
  exact⟨b,a,#[],by simp,c,RW.Zp d⟩
theorem RW.read {x:Frame×Z_} {o:Oper} {v:n_} {vs:U_} {aU:List f_} (h:opAt x=some o) (hf:(execOp x.1.eval o).feed P vs=some (aU,.value v)) (hc:∀w,K w->Cells w aU vs) (hs:∀a∈aU,Still (.cell a)) (hq:(P.funcs[x.1.fn]?).any (·.norace)=false):
  RW P main K Still 1 (BD x) (BD (BB x v)):=
 ⟨rfl,_,Il aU,λe b=>by
  simp only[Il,List.mem_toArray,List.mem_map]at b
  obtain⟨a,c,rfl⟩:=b
  exact⟨a,rfl,hs a c⟩,λw d=>rP h hf (hc w d) hq,rfl⟩
theorem RW.status {g':m_} (hs:g'.status=.running):∀{n:Nat} {g:m_},RW P main K Still n g g'->g.status=.running
 |0,_,h=>h ▸ hs
 |_+1,_,h=>h.1
theorem RW.seat {cases:Array CommCase} {shape:CommShape} {home:m_->Prop} {g':m_} {k:Nat} (hr:g'.status=.running) (hs:Gs P main K Still cases shape home k g'):∀{n:Nat} {g:m_},RW P main K Still n g g'->Gs P main K Still cases shape home (n+k) g
 |0,g,h=>by rw[Nat.zero_add,show g=g' from h];exact hs
 |n+1,g,h=>by
  obtain⟨f,c,b,d,e,a⟩:=h
  rw[show n+1+k=(n+k)+1 from by omega]
  exact⟨c,b,a.status hr,d,e,RW.seat hr hs a⟩
theorem ai9 {S0:Loc->Prop} (hSS:∀l,S0 l->¬Ac l) {B:Nat} {e:Event} (he:EvR S0 e) (hb:∀a,S0 (.cell a)->a.block<B):Yr Ac Still B e:=by
 obtain⟨a,rfl,b⟩:=he;refine⟨λx d=>?_,by simp,by simp,hb a b,by simp⟩;obtain rfl:=x_ d;exact⟨λ_=>⟨rfl,hSS _ b⟩,λc=>(hSS _ b c).elim⟩
theorem kD {S0:Loc->Prop} (hJ:∀n b w t,By n b w t->∀d,K (w.at d)) (BI:∀w a,K w->S0 (.cell a)->a.block<w.heap.size) (hSS:∀l,S0 l->¬Ac l) (O:Gp P Z Ac Still (fun B t=>PX Ac Still Mem Ai B h t) j By) {a':m_}:
  ∀(k:Nat) {a:m_} (_:RW P (h==0) K S0 k a a') {n B:Nat} {gs:Array m_} {w:o_} {sl:d_ (W_)} {t:Trace} {q:Nat->Nat},
  gs[h]?=some a->Duo P Ac Still Mem Ai B h j By n gs w t q->AA P gs w sl t λA7 w' t'=>∃q' n' B',A7[h]?=some a'/\BZ Z w w'/\B<=B'/\Duo P Ac Still Mem Ai B' h j By n' A7 w' t' q'
 |0,a,m,n,B,gs,w,sl,t,q,g,D=>.now ⟨q,n,B,by rw[g,show a=a' from m],BZ.refl w,w_ _,D⟩
 |k+1,a,m,n,B,gs,w,sl,t,q,g,D=>by
  obtain⟨y,a1,v,A,c,C⟩:=m
  refine go_duo (Ko:=Mem) (Loose':=Ai) O g y D D.mem λr i w1 s Q U W H f I d=>?_
  have u:∀e∈v,Yr Ac Still r e:=λe G=>ai9 hSS (A e G) λa F=>Nat.lt_of_lt_of_le (BI _ a (hJ _ _ _ _ f d) F) s
  refine⟨a1,w1.at d,v,r,c _ (hJ _ _ _ _ f d),w_ _,s,I.own u,By,Q,?_,λA7 q' n' V E z S=>?_⟩
  .rw[woken_of_again (O.again f (w1.at d) (λ_ _=>rfl))];exact O.calm (w1.at d) _ f (λ_ _=>rfl) (E8 D.ne u)
  .exact(kD hJ BI hSS O k C E z).mono λx T R ⟨p,o,B'',J,L,N,M⟩=>⟨p,o,B'',J,H.trans ((BZ.at w1 d).trans L),Nat.le_trans i N,M⟩
end
end Go.Fxa
namespace Go.Fxa
open Go.Conc
def kY (x:Frame×Z_):d_ n_:=match x.1.roundOf,x.1.mode,x.1.todo with
 |none,.run,.code (.cond c _ _)::_=>some (x.1.eval c)
 |_,_,_=>none
def branch (x:Frame×Z_) (t:Bool):Frame×Z_:=match x.1.todo with
 |.code (.cond _ a b)::k=>({ x.1 with todo:=.code (if t then a else b)::k },x.2)
 |_=>x
theorem fD {P:l_} {J:o_->Prop} {main:Bool} {x:Frame×Z_} {t:Bool} (h:kY x=some (.bool t)):J5 P J main 1 (BD x) (BD (branch x t)):=by
 obtain⟨⟨fn,e,f,j,d,kind,l⟩,i⟩:=x;unfold kY at h;simp only at h;split at h
 .rename_i c a b k;have g:=x_ h;refine⟨rfl,_,λw _=>?_,rfl⟩;simp[BD,branch,G,stepG,stepG.exec,g]
 .cases h
def pr (r:Nat):n_:=R_ r
def DI (q:Nat):n_:=.chan (some q)
def qy (f:Y_):X_:=((List.range 32).map f).toArray
def AL (f:Y_):List (Nat×n_)->Nat->n_
 |[],i=>f i
 |(a,v)::l,i=>if i=a then v else AL f l i
def u0:Nat->n_:=λ_=>b_ 0
def Nr (P:l_) (x:Frame×Z_):d_ (Array CommCase):=match opAt x with
 |some o=>match (execOp x.1.eval o).I9 P with
  |some (.comm cs true .select)=>some cs
  |_=>none
 |none=>none
def DL (P:l_) (x:Frame×Z_) (v:n_):d_ (List f_×n_):=match opAt x with
 |some o=>match (execOp x.1.eval o).feed P [v]with
  |some (l,.value y)=>if(P.funcs[x.1.fn]?).any (·.norace)then none else some (l,y)
  |_=>none
 |none=>none
def CU (x:Frame×Z_):h_×List Item×List Deferred×FrameMode×CallKind×d_ Nat×Z_:=(x.1.fn,x.1.todo,x.1.defers,x.1.mode,x.1.kind,x.1.roundOf,x.2)
def slot (x:Frame×Z_) (i:Nat):n_:=x.1.tmps.getD i undef
def slotsOf (x:Frame×Z_) (l:List Nat):U_:=l.map (slot x)
theorem MC {f:Nat->n_}:∀{l:List (Nat×n_)},(∀p∈l,f p.1=p.2)->AL f l=f
 |[],_=>rfl
 |(a,v)::l,h=>by
  funext i
  simp only[AL]
  split
  .rename_i e;rw[e];exact(h _ (List.mem_cons_self ..)).symm
  .exact congrFun (MC λp b=>h p (List.mem_cons_of_mem _ b)) i
theorem al9 {T:X_} (h:T.size=32):T=qy λi=>T.getD i undef:=by
 apply Array.ext
 .simp[qy,h]
 .intro i a b;simp[qy,Array.getD,a]
theorem vP {x:Frame×Z_} {fn:h_} {todo:List Item} {ds:List Deferred} {m:FrameMode} {kd:CallKind} {ro:d_ Nat} {Y:Z_} (h:CU x=(fn,todo,ds,m,kd,ro,Y)) (hs:x.1.tmps.size=32):x=(Frame.mk fn (qy (slot x)) todo ds m kd ro,Y):=by
 obtain⟨⟨a,b,c,d,e,f,g⟩,y⟩:=x;simp only[CU,Prod.mk.injEq]at h;obtain⟨rfl,rfl,rfl,rfl,rfl,rfl,rfl⟩:=h;simp only[Prod.mk.injEq,Frame.mk.injEq,and_true,true_and];exact al9 hs
section
variable {P:l_} {main:Bool} {K:o_->Prop} {Still:Loc->Prop} {x:Frame×Z_}
theorem RW.at {v y:n_} {ad:f_} (h:DL P x v=some ([ad],y)) (hc:∀w,K w->w.cell? ad=some v) (hs:Still (.cell ad)):RW P main K Still 1 (BD x) (BD (BB x y)):=by
 unfold DL at h;split at h
 .rename_i o b;split at h
  .rename_i l e a;split at h
   .cases h
   .rename_i c;simp only[Option.some.injEq,Prod.mk.injEq]at h;obtain⟨rfl,rfl⟩:=h;exact RW.read b a (λw d=>⟨hc w d,trivial⟩) (by simpa using hs) (by simpa using c)
  .cases h
 .cases h
theorem IA {cs:Array CommCase} (h:Nr P x=some cs) (w:o_):stepG P main (BD x) w=.comm (BD x) cs true .select w #[]:=by
 unfold Nr at h;split at h
 .rename_i o c;split at h
  .rename_i a b;obtain rfl:=x_ h;exact tH c b
  .cases h
 .cases h
theorem RW.Ar {n:Nat} (h:Ar P n x=some []):RW P main K Still n (BD x) (BD (run P n x)):=by
 unfold Fxa.Ar at h;obtain⟨⟨l,y⟩,b,rfl⟩:=Option.map_eq_some_iff.1 h;have e:run P n x=y:=by unfold run;rw[b]
 rw[e];have:∀{n:Nat} {x y:Frame×Z_},DR P (some (257,6)) n x=some ([],y)->J5 P K main n (BD x) (BD y):=by
  intro n
  induction n with
  |zero=>
   intro x y h
   simp only[DR,Option.some.injEq,Prod.mk.injEq,true_and]at h
   subst h;exact rfl
  |succ n d=>
   intro x y h
   simp only[DR]at h
   split at h
   .rename_i f z c;split at h
    .rename_i g i a;simp only[Option.some.injEq,Prod.mk.injEq,List.append_eq_nil_iff]at h;obtain⟨⟨rfl,rfl⟩,rfl⟩:=h;exact⟨rfl,_,λw _=>QB c (by simp),d a⟩
    .cases h
   .cases h
 exact RW.Zp (this b)
end
section
variable (P:l_) (b5 b2 b3 r q0 q1 q2 q3:Nat) (sv:n_) (n i:Int) (w A:n_) (f:Y_) (Y:Z_)
def ch0:Frame×Z_:=({ (default:Frame)with fn:=P.funcs.size,defers:=[⟨.fn (.func 134) #[pr b5,pr b2,pr b3],#[]⟩],mode:=.panicking [goexitEntry] },[])
def ch1:=run P 3 (ch0 P b5 b2 b3)
def ch2:=run P 5 (BB (ch1 P b5 b2 b3) (pr r))
def ch3:=BB (ch2 P b5 b2 b3 r) (pr r)
def ch4:=BB (ch3 P b5 b2 b3 r) sv
def ch5:=BB (ch4 P b5 b2 b3 r sv) (b_ n)
def TQ:Z_:=(run P 9 (ch5 P b5 b2 b3 r sv n)).2
def Zm:List Item:=(run P 8 (Frame.enter P 136 #[] .normal,[])).1.todo
def LH:Frame×Z_:=(Frame.mk 136 (qy f) (Zm P) [] .run .normal none,Y)
def lc:=run P 5 (LH P f Y)
def lr:=run P 4 (branch (lc P f Y) true)
def yz:List Item:=(lr P u0 []).1.todo.tail
def RB:Frame×Z_:=(Frame.mk 136 (qy f) (yz P) [] .run .normal none,Y)
def k1:=run P 29 (RB P f Y)
def k2:=run P 8 (BB (k1 P f Y) (DI q0))
def k3:=run P 3 (BB (k2 P q0 f Y) (DI q3))
end
end Go.Fxa
namespace Go.Fxa
open Go.Conc Go.Proofs
def sl4 (r:Nat) (sv:n_) (n i:Int):List (Nat×n_):=[(0,pr r),(1,sv),(8,b_ n),(9,b_ i)]
def sl6 (r:Nat) (sv:n_) (n i oc:Int) (w:n_):List (Nat×n_):=[(0,pr r),(1,sv),(8,b_ n),(9,b_ i),(6,b_ oc),(7,w)]
def jG:n_:=.agg #[a_ 0,a_ 0,.nilFunc]
def bM (q0 q3:Nat) (w:n_):Array CommCase:=#[scase q0 w (a_ 0),rcase q3 (.agg #[])]
def Gl (q1 q3:Nat):Array CommCase:=#[rcase q1 jG,rcase q3 (.agg #[])]
def Zh (q2 q3:Nat) (o:Int):Array CommCase:=#[scase q2 (b_ o) (b_ 0),rcase q3 (.agg #[])]
section
variable (P:l_) (b5 b2 b3 r q0 q1 q2 q3:Nat) (sv:n_) (n i:Int) (w A:n_) (f:Y_) (Y:Z_)
def Vk:Code:=match (lr P u0 []).1.todo with
 |.code c::_=>c
 |_=>.skip
def m1:=run P 14 (BB (k3 P q0 q3 f Y) (commResult (bM q0 q3 w) .select 0 undef false))
def m2:=run P 5 (BB (m1 P q0 q3 w f Y) (DI q1))
def m3:=run P 3 (BB (m2 P q0 q1 q3 w f Y) (DI q3))
def mq:=BB (m3 P q0 q1 q3 w f Y) (commResult (Gl q1 q3) .select 1 (.agg #[]) false)
def tmC:X_:=match TQ P b5 b2 b3 r sv n with
 |F::_=>(F.finish (.tuple #[])).tmps
 |[]=>#[]
def Q4:Z_:=[f134 (tmC P b5 b2 b3 r sv n) [],CE P]
def e1:=run P 18 (RB P f Y)
def e2:=run P 8 (BB (e1 P f Y) (DI q2))
def e3:=run P 3 (BB (e2 P q2 f Y) (DI q3))
def e4:=BB (e3 P q2 q3 f Y) (commResult (Zh q2 q3 2) .select 0 undef false)
def d1:=run P 11 (branch (lc P f Y) false)
def d2:=run P 8 (BB (d1 P f Y) (DI q2))
def d3:=run P 3 (BB (d2 P q2 f Y) (DI q3))
def d4:=BB (d3 P q2 q3 f Y) (commResult (Zh q2 q3 0) .select 0 undef false)
end
structure Eb (P:l_) (b5 b2 b3 r q0 q1 q2 q3:Nat) (sv:n_) (n:Int):Prop where
 f01:Ar P 3 (ch0 P b5 b2 b3)=some []
 f02:DL P (ch1 P b5 b2 b3) (pr r)=some ([(S_ b5)],pr r)
 f03:Ar P 5 (BB (ch1 P b5 b2 b3) (pr r))=some []
 f04:DL P (ch2 P b5 b2 b3 r) (pr r)=some ([(S_ b5)],pr r)
 f05:DL P (ch3 P b5 b2 b3 r) sv=some ([(S_ b2)],sv)
 f06:DL P (ch4 P b5 b2 b3 r sv) (b_ n)=some ([(S_ b3)],b_ n)
 f07:Ar P 9 (ch5 P b5 b2 b3 r sv n)=some []
 f08:CU (run P 9 (ch5 P b5 b2 b3 r sv n))=(136,Zm P,[],.run,.normal,none,TQ P b5 b2 b3 r sv n)
 f09:slotsOf (run P 9 (ch5 P b5 b2 b3 r sv n)) [0,1,8,9]=[pr r,sv,b_ n,b_ 0]
 f10:(run P 9 (ch5 P b5 b2 b3 r sv n)).1.tmps.size=32
 l1:∀(f:Y_) (Y:Z_) (i:Int),Ar P 5 (LH P (AL f (sl4 r sv n i)) Y)=some []
 l2:∀(f:Y_) (Y:Z_) (i:Int),kY (lc P (AL f (sl4 r sv n i)) Y)=some (.bool (decide (i<n)))
 l3:∀(f:Y_) (Y:Z_) (i:Int),Ar P 4 (branch (lc P (AL f (sl4 r sv n i)) Y) true)=some []
 l4:∀(f:Y_) (Y:Z_) (i:Int),CU (lr P (AL f (sl4 r sv n i)) Y)=(136,.code (Vk P)::yz P,[],.run,.normal,none,Y)
 l5:∀(f:Y_) (Y:Z_) (i:Int),slotsOf (lr P (AL f (sl4 r sv n i)) Y) [0,1,8,9]=[pr r,sv,b_ n,b_ i]
 l6:∀(f:Y_) (Y:Z_) (i:Int),(lr P (AL f (sl4 r sv n i)) Y).1.tmps.size=32
 s01:∀(f:Y_) (Y:Z_) (i:Int) (w:n_),Ar P 28 (RB P (AL f (sl6 r sv n i 0 w)) Y)=some []
 s02:∀(f:Y_) (Y:Z_) (i:Int) (w:n_),CU (run P 28 (RB P (AL f (sl6 r sv n i 0 w)) Y))=(136,Zm P,[],.run,.normal,none,Y)
 s03:∀(f:Y_) (Y:Z_) (i:Int) (w:n_),slotsOf (run P 28 (RB P (AL f (sl6 r sv n i 0 w)) Y)) [0,1,8,9]=[pr r,sv,b_ n,b_ (IntKind.i64.wrap (i+1))]
 s04:∀(f:Y_) (Y:Z_) (i:Int) (w:n_),(run P 28 (RB P (AL f (sl6 r sv n i 0 w)) Y)).1.tmps.size=32
 s11:∀(f:Y_) (Y:Z_) (i:Int) (w:n_),Ar P 29 (RB P (AL f (sl6 r sv n i 1 w)) Y)=some []
 s12:∀(f:Y_) (Y:Z_) (i:Int) (w:n_),DL P (k1 P (AL f (sl6 r sv n i 1 w)) Y) (DI q0)=some ([(S_ r)],DI q0)
 s13:∀(f:Y_) (Y:Z_) (i:Int) (w:n_),Ar P 8 (BB (k1 P (AL f (sl6 r sv n i 1 w)) Y) (DI q0))=some []
 s14:∀(f:Y_) (Y:Z_) (i:Int) (w:n_),DL P (k2 P q0 (AL f (sl6 r sv n i 1 w)) Y) (DI q3)=some ([(T_ r 3)],DI q3)
 s15:∀(f:Y_) (Y:Z_) (i:Int) (w:n_),Ar P 3 (BB (k2 P q0 (AL f (sl6 r sv n i 1 w)) Y) (DI q3))=some []
 s16:∀(f:Y_) (Y:Z_) (i:Int) (w:n_),Nr P (k3 P q0 q3 (AL f (sl6 r sv n i 1 w)) Y)=some (bM q0 q3 w)
 m11:∀(f:Y_) (Y:Z_) (i:Int) (w:n_),Ar P 14 (BB (k3 P q0 q3 (AL f (sl6 r sv n i 1 w)) Y) (commResult (bM q0 q3 w) .select 0 undef false))=some []
 m12:∀(f:Y_) (Y:Z_) (i:Int) (w:n_),DL P (m1 P q0 q3 w (AL f (sl6 r sv n i 1 w)) Y) (DI q1)=some ([(T_ r 1)],DI q1)
 m13:∀(f:Y_) (Y:Z_) (i:Int) (w:n_),Ar P 5 (BB (m1 P q0 q3 w (AL f (sl6 r sv n i 1 w)) Y) (DI q1))=some []
 m14:∀(f:Y_) (Y:Z_) (i:Int) (w:n_),DL P (m2 P q0 q1 q3 w (AL f (sl6 r sv n i 1 w)) Y) (DI q3)=some ([(T_ r 3)],DI q3)
 m15:∀(f:Y_) (Y:Z_) (i:Int) (w:n_),Ar P 3 (BB (m2 P q0 q1 q3 w (AL f (sl6 r sv n i 1 w)) Y) (DI q3))=some []
 m16:∀(f:Y_) (Y:Z_) (i:Int) (w:n_),Nr P (m3 P q0 q1 q3 w (AL f (sl6 r sv n i 1 w)) Y)=some (Gl q1 q3)
 m21:∀(f:Y_) (Y:Z_) (i:Int) (w A:n_),Ar P 7 (BB (m3 P q0 q1 q3 w (AL f (sl6 r sv n i 1 w)) Y) (commResult (Gl q1 q3) .select 0 A true))=some []
 q1_:∀(f:Y_) (i:Int) (w:n_),DR P (some (257,6)) 37 (mq P q0 q1 q3 w (AL f (sl6 r sv n i 1 w)) (TQ P b5 b2 b3 r sv n))=some ([r,r],dR P r (Q4 P b5 b2 b3 r sv n))
 e11:∀(f:Y_) (Y:Z_) (i:Int) (w:n_),Ar P 18 (RB P (AL f (sl6 r sv n i 2 w)) Y)=some []
 e12:∀(f:Y_) (Y:Z_) (i:Int) (w:n_),DL P (e1 P (AL f (sl6 r sv n i 2 w)) Y) (DI q2)=some ([(T_ r 2)],DI q2)
 e13:∀(f:Y_) (Y:Z_) (i:Int) (w:n_),Ar P 8 (BB (e1 P (AL f (sl6 r sv n i 2 w)) Y) (DI q2))=some []
 e14:∀(f:Y_) (Y:Z_) (i:Int) (w:n_),DL P (e2 P q2 (AL f (sl6 r sv n i 2 w)) Y) (DI q3)=some ([(T_ r 3)],DI q3)
 e15:∀(f:Y_) (Y:Z_) (i:Int) (w:n_),Ar P 3 (BB (e2 P q2 (AL f (sl6 r sv n i 2 w)) Y) (DI q3))=some []
 e16:∀(f:Y_) (Y:Z_) (i:Int) (w:n_),Nr P (e3 P q2 q3 (AL f (sl6 r sv n i 2 w)) Y)=some (Zh q2 q3 2)
 e17:∀(f:Y_) (i:Int) (w:n_),DR P (some (257,6)) 31 (e4 P q2 q3 (AL f (sl6 r sv n i 2 w)) (TQ P b5 b2 b3 r sv n))=some ([r,r],dR P r (Q4 P b5 b2 b3 r sv n))
 d11:∀(f:Y_) (Y:Z_) (i:Int),Ar P 11 (branch (lc P (AL f (sl4 r sv n i)) Y) false)=some []
 d12:∀(f:Y_) (Y:Z_) (i:Int),DL P (d1 P (AL f (sl4 r sv n i)) Y) (DI q2)=some ([(T_ r 2)],DI q2)
 d13:∀(f:Y_) (Y:Z_) (i:Int),Ar P 8 (BB (d1 P (AL f (sl4 r sv n i)) Y) (DI q2))=some []
 d14:∀(f:Y_) (Y:Z_) (i:Int),DL P (d2 P q2 (AL f (sl4 r sv n i)) Y) (DI q3)=some ([(T_ r 3)],DI q3)
 d15:∀(f:Y_) (Y:Z_) (i:Int),Ar P 3 (BB (d2 P q2 (AL f (sl4 r sv n i)) Y) (DI q3))=some []
 d16:∀(f:Y_) (Y:Z_) (i:Int),Nr P (d3 P q2 q3 (AL f (sl4 r sv n i)) Y)=some (Zh q2 q3 0)
 d17:∀(f:Y_) (i:Int),DR P (some (257,6)) 31 (d4 P q2 q3 (AL f (sl4 r sv n i)) (TQ P b5 b2 b3 r sv n))=some ([r,r],dR P r (Q4 P b5 b2 b3 r sv n))
section
variable {b5 b2 b3 r q0 q1 q2 q3:Nat} {sv:n_} {n:Int}
theorem iV:Eb prog b5 b2 b3 r q0 q1 q2 q3 sv n:=by
 constructor<;>intros<;>kernel_rfl
end
end Go.Fxa
