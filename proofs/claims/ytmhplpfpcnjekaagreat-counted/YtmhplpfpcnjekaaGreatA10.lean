/- Steps that look at no memory b -/
import Derived.Test.YtmhplpfpcnjekaaGreatA09
import Derived.Test.YtmhplpfpcnjekaaGreatProg
import Derived.Conc.DeferLaws
import Derived.Conc.Own2
open Go.Proofs.Tryz
namespace Go.Fxa
open Go.Conc
end Go.Fxa
namespace Go
open Go.Fxa Go.Conc
def Sem.OZ (P:l_) (s:d_ (j_×Nat)) {α:Type}:Sem α->d_ (List Nat×α)
 |.pure a=>some ([],a)
 |.program k=>(k P).OZ P s
 |.shape b k=>match (k s).OZ P s with
  |some (l,a)=>some (b::l,a)
  |none=>none
 |_=>none
end Go
namespace Go.Fxa
open Go.Conc
section
variable {P:l_} {s:d_ (j_×Nat)} {w:o_} {main:Bool}
theorem xC {α:Type} {e:Sem α} {a:α}:∀{l:List Nat} (_:e.OZ P s=some (l,a)) (_:∀b∈l,w.shape? b=s) (es:Array Event),e.runT P w es=(.ok a w,es):=by
 induction e with
 |pure b=>
  intro l h _ es
  simp only[Sem.OZ,Option.some.injEq,Prod.mk.injEq]at h
  obtain⟨rfl,rfl⟩:=h
  rfl
 |program k d=>intro l h c es;exact d P h c es
 |shape b k d=>
  intro l h c es
  simp only[Sem.OZ]at h
  split at h
  .rename_i m j g;simp only[Option.some.injEq,Prod.mk.injEq]at h;obtain⟨rfl,rfl⟩:=h;have f:=c b (List.mem_cons_self ..);simp only[Sem.runT,f];exact d s g (λx i=>c x (List.mem_cons_of_mem _ i)) es
  .cases h
 |_=>intro l h;simp[Sem.OZ]at h
def bare (P:l_) (x:Frame×Z_):Bool:=
 match AX x with
 |some (f,_)=>match P.funcs[f]? with
  |some fn=>fn.body.isNone
  |none=>false
 |none=>false
def WR (P:l_) (s:d_ (j_×Nat)) (x:Frame×Z_):d_ (List Nat×(Frame×Z_)):=
 if bare P x then none else
 match QJ P x with
 |some y=>some ([],y)
 |none=>match opAt x with
  |some o=>match (execOp x.1.eval o).OZ P s with
   |some (l,.value v)=>some (l,BG x v)
   |_=>none
  |none=>none
def DZ (P:l_) (s:d_ (j_×Nat)):Nat->Frame×Z_->d_ (List Nat×(Frame×Z_))
 |0,x=>some ([],x)
 |n+1,x=>match WR P s x with
  |some (l,y)=>match DZ P s n y with
   |some (l',z)=>some (l++l',z)
   |none=>none
  |none=>none
theorem QQ {x y:Frame×Z_} {l:List Nat} (h:WR P s x=some (l,y)) (hl:∀b∈l,w.shape? b=s):stepG P main (G x.1 x.2) w=.go (G y.1 y.2) w #[]:=by
 unfold WR at h;split at h
 .cases h
 split at h
 .rename_i f c;simp only[Option.some.injEq,Prod.mk.injEq]at h;obtain⟨_,rfl⟩:=h;exact quiet_step c w
 .split at h
  .rename_i o a;split at h
   .rename_i e v d;simp only[Option.some.injEq,Prod.mk.injEq]at h;obtain⟨rfl,rfl⟩:=h;obtain⟨e1,e2⟩:=Qc (P:=P) (main:=main) (w:=w) a;rw[e1];simp only[stepG.apply,xC d hl #[],if_true,GStep.after,Array.append_empty,e2,Bool.false_eq_true,if_false,seen_none]
    rfl
   .cases h
  .cases h
theorem Gf {J:o_->Prop} {r:Nat} (hJ:∀w,J w->w.shape? r=s):∀{n:Nat} {x z:Frame×Z_} {l:List Nat},DZ P s n x=some (l,z)->(∀b∈l,b=r)->Kr P J main n (G x.1 x.2) (G z.1 z.2)
 |0,x,z,l,h,_=>by
  simp only[DZ,Option.some.injEq,Prod.mk.injEq]at h
  obtain⟨_,rfl⟩:=h
  exact rfl
 |n+1,x,z,l,h,c=>by
  simp only[DZ]at h
  split at h
  .rename_i g y e;split at h
   .rename_i i j f;simp only[Option.some.injEq,Prod.mk.injEq]at h;obtain⟨rfl,rfl⟩:=h;exact⟨rfl,G y.1 y.2,λw d=>QQ e (λb a=>by rw[c b (List.mem_append_left _ a)];exact hJ w d),Gf hJ f (λb a=>c b (List.mem_append_right _ a))⟩
   .cases h
  .cases h
theorem Kr.trans {J:o_->Prop} {g g' g'':m_}:∀{n m:Nat},Kr P J main n g g'->Kr P J main m g' g''->Kr P J main (n+m) g g''
 |0,m,h,a=>by rw[Nat.zero_add,show g=g' from h];exact a
 |n+1,m,h,a=>by
  obtain⟨c,b,d,e⟩:=h
  rw[show n+1+m=(n+m)+1 from by omega]
  exact⟨c,b,d,e.trans a⟩
theorem uk {J:o_->Prop} {x:Frame×Z_} {f:h_} {args:X_} {e:X_->Sem n_} {v:n_} (h:AX x=some (f,args)) (hE:Entry P f e) (he:e args=.pure v):
  Kr P J main 1 (G x.1 x.2) (G (BG x v).1 (BG x v).2):=
 ⟨rfl,_,λw _=>Fz (D5:=#[]) h hE (by rw[he];rfl) (by rw[he];rfl) (by simp),rfl⟩
end
def run (P:l_) (n:Nat) (x:Frame×Z_):Frame×Z_:=
 match DZ P (some (257,6)) n x with
 |some (_,y)=>y
 |none=>x
def AB (P:l_) (n:Nat) (x:Frame×Z_):d_ (List Nat):=(DZ P (some (257,6)) n x).map (·.1)
def Lu (x:Frame×Z_):d_ (h_×X_):=
 match x.1.roundOf,x.1.mode,x.1.defers with
 |none,.returning,⟨.fn (.func f) cap,args⟩::_=>if cap.size=0 then some (f,args)else none
 |_,_,_=>none
def Qz (P:l_) (f:h_):Func:=(P.funcs[f]?).getD default
theorem FX {P:Program} {f:FuncId} {e:Array Value->Sem Value} (h1:(P.funcs[f]?).isSome=true) (h2:((Qz P f).name== "runtime.NumGoroutine")=false) (h3:(Qz P f).body.isNone=true) (h4:Extern.findNext (Qz P f)=none) (h5:Extern.find (Qz P f)=some e):Entry P f e:=by
 obtain⟨fn,a⟩:=Option.isSome_iff_exists.1 h1;have:Qz P f=fn:=by unfold Qz;rw[a];rfl
 rw[this]at h2 h3 h4 h5;exact⟨fn,a,h2,h3,h4,h5⟩
def Sv (x:Frame×Z_):Frame×Z_:=({ x.1 with defers:=x.1.defers.tail },x.2)
def BL (x:Frame×Z_):m_:=G x.1 x.2
section
variable {P:l_} {main:Bool} {x:Frame×Z_} {w:o_}
theorem af0 {J:o_->Prop} {r n:Nat} {l:List Nat} (hJ:∀w,J w->w.shape? r=some (257,6)) (h:AB P n x=some l) (hl:∀b∈l,b=r):Kr P J main n (BL x) (BL (run P n x)):=by
 unfold AB at h;obtain⟨⟨c,y⟩,a,rfl⟩:=Option.map_eq_some_iff.1 h;have:run P n x=y:=by unfold run;rw[a]
 rw[this];exact Gf hJ a hl
theorem Qn (m:Mark) (hm:∀g,m≠.extern g) {f:h_} {args:X_} (h:Lu x=some (f,args)) (hE:Entry P f (fun _=>do mark m;pure Extern.Race.none_)):
  stepG P main (BL x) w=.go (BL (Sv x)) w #[⟨.mark m,false,true⟩]:=by
 obtain⟨⟨fn,c,todo,t,k,kind,z⟩,s⟩:=x;obtain⟨n,q,d,o,r,p⟩:=hE;unfold Lu at h;simp only at h;split at h
 .rename_i u cap e l;by_cases i:cap.size=0
  .rw[if_pos i]at h;simp only[Option.some.injEq,Prod.mk.injEq]at h;obtain⟨rfl,rfl⟩:=h;obtain rfl:=Array.eq_empty_of_size_eq_zero i;exact stepG_unwind_entry (v:=.tuple #[]) (b:=Frame.mk fn c [] [] .run kind none) (a:=⟨c,_⟩) (todo:=todo) rfl q d o r p (by simp[Extern.Race.none_]) (by simp) (by
    intro y j
    simp at j
    subst j
    exact⟨rfl,λg h=>hm g (by cases h;rfl)⟩)
  .rw[if_neg i]at h;cases h
 .cases h
theorem GX {r:Nat} {a b c d:n_} (w:o_) (h:DC r #[a,b,c,d] 257 w):w.shape? r=some (257,6):=by
 obtain⟨f,e,h⟩:=h;unfold Bv at h;simp[World.shape?,h]
def IZ:n_:=.tuple #[]
section
variable (P:l_) (r:Nat) (Y:Z_)
def wS:Frame×Z_:=(Frame.enter P 137 #[.pointer (some (T_ r 4))] .normal,Y)
def wD:=run P 3 (wS P r Y)
def wL:=run P 19 (BG (wD P r Y) IZ)
def wE:=run P 31 (BG (wL P r Y) (.int .u64 0))
def wQ:=run P 4 (BG (wE P r Y) IZ)
def wK:=run P 48 (BG (wL P r Y) (.int .u64 4294967296))
def wL2:=run P 25 (BG (wK P r Y) (.bool false))
def wEa:=run P 31 (BG (wL2 P r Y) (.int .u64 0))
def wQa:=run P 4 (BG (wEa P r Y) IZ)
def wW:=run P 20 (BG (wK P r Y) (.bool true))
def wM:=run P 23 (BG (wW P r Y) IZ)
def wN:=run P 16 (BG (wM P r Y) IZ)
def wEb:=run P 11 (BG (wN P r Y) (.int .u64 0))
def wQb:=run P 4 (BG (wEb P r Y) IZ)
end
end
section
variable (r:Nat) (Y:Z_)
open Go.Proofs
theorem au3:Entry prog 172 (Extern.Race.marked .releaseMerge):=FX (by kernel_rfl) (by kernel_rfl) (by kernel_rfl) (by kernel_rfl) (by kernel_rfl)
theorem ZG:Entry prog 173 (λ_=>do mark .disable;pure Extern.Race.none_):=FX (by kernel_rfl) (by kernel_rfl) (by kernel_rfl) (by kernel_rfl) (by kernel_rfl)
theorem Yf:Entry prog 174 (λ_=>do mark .enable;pure Extern.Race.none_):=FX (by kernel_rfl) (by kernel_rfl) (by kernel_rfl) (by kernel_rfl) (by kernel_rfl)
theorem vI:Entry prog 175 (λ_=>pure (.bool false)):=FX (by kernel_rfl) (by kernel_rfl) (by kernel_rfl) (by kernel_rfl) (by kernel_rfl)
theorem au2:Entry prog 180 (Extern.Race.marked .read):=FX (by kernel_rfl) (by kernel_rfl) (by kernel_rfl) (by kernel_rfl) (by kernel_rfl)
theorem au1:Entry prog 184 (Extern.Sync.semrelease):=FX (by kernel_rfl) (by kernel_rfl) (by kernel_rfl) (by kernel_rfl) (by kernel_rfl)
theorem au0:Entry prog 188 (Extern.Race.marked .acquire):=FX (by kernel_rfl) (by kernel_rfl) (by kernel_rfl) (by kernel_rfl) (by kernel_rfl)
theorem at7:Entry prog 191 (Extern.Race.marked .write):=FX (by kernel_rfl) (by kernel_rfl) (by kernel_rfl) (by kernel_rfl) (by kernel_rfl)
theorem ad1:Entry prog 192 (Extern.Sync.semacquire):=FX (by kernel_rfl) (by kernel_rfl) (by kernel_rfl) (by kernel_rfl) (by kernel_rfl)
theorem e223:Entry prog 223 (Extern.Atomic.update (Op.intArith .add) .u64 true):=FX (by kernel_rfl) (by kernel_rfl) (by kernel_rfl) (by kernel_rfl) (by kernel_rfl)
theorem e224:Entry prog 224 (Extern.Atomic.loadT (.int .u64)):=FX (by kernel_rfl) (by kernel_rfl) (by kernel_rfl) (by kernel_rfl) (by kernel_rfl)
theorem at6:Entry prog 225 (Extern.Atomic.storeT):=FX (by kernel_rfl) (by kernel_rfl) (by kernel_rfl) (by kernel_rfl) (by kernel_rfl)
theorem e228:Entry prog 228 (Extern.Atomic.casT (.int .u64)):=FX (by kernel_rfl) (by kernel_rfl) (by kernel_rfl) (by kernel_rfl) (by kernel_rfl)
theorem lY:AB prog 3 (wS prog r Y)=some []:=by kernel_rfl
theorem zB:AX (wD prog r Y)=some (173,#[]):=by kernel_rfl
theorem lQ:AB prog 19 (BG (wD prog r Y) IZ)=some []:=by kernel_rfl
theorem rF:AX (wL prog r Y)=some (224,#[.pointer (some (T_ r 4))]):=by kernel_rfl
theorem lX:AB prog 31 (BG (wL prog r Y) (.int .u64 0))=some []:=by kernel_rfl
theorem zA:AX (wE prog r Y)=some (174,#[]):=by kernel_rfl
theorem lL:AB prog 4 (BG (wE prog r Y) IZ)=some [r,r]:=by kernel_rfl
theorem zx:AX (wQ prog r Y)=some (188,#[.pointer (some (T_ r 4))]):=by kernel_rfl
theorem lU:AB prog 48 (BG (wL prog r Y) (.int .u64 4294967296))=some []:=by kernel_rfl
theorem rG:AX (wK prog r Y)=some (228,#[.pointer (some (T_ r 4)),.int .u64 4294967296,.int .u64 4294967297]):=by kernel_rfl
theorem ZY:AB prog 25 (BG (wK prog r Y) (.bool false))=some []:=by kernel_rfl
theorem lT:AX (wL2 prog r Y)=some (224,#[.pointer (some (T_ r 4))]):=by kernel_rfl
theorem Z4:AB prog 31 (BG (wL2 prog r Y) (.int .u64 0))=some []:=by kernel_rfl
theorem lW:AX (wEa prog r Y)=some (174,#[]):=by kernel_rfl
theorem ZX:AB prog 4 (BG (wEa prog r Y) IZ)=some [r,r]:=by kernel_rfl
theorem lK:AX (wQa prog r Y)=some (188,#[.pointer (some (T_ r 4))]):=by kernel_rfl
theorem lH:AB prog 20 (BG (wK prog r Y) (.bool true))=some [r,r]:=by kernel_rfl
theorem zu:AX (wW prog r Y)=some (191,#[.pointer (some (T_ r 5))]):=by kernel_rfl
theorem lN:AB prog 23 (BG (wW prog r Y) IZ)=some []:=by kernel_rfl
theorem rE:AX (wM prog r Y)=some (192,#[.pointer (some (T_ r 5)),.bool false]):=by kernel_rfl
theorem lM:AB prog 16 (BG (wM prog r Y) IZ)=some []:=by kernel_rfl
theorem zy:AX (wN prog r Y)=some (224,#[.pointer (some (T_ r 4))]):=by kernel_rfl
theorem ZZ:AB prog 11 (BG (wN prog r Y) (.int .u64 0))=some []:=by kernel_rfl
theorem lV:AX (wEb prog r Y)=some (174,#[]):=by kernel_rfl
theorem ZW:AB prog 4 (BG (wEb prog r Y) IZ)=some [r,r]:=by kernel_rfl
theorem lI:AX (wQb prog r Y)=some (188,#[.pointer (some (T_ r 4))]):=by kernel_rfl
end
end Go.Fxa
namespace Go.Fxa
open Go.Conc Go.Proofs
structure QU (P:l_) (r:Nat) (c:Frame) (Y:Z_):Prop where
 ZG:Entry P 173 (λ_=>do mark .disable;pure Extern.Race.none_)
 Yf:Entry P 174 (λ_=>do mark .enable;pure Extern.Race.none_)
 au0:Entry P 188 (Extern.Race.marked .acquire)
 at7:Entry P 191 (Extern.Race.marked .write)
 ad1:Entry P 192 Extern.Sync.semacquire
 e224:Entry P 224 (Extern.Atomic.loadT (.int .u64))
 e228:Entry P 228 (Extern.Atomic.casT (.int .u64))
 lY:AB P 3 (wS P r (c::Y))=some []
 zB:AX (wD P r (c::Y))=some (173,#[])
 lQ:AB P 19 (BG (wD P r (c::Y)) IZ)=some []
 rF:AX (wL P r (c::Y))=some (224,#[.pointer (some (T_ r 4))])
 lX:AB P 31 (BG (wL P r (c::Y)) (.int .u64 0))=some []
 zA:AX (wE P r (c::Y))=some (174,#[])
 lL:AB P 4 (BG (wE P r (c::Y)) IZ)=some [r,r]
 zx:AX (wQ P r (c::Y))=some (188,#[.pointer (some (T_ r 4))])
 lU:AB P 48 (BG (wL P r (c::Y)) (.int .u64 4294967296))=some []
 rG:AX (wK P r (c::Y))=some (228,#[.pointer (some (T_ r 4)),.int .u64 4294967296,.int .u64 4294967297])
 ZY:AB P 25 (BG (wK P r (c::Y)) (.bool false))=some []
 lT:AX (wL2 P r (c::Y))=some (224,#[.pointer (some (T_ r 4))])
 Z4:AB P 31 (BG (wL2 P r (c::Y)) (.int .u64 0))=some []
 lW:AX (wEa P r (c::Y))=some (174,#[])
 ZX:AB P 4 (BG (wEa P r (c::Y)) IZ)=some [r,r]
 lK:AX (wQa P r (c::Y))=some (188,#[.pointer (some (T_ r 4))])
 lH:AB P 20 (BG (wK P r (c::Y)) (.bool true))=some [r,r]
 zu:AX (wW P r (c::Y))=some (191,#[.pointer (some (T_ r 5))])
 lN:AB P 23 (BG (wW P r (c::Y)) IZ)=some []
 rE:AX (wM P r (c::Y))=some (192,#[.pointer (some (T_ r 5)),.bool false])
 lM:AB P 16 (BG (wM P r (c::Y)) IZ)=some []
 zy:AX (wN P r (c::Y))=some (224,#[.pointer (some (T_ r 4))])
 ZZ:AB P 11 (BG (wN P r (c::Y)) (.int .u64 0))=some []
 lV:AX (wEb P r (c::Y))=some (174,#[])
 ZW:AB P 4 (BG (wEb P r (c::Y)) IZ)=some [r,r]
 lI:AX (wQb P r (c::Y))=some (188,#[.pointer (some (T_ r 4))])
 lG:DZ P (some (257,6)) 20 (BG (wQ P r (c::Y)) IZ)=some ([],(c.finish (.tuple #[]),Y))
 ZV:DZ P (some (257,6)) 20 (BG (wQa P r (c::Y)) IZ)=some ([],(c.finish (.tuple #[]),Y))
 ZU:DZ P (some (257,6)) 10 (BG (wQb P r (c::Y)) IZ)=some ([],(c.finish (.tuple #[]),Y))
section
variable {P:l_} {r:Nat} {c:Frame} {Y:Z_} {a b e d:n_}
theorem FM {x:Frame×Z_} {n:Nat} {l:List Nat} (h:AB P n x=some l) (hl:∀y∈l,y=r) (main:Bool):Kr P (DC r #[a,b,e,d] 257) main n (BL x) (BL (run P n x)):=
 af0 (λw c=>GX w c) h hl
theorem I7:∀y∈([]:List Nat),y=r:=by simp
theorem zC:∀y∈[r,r],y=r:=by simp
def waits (P:l_) (r:Nat) (Y:Z_):Wts where
 mD:=BL (wD P r Y)
 mD':=BL (BG (wD P r Y) IZ)
 mL:=BL (wL P r Y)
 mL0:=BL (BG (wL P r Y) (.int .u64 0))
 mLK:=BL (BG (wL P r Y) (.int .u64 KK))
 mC:=BL (wK P r Y)
 mC1:=BL (BG (wK P r Y) (.bool true))
 mC0:=BL (BG (wK P r Y) (.bool false))
 mW:=BL (wW P r Y)
 mW':=BL (BG (wW P r Y) IZ)
 fr:=(wM P r Y).1
 cs:=(wM P r Y).2
 mS':=BL (BG (wM P r Y) IZ)
 k0:=3
 k1:=19
 k2:=48
 k3:=20
 k4:=23
theorem ak (F:QU P r c Y) {x y:Frame×Z_} {k1 k3:Nat} {l1:List Nat} (h1:AB P k1 x=some l1) (hl1:∀z∈l1,z=r) (hE:AX (run P k1 x)=some (174,#[])) (h2:AB P 4 (BG (run P k1 x) IZ)=some [r,r])
  (hQ:AX (run P 4 (BG (run P k1 x) IZ))=some (188,#[.pointer (some (T_ r 4))])) (h3:DZ P (some (257,6)) k3 (BG (run P 4 (BG (run P k1 x) IZ)) IZ)=some ([],y)):
  ad5 P r #[a,b,e,d] 257 (BL y) (BL x):=
 ⟨k1,BL (run P k1 x),BL (BG (run P k1 x) IZ),4,BL (run P 4 (BG (run P k1 x) IZ)),BL (BG (run P 4 (BG (run P k1 x) IZ)) IZ),k3,
  FM h1 hl1 true,rfl,λw=>TJ .enable (by simp) hE F.Yf,FM h2 zC true,rfl,λw=>QP .acquire (by simp) hQ F.au0,Gf (λw f=>GX w f) h3 (by simp)⟩
theorem ad6 (F:QU P r c Y):ς P r #[a,b,e,d] 257 (BL (wS P r (c::Y))) (G (c.finish (.tuple #[])) Y) (waits P r (c::Y)) where
 runs:=⟨rfl,rfl,rfl,rfl⟩
 s0:=FM F.lY I7 true
 XZ w:=TJ .disable (by simp) F.zB F.ZG
 s1:=FM F.lQ I7 true
 ao5 w f:=SV F.rF F.e224 f
 fin0:=ak F F.lX I7 F.zA F.lL F.zx F.lG
 ao4 w f:=SV F.rF F.e224 f
 s2:=FM F.lU I7 true
 Ir w f hz:=qO F.rG F.e228 f hz
 miss w f hz:=kG F.rG F.e228 f hz (by decide)
 lo0:=⟨25,BL (wL2 P r (c::Y)),_,FM F.ZY I7 true,rfl,λw f=>SV F.lT F.e224 f,ak F F.Z4 I7 F.lW F.ZX F.lK F.ZV⟩
 s3:=FM F.lH zC true
 wr w:=QP .write (by simp) F.zu F.at7
 s4:=FM F.lN I7 true
 bc4 w f hz:=qZ F.rE rfl F.ad1 f (by decide) hz
 an5 w f:=VC F.rE rfl F.ad1 f
 lo1:=⟨16,BL (wN P r (c::Y)),_,FM F.lM I7 true,rfl,λw f=>SV F.zy F.e224 f,ak F F.ZZ I7 F.lV F.ZW F.lI F.ZU⟩
end
section
variable (r:Nat) (c:Frame) (Y:Z_)
theorem lG:DZ prog (some (257,6)) 20 (BG (wQ prog r (c::Y)) IZ)=some ([],(c.finish (.tuple #[]),Y)):=by kernel_rfl
theorem ZV:DZ prog (some (257,6)) 20 (BG (wQa prog r (c::Y)) IZ)=some ([],(c.finish (.tuple #[]),Y)):=by kernel_rfl
theorem ZU:DZ prog (some (257,6)) 10 (BG (wQb prog r (c::Y)) IZ)=some ([],(c.finish (.tuple #[]),Y)):=by kernel_rfl
theorem nU:QU prog r c Y:=
 ⟨ZG,Yf,au0,at7,ad1,e224,e228,lY r _,zB r _,lQ r _,rF r _,lX r _,zA r _,lL r _,zx r _,lU r _,rG r _,ZY r _,lT r _,Z4 r _,lW r _,ZX r _,lK r _,
  lH r _,zu r _,lN r _,rE r _,lM r _,zy r _,ZZ r _,lV r _,ZW r _,lI r _,lG r c Y,ZV r c Y,ZU r c Y⟩
end
section
variable (P:l_) (r:Nat) (Y:Z_)
def dS:Frame×Z_:=(Frame.enter P 135 #[.pointer (some (T_ r 4))] .deferred,Y)
def dR:=run P 15 (dS P r Y)
def dD:=run P 3 (BG (dR P r Y) IZ)
def dB:=run P 11 (BG (dD P r Y) IZ)
def dA:=run P 22 (BG (dB P r Y) (.bool false))
def dF:=run P 87 (BG (dA P r Y) (.int .u64 0))
def dM:=run P 103 (BG (dA P r Y) (.int .u64 1))
def dT:=run P 20 (BG (dM P r Y) (.int .u64 1))
def dP:=run P 27 (BG (dT P r Y) IZ)
def dG:=run P 17 (BG (dP P r Y) IZ)
def aS:Frame×Z_:=(Frame.enter P 133 #[.pointer (some (T_ r 4)),b_ 1] .normal,Y)
def aD:=run P 12 (aS P r Y)
def aB:=run P 11 (BG (aD P r Y) IZ)
def aA:=run P 22 (BG (aB P r Y) (.bool false))
def aR:=run P 53 (BG (aA P r Y) (.int .u64 4294967296))
def aE:=run P 39 (BG (aR P r Y) IZ)
end
def f134 (tm:X_) (td:List Item):Frame:=Frame.mk 134 tm td [] .returning .deferred none
def CP (P:l_):Frame:={ (default:Frame)with fn:=P.funcs.size,defers:=[],mode:=.panicking [goexitEntry] }
structure OQ (P:l_) (r:Nat) (tm:X_) (td:List Item):Prop where
 au3:Entry P 172 (Extern.Race.marked .releaseMerge)
 ZG:Entry P 173 (λ_=>do mark .disable;pure Extern.Race.none_)
 Yf:Entry P 174 (λ_=>do mark .enable;pure Extern.Race.none_)
 vI:Entry P 175 (λ_=>pure (.bool false))
 au1:Entry P 184 Extern.Sync.semrelease
 e223:Entry P 223 (Extern.Atomic.update (Op.intArith .add) .u64 true)
 e224:Entry P 224 (Extern.Atomic.loadT (.int .u64))
 at6:Entry P 225 Extern.Atomic.storeT
 ο:AB P 15 (dS P r [f134 tm td,CP P])=some [r,r]
 zO:AX (dR P r [f134 tm td,CP P])=some (172,#[.pointer (some (T_ r 4))])
 mV:AB P 3 (BG (dR P r [f134 tm td,CP P]) IZ)=some []
 zV:AX (dD P r [f134 tm td,CP P])=some (173,#[])
 mY:AB P 11 (BG (dD P r [f134 tm td,CP P]) IZ)=some []
 zW:AX (dB P r [f134 tm td,CP P])=some (175,#[])
 mZ:AB P 22 (BG (dB P r [f134 tm td,CP P]) (.bool false))=some []
 rU:AX (dA P r [f134 tm td,CP P])=some (223,#[.pointer (some (T_ r 4)),.int .u64 18446744069414584320])
 mP:AB P 87 (BG (dA P r [f134 tm td,CP P]) (.int .u64 0))=some []
 zU:Lu (dF P r [f134 tm td,CP P])=some (174,#[])
 mQ:DZ P (some (257,6)) 5 (Sv (dF P r [f134 tm td,CP P]))=some ([],(CP P,[]))
 mJ:AB P 103 (BG (dA P r [f134 tm td,CP P]) (.int .u64 1))=some []
 zS:AX (dM P r [f134 tm td,CP P])=some (224,#[.pointer (some (T_ r 4))])
 mF:AB P 20 (BG (dM P r [f134 tm td,CP P]) (.int .u64 1))=some []
 zN:AX (dT P r [f134 tm td,CP P])=some (225,#[.pointer (some (T_ r 4)),.int .u64 0])
 mG:AB P 27 (BG (dT P r [f134 tm td,CP P]) IZ)=some []
 zQ:AX (dP P r [f134 tm td,CP P])=some (184,#[.pointer (some (T_ r 5)),.bool false,b_ 0])
 mM:AB P 17 (BG (dP P r [f134 tm td,CP P]) IZ)=some []
 zT:Lu (dG P r [f134 tm td,CP P])=some (174,#[])
 mO:DZ P (some (257,6)) 5 (Sv (dG P r [f134 tm td,CP P]))=some ([],(CP P,[]))
 wake:mayWake P (BL (dP P r [f134 tm td,CP P]))=true
structure Xd (P:l_) (r:Nat) (c:Frame) (Y:Z_):Prop where
 ZG:Entry P 173 (λ_=>do mark .disable;pure Extern.Race.none_)
 Yf:Entry P 174 (λ_=>do mark .enable;pure Extern.Race.none_)
 vI:Entry P 175 (λ_=>pure (.bool false))
 au2:Entry P 180 (Extern.Race.marked .read)
 e223:Entry P 223 (Extern.Atomic.update (Op.intArith .add) .u64 true)
 nM:AB P 12 (aS P r (c::Y))=some []
 zZ:AX (aD P r (c::Y))=some (173,#[])
 nN:AB P 11 (BG (aD P r (c::Y)) IZ)=some []
 Α:AX (aB P r (c::Y))=some (175,#[])
 nO:AB P 22 (BG (aB P r (c::Y)) (.bool false))=some []
 Β:AX (aA P r (c::Y))=some (223,#[.pointer (some (T_ r 4)),.int .u64 4294967296])
 nI:AB P 53 (BG (aA P r (c::Y)) (.int .u64 4294967296))=some [r,r]
 zX:AX (aR P r (c::Y))=some (180,#[.pointer (some (T_ r 5))])
 nJ:AB P 39 (BG (aR P r (c::Y)) IZ)=some []
 zY:Lu (aE P r (c::Y))=some (174,#[])
 nK:DZ P (some (257,6)) 1 (Sv (aE P r (c::Y)))=some ([],(c.finish (.tuple #[]),Y))
section
variable {P:l_} {r:Nat} {a b e d:n_}
theorem RS {s:d_ (j_×Nat)} {δ m:Nat}:∀{n:Nat} {x y:Frame×Z_},DZ P s n x=some ([],y)->QuitsD P m δ (BL y)->QuitsD P (n+m) δ (BL x)
 |0,x,y,h,a=>by
  simp only[DZ,Option.some.injEq,Prod.mk.injEq,true_and]at h
  subst h
  rw[Nat.zero_add];exact a
 |n+1,x,y,h,a=>by
  simp only[DZ]at h
  split at h
  .rename_i d z c;split at h
   .rename_i e f b;simp only[Option.some.injEq,Prod.mk.injEq,List.append_eq_nil_iff]at h;obtain⟨⟨rfl,rfl⟩,rfl⟩:=h;rw[show n+1+m=(n+m)+1 from by omega];exact .ctl rfl (λw=>QQ c (by simp)) (RS b a)
   .cases h
  .cases h
theorem Y9 {δ m n:Nat} {x:Frame×Z_} (h:AB P n x=some []) (hq:QuitsD P m δ (BL (run P n x))):QuitsD P (n+m) δ (BL x):=by
 unfold AB at h;obtain⟨⟨l,y⟩,a,rfl⟩:=Option.map_eq_some_iff.1 h;have:run P n x=y:=by unfold run;rw[a]
 rw[this]at hq;exact RS a hq
theorem pG:QuitsD P 1 0 (BL (CP P,[])):=by
 refine .inr ⟨rfl,{ BL (CP P,[])with status:=.finished },#[],by simp,λw=>?_,rfl,rfl⟩;simp[BL,G,CP,stepG,unwind,Frame.catches,goexitEntry]
 rfl
theorem Ud {x:Frame×Z_} (h:Lu x=some (174,#[])) (he:Entry P 174 (λ_=>do mark .enable;pure Extern.Race.none_)) (hend:DZ P (some (257,6)) 5 (Sv x)=some ([],(CP P,[]))):QuitsD P 7 1 (BL x):=
 .said ⟨.mark .enable,false,true⟩ rfl rfl (λw=>Qn .enable (by simp) h he) (RS (m:=1) hend pG)
def outs (P:l_) (r:Nat) (Y:Z_):QY where
 gR:=BL (dR P r Y)
 gR':=BL (BG (dR P r Y) IZ)
 gD:=BL (dD P r Y)
 gD':=BL (BG (dD P r Y) IZ)
 gA:=BL (dA P r Y)
 gF:=BL (BG (dA P r Y) (.int .u64 0))
 gW:=BL (BG (dA P r Y) (.int .u64 1))
 gS:=BL (dT P r Y)
 gS':=BL (BG (dT P r Y) IZ)
 gP:=BL (dP P r Y)
 gP':=BL (BG (dP P r Y) IZ)
 k1:=3
 k2:=11+(1+22)
 k3:=103+(1+20)
 k4:=27
 nF:=87+7
 nP:=17+7
theorem RV {g g':m_}:∀{n:Nat},Kr P (DC r #[a,b,e,d] 257) false n g g'->yL P r #[a,b,e,d] 257 n g g'
 |0,h=>h
 |n+1,h=>by
  obtain⟨f,c,i,j⟩:=h
  exact⟨f,c,[],.inl rfl,λw k=>i w ⟨1,0,k⟩,RV j⟩
theorem yL.trans {g g' g'':m_}:∀{n m:Nat},yL P r #[a,b,e,d] 257 n g g'->yL P r #[a,b,e,d] 257 m g' g''->yL P r #[a,b,e,d] 257 (n+m) g g''
 |0,m,h,c=>by rw[Nat.zero_add,show g=g' from h];exact c
 |n+1,m,h,c=>by
  obtain⟨i,f,l,j,k,o⟩:=h
  rw[show n+1+m=(n+m)+1 from by omega]
  exact⟨i,f,l,j,k,o.trans c⟩
theorem VR {tm:X_} {td:List Item} (F:OQ P r tm td):Oo P r #[a,b,e,d] 257 (outs P r [f134 tm td,CP P]) where
 runs:=⟨rfl,rfl,rfl,rfl,rfl⟩
 rel w:=QP .releaseMerge (by simp) F.zO F.au3
 s1:=FM F.mV I7 false
 XZ w:=TJ .disable (by simp) F.zV F.ZG
 s2:=(FM F.mY I7 false).trans ((uk F.zW F.vI rfl).trans (FM F.mZ I7 false))
 add0 w c hz:=nH F.rU F.e223 c hz
 fin0:=Y9 F.mP (Ud F.zU F.Yf F.mQ)
 add1 w c hz:=nH F.rU F.e223 c hz
 s3:=(RV (FM F.mJ I7 false)).trans (yL.trans (n:=1) (g':=BL (BG (dM P r [f134 tm td,CP P]) (.int .u64 1))) ⟨rfl,_,_,.inr rfl,λw c=>SV F.zS F.e224 c.cellSt,rfl⟩ (RV (FM F.mF I7 false)))
 sto w c hz:=Ϙ F.zN F.at6 c hz
 s4:=FM F.mG I7 false
 sem w c hz:=pq F.zQ rfl F.au1 c hz
 fin1:=Y9 F.mM (Ud F.zT F.Yf F.mO)
 wake:=⟨F.wake,rfl⟩
def adds (P:l_) (r:Nat) (Y:Z_):au6 where
 mD:=BL (aD P r Y)
 mD':=BL (BG (aD P r Y) IZ)
 mA:=BL (aA P r Y)
 mA':=BL (BG (aA P r Y) (.int .u64 4294967296))
 mR:=BL (aR P r Y)
 mR':=BL (BG (aR P r Y) IZ)
 mE:=BL (aE P r Y)
 mE':=BL (Sv (aE P r Y))
 k0:=12
 k1:=11+(1+22)
 k2:=53
 k3:=39
 k4:=1
theorem ba5 {c:Frame} {Y:Z_} (F:Xd P r c Y):aq3 P r #[a,b,e,d] 257 (BL (aS P r (c::Y))) (G (c.finish (.tuple #[])) Y) (adds P r (c::Y)) where
 runs:=⟨rfl,rfl,rfl,rfl⟩
 s0:=FM F.nM I7 true
 XZ w:=TJ .disable (by simp) F.zZ F.ZG
 s1:=(FM F.nN I7 true).trans ((uk F.Α F.vI rfl).trans (FM F.nO I7 true))
 add w f hz:=nH F.Β F.e223 f hz
 s2:=FM F.nI zC true
 rd w:=QP .read (by simp) F.zX F.au2
 s3:=FM F.nJ I7 true
 ena w:=Qn .enable (by simp) F.zY F.Yf
 s4:=Gf (λw f=>GX w f) F.nK (by simp)
end
section
variable (r:Nat) (tm:X_) (td:List Item) (c:Frame) (Y:Z_)
theorem ο:AB prog 15 (dS prog r [f134 tm td,CP prog])=some [r,r]:=by kernel_rfl
theorem zO:AX (dR prog r [f134 tm td,CP prog])=some (172,#[.pointer (some (T_ r 4))]):=by kernel_rfl
theorem mV:AB prog 3 (BG (dR prog r [f134 tm td,CP prog]) IZ)=some []:=by kernel_rfl
theorem zV:AX (dD prog r [f134 tm td,CP prog])=some (173,#[]):=by kernel_rfl
theorem mY:AB prog 11 (BG (dD prog r [f134 tm td,CP prog]) IZ)=some []:=by kernel_rfl
theorem zW:AX (dB prog r [f134 tm td,CP prog])=some (175,#[]):=by kernel_rfl
theorem mZ:AB prog 22 (BG (dB prog r [f134 tm td,CP prog]) (.bool false))=some []:=by kernel_rfl
theorem rU:AX (dA prog r [f134 tm td,CP prog])=some (223,#[.pointer (some (T_ r 4)),.int .u64 18446744069414584320]):=by kernel_rfl
theorem mP:AB prog 87 (BG (dA prog r [f134 tm td,CP prog]) (.int .u64 0))=some []:=by kernel_rfl
theorem zU:Lu (dF prog r [f134 tm td,CP prog])=some (174,#[]):=by kernel_rfl
theorem mQ:DZ prog (some (257,6)) 5 (Sv (dF prog r [f134 tm td,CP prog]))=some ([],(CP prog,[])):=by kernel_rfl
theorem mJ:AB prog 103 (BG (dA prog r [f134 tm td,CP prog]) (.int .u64 1))=some []:=by kernel_rfl
theorem zS:AX (dM prog r [f134 tm td,CP prog])=some (224,#[.pointer (some (T_ r 4))]):=by kernel_rfl
theorem mF:AB prog 20 (BG (dM prog r [f134 tm td,CP prog]) (.int .u64 1))=some []:=by kernel_rfl
theorem zN:AX (dT prog r [f134 tm td,CP prog])=some (225,#[.pointer (some (T_ r 4)),.int .u64 0]):=by kernel_rfl
theorem mG:AB prog 27 (BG (dT prog r [f134 tm td,CP prog]) IZ)=some []:=by kernel_rfl
theorem zQ:AX (dP prog r [f134 tm td,CP prog])=some (184,#[.pointer (some (T_ r 5)),.bool false,b_ 0]):=by kernel_rfl
theorem mM:AB prog 17 (BG (dP prog r [f134 tm td,CP prog]) IZ)=some []:=by kernel_rfl
theorem zT:Lu (dG prog r [f134 tm td,CP prog])=some (174,#[]):=by kernel_rfl
theorem mO:DZ prog (some (257,6)) 5 (Sv (dG prog r [f134 tm td,CP prog]))=some ([],(CP prog,[])):=by kernel_rfl
theorem ak3:mayWake prog (BL (dP prog r [f134 tm td,CP prog]))=true:=by kernel_rfl
theorem qA:OQ prog r tm td:=
 ⟨au3,ZG,Yf,vI,au1,e223,e224,at6,ο r tm td,zO r tm td,mV r tm td,zV r tm td,mY r tm td,zW r tm td,mZ r tm td,rU r tm td,mP r tm td,zU r tm td,mQ r tm td,mJ r tm td,zS r tm td,mF r tm td,zN r tm td,mG r tm td,zQ r tm td,mM r tm td,zT r tm td,mO r tm td,ak3 r tm td⟩
theorem nM:AB prog 12 (aS prog r (c::Y))=some []:=by kernel_rfl
theorem zZ:AX (aD prog r (c::Y))=some (173,#[]):=by kernel_rfl
theorem nN:AB prog 11 (BG (aD prog r (c::Y)) IZ)=some []:=by kernel_rfl
theorem Α:AX (aB prog r (c::Y))=some (175,#[]):=by kernel_rfl
theorem nO:AB prog 22 (BG (aB prog r (c::Y)) (.bool false))=some []:=by kernel_rfl
theorem Β:AX (aA prog r (c::Y))=some (223,#[.pointer (some (T_ r 4)),.int .u64 4294967296]):=by kernel_rfl
theorem nI:AB prog 53 (BG (aA prog r (c::Y)) (.int .u64 4294967296))=some [r,r]:=by kernel_rfl
theorem zX:AX (aR prog r (c::Y))=some (180,#[.pointer (some (T_ r 5))]):=by kernel_rfl
theorem nJ:AB prog 39 (BG (aR prog r (c::Y)) IZ)=some []:=by kernel_rfl
theorem zY:Lu (aE prog r (c::Y))=some (174,#[]):=by kernel_rfl
theorem nK:DZ prog (some (257,6)) 1 (Sv (aE prog r (c::Y)))=some ([],(c.finish (.tuple #[]),Y)):=by kernel_rfl
theorem yg:Xd prog r c Y:=
 ⟨ZG,Yf,vI,au2,e223,nM r c Y,zZ r c Y,nN r c Y,Α r c Y,nO r c Y,Β r c Y,nI r c Y,zX r c Y,nJ r c Y,zY r c Y,nK r c Y⟩
end
end Go.Fxa
namespace Go.Fxa
open Go.Conc
open Go.ConcN (sumTo upd sumTo_upd upd_ne upd_same)
def RW (P:l_) (main:Bool) (K:o_->Prop) (Still:Loc->Prop):Nat->m_->m_->Prop
 |0,g,g'=>g=g'
 |n+1,g,g'=>g.status=.running/\∃g1 es,(∀e∈es,EvR Still e)/\(∀w,K w->stepG P main g w=.go g1 w es)/\RW P main K Still n g1 g'
section
variable {P:l_} {Z:Nat->Prop} {Ac Still:Loc->Prop} {Mem Ak:Nat->Prop} {main:Bool} {K:o_->Prop} {h j:Nat} {By:Nat->m_->o_->Trace->Prop}
theorem RW.trans {g g' g'':m_}:∀{n m:Nat},RW P main K Still n g g'->RW P main K Still m g' g''->RW P main K Still (n+m) g g''
 |0,m,h,a=>by rw[Nat.zero_add,show g=g' from h];exact a
 |n+1,m,h,a=>by
  obtain⟨d,c,b,e,f,i⟩:=h
  rw[show n+1+m=(n+m)+1 from by omega]
  exact⟨d,c,b,e,f,i.trans a⟩
theorem RW.ZM {g g':m_}:∀{n:Nat},Kr P K main n g g'->RW P main K Still n g g'
 |0,h=>h
 |n+1,h=>by
  obtain⟨b,a,c,d⟩:=h
  exact⟨b,a,#[],by simp,c,RW.ZM d⟩
theorem RW.read {x:Frame×Z_} {o:Oper} {v:n_} {vs:U_} {Yb:List f_} (h:opAt x=some o) (hf:(execOp x.1.eval o).feed P vs=some (Yb,.value v)) (hc:∀w,K w->Cells w Yb vs) (hs:∀a∈Yb,Still (.cell a)) (hq:(P.funcs[x.1.fn]?).any (·.norace)=false):
  RW P main K Still 1 (BL x) (BL (BG x v)):=
 ⟨rfl,_,He Yb,λe b=>by
  simp only[He,List.mem_toArray,List.mem_map]at b
  obtain⟨a,c,rfl⟩:=b
  exact⟨a,rfl,hs a c⟩,λw d=>tH h hf (hc w d) hq,rfl⟩
theorem RW.status {g':m_} (hs:g'.status=.running):∀{n:Nat} {g:m_},RW P main K Still n g g'->g.status=.running
 |0,_,h=>h ▸ hs
 |_+1,_,h=>h.1
theorem RW.seat {cases:Array CommCase} {shape:CommShape} {home:m_->Prop} {g':m_} {k:Nat} (hr:g'.status=.running) (hs:GM P main K Still cases shape home k g'):∀{n:Nat} {g:m_},RW P main K Still n g g'->GM P main K Still cases shape home (n+k) g
 |0,g,h=>by rw[Nat.zero_add,show g=g' from h];exact hs
 |n+1,g,h=>by
  obtain⟨f,c,b,d,e,a⟩:=h
  rw[show n+1+k=(n+k)+1 from by omega]
  exact⟨c,b,a.status hr,d,e,RW.seat hr hs a⟩
theorem ak2 {S0:Loc->Prop} (hSS:∀l,S0 l->¬Ac l) {B:Nat} {e:Event} (he:EvR S0 e) (hb:∀a,S0 (.cell a)->a.block<B):YJ Ac Still B e:=by
 obtain⟨a,rfl,b⟩:=he;refine⟨λx d=>?_,by simp,by simp,hb a b,by simp⟩;obtain rfl:=x_ d;exact⟨λ_=>⟨rfl,hSS _ b⟩,λc=>(hSS _ b c).elim⟩
theorem l7 {S0:Loc->Prop} (hJ:∀n b w t,By n b w t->∀d,K (w.at d)) (BX:∀w a,K w->S0 (.cell a)->a.block<w.heap.size) (hSS:∀l,S0 l->¬Ac l) (O:Gx P Z Ac Still (fun B t=>PX Ac Still Mem Ak B h t) j By) {a':m_}:
  ∀(k:Nat) {a:m_} (_:RW P (h==0) K S0 k a a') {n B:Nat} {gs:Array m_} {w:o_} {sl:d_ (W_)} {t:Trace} {q:Nat->Nat},
  gs[h]?=some a->Duo P Ac Still Mem Ak B h j By n gs w t q->AO P gs w sl t λBg w' t'=>∃q' n' B',Bg[h]?=some a'/\CB Z w w'/\B<=B'/\Duo P Ac Still Mem Ak B' h j By n' Bg w' t' q'
 |0,a,m,n,B,gs,w,sl,t,q,g,D=>.now ⟨q,n,B,by rw[g,show a=a' from m],CB.refl w,w_ _,D⟩
 |k+1,a,m,n,B,gs,w,sl,t,q,g,D=>by
  obtain⟨y,a1,v,A,c,C⟩:=m
  refine go_duo (Ky:=Mem) (Loose':=Ak) O g y D D.mem λr i w1 s Q U W H f I d=>?_
  have u:∀e∈v,YJ Ac Still r e:=λe G=>ak2 hSS (A e G) λa F=>Nat.lt_of_lt_of_le (BX _ a (hJ _ _ _ _ f d) F) s
  refine⟨a1,w1.at d,v,r,c _ (hJ _ _ _ _ f d),w_ _,s,I.own u,By,Q,?_,λBg q' n' V E z S=>?_⟩
  .rw[woken_of_again (O.again f (w1.at d) (λ_ _=>rfl))];exact O.calm (w1.at d) _ f (λ_ _=>rfl) (Fh D.ne u)
  .exact(l7 hJ BX hSS O k C E z).mono λx T R ⟨p,o,B'',J,L,N,M⟩=>⟨p,o,B'',J,H.trans ((CB.at w1 d).trans L),Nat.le_trans i N,M⟩
end
end Go.Fxa
namespace Go.Fxa
open Go.Conc
def ng (x:Frame×Z_):d_ n_:=match x.1.roundOf,x.1.mode,x.1.todo with
 |none,.run,.code (.cond c _ _)::_=>some (x.1.eval c)
 |_,_,_=>none
def branch (x:Frame×Z_) (t:Bool):Frame×Z_:=match x.1.todo with
 |.code (.cond _ a b)::k=>({ x.1 with todo:=.code (if t then a else b)::k },x.2)
 |_=>x
theorem iP {P:l_} {J:o_->Prop} {main:Bool} {x:Frame×Z_} {t:Bool} (h:ng x=some (.bool t)):Kr P J main 1 (BL x) (BL (branch x t)):=by
 obtain⟨⟨fn,e,f,j,d,kind,l⟩,i⟩:=x;unfold ng at h;simp only at h;split at h
 .rename_i c a b k;have g:=x_ h;refine⟨rfl,_,λw _=>?_,rfl⟩;simp[BL,branch,G,stepG,stepG.exec,g]
 .cases h
def pr (r:Nat):n_:=R_ r
def DU (q:Nat):n_:=.chan (some q)
def ry (f:Y_):X_:=((List.range 32).map f).toArray
def AY (f:Y_):List (Nat×n_)->Nat->n_
 |[],i=>f i
 |(a,v)::l,i=>if i=a then v else AY f l i
def u0:Nat->n_:=λ_=>b_ 0
def NU (P:l_) (x:Frame×Z_):d_ (Array CommCase):=match opAt x with
 |some o=>match (execOp x.1.eval o).Jc P with
  |some (.comm cs true .select)=>some cs
  |_=>none
 |none=>none
def DY (P:l_) (x:Frame×Z_) (v:n_):d_ (List f_×n_):=match opAt x with
 |some o=>match (execOp x.1.eval o).feed P [v]with
  |some (l,.value y)=>if(P.funcs[x.1.fn]?).any (·.norace)then none else some (l,y)
  |_=>none
 |none=>none
def Dj (x:Frame×Z_):h_×List Item×List Deferred×FrameMode×CallKind×d_ Nat×Z_:=(x.1.fn,x.1.todo,x.1.defers,x.1.mode,x.1.kind,x.1.roundOf,x.2)
def slot (x:Frame×Z_) (i:Nat):n_:=x.1.tmps.getD i undef
def slotsOf (x:Frame×Z_) (l:List Nat):U_:=l.map (slot x)
theorem Nb {f:Nat->n_}:∀{l:List (Nat×n_)},(∀p∈l,f p.1=p.2)->AY f l=f
 |[],_=>rfl
 |(a,v)::l,h=>by
  funext i
  simp only[AY]
  split
  .rename_i e;rw[e];exact(h _ (List.mem_cons_self ..)).symm
  .exact congrFun (Nb λp b=>h p (List.mem_cons_of_mem _ b)) i
theorem am6 {T:X_} (h:T.size=32):T=ry λi=>T.getD i undef:=by
 apply Array.ext
 .simp[ry,h]
 .intro i a b;simp[ry,Array.getD,a]
theorem xI {x:Frame×Z_} {fn:h_} {todo:List Item} {ds:List Deferred} {m:FrameMode} {kd:CallKind} {ro:d_ Nat} {Y:Z_} (h:Dj x=(fn,todo,ds,m,kd,ro,Y)) (hs:x.1.tmps.size=32):x=(Frame.mk fn (ry (slot x)) todo ds m kd ro,Y):=by
 obtain⟨⟨a,b,c,d,e,f,g⟩,y⟩:=x;simp only[Dj,Prod.mk.injEq]at h;obtain⟨rfl,rfl,rfl,rfl,rfl,rfl,rfl⟩:=h;simp only[Prod.mk.injEq,Frame.mk.injEq,and_true,true_and];exact am6 hs
section
variable {P:l_} {main:Bool} {K:o_->Prop} {Still:Loc->Prop} {x:Frame×Z_}
theorem RW.at {v y:n_} {ad:f_} (h:DY P x v=some ([ad],y)) (hc:∀w,K w->w.cell? ad=some v) (hs:Still (.cell ad)):RW P main K Still 1 (BL x) (BL (BG x y)):=by
 unfold DY at h;split at h
 .rename_i o b;split at h
  .rename_i l e a;split at h
   .cases h
   .rename_i c;simp only[Option.some.injEq,Prod.mk.injEq]at h;obtain⟨rfl,rfl⟩:=h;exact RW.read b a (λw d=>⟨hc w d,trivial⟩) (by simpa using hs) (by simpa using c)
  .cases h
 .cases h
theorem IC {cs:Array CommCase} (h:NU P x=some cs) (w:o_):stepG P main (BL x) w=.comm (BL x) cs true .select w #[]:=by
 unfold NU at h;split at h
 .rename_i o c;split at h
  .rename_i a b;obtain rfl:=x_ h;exact uB c b
  .cases h
 .cases h
theorem RW.AB {n:Nat} (h:AB P n x=some []):RW P main K Still n (BL x) (BL (run P n x)):=by
 unfold Fxa.AB at h;obtain⟨⟨l,y⟩,b,rfl⟩:=Option.map_eq_some_iff.1 h;have e:run P n x=y:=by unfold run;rw[b]
 rw[e];have:∀{n:Nat} {x y:Frame×Z_},DZ P (some (257,6)) n x=some ([],y)->Kr P K main n (BL x) (BL y):=by
  intro n
  induction n with
  |zero=>
   intro x y h
   simp only[DZ,Option.some.injEq,Prod.mk.injEq,true_and]at h
   subst h;exact rfl
  |succ n d=>
   intro x y h
   simp only[DZ]at h
   split at h
   .rename_i f z c;split at h
    .rename_i g i a;simp only[Option.some.injEq,Prod.mk.injEq,List.append_eq_nil_iff]at h;obtain⟨⟨rfl,rfl⟩,rfl⟩:=h;exact⟨rfl,_,λw _=>QQ c (by simp),d a⟩
    .cases h
   .cases h
 exact RW.ZM (this b)
end
section
variable (P:l_) (b5 b2 b3 r q0 q1 q2 q3:Nat) (sv:n_) (n i:Int) (w A:n_) (f:Y_) (Y:Z_)
def ch0:Frame×Z_:=({ (default:Frame)with fn:=P.funcs.size,defers:=[⟨.fn (.func 134) #[pr b5,pr b2,pr b3],#[]⟩],mode:=.panicking [goexitEntry] },[])
def ch1:=run P 3 (ch0 P b5 b2 b3)
def ch2:=run P 5 (BG (ch1 P b5 b2 b3) (pr r))
def ch3:=BG (ch2 P b5 b2 b3 r) (pr r)
def ch4:=BG (ch3 P b5 b2 b3 r) sv
def ch5:=BG (ch4 P b5 b2 b3 r sv) (b_ n)
def Un:Z_:=(run P 9 (ch5 P b5 b2 b3 r sv n)).2
def ZJ:List Item:=(run P 8 (Frame.enter P 136 #[] .normal,[])).1.todo
def LH:Frame×Z_:=(Frame.mk 136 (ry f) (ZJ P) [] .run .normal none,Y)
def lc:=run P 5 (LH P f Y)
def lr:=run P 4 (branch (lc P f Y) true)
def zD:List Item:=(lr P u0 []).1.todo.tail
def RB:Frame×Z_:=(Frame.mk 136 (ry f) (zD P) [] .run .normal none,Y)
def k1:=run P 29 (RB P f Y)
def k2:=run P 8 (BG (k1 P f Y) (DU q0))
def k3:=run P 3 (BG (k2 P q0 f Y) (DU q3))
end
end Go.Fxa
namespace Go.Fxa
open Go.Conc Go.Proofs
def sl4 (r:Nat) (sv:n_) (n i:Int):List (Nat×n_):=[(0,pr r),(1,sv),(8,b_ n),(9,b_ i)]
def sl6 (r:Nat) (sv:n_) (n i oc:Int) (w:n_):List (Nat×n_):=[(0,pr r),(1,sv),(8,b_ n),(9,b_ i),(6,b_ oc),(7,w)]
def lq:n_:=.agg #[a_ 0,a_ 0,.nilFunc]
def eH (q0 q3:Nat) (w:n_):Array CommCase:=#[scase q0 w (a_ 0),rcase q3 (.agg #[])]
def Gv (q1 q3:Nat):Array CommCase:=#[rcase q1 lq,rcase q3 (.agg #[])]
def ZH (q2 q3:Nat) (o:Int):Array CommCase:=#[scase q2 (b_ o) (b_ 0),rcase q3 (.agg #[])]
section
variable (P:l_) (b5 b2 b3 r q0 q1 q2 q3:Nat) (sv:n_) (n i:Int) (w A:n_) (f:Y_) (Y:Z_)
def Vu:Code:=match (lr P u0 []).1.todo with
 |.code c::_=>c
 |_=>.skip
def m1:=run P 14 (BG (k3 P q0 q3 f Y) (commResult (eH q0 q3 w) .select 0 undef false))
def m2:=run P 5 (BG (m1 P q0 q3 w f Y) (DU q1))
def m3:=run P 3 (BG (m2 P q0 q1 q3 w f Y) (DU q3))
def mq:=BG (m3 P q0 q1 q3 w f Y) (commResult (Gv q1 q3) .select 1 (.agg #[]) false)
def tmC:X_:=match Un P b5 b2 b3 r sv n with
 |F::_=>(F.finish (.tuple #[])).tmps
 |[]=>#[]
def Ry:Z_:=[f134 (tmC P b5 b2 b3 r sv n) [],CP P]
def e1:=run P 18 (RB P f Y)
def e2:=run P 8 (BG (e1 P f Y) (DU q2))
def e3:=run P 3 (BG (e2 P q2 f Y) (DU q3))
def e4:=BG (e3 P q2 q3 f Y) (commResult (ZH q2 q3 2) .select 0 undef false)
def d1:=run P 11 (branch (lc P f Y) false)
def d2:=run P 8 (BG (d1 P f Y) (DU q2))
def d3:=run P 3 (BG (d2 P q2 f Y) (DU q3))
def d4:=BG (d3 P q2 q3 f Y) (commResult (ZH q2 q3 0) .select 0 undef false)
end
structure Eg (P:l_) (b5 b2 b3 r q0 q1 q2 q3:Nat) (sv:n_) (n:Int):Prop where
 f01:AB P 3 (ch0 P b5 b2 b3)=some []
 f02:DY P (ch1 P b5 b2 b3) (pr r)=some ([(S_ b5)],pr r)
 f03:AB P 5 (BG (ch1 P b5 b2 b3) (pr r))=some []
 f04:DY P (ch2 P b5 b2 b3 r) (pr r)=some ([(S_ b5)],pr r)
 f05:DY P (ch3 P b5 b2 b3 r) sv=some ([(S_ b2)],sv)
 f06:DY P (ch4 P b5 b2 b3 r sv) (b_ n)=some ([(S_ b3)],b_ n)
 f07:AB P 9 (ch5 P b5 b2 b3 r sv n)=some []
 f08:Dj (run P 9 (ch5 P b5 b2 b3 r sv n))=(136,ZJ P,[],.run,.normal,none,Un P b5 b2 b3 r sv n)
 f09:slotsOf (run P 9 (ch5 P b5 b2 b3 r sv n)) [0,1,8,9]=[pr r,sv,b_ n,b_ 0]
 f10:(run P 9 (ch5 P b5 b2 b3 r sv n)).1.tmps.size=32
 l1:∀(f:Y_) (Y:Z_) (i:Int),AB P 5 (LH P (AY f (sl4 r sv n i)) Y)=some []
 l2:∀(f:Y_) (Y:Z_) (i:Int),ng (lc P (AY f (sl4 r sv n i)) Y)=some (.bool (decide (i<n)))
 l3:∀(f:Y_) (Y:Z_) (i:Int),AB P 4 (branch (lc P (AY f (sl4 r sv n i)) Y) true)=some []
 l4:∀(f:Y_) (Y:Z_) (i:Int),Dj (lr P (AY f (sl4 r sv n i)) Y)=(136,.code (Vu P)::zD P,[],.run,.normal,none,Y)
 l5:∀(f:Y_) (Y:Z_) (i:Int),slotsOf (lr P (AY f (sl4 r sv n i)) Y) [0,1,8,9]=[pr r,sv,b_ n,b_ i]
 l6:∀(f:Y_) (Y:Z_) (i:Int),(lr P (AY f (sl4 r sv n i)) Y).1.tmps.size=32
 s01:∀(f:Y_) (Y:Z_) (i:Int) (w:n_),AB P 28 (RB P (AY f (sl6 r sv n i 0 w)) Y)=some []
 s02:∀(f:Y_) (Y:Z_) (i:Int) (w:n_),Dj (run P 28 (RB P (AY f (sl6 r sv n i 0 w)) Y))=(136,ZJ P,[],.run,.normal,none,Y)
 s03:∀(f:Y_) (Y:Z_) (i:Int) (w:n_),slotsOf (run P 28 (RB P (AY f (sl6 r sv n i 0 w)) Y)) [0,1,8,9]=[pr r,sv,b_ n,b_ (IntKind.i64.wrap (i+1))]
 s04:∀(f:Y_) (Y:Z_) (i:Int) (w:n_),(run P 28 (RB P (AY f (sl6 r sv n i 0 w)) Y)).1.tmps.size=32
 s11:∀(f:Y_) (Y:Z_) (i:Int) (w:n_),AB P 29 (RB P (AY f (sl6 r sv n i 1 w)) Y)=some []
 s12:∀(f:Y_) (Y:Z_) (i:Int) (w:n_),DY P (k1 P (AY f (sl6 r sv n i 1 w)) Y) (DU q0)=some ([(S_ r)],DU q0)
 s13:∀(f:Y_) (Y:Z_) (i:Int) (w:n_),AB P 8 (BG (k1 P (AY f (sl6 r sv n i 1 w)) Y) (DU q0))=some []
 s14:∀(f:Y_) (Y:Z_) (i:Int) (w:n_),DY P (k2 P q0 (AY f (sl6 r sv n i 1 w)) Y) (DU q3)=some ([(T_ r 3)],DU q3)
 s15:∀(f:Y_) (Y:Z_) (i:Int) (w:n_),AB P 3 (BG (k2 P q0 (AY f (sl6 r sv n i 1 w)) Y) (DU q3))=some []
 s16:∀(f:Y_) (Y:Z_) (i:Int) (w:n_),NU P (k3 P q0 q3 (AY f (sl6 r sv n i 1 w)) Y)=some (eH q0 q3 w)
 m11:∀(f:Y_) (Y:Z_) (i:Int) (w:n_),AB P 14 (BG (k3 P q0 q3 (AY f (sl6 r sv n i 1 w)) Y) (commResult (eH q0 q3 w) .select 0 undef false))=some []
 m12:∀(f:Y_) (Y:Z_) (i:Int) (w:n_),DY P (m1 P q0 q3 w (AY f (sl6 r sv n i 1 w)) Y) (DU q1)=some ([(T_ r 1)],DU q1)
 m13:∀(f:Y_) (Y:Z_) (i:Int) (w:n_),AB P 5 (BG (m1 P q0 q3 w (AY f (sl6 r sv n i 1 w)) Y) (DU q1))=some []
 m14:∀(f:Y_) (Y:Z_) (i:Int) (w:n_),DY P (m2 P q0 q1 q3 w (AY f (sl6 r sv n i 1 w)) Y) (DU q3)=some ([(T_ r 3)],DU q3)
 m15:∀(f:Y_) (Y:Z_) (i:Int) (w:n_),AB P 3 (BG (m2 P q0 q1 q3 w (AY f (sl6 r sv n i 1 w)) Y) (DU q3))=some []
 m16:∀(f:Y_) (Y:Z_) (i:Int) (w:n_),NU P (m3 P q0 q1 q3 w (AY f (sl6 r sv n i 1 w)) Y)=some (Gv q1 q3)
 m21:∀(f:Y_) (Y:Z_) (i:Int) (w A:n_),AB P 7 (BG (m3 P q0 q1 q3 w (AY f (sl6 r sv n i 1 w)) Y) (commResult (Gv q1 q3) .select 0 A true))=some []
 q1_:∀(f:Y_) (i:Int) (w:n_),DZ P (some (257,6)) 37 (mq P q0 q1 q3 w (AY f (sl6 r sv n i 1 w)) (Un P b5 b2 b3 r sv n))=some ([r,r],dR P r (Ry P b5 b2 b3 r sv n))
 e11:∀(f:Y_) (Y:Z_) (i:Int) (w:n_),AB P 18 (RB P (AY f (sl6 r sv n i 2 w)) Y)=some []
 e12:∀(f:Y_) (Y:Z_) (i:Int) (w:n_),DY P (e1 P (AY f (sl6 r sv n i 2 w)) Y) (DU q2)=some ([(T_ r 2)],DU q2)
 e13:∀(f:Y_) (Y:Z_) (i:Int) (w:n_),AB P 8 (BG (e1 P (AY f (sl6 r sv n i 2 w)) Y) (DU q2))=some []
 e14:∀(f:Y_) (Y:Z_) (i:Int) (w:n_),DY P (e2 P q2 (AY f (sl6 r sv n i 2 w)) Y) (DU q3)=some ([(T_ r 3)],DU q3)
 e15:∀(f:Y_) (Y:Z_) (i:Int) (w:n_),AB P 3 (BG (e2 P q2 (AY f (sl6 r sv n i 2 w)) Y) (DU q3))=some []
 e16:∀(f:Y_) (Y:Z_) (i:Int) (w:n_),NU P (e3 P q2 q3 (AY f (sl6 r sv n i 2 w)) Y)=some (ZH q2 q3 2)
 e17:∀(f:Y_) (i:Int) (w:n_),DZ P (some (257,6)) 31 (e4 P q2 q3 (AY f (sl6 r sv n i 2 w)) (Un P b5 b2 b3 r sv n))=some ([r,r],dR P r (Ry P b5 b2 b3 r sv n))
 d11:∀(f:Y_) (Y:Z_) (i:Int),AB P 11 (branch (lc P (AY f (sl4 r sv n i)) Y) false)=some []
 d12:∀(f:Y_) (Y:Z_) (i:Int),DY P (d1 P (AY f (sl4 r sv n i)) Y) (DU q2)=some ([(T_ r 2)],DU q2)
 d13:∀(f:Y_) (Y:Z_) (i:Int),AB P 8 (BG (d1 P (AY f (sl4 r sv n i)) Y) (DU q2))=some []
 d14:∀(f:Y_) (Y:Z_) (i:Int),DY P (d2 P q2 (AY f (sl4 r sv n i)) Y) (DU q3)=some ([(T_ r 3)],DU q3)
 d15:∀(f:Y_) (Y:Z_) (i:Int),AB P 3 (BG (d2 P q2 (AY f (sl4 r sv n i)) Y) (DU q3))=some []
 d16:∀(f:Y_) (Y:Z_) (i:Int),NU P (d3 P q2 q3 (AY f (sl4 r sv n i)) Y)=some (ZH q2 q3 0)
 d17:∀(f:Y_) (i:Int),DZ P (some (257,6)) 31 (d4 P q2 q3 (AY f (sl4 r sv n i)) (Un P b5 b2 b3 r sv n))=some ([r,r],dR P r (Ry P b5 b2 b3 r sv n))
section
variable {b5 b2 b3 r q0 q1 q2 q3:Nat} {sv:n_} {n:Int}
theorem kC:Eg prog b5 b2 b3 r q0 q1 q2 q3 sv n:=by
 constructor<;>intros<;>kernel_rfl
end
end Go.Fxa
