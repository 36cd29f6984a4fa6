/- Steps that look at no memory b -/
import Derived.Test.YtmhplpfpcnjekaaGreatA09
import Derived.Test.YtmhplpfpcnjekaaGreatProg
import Derived.Conc.DeferLaws
import Derived.Conc.Own2
open Go.Proofs.Tryz
namespace Go.Fxa
open Go.Conc
end Go.Fxa
namespace Go
open Go.Fxa Go.Conc
def Sem.Ls (P:Program) (s:Option (TypeId×Nat)) {α:Type}:Sem α->Option (List Nat×α)
 | .pure a=>some ([],a)
 | .program k=>(k P).Ls P s
 | .shape b k=>match (k s).Ls P s with
  | some (l,a)=>some (b::l,a)
  | none=>none
 | _=>none
end Go
namespace Go.Fxa
open Go.Conc
section
variable {P:Program} {s:Option (TypeId×Nat)} {w:World} {main:Bool}
theorem kF {α:Type} {e:Sem α} {a:α}:∀{l:List Nat} (_:e.Ls P s=some (l,a)) (_:∀b∈l,w.shape? b=s) (es:Array Event),e.runT P w es=(.ok a w,es):=by
 induction e with
 | pure b=>
  intro l h _ es
  simp only[Sem.Ls,Option.some.injEq,Prod.mk.injEq]at h
  obtain⟨rfl,rfl⟩:=h
  rfl
 | program k ih=>intro l h hl es;exact ih P h hl es
 | shape b k ih=>
  intro l h hl es
  simp only[Sem.Ls]at h
  split at h
  ·rename_i l' a' hk;simp only[Option.some.injEq,Prod.mk.injEq]at h;obtain⟨rfl,rfl⟩:=h;have hb:=hl b (List.mem_cons_self ..);simp only[Sem.runT,hb];exact ih s hk (fun x hx=>hl x (List.mem_cons_of_mem _ hx)) es
  ·cases h
 | _=>intro l h;simp[Sem.Ls]at h
def bare (P:Program) (x:Frame×Z_):Bool:=
 match AP x with
 | some (f,_)=>match P.funcs[f]? with
  | some fn=>fn.body.isNone
  | none=>false
 | none=>false
def Sb (P:Program) (s:Option (TypeId×Nat)) (x:Frame×Z_):Option (List Nat×(Frame×Z_)):=
 if bare P x then none else
 match Nw P x with
 | some y=>some ([],y)
 | none=>match opAt x with
  | some o=>match (execOp x.1.eval o).Ls P s with
   | some (l,.value v)=>some (l,Bj x v)
   | _=>none
  | none=>none
def CQ (P:Program) (s:Option (TypeId×Nat)):Nat->Frame×Z_->Option (List Nat×(Frame×Z_))
 | 0,x=>some ([],x)
 | n+1,x=>match Sb P s x with
  | some (l,y)=>match CQ P s n y with
   | some (l',z)=>some (l++l',z)
   | none=>none
  | none=>none
theorem NG {x y:Frame×Z_} {l:List Nat} (h:Sb P s x=some (l,y)) (hl:∀b∈l,w.shape? b=s):stepG P main (G x.1 x.2) w=.go (G y.1 y.2) w #[]:=by
 unfold Sb at h;split at h
 ·cases h
 split at h
 ·rename_i y' hq;simp only[Option.some.injEq,Prod.mk.injEq]at h;obtain⟨_,rfl⟩:=h;exact quiet_step hq w
 ·split at h
  ·rename_i o ho;split at h
   ·rename_i l' v hr;simp only[Option.some.injEq,Prod.mk.injEq]at h;obtain⟨rfl,rfl⟩:=h;obtain⟨e1,e2⟩:=MI (P:=P) (main:=main) (w:=w) ho;rw[e1];simp only[stepG.apply,kF hr hl #[],if_true,GStep.after,Array.append_empty,e2,Bool.false_eq_true,if_false,seen_none]
    rfl
   ·cases h
  ·cases h
theorem ER {J:World->Prop} {r:Nat} (hJ:∀w,J w->w.shape? r=s):∀{n:Nat} {x z:Frame×Z_} {l:List Nat},CQ P s n x=some (l,z)->(∀b∈l,b=r)->IJ P J main n (G x.1 x.2) (G z.1 z.2)
 | 0,x,z,l,h,_=>by
  simp only[CQ,Option.some.injEq,Prod.mk.injEq]at h
  obtain⟨_,rfl⟩:=h
  exact rfl
 | n+1,x,z,l,h,hl=>by
  simp only[CQ]at h
  split at h
  ·rename_i l1 y hy;split at h
   ·rename_i l2 z' hz;simp only[Option.some.injEq,Prod.mk.injEq]at h;obtain⟨rfl,rfl⟩:=h;exact⟨rfl,G y.1 y.2,fun w hw=>NG hy (fun b hb=>by rw[hl b (List.mem_append_left _ hb)];exact hJ w hw),ER hJ hz (fun b hb=>hl b (List.mem_append_right _ hb))⟩
   ·cases h
  ·cases h
theorem IJ.trans {J:World->Prop} {g g' g'':Goroutine}:∀{n m:Nat},IJ P J main n g g'->IJ P J main m g' g''->IJ P J main (n+m) g g''
 | 0,m,h,h'=>by rw[Nat.zero_add,show g=g' from h];exact h'
 | n+1,m,h,h'=>by
  obtain⟨h1,g1,h2,h3⟩:=h
  rw[show n+1+m=(n+m)+1 from by omega]
  exact⟨h1,g1,h2,h3.trans h'⟩
theorem iC {J:World->Prop} {x:Frame×Z_} {f:FuncId} {args:X_} {e:X_->Sem Value} {v:Value} (h:AP x=some (f,args)) (hE:Entry P f e) (he:e args=.pure v):
  IJ P J main 1 (G x.1 x.2) (G (Bj x v).1 (Bj x v).2):=
 ⟨rfl,_,fun w _=>Et (CR:=#[]) h hE (by rw[he];rfl) (by rw[he];rfl) (by simp),rfl⟩
end
def run (P:Program) (n:Nat) (x:Frame×Z_):Frame×Z_:=
 match CQ P (some (257,6)) n x with
 | some (_,y)=>y
 | none=>x
def Av (P:Program) (n:Nat) (x:Frame×Z_):Option (List Nat):=(CQ P (some (257,6)) n x).map (·.1)
def Je (x:Frame×Z_):Option (FuncId×X_):=
 match x.1.roundOf,x.1.mode,x.1.defers with
 | none,.returning,⟨.fn (.func f) cap,args⟩::_=>if cap.size=0 then some (f,args)else none
 | _,_,_=>none
def Nl (P:Program) (f:FuncId):Func:=(P.funcs[f]?).getD default
theorem EI {P:Program} {f:FuncId} {e:Array Value->Sem Value} (h1:(P.funcs[f]?).isSome=true) (h2:((Nl P f).name== "runtime.NumGoroutine")=false) (h3:(Nl P f).body.isNone=true) (h4:Extern.findNext (Nl P f)=none) (h5:Extern.find (Nl P f)=some e):Entry P f e:=by
 obtain⟨fn,hf⟩:=Option.isSome_iff_exists.1 h1;have:Nl P f=fn:=by unfold Nl;rw[hf];rfl
 rw[this]at h2 h3 h4 h5;exact⟨fn,hf,h2,h3,h4,h5⟩
def OW (x:Frame×Z_):Frame×Z_:=({ x.1 with defers:=x.1.defers.tail },x.2)
def Bv (x:Frame×Z_):Goroutine:=G x.1 x.2
section
variable {P:Program} {main:Bool} {x:Frame×Z_} {w:World}
theorem uy {J:World->Prop} {r n:Nat} {l:List Nat} (hJ:∀w,J w->w.shape? r=some (257,6)) (h:Av P n x=some l) (hl:∀b∈l,b=r):IJ P J main n (Bv x) (Bv (run P n x)):=by
 unfold Av at h;obtain⟨⟨l',y⟩,hy,rfl⟩:=Option.map_eq_some_iff.1 h;have:run P n x=y:=by unfold run;rw[hy]
 rw[this];exact ER hJ hy hl
theorem MV (m:Mark) (hm:∀g,m≠.extern g) {f:FuncId} {args:X_} (h:Je x=some (f,args)) (hE:Entry P f (fun _=>do mark m;pure Extern.Race.none_)):
  stepG P main (Bv x) w=.go (Bv (OW x)) w #[⟨.mark m,false,true⟩]:=by
 obtain⟨⟨fn,tmps,todo,ds,mode,kind,ro⟩,cs⟩:=x;obtain⟨fn',hf,hname,hb,hn,he⟩:=hE;unfold Je at h;simp only at h;split at h
 ·rename_i f' cap args' ds';by_cases hc:cap.size=0
  ·rw[if_pos hc]at h;simp only[Option.some.injEq,Prod.mk.injEq]at h;obtain⟨rfl,rfl⟩:=h;obtain rfl:=Array.eq_empty_of_size_eq_zero hc;exact stepG_unwind_entry (v:=.tuple #[]) (b:=Frame.mk fn tmps [] [] .run kind none) (a:=⟨tmps,_⟩) (todo:=todo) rfl hf hname hb hn he (by simp[Extern.Race.none_]) (by simp) (by
    intro y hy
    simp at hy
    subst hy
    exact⟨rfl,fun g h=>hm g (by cases h;rfl)⟩)
  ·rw[if_neg hc]at h;cases h
 ·cases h
theorem Fy {r:Nat} {a b c d:Value} (w:World) (h:Cv r #[a,b,c,d] 257 w):w.shape? r=some (257,6):=by
 obtain⟨st,sm,h⟩:=h;unfold A7 at h;simp[World.shape?,h]
def GD:Value:=.tuple #[]
section
variable (P:Program) (r:Nat) (Y:Z_)
def wS:Frame×Z_:=(Frame.enter P 137 #[.pointer (some (T_ r 4))] .normal,Y)
def wD:=run P 3 (wS P r Y)
def wL:=run P 19 (Bj (wD P r Y) GD)
def wE:=run P 31 (Bj (wL P r Y) (.int .u64 0))
def wQ:=run P 4 (Bj (wE P r Y) GD)
def wK:=run P 48 (Bj (wL P r Y) (.int .u64 4294967296))
def wL2:=run P 25 (Bj (wK P r Y) (.bool false))
def wEa:=run P 31 (Bj (wL2 P r Y) (.int .u64 0))
def wQa:=run P 4 (Bj (wEa P r Y) GD)
def wW:=run P 20 (Bj (wK P r Y) (.bool true))
def wM:=run P 23 (Bj (wW P r Y) GD)
def wN:=run P 16 (Bj (wM P r Y) GD)
def wEb:=run P 11 (Bj (wN P r Y) (.int .u64 0))
def wQb:=run P 4 (Bj (wEb P r Y) GD)
end
end
section
variable (r:Nat) (Y:Z_)
open Go.Proofs
theorem aa2:Entry prog 172 (Extern.Race.marked .releaseMerge):=EI (by kernel_rfl) (by kernel_rfl) (by kernel_rfl) (by kernel_rfl) (by kernel_rfl)
theorem Vn:Entry prog 173 (fun _=>do mark .disable;pure Extern.Race.none_):=EI (by kernel_rfl) (by kernel_rfl) (by kernel_rfl) (by kernel_rfl) (by kernel_rfl)
theorem TS:Entry prog 174 (fun _=>do mark .enable;pure Extern.Race.none_):=EI (by kernel_rfl) (by kernel_rfl) (by kernel_rfl) (by kernel_rfl) (by kernel_rfl)
theorem jq:Entry prog 175 (fun _=>pure (.bool false)):=EI (by kernel_rfl) (by kernel_rfl) (by kernel_rfl) (by kernel_rfl) (by kernel_rfl)
theorem aa1:Entry prog 180 (Extern.Race.marked .read):=EI (by kernel_rfl) (by kernel_rfl) (by kernel_rfl) (by kernel_rfl) (by kernel_rfl)
theorem aa0:Entry prog 184 (Extern.Sync.semrelease):=EI (by kernel_rfl) (by kernel_rfl) (by kernel_rfl) (by kernel_rfl) (by kernel_rfl)
theorem zZ:Entry prog 188 (Extern.Race.marked .acquire):=EI (by kernel_rfl) (by kernel_rfl) (by kernel_rfl) (by kernel_rfl) (by kernel_rfl)
theorem zY:Entry prog 191 (Extern.Race.marked .write):=EI (by kernel_rfl) (by kernel_rfl) (by kernel_rfl) (by kernel_rfl) (by kernel_rfl)
theorem tN:Entry prog 192 (Extern.Sync.semacquire):=EI (by kernel_rfl) (by kernel_rfl) (by kernel_rfl) (by kernel_rfl) (by kernel_rfl)
theorem e223:Entry prog 223 (Extern.Atomic.update (Op.intArith .add) .u64 true):=EI (by kernel_rfl) (by kernel_rfl) (by kernel_rfl) (by kernel_rfl) (by kernel_rfl)
theorem e224:Entry prog 224 (Extern.Atomic.loadT (.int .u64)):=EI (by kernel_rfl) (by kernel_rfl) (by kernel_rfl) (by kernel_rfl) (by kernel_rfl)
theorem zX:Entry prog 225 (Extern.Atomic.storeT):=EI (by kernel_rfl) (by kernel_rfl) (by kernel_rfl) (by kernel_rfl) (by kernel_rfl)
theorem e228:Entry prog 228 (Extern.Atomic.casT (.int .u64)):=EI (by kernel_rfl) (by kernel_rfl) (by kernel_rfl) (by kernel_rfl) (by kernel_rfl)
theorem ZO:Av prog 3 (wS prog r Y)=some []:=by kernel_rfl
theorem nA:AP (wD prog r Y)=some (173,#[]):=by kernel_rfl
theorem ZI:Av prog 19 (Bj (wD prog r Y) GD)=some []:=by kernel_rfl
theorem fM:AP (wL prog r Y)=some (224,#[.pointer (some (T_ r 4))]):=by kernel_rfl
theorem ZN:Av prog 31 (Bj (wL prog r Y) (.int .u64 0))=some []:=by kernel_rfl
theorem ny:AP (wE prog r Y)=some (174,#[]):=by kernel_rfl
theorem ZF:Av prog 4 (Bj (wE prog r Y) GD)=some [r,r]:=by kernel_rfl
theorem ni:AP (wQ prog r Y)=some (188,#[.pointer (some (T_ r 4))]):=by kernel_rfl
theorem ZK:Av prog 48 (Bj (wL prog r Y) (.int .u64 4294967296))=some []:=by kernel_rfl
theorem fO:AP (wK prog r Y)=some (228,#[.pointer (some (T_ r 4)),.int .u64 4294967296,.int .u64 4294967297]):=by kernel_rfl
theorem VF:Av prog 25 (Bj (wK prog r Y) (.bool false))=some []:=by kernel_rfl
theorem ZJ:AP (wL2 prog r Y)=some (224,#[.pointer (some (T_ r 4))]):=by kernel_rfl
theorem VH:Av prog 31 (Bj (wL2 prog r Y) (.int .u64 0))=some []:=by kernel_rfl
theorem ZM:AP (wEa prog r Y)=some (174,#[]):=by kernel_rfl
theorem VE:Av prog 4 (Bj (wEa prog r Y) GD)=some [r,r]:=by kernel_rfl
theorem ZE:AP (wQa prog r Y)=some (188,#[.pointer (some (T_ r 4))]):=by kernel_rfl
theorem ZB:Av prog 20 (Bj (wK prog r Y) (.bool true))=some [r,r]:=by kernel_rfl
theorem ng:AP (wW prog r Y)=some (191,#[.pointer (some (T_ r 5))]):=by kernel_rfl
theorem ZH:Av prog 23 (Bj (wW prog r Y) GD)=some []:=by kernel_rfl
theorem fJ:AP (wM prog r Y)=some (192,#[.pointer (some (T_ r 5)),.bool false]):=by kernel_rfl
theorem ZG:Av prog 16 (Bj (wM prog r Y) GD)=some []:=by kernel_rfl
theorem nu:AP (wN prog r Y)=some (224,#[.pointer (some (T_ r 4))]):=by kernel_rfl
theorem VG:Av prog 11 (Bj (wN prog r Y) (.int .u64 0))=some []:=by kernel_rfl
theorem ZL:AP (wEb prog r Y)=some (174,#[]):=by kernel_rfl
theorem VD:Av prog 4 (Bj (wEb prog r Y) GD)=some [r,r]:=by kernel_rfl
theorem ZC:AP (wQb prog r Y)=some (188,#[.pointer (some (T_ r 4))]):=by kernel_rfl
end
end Go.Fxa
namespace Go.Fxa
open Go.Conc Go.Proofs
structure NL (P:Program) (r:Nat) (c:Frame) (Y:Z_):Prop where
 Vn:Entry P 173 (fun _=>do mark .disable;pure Extern.Race.none_)
 TS:Entry P 174 (fun _=>do mark .enable;pure Extern.Race.none_)
 zZ:Entry P 188 (Extern.Race.marked .acquire)
 zY:Entry P 191 (Extern.Race.marked .write)
 tN:Entry P 192 Extern.Sync.semacquire
 e224:Entry P 224 (Extern.Atomic.loadT (.int .u64))
 e228:Entry P 228 (Extern.Atomic.casT (.int .u64))
 ZO:Av P 3 (wS P r (c::Y))=some []
 nA:AP (wD P r (c::Y))=some (173,#[])
 ZI:Av P 19 (Bj (wD P r (c::Y)) GD)=some []
 fM:AP (wL P r (c::Y))=some (224,#[.pointer (some (T_ r 4))])
 ZN:Av P 31 (Bj (wL P r (c::Y)) (.int .u64 0))=some []
 ny:AP (wE P r (c::Y))=some (174,#[])
 ZF:Av P 4 (Bj (wE P r (c::Y)) GD)=some [r,r]
 ni:AP (wQ P r (c::Y))=some (188,#[.pointer (some (T_ r 4))])
 ZK:Av P 48 (Bj (wL P r (c::Y)) (.int .u64 4294967296))=some []
 fO:AP (wK P r (c::Y))=some (228,#[.pointer (some (T_ r 4)),.int .u64 4294967296,.int .u64 4294967297])
 VF:Av P 25 (Bj (wK P r (c::Y)) (.bool false))=some []
 ZJ:AP (wL2 P r (c::Y))=some (224,#[.pointer (some (T_ r 4))])
 VH:Av P 31 (Bj (wL2 P r (c::Y)) (.int .u64 0))=some []
 ZM:AP (wEa P r (c::Y))=some (174,#[])
 VE:Av P 4 (Bj (wEa P r (c::Y)) GD)=some [r,r]
 ZE:AP (wQa P r (c::Y))=some (188,#[.pointer (some (T_ r 4))])
 ZB:Av P 20 (Bj (wK P r (c::Y)) (.bool true))=some [r,r]
 ng:AP (wW P r (c::Y))=some (191,#[.pointer (some (T_ r 5))])
 ZH:Av P 23 (Bj (wW P r (c::Y)) GD)=some []
 fJ:AP (wM P r (c::Y))=some (192,#[.pointer (some (T_ r 5)),.bool false])
 ZG:Av P 16 (Bj (wM P r (c::Y)) GD)=some []
 nu:AP (wN P r (c::Y))=some (224,#[.pointer (some (T_ r 4))])
 VG:Av P 11 (Bj (wN P r (c::Y)) (.int .u64 0))=some []
 ZL:AP (wEb P r (c::Y))=some (174,#[])
 VD:Av P 4 (Bj (wEb P r (c::Y)) GD)=some [r,r]
 ZC:AP (wQb P r (c::Y))=some (188,#[.pointer (some (T_ r 4))])
 ZA:CQ P (some (257,6)) 20 (Bj (wQ P r (c::Y)) GD)=some ([],(c.finish (.tuple #[]),Y))
 VC:CQ P (some (257,6)) 20 (Bj (wQa P r (c::Y)) GD)=some ([],(c.finish (.tuple #[]),Y))
 VB:CQ P (some (257,6)) 10 (Bj (wQb P r (c::Y)) GD)=some ([],(c.finish (.tuple #[]),Y))
section
variable {P:Program} {r:Nat} {c:Frame} {Y:Z_} {a b e d:Value}
theorem EB {x:Frame×Z_} {n:Nat} {l:List Nat} (h:Av P n x=some l) (hl:∀y∈l,y=r) (main:Bool):IJ P (Cv r #[a,b,e,d] 257) main n (Bv x) (Bv (run P n x)):=
 uy (fun w hw=>Fy w hw) h hl
theorem GI:∀y∈([]:List Nat),y=r:=by simp
theorem nC:∀y∈[r,r],y=r:=by simp
def waits (P:Program) (r:Nat) (Y:Z_):Wts where
 mD:=Bv (wD P r Y)
 xw:=Bv (Bj (wD P r Y) GD)
 mL:=Bv (wL P r Y)
 mL0:=Bv (Bj (wL P r Y) (.int .u64 0))
 mLK:=Bv (Bj (wL P r Y) (.int .u64 KK))
 mC:=Bv (wK P r Y)
 mC1:=Bv (Bj (wK P r Y) (.bool true))
 mC0:=Bv (Bj (wK P r Y) (.bool false))
 mW:=Bv (wW P r Y)
 mW':=Bv (Bj (wW P r Y) GD)
 fr:=(wM P r Y).1
 cs:=(wM P r Y).2
 rX:=Bv (Bj (wM P r Y) GD)
 k0:=3
 k1:=19
 k2:=48
 k3:=20
 k4:=23
theorem VQ (F:NL P r c Y) {x y:Frame×Z_} {k1 k3:Nat} {l1:List Nat} (h1:Av P k1 x=some l1) (hl1:∀z∈l1,z=r) (hE:AP (run P k1 x)=some (174,#[])) (h2:Av P 4 (Bj (run P k1 x) GD)=some [r,r])
  (hQ:AP (run P 4 (Bj (run P k1 x) GD))=some (188,#[.pointer (some (T_ r 4))])) (h3:CQ P (some (257,6)) k3 (Bj (run P 4 (Bj (run P k1 x) GD)) GD)=some ([],y)):
  tZ P r #[a,b,e,d] 257 (Bv y) (Bv x):=
 ⟨k1,Bv (run P k1 x),Bv (Bj (run P k1 x) GD),4,Bv (run P 4 (Bj (run P k1 x) GD)),Bv (Bj (run P 4 (Bj (run P k1 x) GD)) GD),k3,
  EB h1 hl1 true,rfl,fun w=>Pz .enable (by simp) hE F.TS,EB h2 nC true,rfl,fun w=>ND .acquire (by simp) hQ F.zZ,ER (fun w hw=>Fy w hw) h3 (by simp)⟩
theorem uf (F:NL P r c Y):oV P r #[a,b,e,d] 257 (Bv (wS P r (c::Y))) (G (c.finish (.tuple #[])) Y) (waits P r (c::Y)) where
 runs:=⟨rfl,rfl,rfl,rfl⟩
 s0:=EB F.ZO GI true
 TG w:=Pz .disable (by simp) F.nA F.Vn
 s1:=EB F.ZI GI true
 x9 w hw:=O6 F.fM F.e224 hw
 mP:=VQ F F.ZN GI F.ny F.ZF F.ni F.ZA
 xZ w hw:=O6 F.fM F.e224 hw
 s2:=EB F.ZK GI true
 Gb w hw hz:=eQ F.fO F.e228 hw hz
 miss w hw hz:=Y3 F.fO F.e228 hw hz (by decide)
 lo0:=⟨25,Bv (wL2 P r (c::Y)),_,EB F.VF GI true,rfl,fun w hw=>O6 F.ZJ F.e224 hw,VQ F F.VH GI F.ZM F.VE F.ZE F.VC⟩
 s3:=EB F.ZB nC true
 wr w:=ND .write (by simp) F.ng F.zY
 s4:=EB F.ZH GI true
 af8 w hw hz:=fE F.fJ rfl F.tN hw (by decide) hz
 xQ w hw:=Rb F.fJ rfl F.tN hw
 lo1:=⟨16,Bv (wN P r (c::Y)),_,EB F.ZG GI true,rfl,fun w hw=>O6 F.nu F.e224 hw,VQ F F.VG GI F.ZL F.VD F.ZC F.VB⟩
end
section
variable (r:Nat) (c:Frame) (Y:Z_)
theorem ZA:CQ prog (some (257,6)) 20 (Bj (wQ prog r (c::Y)) GD)=some ([],(c.finish (.tuple #[]),Y)):=by kernel_rfl
theorem VC:CQ prog (some (257,6)) 20 (Bj (wQa prog r (c::Y)) GD)=some ([],(c.finish (.tuple #[]),Y)):=by kernel_rfl
theorem VB:CQ prog (some (257,6)) 10 (Bj (wQb prog r (c::Y)) GD)=some ([],(c.finish (.tuple #[]),Y)):=by kernel_rfl
theorem aN:NL prog r c Y:=
 ⟨Vn,TS,zZ,zY,tN,e224,e228,ZO r _,nA r _,ZI r _,fM r _,ZN r _,ny r _,ZF r _,ni r _,ZK r _,fO r _,VF r _,ZJ r _,VH r _,ZM r _,VE r _,ZE r _,
  ZB r _,ng r _,ZH r _,fJ r _,ZG r _,nu r _,VG r _,ZL r _,VD r _,ZC r _,ZA r c Y,VC r c Y,VB r c Y⟩
end
section
variable (P:Program) (r:Nat) (Y:Z_)
def dS:Frame×Z_:=(Frame.enter P 135 #[.pointer (some (T_ r 4))] .deferred,Y)
def dR:=run P 15 (dS P r Y)
def dD:=run P 3 (Bj (dR P r Y) GD)
def dB:=run P 11 (Bj (dD P r Y) GD)
def dA:=run P 22 (Bj (dB P r Y) (.bool false))
def dF:=run P 87 (Bj (dA P r Y) (.int .u64 0))
def dM:=run P 103 (Bj (dA P r Y) (.int .u64 1))
def dT:=run P 20 (Bj (dM P r Y) (.int .u64 1))
def dP:=run P 27 (Bj (dT P r Y) GD)
def dG:=run P 17 (Bj (dP P r Y) GD)
def aS:Frame×Z_:=(Frame.enter P 133 #[.pointer (some (T_ r 4)),.int .i64 1] .normal,Y)
def aD:=run P 12 (aS P r Y)
def aB:=run P 11 (Bj (aD P r Y) GD)
def aA:=run P 22 (Bj (aB P r Y) (.bool false))
def aR:=run P 53 (Bj (aA P r Y) (.int .u64 4294967296))
def aE:=run P 39 (Bj (aR P r Y) GD)
end
def f134 (tm:X_) (td:List Item):Frame:=Frame.mk 134 tm td [] .returning .deferred none
def BU (P:Program):Frame:={ (default:Frame)with fn:=P.funcs.size,defers:=[],mode:=.panicking [goexitEntry] }
structure Lh (P:Program) (r:Nat) (tm:X_) (td:List Item):Prop where
 aa2:Entry P 172 (Extern.Race.marked .releaseMerge)
 Vn:Entry P 173 (fun _=>do mark .disable;pure Extern.Race.none_)
 TS:Entry P 174 (fun _=>do mark .enable;pure Extern.Race.none_)
 jq:Entry P 175 (fun _=>pure (.bool false))
 aa0:Entry P 184 Extern.Sync.semrelease
 e223:Entry P 223 (Extern.Atomic.update (Op.intArith .add) .u64 true)
 e224:Entry P 224 (Extern.Atomic.loadT (.int .u64))
 zX:Entry P 225 Extern.Atomic.storeT
 oQ:Av P 15 (dS P r [f134 tm td,BU P])=some [r,r]
 nO:AP (dR P r [f134 tm td,BU P])=some (172,#[.pointer (some (T_ r 4))])
 Z8:Av P 3 (Bj (dR P r [f134 tm td,BU P]) GD)=some []
 nU:AP (dD P r [f134 tm td,BU P])=some (173,#[])
 Z9:Av P 11 (Bj (dD P r [f134 tm td,BU P]) GD)=some []
 nV:AP (dB P r [f134 tm td,BU P])=some (175,#[])
 ae:Av P 22 (Bj (dB P r [f134 tm td,BU P]) (.bool false))=some []
 gp:AP (dA P r [f134 tm td,BU P])=some (223,#[.pointer (some (T_ r 4)),.int .u64 18446744069414584320])
 Z6:Av P 87 (Bj (dA P r [f134 tm td,BU P]) (.int .u64 0))=some []
 nT:Je (dF P r [f134 tm td,BU P])=some (174,#[])
 Z7:CQ P (some (257,6)) 5 (OW (dF P r [f134 tm td,BU P]))=some ([],(BU P,[]))
 ZZ:Av P 103 (Bj (dA P r [f134 tm td,BU P]) (.int .u64 1))=some []
 nR:AP (dM P r [f134 tm td,BU P])=some (224,#[.pointer (some (T_ r 4))])
 ZX:Av P 20 (Bj (dM P r [f134 tm td,BU P]) (.int .u64 1))=some []
 nN:AP (dT P r [f134 tm td,BU P])=some (225,#[.pointer (some (T_ r 4)),.int .u64 0])
 ZY:Av P 27 (Bj (dT P r [f134 tm td,BU P]) GD)=some []
 nQ:AP (dP P r [f134 tm td,BU P])=some (184,#[.pointer (some (T_ r 5)),.bool false,.int .i64 0])
 Z4:Av P 17 (Bj (dP P r [f134 tm td,BU P]) GD)=some []
 nS:Je (dG P r [f134 tm td,BU P])=some (174,#[])
 Z5:CQ P (some (257,6)) 5 (OW (dG P r [f134 tm td,BU P]))=some ([],(BU P,[]))
 wake:mayWake P (Bv (dP P r [f134 tm td,BU P]))=true
structure Sn (P:Program) (r:Nat) (c:Frame) (Y:Z_):Prop where
 Vn:Entry P 173 (fun _=>do mark .disable;pure Extern.Race.none_)
 TS:Entry P 174 (fun _=>do mark .enable;pure Extern.Race.none_)
 jq:Entry P 175 (fun _=>pure (.bool false))
 aa1:Entry P 180 (Extern.Race.marked .read)
 e223:Entry P 223 (Extern.Atomic.update (Op.intArith .add) .u64 true)
 aF:Av P 12 (aS P r (c::Y))=some []
 nY:AP (aD P r (c::Y))=some (173,#[])
 aG:Av P 11 (Bj (aD P r (c::Y)) GD)=some []
 nZ:AP (aB P r (c::Y))=some (175,#[])
 aH:Av P 22 (Bj (aB P r (c::Y)) (.bool false))=some []
 og:AP (aA P r (c::Y))=some (223,#[.pointer (some (T_ r 4)),.int .u64 4294967296])
 ay:Av P 53 (Bj (aA P r (c::Y)) (.int .u64 4294967296))=some [r,r]
 nW:AP (aR P r (c::Y))=some (180,#[.pointer (some (T_ r 5))])
 az:Av P 39 (Bj (aR P r (c::Y)) GD)=some []
 nX:Je (aE P r (c::Y))=some (174,#[])
 aC:CQ P (some (257,6)) 1 (OW (aE P r (c::Y)))=some ([],(c.finish (.tuple #[]),Y))
section
variable {P:Program} {r:Nat} {a b e d:Value}
theorem OG {s:Option (TypeId×Nat)} {δ m:Nat}:∀{n:Nat} {x y:Frame×Z_},CQ P s n x=some ([],y)->QuitsD P m δ (Bv y)->QuitsD P (n+m) δ (Bv x)
 | 0,x,y,h,hq=>by
  simp only[CQ,Option.some.injEq,Prod.mk.injEq,true_and]at h
  subst h
  rw[Nat.zero_add];exact hq
 | n+1,x,y,h,hq=>by
  simp only[CQ]at h
  split at h
  ·rename_i l1 z hz;split at h
   ·rename_i l2 z' hz';simp only[Option.some.injEq,Prod.mk.injEq,List.append_eq_nil_iff]at h;obtain⟨⟨rfl,rfl⟩,rfl⟩:=h;rw[show n+1+m=(n+m)+1 from by omega];exact .ctl rfl (fun w=>NG hz (by simp)) (OG hz' hq)
   ·cases h
  ·cases h
theorem UW {δ m n:Nat} {x:Frame×Z_} (h:Av P n x=some []) (hq:QuitsD P m δ (Bv (run P n x))):QuitsD P (n+m) δ (Bv x):=by
 unfold Av at h;obtain⟨⟨l,y⟩,hy,rfl⟩:=Option.map_eq_some_iff.1 h;have:run P n x=y:=by unfold run;rw[hy]
 rw[this]at hq;exact OG hy hq
theorem bV:QuitsD P 1 0 (Bv (BU P,[])):=by
 refine .inr ⟨rfl,{ Bv (BU P,[])with status:=.finished },#[],by simp,fun w=>?_,rfl,rfl⟩;simp[Bv,G,BU,stepG,unwind,Frame.catches,goexitEntry]
 rfl
theorem PT {x:Frame×Z_} (h:Je x=some (174,#[])) (he:Entry P 174 (fun _=>do mark .enable;pure Extern.Race.none_)) (hend:CQ P (some (257,6)) 5 (OW x)=some ([],(BU P,[]))):QuitsD P 7 1 (Bv x):=
 .said ⟨.mark .enable,false,true⟩ rfl rfl (fun w=>MV .enable (by simp) h he) (OG (m:=1) hend bV)
def outs (P:Program) (r:Nat) (Y:Z_):NR where
 gR:=Bv (dR P r Y)
 gR':=Bv (Bj (dR P r Y) GD)
 gD:=Bv (dD P r Y)
 gD':=Bv (Bj (dD P r Y) GD)
 gA:=Bv (dA P r Y)
 gF:=Bv (Bj (dA P r Y) (.int .u64 0))
 gW:=Bv (Bj (dA P r Y) (.int .u64 1))
 gS:=Bv (dT P r Y)
 gS':=Bv (Bj (dT P r Y) GD)
 gP:=Bv (dP P r Y)
 gP':=Bv (Bj (dP P r Y) GD)
 k1:=3
 k2:=11+(1+22)
 k3:=103+(1+20)
 k4:=27
 nF:=87+7
 nP:=17+7
theorem OI {g g':Goroutine}:∀{n:Nat},IJ P (Cv r #[a,b,e,d] 257) false n g g'->l8 P r #[a,b,e,d] 257 n g g'
 | 0,h=>h
 | n+1,h=>by
  obtain⟨h1,g1,h2,h3⟩:=h
  exact⟨h1,g1,[],.inl rfl,fun w hw=>h2 w ⟨1,0,hw⟩,OI h3⟩
theorem l8.trans {g g' g'':Goroutine}:∀{n m:Nat},l8 P r #[a,b,e,d] 257 n g g'->l8 P r #[a,b,e,d] 257 m g' g''->l8 P r #[a,b,e,d] 257 (n+m) g g''
 | 0,m,h,h'=>by rw[Nat.zero_add,show g=g' from h];exact h'
 | n+1,m,h,h'=>by
  obtain⟨h1,g1,l,h2,h3,h4⟩:=h
  rw[show n+1+m=(n+m)+1 from by omega]
  exact⟨h1,g1,l,h2,h3,h4.trans h'⟩
theorem Rp {tm:X_} {td:List Item} (F:Lh P r tm td):KE P r #[a,b,e,d] 257 (outs P r [f134 tm td,BU P]) where
 runs:=⟨rfl,rfl,rfl,rfl,rfl⟩
 rel w:=ND .releaseMerge (by simp) F.nO F.aa2
 s1:=EB F.Z8 GI false
 TG w:=Pz .disable (by simp) F.nU F.Vn
 s2:=(EB F.Z9 GI false).trans ((iC F.nV F.jq rfl).trans (EB F.ae GI false))
 add0 w hw hz:=av F.gp F.e223 hw hz
 mP:=UW F.Z6 (PT F.nT F.TS F.Z7)
 add1 w hw hz:=av F.gp F.e223 hw hz
 s3:=(OI (EB F.ZZ GI false)).trans (l8.trans (n:=1) (g':=Bv (Bj (dM P r [f134 tm td,BU P]) (.int .u64 1))) ⟨rfl,_,_,.inr rfl,fun w hw=>O6 F.nR F.e224 hw.cellSt,rfl⟩ (OI (EB F.ZX GI false)))
 sto w hw hz:=pW F.nN F.zX hw hz
 s4:=EB F.ZY GI false
 sem w hw hz:=bS F.nQ rfl F.aa0 hw hz
 ai5:=UW F.Z4 (PT F.nS F.TS F.Z5)
 wake:=⟨F.wake,rfl⟩
def adds (P:Program) (r:Nat) (Y:Z_):aa5 where
 mD:=Bv (aD P r Y)
 xw:=Bv (Bj (aD P r Y) GD)
 mA:=Bv (aA P r Y)
 mA':=Bv (Bj (aA P r Y) (.int .u64 4294967296))
 mR:=Bv (aR P r Y)
 mR':=Bv (Bj (aR P r Y) GD)
 mE:=Bv (aE P r Y)
 mE':=Bv (OW (aE P r Y))
 k0:=12
 k1:=11+(1+22)
 k2:=53
 k3:=39
 k4:=1
theorem ad9 {c:Frame} {Y:Z_} (F:Sn P r c Y):yH P r #[a,b,e,d] 257 (Bv (aS P r (c::Y))) (G (c.finish (.tuple #[])) Y) (adds P r (c::Y)) where
 runs:=⟨rfl,rfl,rfl,rfl⟩
 s0:=EB F.aF GI true
 TG w:=Pz .disable (by simp) F.nY F.Vn
 s1:=(EB F.aG GI true).trans ((iC F.nZ F.jq rfl).trans (EB F.aH GI true))
 add w hw hz:=av F.og F.e223 hw hz
 s2:=EB F.ay nC true
 rd w:=ND .read (by simp) F.nW F.aa1
 s3:=EB F.az GI true
 ena w:=MV .enable (by simp) F.nX F.TS
 s4:=ER (fun w hw=>Fy w hw) F.aC (by simp)
end
section
variable (r:Nat) (tm:X_) (td:List Item) (c:Frame) (Y:Z_)
theorem oQ:Av prog 15 (dS prog r [f134 tm td,BU prog])=some [r,r]:=by kernel_rfl
theorem nO:AP (dR prog r [f134 tm td,BU prog])=some (172,#[.pointer (some (T_ r 4))]):=by kernel_rfl
theorem Z8:Av prog 3 (Bj (dR prog r [f134 tm td,BU prog]) GD)=some []:=by kernel_rfl
theorem nU:AP (dD prog r [f134 tm td,BU prog])=some (173,#[]):=by kernel_rfl
theorem Z9:Av prog 11 (Bj (dD prog r [f134 tm td,BU prog]) GD)=some []:=by kernel_rfl
theorem nV:AP (dB prog r [f134 tm td,BU prog])=some (175,#[]):=by kernel_rfl
theorem ae:Av prog 22 (Bj (dB prog r [f134 tm td,BU prog]) (.bool false))=some []:=by kernel_rfl
theorem gp:AP (dA prog r [f134 tm td,BU prog])=some (223,#[.pointer (some (T_ r 4)),.int .u64 18446744069414584320]):=by kernel_rfl
theorem Z6:Av prog 87 (Bj (dA prog r [f134 tm td,BU prog]) (.int .u64 0))=some []:=by kernel_rfl
theorem nT:Je (dF prog r [f134 tm td,BU prog])=some (174,#[]):=by kernel_rfl
theorem Z7:CQ prog (some (257,6)) 5 (OW (dF prog r [f134 tm td,BU prog]))=some ([],(BU prog,[])):=by kernel_rfl
theorem ZZ:Av prog 103 (Bj (dA prog r [f134 tm td,BU prog]) (.int .u64 1))=some []:=by kernel_rfl
theorem nR:AP (dM prog r [f134 tm td,BU prog])=some (224,#[.pointer (some (T_ r 4))]):=by kernel_rfl
theorem ZX:Av prog 20 (Bj (dM prog r [f134 tm td,BU prog]) (.int .u64 1))=some []:=by kernel_rfl
theorem nN:AP (dT prog r [f134 tm td,BU prog])=some (225,#[.pointer (some (T_ r 4)),.int .u64 0]):=by kernel_rfl
theorem ZY:Av prog 27 (Bj (dT prog r [f134 tm td,BU prog]) GD)=some []:=by kernel_rfl
theorem nQ:AP (dP prog r [f134 tm td,BU prog])=some (184,#[.pointer (some (T_ r 5)),.bool false,.int .i64 0]):=by kernel_rfl
theorem Z4:Av prog 17 (Bj (dP prog r [f134 tm td,BU prog]) GD)=some []:=by kernel_rfl
theorem nS:Je (dG prog r [f134 tm td,BU prog])=some (174,#[]):=by kernel_rfl
theorem Z5:CQ prog (some (257,6)) 5 (OW (dG prog r [f134 tm td,BU prog]))=some ([],(BU prog,[])):=by kernel_rfl
theorem vP:mayWake prog (Bv (dP prog r [f134 tm td,BU prog]))=true:=by kernel_rfl
theorem dQ:Lh prog r tm td:=
 ⟨aa2,Vn,TS,jq,aa0,e223,e224,zX,oQ r tm td,nO r tm td,Z8 r tm td,nU r tm td,Z9 r tm td,nV r tm td,ae r tm td,gp r tm td,Z6 r tm td,nT r tm td,Z7 r tm td,ZZ r tm td,nR r tm td,ZX r tm td,nN r tm td,ZY r tm td,nQ r tm td,Z4 r tm td,nS r tm td,Z5 r tm td,vP r tm td⟩
theorem aF:Av prog 12 (aS prog r (c::Y))=some []:=by kernel_rfl
theorem nY:AP (aD prog r (c::Y))=some (173,#[]):=by kernel_rfl
theorem aG:Av prog 11 (Bj (aD prog r (c::Y)) GD)=some []:=by kernel_rfl
theorem nZ:AP (aB prog r (c::Y))=some (175,#[]):=by kernel_rfl
theorem aH:Av prog 22 (Bj (aB prog r (c::Y)) (.bool false))=some []:=by kernel_rfl
theorem og:AP (aA prog r (c::Y))=some (223,#[.pointer (some (T_ r 4)),.int .u64 4294967296]):=by kernel_rfl
theorem ay:Av prog 53 (Bj (aA prog r (c::Y)) (.int .u64 4294967296))=some [r,r]:=by kernel_rfl
theorem nW:AP (aR prog r (c::Y))=some (180,#[.pointer (some (T_ r 5))]):=by kernel_rfl
theorem az:Av prog 39 (Bj (aR prog r (c::Y)) GD)=some []:=by kernel_rfl
theorem nX:Je (aE prog r (c::Y))=some (174,#[]):=by kernel_rfl
theorem aC:CQ prog (some (257,6)) 1 (OW (aE prog r (c::Y)))=some ([],(c.finish (.tuple #[]),Y)):=by kernel_rfl
theorem lu:Sn prog r c Y:=
 ⟨Vn,TS,jq,aa1,e223,aF r c Y,nY r c Y,aG r c Y,nZ r c Y,aH r c Y,og r c Y,ay r c Y,nW r c Y,az r c Y,nX r c Y,aC r c Y⟩
end
end Go.Fxa
namespace Go.Fxa
open Go.Conc
open Go.ConcN (sumTo upd sumTo_upd upd_ne upd_same)
def RW (P:Program) (main:Bool) (K:World->Prop) (Still:Loc->Prop):Nat->Goroutine->Goroutine->Prop
 | 0,g,g'=>g=g'
 | n+1,g,g'=>g.status=.running/\∃g1 es,(∀e∈es,EvR Still e)/\(∀w,K w->stepG P main g w=.go g1 w es)/\RW P main K Still n g1 g'
section
variable {P:Program} {Z:Nat->Prop} {Ac Still:Loc->Prop} {Mem Ak:Nat->Prop} {main:Bool} {K:World->Prop} {h j:Nat} {By:Nat->Goroutine->World->Trace->Prop}
theorem RW.trans {g g' g'':Goroutine}:∀{n m:Nat},RW P main K Still n g g'->RW P main K Still m g' g''->RW P main K Still (n+m) g g''
 | 0,m,h,h'=>by rw[Nat.zero_add,show g=g' from h];exact h'
 | n+1,m,h,h'=>by
  obtain⟨h1,g1,es,h2,h3,h4⟩:=h
  rw[show n+1+m=(n+m)+1 from by omega]
  exact⟨h1,g1,es,h2,h3,h4.trans h'⟩
theorem RW.Vu {g g':Goroutine}:∀{n:Nat},IJ P K main n g g'->RW P main K Still n g g'
 | 0,h=>h
 | n+1,h=>by
  obtain⟨h1,g1,h2,h3⟩:=h
  exact⟨h1,g1,#[],by simp,h2,RW.Vu h3⟩
theorem RW.read {x:Frame×Z_} {o:Oper} {v:Value} {vs:U_} {TK:List Addr} (h:opAt x=some o) (hf:(execOp x.1.eval o).feed P vs=some (TK,.value v)) (hc:∀w,K w->Cells w TK vs) (hs:∀a∈TK,Still (.cell a)) (hq:(P.funcs[x.1.fn]?).any (·.norace)=false):
  RW P main K Still 1 (Bv x) (Bv (Bj x v)):=
 ⟨rfl,_,FK TK,fun e he=>by
  simp only[FK,List.mem_toArray,List.mem_map]at he
  obtain⟨a,ha,rfl⟩:=he
  exact⟨a,rfl,hs a ha⟩,fun w hw=>gZ h hf (hc w hw) hq,rfl⟩
theorem RW.status {g':Goroutine} (hs:g'.status=.running):∀{n:Nat} {g:Goroutine},RW P main K Still n g g'->g.status=.running
 | 0,_,h=>h ▸ hs
 | _+1,_,h=>h.1
theorem RW.seat {cases:Array CommCase} {shape:CommShape} {home:Goroutine->Prop} {g':Goroutine} {k:Nat} (hr:g'.status=.running) (hs:Fu P main K Still cases shape home k g'):∀{n:Nat} {g:Goroutine},RW P main K Still n g g'->Fu P main K Still cases shape home (n+k) g
 | 0,g,h=>by rw[Nat.zero_add,show g=g' from h];exact hs
 | n+1,g,h=>by
  obtain⟨h1,g1,es,h2,h3,h4⟩:=h
  rw[show n+1+k=(n+k)+1 from by omega]
  exact⟨g1,es,h4.status hr,h2,h3,RW.seat hr hs h4⟩
theorem vO {S0:Loc->Prop} (hSS:∀l,S0 l->¬Ac l) {B:Nat} {e:Event} (he:EvR S0 e) (hb:∀a,S0 (.cell a)->a.block<B):Ux Ac Still B e:=by
 obtain⟨a,rfl,hs⟩:=he;refine⟨fun x hx=>?_,by simp,by simp,hb a hs,by simp⟩;obtain rfl:=Option.some.inj hx;exact⟨fun _=>⟨rfl,hSS _ hs⟩,fun hsh=>(hSS _ hs hsh).elim⟩
theorem ZQ {S0:Loc->Prop} (hJ:∀n b w t,By n b w t->∀d,K (w.at d)) (BH:∀w a,K w->S0 (.cell a)->a.block<w.heap.size) (hSS:∀l,S0 l->¬Ac l) (O:Fp P Z Ac Still (fun B t=>PX Ac Still Mem Ak B h t) j By) {a':Goroutine}:
  ∀(k:Nat) {a:Goroutine} (_:RW P (h==0) K S0 k a a') {n B:Nat} {gs:Array Goroutine} {w:World} {sl:Option (W_)} {t:Trace} {q:Nat->Nat},
  gs[h]?=some a->Duo P Ac Still Mem Ak B h j By n gs w t q->AB P gs w sl t fun AZ w' t'=>∃q' n' B',AZ[h]?=some a'/\BO Z w w'/\B<=B'/\Duo P Ac Still Mem Ak B' h j By n' AZ w' t' q'
 | 0,a,hs,n,B,gs,w,sl,t,q,h0,D=>.now ⟨q,n,B,by rw[h0,show a=a' from hs],BO.refl w,Nat.le_refl _,D⟩
 | k+1,a,hs,n,B,gs,w,sl,t,q,h0,D=>by
  obtain⟨Bg,a1,es,Ex,ay7,FD⟩:=hs
  refine go_duo (IQ:=Mem) (Loose':=Ak) O h0 Bg D D.mem fun B1 hB1 w1 BA n1 b1 t1 ho hB hp d=>?_
  have EY:∀e∈es,Ux Ac Still B1 e:=fun e he=>vO hSS (Ex e he) fun a ha=>Nat.lt_of_lt_of_le (BH _ a (hJ _ _ _ _ hB d) ha) BA
  refine⟨a1,w1.at d,es,B1,ay7 _ (hJ _ _ _ _ hB d),Nat.le_refl _,BA,hp.own EY,By,n1,?_,fun AZ q' n' hz h1 D1 Cz=>?_⟩
  ·rw[woken_of_again (O.again hB (w1.at d) (fun _ _=>rfl))];exact O.calm (w1.at d) _ hB (fun _ _=>rfl) (Ej D.ne EY)
  ·exact(ZQ hJ BH hSS O k FD h1 D1).mono fun gs'' Jl t'' ⟨q'',n'',B'',j1,j2,jb,j3⟩=>⟨q'',n'',B'',j1,ho.trans ((BO.at w1 d).trans j2),Nat.le_trans hB1 jb,j3⟩
end
end Go.Fxa
namespace Go.Fxa
open Go.Conc
def ah (x:Frame×Z_):Option Value:=match x.1.roundOf,x.1.mode,x.1.todo with
 | none,.run,.code (.cond c _ _)::_=>some (x.1.eval c)
 | _,_,_=>none
def branch (x:Frame×Z_) (t:Bool):Frame×Z_:=match x.1.todo with
 | .code (.cond _ a b)::k=>({ x.1 with todo:=.code (if t then a else b)::k },x.2)
 | _=>x
theorem Ye {P:Program} {J:World->Prop} {main:Bool} {x:Frame×Z_} {t:Bool} (h:ah x=some (.bool t)):IJ P J main 1 (Bv x) (Bv (branch x t)):=by
 obtain⟨⟨fn,tmps,todo,ds,mode,kind,ro⟩,cs⟩:=x;unfold ah at h;simp only at h;split at h
 ·rename_i c a b k;have hv:=Option.some.inj h;refine⟨rfl,_,fun w _=>?_,rfl⟩;simp[Bv,branch,G,stepG,stepG.exec,hv]
 ·cases h
def pr (r:Nat):Value:=R_ r
def CK (q:Nat):Value:=.chan (some q)
def fH (f:Y_):X_:=((List.range 32).map f).toArray
def AR (f:Y_):List (Nat×Value)->Nat->Value
 | [],i=>f i
 | (a,v)::l,i=>if i=a then v else AR f l i
def u0:Nat->Value:=fun _=>.int .i64 0
def Kg (P:Program) (x:Frame×Z_):Option (Array CommCase):=match opAt x with
 | some o=>match (execOp x.1.eval o).GN P with
  | some (.comm cs true .select)=>some cs
  | _=>none
 | none=>none
def CL (P:Program) (x:Frame×Z_) (v:Value):Option (List Addr×Value):=match opAt x with
 | some o=>match (execOp x.1.eval o).feed P [v]with
  | some (l,.value y)=>if(P.funcs[x.1.fn]?).any (·.norace)then none else some (l,y)
  | _=>none
 | none=>none
def Ch (x:Frame×Z_):FuncId×List Item×List Deferred×FrameMode×CallKind×Option Nat×Z_:=(x.1.fn,x.1.todo,x.1.defers,x.1.mode,x.1.kind,x.1.roundOf,x.2)
def slot (x:Frame×Z_) (i:Nat):Value:=x.1.tmps.getD i undef
def slotsOf (x:Frame×Z_) (l:List Nat):U_:=l.map (slot x)
theorem JM {f:Nat->Value}:∀{l:List (Nat×Value)},(∀p∈l,f p.1=p.2)->AR f l=f
 | [],_=>rfl
 | (a,v)::l,h=>by
  funext i
  simp only[AR]
  split
  ·rename_i e;rw[e];exact(h _ (List.mem_cons_self ..)).symm
  ·exact congrFun (JM fun p hp=>h p (List.mem_cons_of_mem _ hp)) i
theorem wV {T:X_} (h:T.size=32):T=fH fun i=>T.getD i undef:=by
 apply Array.ext
 ·simp[fH,h]
 ·intro i h1 h2;simp[fH,Array.getD,h1]
theorem kJ {x:Frame×Z_} {fn:FuncId} {todo:List Item} {ds:List Deferred} {m:FrameMode} {kd:CallKind} {ro:Option Nat} {Y:Z_} (h:Ch x=(fn,todo,ds,m,kd,ro,Y)) (hs:x.1.tmps.size=32):x=(Frame.mk fn (fH (slot x)) todo ds m kd ro,Y):=by
 obtain⟨⟨a,b,c,d,e,f,g⟩,y⟩:=x;simp only[Ch,Prod.mk.injEq]at h;obtain⟨rfl,rfl,rfl,rfl,rfl,rfl,rfl⟩:=h;simp only[Prod.mk.injEq,Frame.mk.injEq,and_true,true_and];exact wV hs
section
variable {P:Program} {main:Bool} {K:World->Prop} {Still:Loc->Prop} {x:Frame×Z_}
theorem RW.at {v y:Value} {ad:Addr} (h:CL P x v=some ([ad],y)) (hc:∀w,K w->w.cell? ad=some v) (hs:Still (.cell ad)):RW P main K Still 1 (Bv x) (Bv (Bj x y)):=by
 unfold CL at h;split at h
 ·rename_i o ho;split at h
  ·rename_i l y' hf;split at h
   ·cases h
   ·rename_i hq;simp only[Option.some.injEq,Prod.mk.injEq]at h;obtain⟨rfl,rfl⟩:=h;exact RW.read ho hf (fun w hw=>⟨hc w hw,trivial⟩) (by simpa using hs) (by simpa using hq)
  ·cases h
 ·cases h
theorem Gj {cs:Array CommCase} (h:Kg P x=some cs) (w:World):stepG P main (Bv x) w=.comm (Bv x) cs true .select w #[]:=by
 unfold Kg at h;split at h
 ·rename_i o ho;split at h
  ·rename_i cs' hf;obtain rfl:=Option.some.inj h;exact iJ ho hf
  ·cases h
 ·cases h
theorem RW.Av {n:Nat} (h:Av P n x=some []):RW P main K Still n (Bv x) (Bv (run P n x)):=by
 unfold Fxa.Av at h;obtain⟨⟨l,y⟩,hy,rfl⟩:=Option.map_eq_some_iff.1 h;have e:run P n x=y:=by unfold run;rw[hy]
 rw[e];have:∀{n:Nat} {x y:Frame×Z_},CQ P (some (257,6)) n x=some ([],y)->IJ P K main n (Bv x) (Bv y):=by
  intro n
  induction n with
  | zero=>
   intro x y h
   simp only[CQ,Option.some.injEq,Prod.mk.injEq,true_and]at h
   subst h;exact rfl
  | succ n ih=>
   intro x y h
   simp only[CQ]at h
   split at h
   ·rename_i l1 z hz;split at h
    ·rename_i l2 z' hz';simp only[Option.some.injEq,Prod.mk.injEq,List.append_eq_nil_iff]at h;obtain⟨⟨rfl,rfl⟩,rfl⟩:=h;exact⟨rfl,_,fun w _=>NG hz (by simp),ih hz'⟩
    ·cases h
   ·cases h
 exact RW.Vu (this hy)
end
section
variable (P:Program) (b5 b2 b3 r q0 q1 q2 q3:Nat) (sv:Value) (n i:Int) (w A:Value) (f:Y_) (Y:Z_)
def ch0:Frame×Z_:=({ (default:Frame)with fn:=P.funcs.size,defers:=[⟨.fn (.func 134) #[pr b5,pr b2,pr b3],#[]⟩],mode:=.panicking [goexitEntry] },[])
def ch1:=run P 3 (ch0 P b5 b2 b3)
def ch2:=run P 5 (Bj (ch1 P b5 b2 b3) (pr r))
def ch3:=Bj (ch2 P b5 b2 b3 r) (pr r)
def ch4:=Bj (ch3 P b5 b2 b3 r) sv
def zg:=Bj (ch4 P b5 b2 b3 r sv) (.int .i64 n)
def Qa:Z_:=(run P 9 (zg P b5 b2 b3 r sv n)).2
def Vr:List Item:=(run P 8 (Frame.enter P 136 #[] .normal,[])).1.todo
def LH:Frame×Z_:=(Frame.mk 136 (fH f) (Vr P) [] .run .normal none,Y)
def lc:=run P 5 (LH P f Y)
def lr:=run P 4 (branch (lc P f Y) true)
def nD:List Item:=(lr P u0 []).1.todo.tail
def RB:Frame×Z_:=(Frame.mk 136 (fH f) (nD P) [] .run .normal none,Y)
def k1:=run P 29 (RB P f Y)
def k2:=run P 8 (Bj (k1 P f Y) (CK q0))
def k3:=run P 3 (Bj (k2 P q0 f Y) (CK q3))
end
end Go.Fxa
namespace Go.Fxa
open Go.Conc Go.Proofs
def JY (r:Nat) (sv:Value) (n i:Int):List (Nat×Value):=[(0,pr r),(1,sv),(8,.int .i64 n),(9,.int .i64 i)]
def DT (r:Nat) (sv:Value) (n i oc:Int) (w:Value):List (Nat×Value):=[(0,pr r),(1,sv),(8,.int .i64 n),(9,.int .i64 i),(6,.int .i64 oc),(7,w)]
def Zr:Value:=.agg #[.int .u16 0,.int .u16 0,.nilFunc]
def Xk (q0 q3:Nat) (w:Value):Array CommCase:=#[scase q0 w (.int .u16 0),rcase q3 (.agg #[])]
def Fh (q1 q3:Nat):Array CommCase:=#[rcase q1 Zr,rcase q3 (.agg #[])]
def Vo (q2 q3:Nat) (o:Int):Array CommCase:=#[scase q2 (.int .i64 o) (.int .i64 0),rcase q3 (.agg #[])]
section
variable (P:Program) (b5 b2 b3 r q0 q1 q2 q3:Nat) (sv:Value) (n i:Int) (w A:Value) (f:Y_) (Y:Z_)
def Q3:Code:=match (lr P u0 []).1.todo with
 | .code c::_=>c
 | _=>.skip
def m1:=run P 14 (Bj (k3 P q0 q3 f Y) (commResult (Xk q0 q3 w) .select 0 undef false))
def m2:=run P 5 (Bj (m1 P q0 q3 w f Y) (CK q1))
def m3:=run P 3 (Bj (m2 P q0 q1 q3 w f Y) (CK q3))
def mq:=Bj (m3 P q0 q1 q3 w f Y) (commResult (Fh q1 q3) .select 1 (.agg #[]) false)
def tmC:X_:=match Qa P b5 b2 b3 r sv n with
 | F::_=>(F.finish (.tuple #[])).tmps
 | []=>#[]
def Oq:Z_:=[f134 (tmC P b5 b2 b3 r sv n) [],BU P]
def e1:=run P 18 (RB P f Y)
def e2:=run P 8 (Bj (e1 P f Y) (CK q2))
def e3:=run P 3 (Bj (e2 P q2 f Y) (CK q3))
def e4:=Bj (e3 P q2 q3 f Y) (commResult (Vo q2 q3 2) .select 0 undef false)
def d1:=run P 11 (branch (lc P f Y) false)
def d2:=run P 8 (Bj (d1 P f Y) (CK q2))
def d3:=run P 3 (Bj (d2 P q2 f Y) (CK q3))
def d4:=Bj (d3 P q2 q3 f Y) (commResult (Vo q2 q3 0) .select 0 undef false)
end
structure Dh (P:Program) (b5 b2 b3 r q0 q1 q2 q3:Nat) (sv:Value) (n:Int):Prop where
 f01:Av P 3 (ch0 P b5 b2 b3)=some []
 f02:CL P (ch1 P b5 b2 b3) (pr r)=some ([(S_ b5)],pr r)
 f03:Av P 5 (Bj (ch1 P b5 b2 b3) (pr r))=some []
 f04:CL P (ch2 P b5 b2 b3 r) (pr r)=some ([(S_ b5)],pr r)
 f05:CL P (ch3 P b5 b2 b3 r) sv=some ([(S_ b2)],sv)
 f06:CL P (ch4 P b5 b2 b3 r sv) (.int .i64 n)=some ([(S_ b3)],.int .i64 n)
 f07:Av P 9 (zg P b5 b2 b3 r sv n)=some []
 f08:Ch (run P 9 (zg P b5 b2 b3 r sv n))=(136,Vr P,[],.run,.normal,none,Qa P b5 b2 b3 r sv n)
 f09:slotsOf (run P 9 (zg P b5 b2 b3 r sv n)) [0,1,8,9]=[pr r,sv,.int .i64 n,.int .i64 0]
 f10:(run P 9 (zg P b5 b2 b3 r sv n)).1.tmps.size=32
 l1:∀(f:Y_) (Y:Z_) (i:Int),Av P 5 (LH P (AR f (JY r sv n i)) Y)=some []
 l2:∀(f:Y_) (Y:Z_) (i:Int),ah (lc P (AR f (JY r sv n i)) Y)=some (.bool (decide (i<n)))
 l3:∀(f:Y_) (Y:Z_) (i:Int),Av P 4 (branch (lc P (AR f (JY r sv n i)) Y) true)=some []
 l4:∀(f:Y_) (Y:Z_) (i:Int),Ch (lr P (AR f (JY r sv n i)) Y)=(136,.code (Q3 P)::nD P,[],.run,.normal,none,Y)
 l5:∀(f:Y_) (Y:Z_) (i:Int),slotsOf (lr P (AR f (JY r sv n i)) Y) [0,1,8,9]=[pr r,sv,.int .i64 n,.int .i64 i]
 l6:∀(f:Y_) (Y:Z_) (i:Int),(lr P (AR f (JY r sv n i)) Y).1.tmps.size=32
 s01:∀(f:Y_) (Y:Z_) (i:Int) (w:Value),Av P 28 (RB P (AR f (DT r sv n i 0 w)) Y)=some []
 s02:∀(f:Y_) (Y:Z_) (i:Int) (w:Value),Ch (run P 28 (RB P (AR f (DT r sv n i 0 w)) Y))=(136,Vr P,[],.run,.normal,none,Y)
 s03:∀(f:Y_) (Y:Z_) (i:Int) (w:Value),slotsOf (run P 28 (RB P (AR f (DT r sv n i 0 w)) Y)) [0,1,8,9]=[pr r,sv,.int .i64 n,.int .i64 (IntKind.i64.wrap (i+1))]
 s04:∀(f:Y_) (Y:Z_) (i:Int) (w:Value),(run P 28 (RB P (AR f (DT r sv n i 0 w)) Y)).1.tmps.size=32
 s11:∀(f:Y_) (Y:Z_) (i:Int) (w:Value),Av P 29 (RB P (AR f (DT r sv n i 1 w)) Y)=some []
 s12:∀(f:Y_) (Y:Z_) (i:Int) (w:Value),CL P (k1 P (AR f (DT r sv n i 1 w)) Y) (CK q0)=some ([(S_ r)],CK q0)
 s13:∀(f:Y_) (Y:Z_) (i:Int) (w:Value),Av P 8 (Bj (k1 P (AR f (DT r sv n i 1 w)) Y) (CK q0))=some []
 s14:∀(f:Y_) (Y:Z_) (i:Int) (w:Value),CL P (k2 P q0 (AR f (DT r sv n i 1 w)) Y) (CK q3)=some ([(T_ r 3)],CK q3)
 s15:∀(f:Y_) (Y:Z_) (i:Int) (w:Value),Av P 3 (Bj (k2 P q0 (AR f (DT r sv n i 1 w)) Y) (CK q3))=some []
 s16:∀(f:Y_) (Y:Z_) (i:Int) (w:Value),Kg P (k3 P q0 q3 (AR f (DT r sv n i 1 w)) Y)=some (Xk q0 q3 w)
 m11:∀(f:Y_) (Y:Z_) (i:Int) (w:Value),Av P 14 (Bj (k3 P q0 q3 (AR f (DT r sv n i 1 w)) Y) (commResult (Xk q0 q3 w) .select 0 undef false))=some []
 m12:∀(f:Y_) (Y:Z_) (i:Int) (w:Value),CL P (m1 P q0 q3 w (AR f (DT r sv n i 1 w)) Y) (CK q1)=some ([(T_ r 1)],CK q1)
 m13:∀(f:Y_) (Y:Z_) (i:Int) (w:Value),Av P 5 (Bj (m1 P q0 q3 w (AR f (DT r sv n i 1 w)) Y) (CK q1))=some []
 m14:∀(f:Y_) (Y:Z_) (i:Int) (w:Value),CL P (m2 P q0 q1 q3 w (AR f (DT r sv n i 1 w)) Y) (CK q3)=some ([(T_ r 3)],CK q3)
 m15:∀(f:Y_) (Y:Z_) (i:Int) (w:Value),Av P 3 (Bj (m2 P q0 q1 q3 w (AR f (DT r sv n i 1 w)) Y) (CK q3))=some []
 m16:∀(f:Y_) (Y:Z_) (i:Int) (w:Value),Kg P (m3 P q0 q1 q3 w (AR f (DT r sv n i 1 w)) Y)=some (Fh q1 q3)
 m21:∀(f:Y_) (Y:Z_) (i:Int) (w A:Value),Av P 7 (Bj (m3 P q0 q1 q3 w (AR f (DT r sv n i 1 w)) Y) (commResult (Fh q1 q3) .select 0 A true))=some []
 q1_:∀(f:Y_) (i:Int) (w:Value),CQ P (some (257,6)) 37 (mq P q0 q1 q3 w (AR f (DT r sv n i 1 w)) (Qa P b5 b2 b3 r sv n))=some ([r,r],dR P r (Oq P b5 b2 b3 r sv n))
 e11:∀(f:Y_) (Y:Z_) (i:Int) (w:Value),Av P 18 (RB P (AR f (DT r sv n i 2 w)) Y)=some []
 e12:∀(f:Y_) (Y:Z_) (i:Int) (w:Value),CL P (e1 P (AR f (DT r sv n i 2 w)) Y) (CK q2)=some ([(T_ r 2)],CK q2)
 e13:∀(f:Y_) (Y:Z_) (i:Int) (w:Value),Av P 8 (Bj (e1 P (AR f (DT r sv n i 2 w)) Y) (CK q2))=some []
 e14:∀(f:Y_) (Y:Z_) (i:Int) (w:Value),CL P (e2 P q2 (AR f (DT r sv n i 2 w)) Y) (CK q3)=some ([(T_ r 3)],CK q3)
 e15:∀(f:Y_) (Y:Z_) (i:Int) (w:Value),Av P 3 (Bj (e2 P q2 (AR f (DT r sv n i 2 w)) Y) (CK q3))=some []
 e16:∀(f:Y_) (Y:Z_) (i:Int) (w:Value),Kg P (e3 P q2 q3 (AR f (DT r sv n i 2 w)) Y)=some (Vo q2 q3 2)
 e17:∀(f:Y_) (i:Int) (w:Value),CQ P (some (257,6)) 31 (e4 P q2 q3 (AR f (DT r sv n i 2 w)) (Qa P b5 b2 b3 r sv n))=some ([r,r],dR P r (Oq P b5 b2 b3 r sv n))
 d11:∀(f:Y_) (Y:Z_) (i:Int),Av P 11 (branch (lc P (AR f (JY r sv n i)) Y) false)=some []
 d12:∀(f:Y_) (Y:Z_) (i:Int),CL P (d1 P (AR f (JY r sv n i)) Y) (CK q2)=some ([(T_ r 2)],CK q2)
 d13:∀(f:Y_) (Y:Z_) (i:Int),Av P 8 (Bj (d1 P (AR f (JY r sv n i)) Y) (CK q2))=some []
 d14:∀(f:Y_) (Y:Z_) (i:Int),CL P (d2 P q2 (AR f (JY r sv n i)) Y) (CK q3)=some ([(T_ r 3)],CK q3)
 d15:∀(f:Y_) (Y:Z_) (i:Int),Av P 3 (Bj (d2 P q2 (AR f (JY r sv n i)) Y) (CK q3))=some []
 d16:∀(f:Y_) (Y:Z_) (i:Int),Kg P (d3 P q2 q3 (AR f (JY r sv n i)) Y)=some (Vo q2 q3 0)
 d17:∀(f:Y_) (i:Int),CQ P (some (257,6)) 31 (d4 P q2 q3 (AR f (JY r sv n i)) (Qa P b5 b2 b3 r sv n))=some ([r,r],dR P r (Oq P b5 b2 b3 r sv n))
section
variable {b5 b2 b3 r q0 q1 q2 q3:Nat} {sv:Value} {n:Int}
theorem YZ:Dh prog b5 b2 b3 r q0 q1 q2 q3 sv n:=by
 constructor<;>intros<;>kernel_rfl
end
end Go.Fxa
