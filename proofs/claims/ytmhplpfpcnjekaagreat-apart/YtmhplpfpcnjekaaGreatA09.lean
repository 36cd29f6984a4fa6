/- The join: goroutine 0 waits fo -/
import Derived.Test.YtmhplpfpcnjekaaGreatA08
namespace Go.Fxa
open Go.Conc
open Go.ConcN (sumTo upd sumTo_upd upd_ne upd_same)
structure Wts where
 mD:Goroutine
 xw:Goroutine
 mL:Goroutine
 mL0:Goroutine
 mLK:Goroutine
 mC:Goroutine
 mC1:Goroutine
 mC0:Goroutine
 mW:Goroutine
 mW':Goroutine
 fr:Frame
 cs:Z_
 rX:Goroutine
 k0:Nat
 k1:Nat
 k2:Nat
 k3:Nat
 k4:Nat
structure oV (P:Program) (r:Nat) (pre:X_) (ty:TypeId) (g0 IP:Goroutine) (x:Wts):Prop where
 runs:x.mD.status=.running/\x.mL.status=.running/\x.mC.status=.running/\x.mW.status=.running
 s0:IJ P (Cv r pre ty) true x.k0 g0 x.mD
 TG:∀w,stepG P true x.mD w=.go x.xw w #[GR]
 s1:IJ P (Cv r pre ty) true x.k1 x.xw x.mL
 x9:∀w,w.cell? (stA r pre)=some (.int .u64 0)->stepG P true x.mL w=.go x.mL0 w #[⟨.cell (stA r pre),false,true⟩]
 mP:tZ P r pre ty IP x.mL0
 xZ:∀w,w.cell? (stA r pre)=some (.int .u64 KK)->stepG P true x.mL w=.go x.mLK w #[⟨.cell (stA r pre),false,true⟩]
 s2:IJ P (Cv r pre ty) true x.k2 x.mLK x.mC
 Gb:∀w,w.cell? (stA r pre)=some (.int .u64 KK)->w.frozen? (stA r pre)=false->stepG P true x.mC w=.go x.mC1 (w.setCell (stA r pre) (.int .u64 (KK+1))) (Ij (stA r pre))
 miss:∀w,w.cell? (stA r pre)=some (.int .u64 0)->w.frozen? (stA r pre)=false->stepG P true x.mC w=.go x.mC0 w #[⟨.cell (stA r pre),false,true⟩]
 lo0:om P r pre ty IP x.mC0
 s3:IJ P (Cv r pre ty) true x.k3 x.mC1 x.mW
 wr:∀w,stepG P true x.mW w=.go x.mW' w #[RO (smA r pre)]
 s4:IJ P (Cv r pre ty) true x.k4 x.mW' (G x.fr x.cs)
 af8:∀w,w.cell? (smA r pre)=some (.int .u32 1)->w.frozen? (smA r pre)=false->stepG P true (G x.fr x.cs) w=.go x.rX (w.setCell (smA r pre) (.int .u32 0)) (semEvents (smA r pre))
 xQ:∀w,w.cell? (smA r pre)=some (.int .u32 0)->stepG P true (G x.fr x.cs) w=.go { G x.fr x.cs with status:=.blocked } w #[]
 lo1:om P r pre ty IP x.rX
section
variable {P:Program} {Z:Nat->Prop} {Ac Still:Loc->Prop} {Mem Ak:Nat->Prop} {r:Nat} {pre:X_} {ty:TypeId} {c:Nat} {o:NR} {Ph:Bool->Nat->Goroutine->World->Trace->Prop} {X:World->Prop} {KN:Loc->Prop}
theorem Wv (H:JF P Z Ac Still Ak c r pre ty o Ph X) (hZ:Z r) (hc:c≠0) {w0:Bool} {n:Nat} {g:Goroutine} {w:World} {t:Trace} {es:Array Event} {fn:FuncId} {pos:String} (d:Nat) (Ex:∀e∈es,(MemAct.ofEvent e).touch?=none/\∀a,MemAct.ofEvent e≠.mark (.release a))
  (h:BP P c r pre ty o Ph X w0 n g w t):BP P c r pre ty o Ph X w0 n g (w.at d) (t++MemOp.ofEvents 0 fn pos es):=by
 have Cw:GK Z w (w.at d):=fun _ _=>rfl
 have hdf:Deaf (t++MemOp.ofEvents 0 fn pos es) c=Deaf t c:=Deaf_other t (g':=0) (Ne.symm hc) _ ofEvents_g;have hno:Il c r pre t->Il c r pre (t++MemOp.ofEvents 0 fn pos es):=fun h=>h.app fun op AO b hb _=>by
  obtain⟨e,he,rfl⟩:=Go.Conc.mem_ofEvents AO
  rw[(Ex e he).1]at hb;cases hb
 have hrel:∀{m},Kr c r pre m t->Kr c r pre m (t++MemOp.ofEvents 0 fn pos es):=fun h=>h.app (fun op AO=>by
  obtain⟨e,he,rfl⟩:=Go.Conc.mem_ofEvents AO
  exact(Ex e he).2 _) fun k op b hk hg _=>by have:=ofEvents_g op (Array.mem_of_getElem? hk);omega
 rcases h with h|⟨⟨hN,hh⟩,hX⟩
 ·exact .inl (H.mark d Ex h)
 ·refine .inr ⟨⟨hno hN,?_⟩,H.keep _ _ hX fun _ _ _=>rfl⟩;rcases hh with⟨k,a1,a2,a3,a4⟩|⟨m,k,a1,a2,a3,a4,a5⟩|⟨m,k,a1,a2,a3,a4,a5⟩|⟨a0,m,a1,a2,a3⟩|⟨a0,m,k,a1,a2,a3,a4,a5⟩|⟨a0,m,k,a1,a2,a3,a4,a5⟩|⟨a0,m,a1,a2,a3⟩
  ·exact .inl ⟨k,a1,a2,a3.keep hZ Cw,by rw[hdf];exact a4⟩
  ·exact .inr (.inl ⟨m,k,a1,a2,a3.keep hZ Cw,by rw[hdf];exact a4,hrel a5⟩)
  ·exact .inr (.inr (.inl ⟨m,k,a1,a2,a3.keep hZ Cw,by rw[hdf];exact a4,hrel a5⟩))
  ·exact .inr (.inr (.inr (.inl ⟨a0,m,by rw[hdf];exact a1,a2.keep hZ Cw,hrel a3⟩)))
  ·exact .inr (.inr (.inr (.inr (.inl ⟨a0,m,k,a1,a2,a3.keep hZ Cw,by rw[hdf];exact a4,hrel a5⟩))))
  ·exact .inr (.inr (.inr (.inr (.inr (.inl ⟨a0,m,k,a1,a2,a3.keep hZ Cw,by rw[hdf];exact a4,hrel a5⟩)))))
  ·exact .inr (.inr (.inr (.inr (.inr (.inr ⟨a0,m,by rw[hdf];exact a1,a2.keep hZ Cw,hrel a3⟩)))))
theorem Xt (H:JF P Z Ac Still Ak c r pre ty o Ph X) {n:Nat} {g:Goroutine} {w:World} {t:Trace} (h:BP P c r pre ty o Ph X false n g w t):A7 r pre ty w KK 0\/EE P c r pre ty X 0 n g w t:=by
 rcases h with h|⟨⟨hN,⟨k,rfl,hs,hr,_⟩|⟨m,k,rfl,hs,hr,_⟩|⟨m,k,rfl,hs,hr,_⟩|⟨_,m,hq,hr,hm⟩|⟨hw,_⟩|⟨hw,_⟩|⟨hw,_⟩⟩,hX⟩
 ·exact .inl (H.run h)
 ·exact .inl hr
 ·exact .inl hr
 ·exact .inl hr
 ·exact .inr ⟨hN,m,hq,⟨hr,hX⟩,hm⟩
 ·cases hw
 ·cases hw
 ·cases hw
theorem dZ (H:JF P Z Ac Still Ak c r pre ty o Ph X) (hc:c≠0) {n:Nat} {g:Goroutine} {w:World} {t:Trace} {fn:FuncId} {pos:String} (d:Nat) (Li:A7 r pre ty w KK 0)
  (h:BP P c r pre ty o Ph X false n g w t):BP P c r pre ty o Ph X true n g ((w.at d).setCell (stA r pre) (.int .u64 (KK+1))) (t++MemOp.ofEvents 0 fn pos (Ij (stA r pre))):=by
 have FW:A7 r pre ty ((w.at d).setCell (stA r pre) (.int .u64 (KK+1))) (if true=true then KK+1 else KK) 0:=A7.setSt (w:=w.at d) Li _;have EY:∀op∈MemOp.ofEvents 0 fn pos (Ij (stA r pre)),op.act.touch?=some ⟨.cell (stA r pre),false,.atomic⟩\/op.act.touch?=some ⟨.cell (stA r pre),true,.atomic⟩:=by
  intro op AO
  obtain⟨e,he,rfl⟩:=Go.Conc.mem_ofEvents AO
  simp only[Ij,List.mem_toArray,List.mem_cons,List.not_mem_nil,or_false]at he
  rcases he with rfl|rfl
  ·exact .inl rfl
  ·exact .inr rfl
 have hdf:Deaf (t++MemOp.ofEvents 0 fn pos (Ij (stA r pre))) c=Deaf t c:=Deaf_other t (g':=0) (Ne.symm hc) _ ofEvents_g;have hno:Il c r pre t->Il c r pre (t++MemOp.ofEvents 0 fn pos (Ij (stA r pre))):=fun h=>h.app fun op AO b hb _=>by
  rcases EY op AO with e|e<;>(rw[e]at hb;obtain rfl:=Option.some.inj hb;simp)
 have hrel:∀{m},Kr c r pre m t->Kr c r pre m (t++MemOp.ofEvents 0 fn pos (Ij (stA r pre))):=fun h=>h.app (fun op AO e=>by
  rcases EY op AO with x|x<;>(rw[e]at x;cases x)) fun k op b hk hg _=>by have:=ofEvents_g op (Array.mem_of_getElem? hk);omega
 rcases h with h|⟨⟨hN,hh⟩,hX⟩
 ·exact .inl (H.up d Li h)
 ·refine .inr ⟨⟨hno hN,?_⟩,H.keep _ _ hX fun x hx _=>by simp[World.setCell,World.at,stA,Array.getElem?_modify,Ne.symm hx]⟩;rcases hh with⟨k,a1,a2,a3,a4⟩|⟨m,k,a1,a2,a3,a4,a5⟩|⟨m,k,a1,a2,a3,a4,a5⟩|⟨a0,m,a1,a2,a3⟩|⟨a0,_⟩|⟨a0,_⟩|⟨a0,_⟩
  ·exact .inl ⟨k,a1,a2,FW,by rw[hdf];exact a4⟩
  ·exact .inr (.inl ⟨m,k,a1,a2,FW,by rw[hdf];exact a4,hrel a5⟩)
  ·exact .inr (.inr (.inl ⟨m,k,a1,a2,FW,by rw[hdf];exact a4,hrel a5⟩))
  ·exact absurd (Li.eq a2).1 (by decide)
  ·cases a0
  ·cases a0
  ·cases a0
theorem Dv {B B1:Nat} {IP:Goroutine} {w w1:World} {AZ:Array Goroutine} {w':World} {t':Trace} (ho:BO Z w w1) (hB:B<=B1) (J:Joined P Z KN X B1 IP w1 AZ w' t'):Joined P Z KN X B IP w AZ w' t':=by
 obtain⟨q',B',j1,j2,j3,j4⟩:=J;exact⟨q',B',j1,ho.trans j2,Nat.le_trans hB j3,j4⟩
theorem join (HP:JF P Z Ac Still (fun g=>g=c) c r pre ty o Ph X) (hS0:∀l,Ac l->¬Still l->KN l) (O:KE P r pre ty o) {x:Wts} {g0 IP:Goroutine} (H:oV P r pre ty g0 IP x) (hZ:Z r) (hW:∀l,I8 r pre l->Ac l/\¬Still l) (hc:c≠0)
  {n B:Nat} {gs:Array Goroutine} {w:World} {sl:Option (W_)} {t:Trace} {q:Nat->Nat} (h0:gs[0]?=some g0)
  (D:Duo P Ac Still (fun g=>g=0) (fun g=>g=c) B 0 c (BP P c r pre ty o Ph X false) n gs w t q):AB P gs w sl t (Joined P Z KN X B IP w):=by
 have OC:∀w0,Fp P Z Ac Still (fun B t=>PX Ac Still (fun _=>False) (fun g=>g=c) B 0 t) c (BP P c r pre ty o Ph X w0):=fun w0=>KU HP O hZ hW hc id
 have JC:∀w0 n b w t,BP P c r pre ty o Ph X w0 n b w t->∀d,Cv r pre ty (w.at d):=fun w0 n b w t h d=>let ⟨_,_,hr⟩:=Sl HP h;hr.is d
 have JD:∀w0 n b w t,DU 1 (BP P c r pre ty o Ph X w0) n b w t->∀d,Cv r pre ty (w.at d):=fun w0 n b w t h d=>let ⟨_,_,hr⟩:=Sl HP h.1;hr.is d
 have OD:∀w0,Fp P Z Ac Still (fun B t=>PX Ac Still (fun _=>False) (fun g=>g=c) B 0 t) c (DU 1 (BP P c r pre ty o Ph X w0)):=fun w0=>Pf hc (OC w0)
 have ON:Fp P Z Ac Still (fun B t=>PX Ac Still (fun _=>False) (fun g=>g=c) B 0 t) c (DU 1 (EE P c r pre ty X 0)):=Pf hc (Pb HP.keep hZ hW hc id);refine(FJ (JC false) (KU (w0:=false) (Mem:=fun g=>g=0) (Ak:=fun g=>g=c) HP O hZ hW hc hc) x.k0 H.s0 h0 D).bind fun gs1 w1 G6 t1 hz1 ⟨q1,n1,B1,h1,o1,b1,D1⟩=>?_
 refine AB.mono ?_ fun AZ w' t'=>Dv (B1:=B1) o1 b1
 refine go_duo (IQ:=fun _=>False) (Loose':=fun g=>g=c) (KU (w0:=false) (Mem:=fun g=>g=0) (Ak:=fun g=>g=c) HP O hZ hW hc hc) h1 H.runs.1 D1 (fun _ hg=>hg.elim) fun Bm hBm w2 hsz2 n2 x2 t2 o2 hB2 hp2 d=>?_
 have hmk:∀e∈#[GR],(MemAct.ofEvent e).touch?=none/\∀a,MemAct.ofEvent e≠.mark (.release a):=by
  intro e he
  simp at he;subst he
  exact⟨rfl,fun a=>by simp[GR,MemAct.ofEvent]⟩
 refine⟨x.xw,w2.at d,#[GR],Bm,H.TG _,Nat.le_refl _,hsz2,(hp2.fewer (IQ:=fun _=>False) fun _ h=>h.elim).appMute ofEvents_g (fun op AO=>by obtain⟨e,he,rfl⟩:=Go.Conc.mem_ofEvents AO;exact(hmk e he).1) (fun x=>x.elim) (fun op AO=>by obtain⟨e,he,rfl⟩:=Go.Conc.mem_ofEvents AO;simp at he;subst he;trivial),
  DU 1 (BP P c r pre ty o Ph X false),n2,⟨?_,?_⟩,fun lV q3 n3 hz3 h3 D3 Zh=>?_⟩
 ·rw[woken_of_again ((OC false).again hB2 (w2.at d) (fun _ _=>rfl))];exact Wv HP hZ hc d hmk hB2
 ·rw[Deaf_own,hp2.hears 0 rfl];rfl
 refine AB.mono ?_ fun AZ w' t'=>Dv (B1:=Bm) (o2.trans (BO.at w2 d)) hBm
 refine(FJ (JD false) (OD false) x.k1 H.s1 h3 D3).bind fun gs4 w4 JY t4 hz4 ⟨q4,n4,B4,h4,o4,b4,D4⟩=>?_
 refine AB.mono ?_ fun AZ w' t'=>Dv (B1:=B4) o4 b4
 refine go_duo (IQ:=fun _=>False) (Loose':=fun g=>g=c) (OD false) h4 H.runs.2.1 D4 (fun _ hg=>hg.elim) fun Bn hBn w5 hsz5 n5 x5 t5 o5 hB5 rZ d5=>?_
 have rd:∀{w:World} {B:Nat} {st sm:Int},A7 r pre ty w st sm->w.heap.size<=B->∀e∈#[(⟨.cell (stA r pre),false,true⟩:Event)],Ux Ac Still B e:=by
  intro w B st sm hr hB e he
  simp at he;subst he
  exact PG hW (by have:=hr.lt;omega) (.inl rfl) rfl false
 rcases Xt HP hB5.1 with hr5|hd5
 rotate_left
 ·obtain⟨hN,m,hq,⟨hr,hXw⟩,hm⟩:=hd5;have EY:=rd hr hsz5;have hby:DU 1 (EE P c r pre ty X 0) n5 x5 w5 t5:=⟨⟨hN,m,hq,⟨hr,hXw⟩,hm⟩,hB5.2⟩;refine⟨x.mL0,w5.at d5,_,Bn,H.x9 _ (hr.keep hZ (fun _ _=>rfl)).cellSt,Nat.le_refl _,hsz5,rZ.own EY,DU 1 (EE P c r pre ty X 0),n5,?_,fun yY q6 n6 hz6 h6 D6 DT=>?_⟩
  ·rw[woken_of_again (ON.again hby (w5.at d5) (fun _ _=>rfl))];exact ON.calm (w5.at d5) _ hby (fun _ _=>rfl) (Ej (Ne.symm hc) EY)
  ·exact(Vb hS0 HP.keep hZ hW hc H.mP h6 D6).mono fun AZ w' t'=>Dv (o5.trans (BO.at w5 d5)) hBn
 have ah0:=rd hr5 hsz5;refine⟨x.mLK,w5.at d5,_,Bn,H.xZ _ (hr5.keep hZ (fun _ _=>rfl)).cellSt,Nat.le_refl _,hsz5,rZ.own ah0,DU 1 (BP P c r pre ty o Ph X false),n5,?_,fun yY q6 n6 hz6 h6 D6 DT=>?_⟩
 ·rw[woken_of_again ((OD false).again hB5 (w5.at d5) (fun _ _=>rfl))];exact(OD false).calm (w5.at d5) _ hB5 (fun _ _=>rfl) (Ej (Ne.symm hc) ah0)
 refine AB.mono ?_ fun AZ w' t'=>Dv (B1:=Bn) (o5.trans (BO.at w5 d5)) hBn
 refine(FJ (JD false) (OD false) x.k2 H.s2 h6 D6).bind fun rQ w7 rO t7 hz7 ⟨q7,n7,B7,h7,o7,b7,D7⟩=>?_
 refine AB.mono ?_ fun AZ w' t'=>Dv (B1:=B7) o7 b7
 refine go_duo (IQ:=fun _=>False) (Loose':=fun g=>g=c) (OD false) h7 H.runs.2.2.1 D7 (fun _ hg=>hg.elim) fun Bo hBo w8 zI n8 x8 t8 o8 hB8 hp8 d8=>?_
 rcases Xt HP hB8.1 with hr8|hd8
 rotate_left
 ·obtain⟨hN,m,hq,⟨hr,hXw⟩,hm⟩:=hd8;have EY:=rd hr zI;have hby:DU 1 (EE P c r pre ty X 0) n8 x8 w8 t8:=⟨⟨hN,m,hq,⟨hr,hXw⟩,hm⟩,hB8.2⟩;refine⟨x.mC0,w8.at d8,_,Bo,H.miss _ (hr.keep hZ (fun _ _=>rfl)).cellSt (hr.keep hZ (fun _ _=>rfl)).Mm,Nat.le_refl _,zI,hp8.own EY,DU 1 (EE P c r pre ty X 0),n8,?_,fun gs9 q9 n9 hz9 h9 D9 sl9=>?_⟩
  ·rw[woken_of_again (ON.again hby (w8.at d8) (fun _ _=>rfl))];exact ON.calm (w8.at d8) _ hby (fun _ _=>rfl) (Ej (Ne.symm hc) EY)
  ·exact(Tg hS0 HP.keep hZ hW hc H.lo0 h9 D9).mono fun AZ w' t'=>Dv (o8.trans (BO.at w8 d8)) hBo
 have ag4:r<Bo:=by have:=hr8.lt;omega
 have az9:∀e∈Ij (stA r pre),Ux Ac Still Bo e:=by
  intro e he
  simp only[Ij,List.mem_toArray,List.mem_cons,List.not_mem_nil,or_false]at he
  rcases he with rfl|rfl
  ·exact PG hW ag4 (.inl rfl) rfl false
  ·exact PG hW ag4 (.inl rfl) rfl true
 have ag5:A7 r pre ty (w8.at d8) KK 0:=hr8.keep hZ (fun _ _=>rfl);have ax4:BO Z w8 ((w8.at d8).setCell (stA r pre) (.int .u64 (KK+1))):=KR (a:=stA r pre) hZ _ d8;have aw3:(x8.status=.running\/x8.status=.finished):=by
  rcases hB8.1 with h|⟨⟨_,⟨k,_,hs,_⟩|⟨m,k,_,hs,_⟩|⟨m,k,_,hs,_⟩|⟨_,m,hq,_⟩|⟨hw,_⟩|⟨hw,_⟩|⟨hw,_⟩⟩,_⟩
  ·exact .inl (HP.status h).1
  ·exact .inl (hs.status O.runs.1)
  ·exact .inl (hs.status O.runs.2.1)
  ·exact .inl (hs.status O.runs.2.2.1)
  ·exact hq.status
  ·cases hw
  ·cases hw
  ·cases hw
 refine⟨x.mC1,_,_,Bo,H.Gb _ ag5.cellSt ag5.Mm,Nat.le_refl _,by rw[FQ];exact zI,hp8.own az9,DU 1 (BP P c r pre ty o Ph X true),n8,⟨?_,?_⟩,fun gs9 q9 n9 hz9 h9 D9 sl9=>?_⟩
 ·rw[woken_of_again (again_running _ aw3)];exact dZ HP hc d8 hr8 hB8.1
 ·rw[Deaf_own,hB8.2];rfl
 refine AB.mono ?_ fun AZ w' t'=>Dv (B1:=Bo) (o8.trans ax4) hBo
 refine(FJ (JD true) (OD true) x.k3 H.s3 h9 D9).bind fun gsa wa WC ta hza ⟨qa,na,Ba,ha,oa,ba,Da⟩=>?_
 refine AB.mono ?_ fun AZ w' t'=>Dv (B1:=Ba) oa ba
 refine go_duo (IQ:=fun _=>False) (Loose':=fun g=>g=c) (OD true) ha H.runs.2.2.2 Da (fun _ hg=>hg.elim) fun Bs hBs wb ay4 nb xb tb ob hBb hpb db=>?_
 have hrb:r<Bs:=by
  rcases VJ HP hBb.1 with⟨st,h⟩|⟨_,m,_,⟨h,_⟩,_⟩<;>(have:=h.lt;omega)
 have ag9:∀e∈#[RO (smA r pre)],Ux Ac Still Bs e:=by
  intro e he
  simp at he;subst he
  refine⟨fun y hy=>?_,by simp[RO],by simp[RO],?_,by simp[RO]⟩
  ·obtain rfl:=Option.some.inj hy;exact⟨fun hs=>((hW _ (.inr rfl)).2 hs).elim,fun _=>by simp⟩
  ·exact hrb
 refine⟨x.mW',wb.at db,_,Bs,H.wr _,Nat.le_refl _,ay4,hpb.own ag9,DU 1 (BP P c r pre ty o Ph X true),nb,?_,fun gsc qc nc hzc Fa Dc xm=>?_⟩
 ·rw[woken_of_again ((OD true).again hBb (wb.at db) (fun _ _=>rfl))];exact(OD true).calm (wb.at db) _ hBb (fun _ _=>rfl) (Ej (Ne.symm hc) ag9)
 refine AB.mono ?_ fun AZ w' t'=>Dv (B1:=Bs) (ob.trans (BO.at wb db)) hBs
 refine(FJ (JD true) (OD true) x.k4 H.s4 Fa Dc).bind fun gsd wd sld td hzd ⟨qd,nd,Bd,hd,od,bd,Dd⟩=>?_
 refine AB.mono ?_ fun AZ w' t'=>Dv (B1:=Bd) od bd
 refine(pY HP O hZ hW hc (OC true) H.af8 H.xQ _ nd gsd (G x.fr x.cs) wd sld td qd Bd (Nat.lt_succ_self _) hd (.inl rfl) Dd).bind fun xI we sle te hze ⟨qe,ne,Be,hBe,he,oe,De⟩=>?_
 exact(Tg hS0 HP.keep hZ hW hc H.lo1 he De).mono fun AZ w' t'=>Dv oe hBe
end
def Oy (Tr:Trace->Prop):Prop:=∀t i fn pos es,i≠0->(∀e∈es,e.mute=true)->Tr t->Tr (t++MemOp.ofEvents i fn pos es)
section
variable {P:Program} {Z:Nat->Prop} {Ac Still:Loc->Prop} {Mem Ak:Nat->Prop} {Tr:Trace->Prop}
theorem YI (hTr:Oy Tr):∀(X:Nat) (gs:Array Goroutine) (a:Goroutine) (w:World) (sl:Option (W_)) (t:Trace) (q:Nat->Nat),sumTo gs.size q<X->gs[0]?=some a->a.status=.running->Leavers P t gs q->Tr t->
  ∃(N:Nat) (AZ:Array Goroutine) (d0 d:Nat) (sl0 Cz:Option (W_)) (t':Trace) (q':Nat->Nat),runNT P N (crowd gs w sl) t=(.next (crowd AZ (w.at d0) sl0),t')/\AZ.size=gs.size/\AZ[0]?=some a/\
   stepT P (crowd AZ (w.at d0) sl0)=runT P (crowd AZ (w.at d) Cz) 0/\Leavers P t' AZ q'/\Tr t':=by
 intro X
 induction X with
 | zero=>intro gs a w sl t q hX;omega
 | succ X ih=>
  intro gs a w sl t q hX h0 Bg hL hP
  have haw:∀g∈gs,awake g:=by
   intro g hg
   obtain⟨i,hi,rfl⟩:=Array.mem_iff_getElem.1 hg
   rcases Nat.eq_zero_or_pos i with rfl|Ik
   ·have:gs[0]=a:=(by simpa [Array.getElem?_eq_getElem hi]using h0);rw[this];exact awake_of (.inl Bg)
   ·exact awake_of ((hL.old i _ Ik (Array.getElem?_eq_getElem hi)).status.elim .inl fun x=>.inr (.inr x))
  obtain⟨i,g,d,Cz,hi,hg,BH⟩:=crowd_pick (P:=P) (w:=w) (sl:=sl) haw ⟨0,a,h0,Bg⟩;have BC:i<gs.size:=(Array.getElem?_eq_some_iff.1 hi).1;rcases Nat.eq_zero_or_pos i with rfl|Ik
  ·exact⟨0,gs,w.drawn,d,sl,Cz,t,q,rfl,rfl,h0,BH,hL,hP⟩
  ·have hq:=hL.old i g Ik hi;have hi0:(i==0)=false:=(by simp;omega);cases hqi:q i with
   | zero=>rw[hqi]at hq;rw[hq.1]at hg;cases hg
   | succ k=>
    rw[hqi]at hq
    rcases hq with⟨hf,_⟩|⟨_,g',es,hm,hstp,hq'⟩
    ·rw[hf]at hg;cases hg
    have BD:=runT_crowd_go (P:=P) (sl:=Cz) (i:=i) hi (by rw[hi0];exact hstp (w.at d));have BA:((gs.map (woken P g g' (w.at d))).setIfInBounds i g').size=gs.size:=(by simp);have hsum:sumTo gs.size (upd q i k)+(k+1)=sumTo gs.size q+k:=by
     have:=sumTo_upd q k id BC
     simpa [hqi]using this
    obtain⟨N,AZ,d0,d1,sl0,G6,t',q',hr,FD,h0',hst',hL',hP'⟩:=ih ((gs.map (woken P g g' (w.at d))).setIfInBounds i g') a (w.at d) Cz (t++MemOp.ofEvents i g.frame.fn g.frame.place es) (upd q i k) (by rw[BA];omega)
     (by
      have BN:i≠0:=by omega
      rw[Array.getElem?_setIfInBounds_ne BN,Array.getElem?_map,h0]
      simp[woken_run Bg]) Bg
     ⟨fun x y hx hy=>by
      by_cases hji:i=x
      ·subst hji;rw[Array.getElem?_setIfInBounds_self_of_lt (by simpa using BC)]at hy;obtain rfl:=Option.some.inj hy;rw[upd_same,Deaf_own];exact hq'
      ·rw[Array.getElem?_setIfInBounds_ne hji,Array.getElem?_map]at hy;obtain⟨z,hz,rfl⟩:=Option.map_eq_some_iff.1 hy;have hqj:=hL.old x z hx hz;rw[woken_quitsD hqj,upd_ne q k (Ne.symm hji),Deaf_other t hji _ ofEvents_g];exact hqj,fun x hx=>by
      rw[Deaf_other t (g':=i) (by simp at hx;omega) _ ofEvents_g];exact hL.above x (by simpa using hx)⟩
     (hTr t i _ _ es (by omega) hm hP)
    exact⟨N+1,AZ,d0,d1,sl0,G6,t',q',by simp only[runNT,BH,BD];exact hr,FD.trans BA,h0',hst',hL',hP'⟩
theorem go_mute (hTr:Oy Tr) {gs:Array Goroutine} {a:Goroutine} {w:World} {sl:Option (W_)} {t:Trace} {q:Nat->Nat} {Q:Array Goroutine->World->Trace->Prop} (h0:gs[0]?=some a) (Bg:a.status=.running) (hL:Leavers P t gs q) (ht:Tr t)
  (I5:∀d t1,Tr t1->∃a' w' es,stepG P true a (w.at d)=.go a' w' es/\∀AZ q',AZ.size=gs.size->AZ[0]?=some a'->Leavers P (t1++MemOp.ofEvents 0 a.frame.fn a.frame.place es) AZ q'->
   ∀Cz,AB P AZ w' Cz (t1++MemOp.ofEvents 0 a.frame.fn a.frame.place es) Q):AB P gs w sl t Q:=by
 obtain⟨N,gs1,d0,d,sl0,G6,t1,q1,hr,hs1,h1,BH,hL1,ht1⟩:=YI (P:=P) hTr (sumTo gs.size q+1) gs a w sl t q (by omega) h0 Bg hL ht;obtain⟨a',w',es,hgo,hk⟩:=I5 d t1 ht1;have BC:0<gs1.size:=(Array.getElem?_eq_some_iff.1 h1).1;have BD:=runT_crowd_go (P:=P) (sl:=G6) (i:=0) h1 hgo;have hsz1:((gs1.map (woken P a a' w')).setIfInBounds 0 a').size=gs.size:=by simp[hs1]
 obtain⟨N2,gs2,w2,sl2,t2,hr2,hs2,hQ⟩:=hk ((gs1.map (woken P a a' w')).setIfInBounds 0 a') q1 hsz1 (by simp[BC]) ⟨fun i x hi hx=>by
   rw[Array.getElem?_setIfInBounds_ne (by omega),Array.getElem?_map]at hx
   obtain⟨y,hy,rfl⟩:=Option.map_eq_some_iff.1 hx
   have hq:=hL1.old i y hi hy
   rw[woken_quitsD hq,Deaf_other t1 (g':=0) (by omega) _ ofEvents_g]
   exact hq,fun i hi=>by
   rw[hsz1,<-hs1]at hi
   rw[Deaf_other t1 (g':=0) (by omega) _ ofEvents_g]
   exact hL1.above i hi⟩ G6;refine⟨N+1+N2,gs2,w2,sl2,t2,?_,hs2.trans hsz1,hQ⟩;rw[runNT_add,runNT_succ_of hr (BH.trans BD)];exact hr2
theorem Iu (hTr:Oy Tr) {J:World->Prop} {a':Goroutine}:∀(k:Nat) {a:Goroutine} (_:IJ P J true k a a') {gs:Array Goroutine} {w:World} {sl:Option (W_)} {t:Trace} {q:Nat->Nat},(∀d,J (w.at d))->gs[0]?=some a->Leavers P t gs q->Tr t->
  AB P gs w sl t fun AZ w' t'=>∃q' d,AZ[0]?=some a'/\w'=w.at d/\Leavers P t' AZ q'/\Tr t'
 | 0,a,hs,gs,w,sl,t,q,_,h0,hL,ht=>.now ⟨q,w.drawn,by rw[h0,show a=a' from hs],rfl,hL,ht⟩
 | k+1,a,hs,gs,w,sl,t,q,hJ,h0,hL,ht=>by
  obtain⟨Bg,a1,BH,FD⟩:=hs
  refine go_mute hTr h0 Bg hL ht fun d t1 ht1=>⟨a1,w.at d,#[],BH _ (hJ d),fun AZ q' hz h1 hL1 Cz=>?_⟩
  rw[CG]at hL1 ⊢
  exact(Iu hTr k FD (w:=w.at d) (fun d'=>hJ d') h1 hL1 ht1).mono fun gs'' Jl t'' ⟨q'',d',j1,j2,j3,j4⟩=>⟨q'',d',j1,j2,j3,j4⟩
theorem Xz (B:Nat):Oy (fun t=>PX Ac Still (fun g=>g=0/\Mem g) (fun _=>False) B 0 t):=by
 intro t i fn pos es hi Ex H;refine H.appMute ofEvents_g (fun op AO=>?_) (fun hm=>(hi hm.1).elim) (fun op AO=>?_)
 ·obtain⟨e,he,rfl⟩:=Go.Conc.mem_ofEvents AO;exact touch_mute (Ex e he)
 ·obtain⟨e,he,rfl⟩:=Go.Conc.mem_ofEvents AO;exact low_mute (Ex e he) B
structure aa5 where
 mD:Goroutine
 xw:Goroutine
 mA:Goroutine
 mA':Goroutine
 mR:Goroutine
 mR':Goroutine
 mE:Goroutine
 mE':Goroutine
 k0:Nat
 k1:Nat
 k2:Nat
 k3:Nat
 k4:Nat
def RQ (a:Addr):Event:=⟨.mark (.read a),false,true⟩
structure yH (P:Program) (r:Nat) (pre:X_) (ty:TypeId) (g0 IP:Goroutine) (x:aa5):Prop where
 runs:x.mD.status=.running/\x.mA.status=.running/\x.mR.status=.running/\x.mE.status=.running
 s0:IJ P (Cv r pre ty) true x.k0 g0 x.mD
 TG:∀w,stepG P true x.mD w=.go x.xw w #[GR]
 s1:IJ P (Cv r pre ty) true x.k1 x.xw x.mA
 add:∀w,w.cell? (stA r pre)=some (.int .u64 0)->w.frozen? (stA r pre)=false->stepG P true x.mA w=.go x.mA' (w.setCell (stA r pre) (.int .u64 KK)) (Ij (stA r pre))
 s2:IJ P (Cv r pre ty) true x.k2 x.mA' x.mR
 rd:∀w,stepG P true x.mR w=.go x.mR' w #[RQ (smA r pre)]
 s3:IJ P (Cv r pre ty) true x.k3 x.mR' x.mE
 ena:∀w,stepG P true x.mE w=.go x.mE' w #[Jd]
 s4:IJ P (Cv r pre ty) true x.k4 x.mE' IP
theorem fD {r:Nat} {pre:X_} {ty:TypeId} {g0 IP:Goroutine} {x:aa5} (H:yH P r pre ty g0 IP x) (hZ:Z r) {B:Nat} {gs:Array Goroutine} {w:World} {sl:Option (W_)} {t:Trace} {q:Nat->Nat}
  (h0:gs[0]?=some g0) (hL:Leavers P t gs q) (hP:Past Ac B t) (hB:w.heap.size<=B) (hr:A7 r pre ty w 0 0):
  AB P gs w sl t fun AZ w' t'=>∃q',AZ[0]?=some IP/\BO Z w w'/\A7 r pre ty w' KK 0/\Leavers P t' AZ q'/\Past Ac B t'/\w'.heap.size<=B:=by
 have hrB:r<B:=by have:=hr.lt;omega
 have M1:Oy (fun t=>PX Ac (fun _=>False) (fun g=>g=0/\True) (fun _=>False) B 0 t):=Xz (Mem:=fun _=>True) B;have M0:Oy (fun t=>PX Ac (fun _=>False) (fun g=>g=0/\False) (fun _=>False) B 0 t/\Deaf t 0=1):=fun t i fn pos es hi Ex h=>⟨Xz (Mem:=fun _=>False) B t i fn pos es hi Ex h.1,by rw[Deaf_other t hi _ ofEvents_g];exact h.2⟩
 have P0:PX Ac (fun _=>False) (fun g=>g=0/\True) (fun _=>False) B 0 t:=(PX.ofPast hP (fun _ h=>h.elim) (fun _ h=>h.elim)).fewer fun g hg=>hg.1
 refine(Iu M1 x.k0 H.s0 (fun d=>hr.is d) h0 hL P0).bind fun gs1 w1 G6 t1 _ ⟨q1,d1,h1,e1,L1,X1⟩=>?_
 subst e1;refine go_mute M1 h1 H.runs.1 L1 X1 fun d2 t2 X2=>⟨_,_,_,H.TG _,fun lV q3 _ h3 L3 Zh=>?_⟩
 have X3:PX Ac (fun _=>False) (fun g=>g=0/\False) (fun _=>False) B 0 (t2++MemOp.ofEvents 0 x.mD.frame.fn x.mD.frame.place #[GR])/\Deaf (t2++MemOp.ofEvents 0 x.mD.frame.fn x.mD.frame.place #[GR]) 0=1:=by
  refine⟨(X2.fewer (IQ:=fun g=>g=0/\False) fun g hg=>hg.2.elim).appMute ofEvents_g (fun op AO=>?_) (fun hm=>hm.2.elim) (fun op AO=>?_),?_⟩
  ·obtain⟨e,he,rfl⟩:=Go.Conc.mem_ofEvents AO;simp at he;subst he;rfl
  ·obtain⟨e,he,rfl⟩:=Go.Conc.mem_ofEvents AO;simp at he;subst he;trivial
  ·rw[Deaf_own,X2.hears 0 ⟨rfl,trivial⟩];rfl
 refine(Iu M0 x.k1 H.s1 (w:=(w.at d1).at d2) (fun d=>hr.is d) h3 L3 X3).bind fun gs4 w4 JY t4 _ ⟨q4,d4,h4,e4,L4,X4⟩=>?_
 subst e4;have rAt:∀d,A7 r pre ty ((((w.at d1).at d2).at d4).at d) 0 0:=fun d=>hr
 refine go_mute M0 h4 H.runs.2.1 L4 X4 fun d5 t5 X5=>⟨_,_,_,H.add _ (rAt d5).cellSt (rAt d5).Mm,fun yY q6 _ h6 L6 DT=>?_⟩
 have atom:∀(a:Addr),a.block=r->∀wr:Bool,Ux Ac (fun _=>False) B ⟨.cell a,wr,true⟩:=fun a ha wr=>⟨fun x hx=>by obtain rfl:=Option.some.inj hx;exact⟨fun h=>h.elim,fun _=>by simp⟩,by simp,by simp,by show a.block<B;omega,by simp⟩
 have own:∀{t:Trace} {fn:FuncId} {pos:String} {es:Array Event},(∀e∈es,Ux Ac (fun _=>False) B e)->(PX Ac (fun _=>False) (fun g=>g=0/\False) (fun _=>False) B 0 t/\Deaf t 0=1)->(PX Ac (fun _=>False) (fun g=>g=0/\False) (fun _=>False) B 0 (t++MemOp.ofEvents 0 fn pos es)/\Deaf (t++MemOp.ofEvents 0 fn pos es) 0=1):=fun {t fn pos es} Ex h=>by
  refine⟨h.1.own Ex,?_⟩
  rw[Deaf_own,deafBehind_still (fun e he=>⟨(Ex e he).2.1,(Ex e he).2.2.1⟩)]
  exact h.2
 have X6:=own (fn:=x.mA.frame.fn) (pos:=x.mA.frame.place) (es:=Ij (stA r pre)) (fun e he=>by
  simp only[Ij,List.mem_toArray,List.mem_cons,List.not_mem_nil,or_false]at he
  rcases he with rfl|rfl
  ·exact atom _ rfl false
  ·exact atom _ rfl true) X5
 refine(Iu M0 x.k2 H.s2 (fun d=>((rAt d5).setSt KK).is d) h6 L6 X6).bind fun rQ w7 rO t7 _ ⟨q7,d7,h7,e7,L7,X7⟩=>?_
 refine go_mute M0 h7 H.runs.2.2.1 L7 X7 fun d8 t8 X8=>⟨_,_,_,H.rd _,fun gs9 q9 _ h9 L9 sl9=>?_⟩
 have X9:=own (fn:=x.mR.frame.fn) (pos:=x.mR.frame.place) (es:=#[RQ (smA r pre)]) (fun e he=>by
  simp at he;subst he
  exact⟨fun x hx=>by obtain rfl:=Option.some.inj hx;exact⟨fun h=>h.elim,fun _=>by simp⟩,by simp[RQ],by simp[RQ],hrB,by simp[RQ]⟩) X8;refine(Iu M0 x.k3 H.s3 (fun d=>by subst e7;exact((rAt d5).setSt KK).is d) h9 L9 X9).bind fun gsa wa WC ta _ ⟨qa,da,ha,ea,La,Xa⟩=>?_
 refine go_mute M0 ha H.runs.2.2.2 La Xa fun db tb Xb=>⟨_,_,_,H.ena _,fun gsc qc _ hc Lc xm=>?_⟩
 have Xc:PX Ac (fun _=>False) (fun g=>g=0/\False) (fun _=>False) B 0 (tb++MemOp.ofEvents 0 x.mE.frame.fn x.mE.frame.place #[Jd]):=Xb.1.appMute ofEvents_g (fun op AO=>by
  obtain⟨e,he,rfl⟩:=Go.Conc.mem_ofEvents AO;simp at he;subst he;rfl) (fun hm=>hm.2.elim) (fun op AO=>by
  obtain⟨e,he,rfl⟩:=Go.Conc.mem_ofEvents AO;simp at he;subst he;trivial);have Pc:Past Ac B (tb++MemOp.ofEvents 0 x.mE.frame.fn x.mE.frame.place #[Jd]):=Xc.toPast (by rw[Deaf_own,Xb.2];rfl) (fun _ h=>h) (fun _ h _=>h);have Xc':PX Ac (fun _=>False) (fun g=>g=0/\True) (fun _=>False) B 0 (tb++MemOp.ofEvents 0 x.mE.frame.fn x.mE.frame.place #[Jd]):=(PX.ofPast Pc (fun _ h=>h.elim) (fun _ h=>h.elim)).fewer fun g hg=>hg.1
 refine(Iu M1 x.k4 H.s4 (fun d=>by subst ea e7;exact((rAt d5).setSt KK).is d) hc Lc Xc').mono fun AZ w' t' ⟨q',d',j1,j2,j3,j4⟩=>?_
 subst j2 ea e7;have off:BO Z w ((((((((w.at d1).at d2).at d4).at d5).setCell (stA r pre) (.int .u64 KK)).at d7).at d8).at da):=by
  refine⟨by simp[World.setCell,World.at],fun k hk=>?_,rfl,rfl,rfl⟩
  have:r≠k:=fun e=>hk (e ▸ hZ)
  simp[World.setCell,World.at,stA,Array.getElem?_modify,this]
 refine⟨q',j1,⟨off.size,off.same,off.os,off.output,off.tape⟩,(rAt d5).setSt KK,j3,j4.toPast (j4.hears 0 ⟨rfl,trivial⟩) (fun _ h=>h) (fun _ h _=>h),?_⟩;simp only[World.setCell,World.at,Array.size_modify];exact hB
end
def AgL (Zl:Nat->Prop) (w w1:World):Prop:=∀x,Zl x->w1.heap[x]?=w.heap[x]?
def FV (P:Program) (r:Nat) (pre:X_) (ty:TypeId) (Zl:Nat->Prop) (gR:Goroutine) (X:World->Prop):Nat->Goroutine->World->Prop
 | 0,g,w=>g=gR/\X w
 | n+1,g,w=>g.status=.running/\∀w1,AgL Zl w w1->Cv r pre ty w1->∃g' w' es,stepG P false g w1=.go g' w' es/\(∀e∈es,∃a wr,e=⟨.cell a,wr,false⟩/\Zl a.block/\a.block<w'.heap.size)/\BO Zl w1 w'/\FV P r pre ty Zl gR X n g' w'
section
variable {P:Program} {Z Zl:Nat->Prop} {Ac Still:Loc->Prop} {Ak:Nat->Prop} {r:Nat} {pre:X_} {ty:TypeId} {c:Nat} {o:NR} {gR:Goroutine} {X:World->Prop}
theorem FV.agree (hX:∀w w1,AgL Zl w w1->X w->X w1):∀{n:Nat} {g:Goroutine} {w w1:World},AgL Zl w w1->FV P r pre ty Zl gR X n g w->FV P r pre ty Zl gR X n g w1
 | 0,_,_,_,ha,h=>⟨h.1,hX _ _ ha h.2⟩
 | _+1,_,_,_,ha,h=>⟨h.1,fun w2 h2 hr=>h.2 w2 (fun x hx=>(h2 x hx).trans (ha x hx)) hr⟩
theorem FV.OO (hX:∀w w1,AgL Zl w w1->X w->X w1) {n:Nat} {g':Goroutine} {w:World} (h:FV P r pre ty Zl gR X n g' w):∀{k:Nat} {g:Goroutine},IJ P (Cv r pre ty) false k g g'->FV P r pre ty Zl gR X (k+n) g w
 | 0,g,hs=>by rw[Nat.zero_add,show g=g' from hs];exact h
 | k+1,g,hs=>by
  rw[show k+1+n=(k+n)+1 from by omega]
  obtain⟨h1,g1,h2,h3⟩:=hs
  exact⟨h1,fun w1 ha hr=>⟨g1,w1,#[],h2 w1 hr,by simp,BO.refl w1,(FV.OO hX h h3).agree hX ha⟩⟩
def VA (P:Program) (c r:Nat) (pre:X_) (ty:TypeId) (o:NR) (Ac Still:Loc->Prop) (Zl:Nat->Prop) (X:World->Prop) (w0:Bool) (n:Nat) (g:Goroutine) (w:World) (t:Trace):Prop:=
 (Il c r pre t/\zl Ac Still c t)/\A7 r pre ty w (if w0 then KK+1 else KK) 0/\Deaf t c=0/\∃k,n=k+1+(o.k1+o.k2+o.k3+o.k4+o.nF+o.nP+10)/\FV P r pre ty Zl o.gR X (k+1) g w
theorem vD (hZ:Z r) (hZl:∀x,Zl x->Z x) (BN:¬Zl r) (hW:∀l,I8 r pre l->Ac l/\¬Still l) (BC:∀a:Addr,Zl a.block->Still (.cell a)/\Ac (.cell a)) (hc:c≠0) (hL:Ak c) (hX:∀w w1,AgL Zl w w1->X w->X w1):
  JF P Z Ac Still Ak c r pre ty o (VA P c r pre ty o Ac Still Zl X) X where
 status:=by
  rintro w0 n g w t ⟨_,_,_,k,rfl,hs,_⟩
  exact⟨hs,by omega⟩
 run:=by
  rintro w0 n g w t ⟨_,h,_⟩
  exact h
 calm:=by
  rintro w0 n g w t w' u ⟨⟨h1,h2⟩,h3,h4,k,h5,h6⟩ hk hu
  exact⟨⟨h1.calm (fun l hl=>(hW l hl).1) hu,h2.app fun op AO b hb hs hsh=>((((hu op AO).2.1 b hb).1 hs).2 hsh).elim⟩,h3.keep hZ hk,(Ve hu).trans h4,k,h5,h6.agree hX fun x hx=>hk x (hZl x hx)⟩
 mark:=by
  rintro w0 n g w t es fn pos d Ex ⟨⟨h1,h2⟩,h3,h4,k,h5,h6⟩
  have hno:∀op∈MemOp.ofEvents 0 fn pos es,op.act.touch?=none:=fun op AO=>by
   obtain⟨e,he,rfl⟩:=Go.Conc.mem_ofEvents AO
   exact(Ex e he).1
  exact⟨⟨h1.app fun op AO b hb _=>(by rw[hno op AO]at hb;cases hb),h2.app fun op AO b hb=>(by rw[hno op AO]at hb;cases hb)⟩,h3,by rw[Deaf_other t (g':=0) (Ne.symm hc) _ ofEvents_g];exact h4,k,h5,h6.agree hX fun _ _=>rfl⟩
 up:=by
  rintro n g w t fn pos d Li ⟨⟨h1,h2⟩,h3,h4,k,h5,h6⟩
  have EY:∀op∈MemOp.ofEvents 0 fn pos (Ij (stA r pre)),∀b,op.act.touch?=some b->b.loc=.cell (stA r pre)/\b.kind=.atomic:=by
   intro op AO b hb
   obtain⟨e,he,rfl⟩:=Go.Conc.mem_ofEvents AO
   simp only[Ij,List.mem_toArray,List.mem_cons,List.not_mem_nil,or_false]at he
   rcases he with rfl|rfl<;>(obtain rfl:=Option.some.inj hb;exact⟨rfl,rfl⟩)
  refine⟨⟨h1.app fun op AO b hb _=>by rw[(EY op AO b hb).2];simp,h2.app fun op AO b hb hs=>?_⟩,A7.setSt (w:=w.at d) Li _,by rw[Deaf_other t (g':=0) (Ne.symm hc) _ ofEvents_g];exact h4,k,h5,h6.agree hX fun x hx=>?_⟩
  ·rw[(EY op AO b hb).1]at hs;exact((hW _ (.inl rfl)).2 hs).elim
  ·have:r≠x:=fun e=>BN (e ▸ hx)
   simp[World.setCell,World.at,stA,Array.getElem?_modify,this]
 step:=by
  rintro Mem w0 n g w t B hM ⟨⟨h1,h2⟩,h3,h4,k,rfl,h6⟩ Gw hB d
  obtain⟨g',w',es,e1,e2,e3,e4⟩:=h6.2 (w.at d) (fun _ _=>rfl) (h3.is d)
  have hops:(∀op∈MemOp.ofEvents c g.frame.fn g.frame.place es,∀b,op.act.touch?=some b->∃a:Addr,b.loc=.cell a/\Zl a.block)/\(∀op∈MemOp.ofEvents c g.frame.fn g.frame.place es,op.act.low (max B w'.heap.size))/\Deaf (t++MemOp.ofEvents c g.frame.fn g.frame.place es) c=Deaf t c:=by
   refine⟨fun op AO b hb=>?_,fun op AO=>?_,?_⟩
   ·obtain⟨e,he,rfl⟩:=Go.Conc.mem_ofEvents AO;obtain⟨a,wr,rfl,ha,_⟩:=e2 e he;obtain rfl:=Option.some.inj hb;exact⟨a,rfl,ha⟩
   ·obtain⟨e,he,rfl⟩:=Go.Conc.mem_ofEvents AO;obtain⟨a,wr,rfl,_,ha⟩:=e2 e he;exact Nat.lt_of_lt_of_le ha (Nat.le_max_right ..)
   ·rw[Deaf_own];exact deafBehind_still (fun e he=>by obtain⟨a,wr,rfl,_⟩:=e2 e he;exact⟨by simp,by simp⟩) _
  have ag1:Il c r pre (t++MemOp.ofEvents c g.frame.fn g.frame.place es):=h1.app fun op AO b hb hw=>by
   obtain⟨a,ha,hz⟩:=hops.1 op AO b hb
   rw[ha]at hw
   rcases hw with e|e<;>(injection e with e;exact(BN (by rw[e]at hz;exact hz)).elim)
  have kn:zl Ac Still c (t++MemOp.ofEvents c g.frame.fn g.frame.place es):=h2.app fun op AO _ _ _ _=>ofEvents_g op AO
  have px:PX Ac Still Mem Ak (max B w'.heap.size) 0 (t++MemOp.ofEvents c g.frame.fn g.frame.place es):=
   (Gw.mono (Nat.le_max_left ..)).wH hM hL h2 ofEvents_g (fun op AO b hb=>by obtain⟨a,ha,hz⟩:=hops.1 op AO b hb;rw[ha];exact BC a hz) hops.2.1;have FW:A7 r pre ty w' (if w0=true then KK+1 else KK) 0:=by unfold A7;rw[e3.same r BN];exact h3
  refine .inl ⟨k+(o.k1+o.k2+o.k3+o.k4+o.nF+o.nP+10),g',w',es,by omega,e1,(show BO Zl w w' from⟨e3.size,e3.same,e3.os,e3.output,e3.tape⟩).sub hZl,⟨max B w'.heap.size,Nat.le_max_left ..,Nat.le_max_right ..,px⟩,?_⟩;cases k with
  | zero=>
   obtain⟨rfl,hx⟩:=e4
   exact .inr ⟨⟨ag1,.inl ⟨0,rfl,rfl,FW,hops.2.2.trans h4⟩⟩,hx⟩
  | succ k=>exact .inl ⟨⟨ag1,kn⟩,FW,hops.2.2.trans h4,k,rfl,e4⟩
 low:=by
  rintro w0 n g w t d g' w' es st' ⟨_,h3,_,k,_,h6⟩ hs h1
  obtain⟨g1,w2,es2,e1,_,e3,_⟩:=h6.2 (w.at d) (fun _ _=>rfl) (h3.is d)
  rw[e1]at hs
  injection hs with _ hw _
  subst hw
  have FW:A7 r pre ty w2 (if w0=true then KK+1 else KK) 0:=by unfold A7;rw[e3.same r BN];exact h3
  exact absurd (FW.eq h1).2 (by decide)
 keep:=fun w w' h hk=>hX w w' (fun x hx=>hk x (fun e=>BN (e ▸ hx)) (hZl x hx)) h
end
end Go.Fxa
namespace Go.Fxa
open Go.Conc
def AP (x:Frame×Z_):Option (FuncId×X_):=
 match x.1.roundOf,x.1.mode,x.1.kind==CallKind.early,x.1.todo with
 | none,.run,false,.inRegion ops (i::_)::_=>match ops[i]? with
  | some o=>if Region.wanted o (yielded ops x.1.tmps)then match o.op with
   | .call { callee:=.value (.func f),args:=Ri,argTypes:=_ }=>some (f,Ri.map x.1.eval)
   | _=>none
   else none
  | none=>none
 | _,_,_,_=>none
def Entry (P:Program) (f:FuncId) (e:Array Value->Sem Value):Prop:=∃fn,P.funcs[f]?=some fn/\(fn.name== "runtime.NumGoroutine")=false/\fn.body.isNone=true/\Extern.findNext fn=none/\Extern.find fn=some e
def Bj (x:Frame×Z_) (v:Value):Frame×Z_:=(x.1.finish v,x.2)
section
variable {P:Program} {main:Bool} {x:Frame×Z_} {f:FuncId} {args:X_} {e:X_->Sem Value} {w w':World} {v:Value} {CR:Array Event}
theorem Et (h:AP x=some (f,args)) (hE:Entry P f e) (Bg:(e args).run P w=.ok v w') (EY:(e args).events P w #[⟨.mark (.extern f),false,true⟩]=#[⟨.mark (.extern f),false,true⟩]++CR) (hs:∀x∈CR,x.sync=true/\∀g,x.loc≠.mark (.extern g)):
  stepG P main (G x.1 x.2) w=.go (G (Bj x v).1 (Bj x v).2) w' CR:=by
 obtain⟨⟨fn,tmps,todo,ds,mode,kind,ro⟩,cs⟩:=x;obtain⟨fn',hf,hname,hb,hn,he⟩:=hE;unfold AP at h;simp only at h;split at h
 ·rename_i ops r1 r2 r3 r4;split at h
  ·rename_i o ho;split at h
   ·rename_i hw;split at h
    ·rename_i f' Ri ats AO;simp only[Option.some.injEq,Prod.mk.injEq]at h;obtain⟨rfl,rfl⟩:=h;have hk:kind≠.early:=fun e=>by subst e;simp at r4
     have hm:=Frame.eval_at' (Frame.mk fn tmps [] ds .run kind none) ⟨tmps,ds⟩ (.inRegion ops (r1::r2)::r3);have hm':(Frame.mk fn tmps (.inRegion ops (r1::r2)::r3) ds .run kind none).eval=(Act.mk tmps ds).eval:=hm;rw[hm']at Bg EY;exact(stepG_entry (b:=Frame.mk fn tmps [] ds .run kind none) (a:=⟨tmps,ds⟩) (kk:=r3) ho hw hk AO hf hname hb hn he Bg EY hs).trans (by unfold Bj Act.put Frame.at Frame.finish;simp only[ho,Option.bind_some];cases o.dst<;>rfl)
    ·cases h
   ·cases h
  ·cases h
 ·cases h
theorem dO (h:AP x=some (f,args)) (hE:Entry P f e) (Bg:(e args).run P w=.halt .blocked w'):stepG P main (G x.1 x.2) w=.go { G x.1 x.2 with status:=.blocked } w' #[]:=by
 obtain⟨⟨fn,tmps,todo,ds,mode,kind,ro⟩,cs⟩:=x;obtain⟨fn',hf,hname,hb,hn,he⟩:=hE;unfold AP at h;simp only at h;split at h
 ·rename_i ops r1 r2 r3 r4;split at h
  ·rename_i o ho;split at h
   ·rename_i hw;split at h
    ·rename_i f' Ri ats AO;simp only[Option.some.injEq,Prod.mk.injEq]at h;obtain⟨rfl,rfl⟩:=h;have hm':(Frame.mk fn tmps (.inRegion ops (r1::r2)::r3) ds .run kind none).eval=(Act.mk tmps ds).eval:=Frame.eval_at' (Frame.mk fn tmps [] ds .run kind none) ⟨tmps,ds⟩ (.inRegion ops (r1::r2)::r3);rw[hm']at Bg;exact stepG_entry_blocked (b:=Frame.mk fn tmps [] ds .run kind none) (a:=⟨tmps,ds⟩) (kk:=r3) ho hw AO hf hname hb hn he Bg
    ·cases h
   ·cases h
  ·cases h
 ·cases h
/-! ### each by itself -/
theorem Pz (m:Mark) (hm:∀g,m≠.extern g) (h:AP x=some (f,args)) (hE:Entry P f (fun _=>do mark m;pure Extern.Race.none_)):
  stepG P main (G x.1 x.2) w=.go (G (Bj x (.tuple #[])).1 (Bj x (.tuple #[])).2) w #[⟨.mark m,false,true⟩]:=
 Et h hE (by simp[Extern.Race.none_]) (by simp) (by
  intro y hy
  simp at hy
  subst hy
  exact⟨rfl,fun g h=>hm g (by cases h;rfl)⟩)
theorem ND (mk:Addr->Mark) (hm:∀ad g,mk ad≠.extern g) {ad:Addr} (h:AP x=some (f,#[.pointer (some ad)])) (hE:Entry P f (Extern.Race.marked mk)):
  stepG P main (G x.1 x.2) w=.go (G (Bj x (.tuple #[])).1 (Bj x (.tuple #[])).2) w #[⟨.mark (mk ad),false,true⟩]:=
 Et h hE (by simp[Extern.Race.marked,Extern.Race.at_,Extern.Race.none_]) (by simp[Extern.Race.marked,Extern.Race.at_]) (by
  intro x Fj
  simp at Fj
  subst Fj
  exact⟨rfl,fun g h=>hm ad g (Loc.mark.inj h)⟩)
theorem av {k:IntKind} {ad:Addr} {n d:Int} (h:AP x=some (f,#[.pointer (some ad),.int k d])) (hE:Entry P f (Extern.Atomic.update (Op.intArith .add) k true)) (hc:w.cell? ad=some (.int k n)) (hz:w.frozen? ad=false):
  stepG P main (G x.1 x.2) w=.go (G (Bj x (.int k (k.wrap (n+d)))).1 (Bj x (.int k (k.wrap (n+d)))).2) (w.setCell ad (.int k (k.wrap (n+d)))) (Ij ad):=
 Et h hE (run_add_entry hc hz) (by rw[events_add_entry hc hz];rfl) (sync_rw ad)
theorem eQ {k:IntKind} {ad:Addr} {n n':Int} (h:AP x=some (f,#[.pointer (some ad),.int k n,.int k n'])) (hE:Entry P f (Extern.Atomic.casT (.int k))) (hc:w.cell? ad=some (.int k n)) (hz:w.frozen? ad=false):
  stepG P main (G x.1 x.2) w=.go (G (Bj x (.bool true)).1 (Bj x (.bool true)).2) (w.setCell ad (.int k n')) (Ij ad):=
 Et h hE (by rw[casT_eq];exact run_cas_hit_entry hc hz) (by rw[casT_eq,events_cas_hit_entry hc hz];rfl) (sync_rw ad)
theorem Y3 {k:IntKind} {ad:Addr} {m n n':Int} (h:AP x=some (f,#[.pointer (some ad),.int k n,.int k n'])) (hE:Entry P f (Extern.Atomic.casT (.int k))) (hc:w.cell? ad=some (.int k m)) (hz:w.frozen? ad=false) (BN:¬m=n):
  stepG P main (G x.1 x.2) w=.go (G (Bj x (.bool false)).1 (Bj x (.bool false)).2) w #[⟨.cell ad,false,true⟩]:=
 Et h hE (by rw[casT_eq];exact run_cas_miss_entry hc hz BN) (by rw[casT_eq,events_cas_miss_entry hc hz BN];rfl) (sync_r ad)
theorem O6 {k:IntKind} {ad:Addr} {n:Int} (h:AP x=some (f,#[.pointer (some ad)])) (hE:Entry P f (Extern.Atomic.loadT (.int k))) (hc:w.cell? ad=some (.int k n)):
  stepG P main (G x.1 x.2) w=.go (G (Bj x (.int k n)).1 (Bj x (.int k n)).2) w #[⟨.cell ad,false,true⟩]:=
 Et h hE (by
  change (Sem.run P (do Extern.Atomic.read (.int k) (<-asAddr (.pointer (some ad)))) w)=_
  simp[Extern.Atomic.read,asAddr,hc]) (by
  change Sem.events P (do Extern.Atomic.read (.int k) (<-asAddr (.pointer (some ad)))) w _=_
  simp[Extern.Atomic.read,asAddr,hc,events_load]) (sync_r ad)
theorem pW {k:IntKind} {ad:Addr} {n:Int} {u:Value} (h:AP x=some (f,#[.pointer (some ad),.int k n])) (hE:Entry P f Extern.Atomic.storeT) (hc:w.cell? ad=some u) (hz:w.frozen? ad=false):
  stepG P main (G x.1 x.2) w=.go (G (Bj x (.tuple #[])).1 (Bj x (.tuple #[])).2) (w.setCell ad (.int k n)) #[⟨.cell ad,true,true⟩]:=
 Et h hE (by
  change (Sem.run P (do
   store (<-asAddr (.pointer (some ad))) (.int k n) .atomic
   pure Extern.Atomic.none_) w)=_
  simp[asAddr,hc,hz,run_store P w ad (.int k n) .atomic rfl,Result.andThen,Extern.Atomic.none_]) (by
  change Sem.events P (do
   store (<-asAddr (.pointer (some ad))) (.int k n) .atomic
   pure Extern.Atomic.none_) w _=_
  simp[asAddr,hc,hz,events_store P w _ ad (.int k n) .atomic rfl]) (fun x hx=>by
  simp at hx;subst hx;exact⟨rfl,fun g h=>by cases h⟩)
theorem fE {ad:Addr} {n:Int} (h:AP x=some (f,args)) (hx:args[0]?=some (.pointer (some ad))) (hE:Entry P f Extern.Sync.semacquire) (hc:w.cell? ad=some (.int .u32 n)) (hn0:n≠0) (hz:w.frozen? ad=false):
  stepG P main (G x.1 x.2) w=.go (G (Bj x (.tuple #[])).1 (Bj x (.tuple #[])).2) (w.setCell ad (.int .u32 (n-1))) (semEvents ad):=
 Et h hE (by simp[Extern.Sync.semacquire,Extern.Sync.count,hx,hc,hn0,hz,Extern.Sync.none_,run_store P w ad (.int .u32 (n-1)) .atomic rfl,Result.andThen])
  (by simp[Extern.Sync.semacquire,Extern.Sync.count,hx,hc,hn0,hz,semEvents,events_load,events_store P w _ ad (.int .u32 (n-1)) .atomic rfl,run_store P w ad (.int .u32 (n-1)) .atomic rfl,Result.evThen]) (semEvents_sync ad)
theorem Rb {ad:Addr} (h:AP x=some (f,args)) (hx:args[0]?=some (.pointer (some ad))) (hE:Entry P f Extern.Sync.semacquire) (hc:w.cell? ad=some (.int .u32 0)):
  stepG P main (G x.1 x.2) w=.go { G x.1 x.2 with status:=.blocked } w #[]:=
 dO h hE (by simp[Extern.Sync.semacquire,Extern.Sync.count,hx,hc])
theorem bS {ad:Addr} {n:Int} (h:AP x=some (f,args)) (hx:args[0]?=some (.pointer (some ad))) (hE:Entry P f Extern.Sync.semrelease) (hc:w.cell? ad=some (.int .u32 n)) (hz:w.frozen? ad=false):
  stepG P main (G x.1 x.2) w=.go (G (Bj x (.tuple #[])).1 (Bj x (.tuple #[])).2) (w.setCell ad (.int .u32 (IntKind.u32.wrap (n+1)))) (semEvents ad):=
 Et h hE (by simp[Extern.Sync.semrelease,Extern.Sync.count,hx,hc,hz,Extern.Sync.none_,Op.intArith,run_store P w ad (.int .u32 (IntKind.u32.wrap (n+1))) .atomic rfl,Result.andThen])
  (by simp[Extern.Sync.semrelease,Extern.Sync.count,hx,hc,hz,semEvents,Op.intArith,events_load,events_store P w _ ad (.int .u32 (IntKind.u32.wrap (n+1))) .atomic rfl,run_store P w ad (.int .u32 (IntKind.u32.wrap (n+1))) .atomic rfl,Result.evThen]) (semEvents_sync ad)
/-! ### operations that only read -/
end
end Go.Fxa
namespace Go
open Go.Fxa Go.Conc
section
variable {P:Program} {main:Bool} {x:Frame×Z_} {f:FuncId} {args:X_} {e:X_->Sem Value} {w w':World} {v:Value} {CR:Array Event}
def Sem.feed (P:Program) {α:Type}:Sem α->U_->Option (List Addr×α)
 | .pure a,_=>some ([],a)
 | .program k,vs=>(k P).feed P vs
 | .load m a k,v::vs=>match m,(k v).feed P vs with
  | .plain,some (Ri,x)=>some (a::Ri,x)
  | _,_=>none
 | _,_=>none
end
end Go
namespace Go.Fxa
open Go.Conc
section
variable {P:Program} {main:Bool} {x:Frame×Z_} {f:FuncId} {args:X_} {e:X_->Sem Value} {w w':World} {v:Value} {CR:Array Event}
def Cells (w:World):List Addr->U_->Prop
 | [],_=>True
 | a::Ri,v::vs=>w.cell? a=some v/\Cells w Ri vs
 | _::_,[]=>False
def FK (Ri:List Addr):Array Event:=(Ri.map fun a=>⟨.cell a,false,false⟩).toArray
theorem kK {α:Type} {e:Sem α} {a:α}:∀{vs:U_} {Ri:List Addr} (_:e.feed P vs=some (Ri,a)) (_:Cells w Ri vs) (es:Array Event),e.runT P w es=(.ok a w,es++FK Ri):=by
 induction e with
 | pure b=>
  intro vs Ri h _ es
  simp only[Sem.feed,Option.some.injEq,Prod.mk.injEq]at h
  obtain⟨rfl,rfl⟩:=h
  simp[Sem.runT,FK]
 | program k ih=>intro vs Ri h hc es;exact ih P h hc es
 | load m ad k ih=>
  intro vs Ri h hc es
  cases vs with
  | nil=>simp[Sem.feed]at h
  | cons v vs=>
   simp only[Sem.feed]at h
   split at h
   ·rename_i as' y hf;simp only[Option.some.injEq,Prod.mk.injEq]at h;obtain⟨rfl,rfl⟩:=h;obtain⟨h1,h2⟩:=hc;simp only[Sem.runT,h1];rw[ih v hf h2];simp only[Prod.mk.injEq,true_and];apply Array.ext';simp[FK]
   ·cases h
 | _=>intro vs Ri h;cases vs<;>simp[Sem.feed]at h
def opAt (x:Frame×Z_):Option Oper:=
 match x.1.roundOf,x.1.mode,x.1.kind==CallKind.early,x.1.todo with
 | none,.run,false,.inRegion ops (i::_)::_=>match ops[i]? with
  | some o=>if Region.wanted o (yielded ops x.1.tmps)then some o else none
  | none=>none
 | _,_,_,_=>none
theorem MI {o:Oper} (h:opAt x=some o):stepG P main (G x.1 x.2) w=stepG.apply P true x.1 x.2 none (execOp x.1.eval o) w/\(x.1.kind==CallKind.early)=false:=by
 obtain⟨⟨fn,tmps,todo,ds,mode,kind,ro⟩,cs⟩:=x;unfold opAt at h;simp only at h;split at h
 ·rename_i ops r1 r2 r3 r4;split at h
  ·rename_i o' ho;split at h
   ·rename_i hw;obtain rfl:=Option.some.inj h;refine⟨?_,r4⟩;simp[G,stepG,stepG.exec,stepG.oper,Frame.oper?,ho,hw]
   ·cases h
  ·cases h
 ·cases h
theorem bU {fn:FuncId} (hq:(P.funcs[fn]?).any (·.norace)=false) (Ri:List Addr):seen P fn (#[]++FK Ri)=FK Ri:=by
 rw[Array.empty_append];exact seen_eq hq (fun e he f=>by
  simp only[FK,List.mem_toArray,List.mem_map]at he
  obtain⟨a,_,rfl⟩:=he
  simp)
theorem gZ {o:Oper} {vs:U_} {Ri:List Addr} (h:opAt x=some o) (hf:(execOp x.1.eval o).feed P vs=some (Ri,.value v)) (hc:Cells w Ri vs) (hq:(P.funcs[x.1.fn]?).any (·.norace)=false):
  stepG P main (G x.1 x.2) w=.go (G (Bj x v).1 (Bj x v).2) w (FK Ri):=by
 obtain⟨h1,h2⟩:=MI (P:=P) (main:=main) (w:=w) h;rw[h1];simp only[stepG.apply,kK hf hc #[],if_true,GStep.after,Array.append_empty,h2,Bool.false_eq_true,if_false,bU hq]
 rfl
theorem iJ {o:Oper} {cs:Array CommCase} {bl:Bool} {sh:CommShape} (h:opAt x=some o) (hf:(execOp x.1.eval o).GN P=some (.comm cs bl sh)):
  stepG P main (G x.1 x.2) w=.comm (G x.1 x.2) cs bl sh w #[]:=by
 obtain⟨h1,h2⟩:=MI (P:=P) (main:=main) (w:=w) h;rw[h1];simp only[stepG.apply,GZ hf w #[],if_true,GStep.after,Array.append_empty,h2,Bool.false_eq_true,if_false,seen_none]
 rfl
end
end Go.Fxa
