/- The join: goroutine 0 waits fo -/
import Derived.Test.YtmhplpfpcnjekaaGreatA08
namespace Go.Fxa
open Go.Conc
open Go.ConcN (sumTo upd sumTo_upd upd_ne upd_same)
structure Wts where
 mD:m_
 mD':m_
 mL:m_
 mL0:m_
 mLK:m_
 mC:m_
 mC1:m_
 mC0:m_
 mW:m_
 mW':m_
 fr:Frame
 cs:Z_
 ϰ:m_
 k0:Nat
 k1:Nat
 k2:Nat
 k3:Nat
 k4:Nat
structure zN (P:l_) (r:Nat) (pre:X_) (ty:j_) (g0 J9:m_) (x:Wts):Prop where
 runs:x.mD.status=.running/\x.mL.status=.running/\x.mC.status=.running/\x.mW.status=.running
 s0:J5 P (Dj r pre ty) true x.k0 g0 x.mD
 XG:∀w,stepG P true x.mD w=.go x.mD' w #[Ja]
 s1:J5 P (Dj r pre ty) true x.k1 x.mD' x.mL
 an6:∀w,w.cell? (stA r pre)=some (.int .u64 0)->stepG P true x.mL w=.go x.mL0 w #[⟨.cell (stA r pre),false,true⟩]
 fin0:ab5 P r pre ty J9 x.mL0
 an5:∀w,w.cell? (stA r pre)=some (.int .u64 KK)->stepG P true x.mL w=.go x.mLK w #[⟨.cell (stA r pre),false,true⟩]
 s2:J5 P (Dj r pre ty) true x.k2 x.mLK x.mC
 Ik:∀w,w.cell? (stA r pre)=some (.int .u64 KK)->w.frozen? (stA r pre)=false->stepG P true x.mC w=.go x.mC1 (w.setCell (stA r pre) (.int .u64 (KK+1))) (JM (stA r pre))
 miss:∀w,w.cell? (stA r pre)=some (.int .u64 0)->w.frozen? (stA r pre)=false->stepG P true x.mC w=.go x.mC0 w #[⟨.cell (stA r pre),false,true⟩]
 lo0:yZ P r pre ty J9 x.mC0
 s3:J5 P (Dj r pre ty) true x.k3 x.mC1 x.mW
 wr:∀w,stepG P true x.mW w=.go x.mW' w #[V7 (smA r pre)]
 s4:J5 P (Dj r pre ty) true x.k4 x.mW' (G x.fr x.cs)
 ay4:∀w,w.cell? (smA r pre)=some (.int .u32 1)->w.frozen? (smA r pre)=false->stepG P true (G x.fr x.cs) w=.go x.ϰ (w.setCell (smA r pre) (.int .u32 0)) (semEvents (smA r pre))
 am5:∀w,w.cell? (smA r pre)=some (.int .u32 0)->stepG P true (G x.fr x.cs) w=.go { G x.fr x.cs with status:=.blocked } w #[]
 lo1:yZ P r pre ty J9 x.ϰ
section
variable {P:l_} {Z:Nat->Prop} {Ac Still:Loc->Prop} {Mem Ai:Nat->Prop} {r:Nat} {pre:X_} {ty:j_} {c:Nat} {o:QJ} {Ph:Bool->Nat->m_->o_->Trace->Prop} {X:o_->Prop} {Ob:Loc->Prop}
theorem aK (H:LQ P Z Ac Still Ai c r pre ty o Ph X) (hZ:Z r) (hc:c≠0) {w0:Bool} {n:Nat} {g:m_} {w:o_} {t:Trace} {es:Array Event} {fn:h_} {pos:String} (d:Nat) (Fv:∀e∈es,(MemAct.ofEvent e).touch?=none/\∀a,MemAct.ofEvent e≠.mark (.release a))
  (h:Ce P c r pre ty o Ph X w0 n g w t):Ce P c r pre ty o Ph X w0 n g (w.at d) (t++MemOp.ofEvents 0 fn pos es):=by
 have l:I5 Z w (w.at d):=λ_ _=>rfl
 have f:Deaf (t++MemOp.ofEvents 0 fn pos es) c=Deaf t c:=Deaf_other t (g':=0) (Ne.symm hc) _ ofEvents_g;have u:JO c r pre t->JO c r pre (t++MemOp.ofEvents 0 fn pos es):=λh=>h.app λop q b v _=>by
  obtain⟨e,s,rfl⟩:=Go.Conc.mem_ofEvents q
  rw[(Fv e s).1]at v;cases v
 have hrel:∀{m},NI c r pre m t->NI c r pre m (t++MemOp.ofEvents 0 fn pos es):=λh=>h.app (λop q=>by
  obtain⟨e,s,rfl⟩:=Go.Conc.mem_ofEvents q
  exact(Fv e s).2 _) λk op b A B _=>by have:=ofEvents_g op (Array.mem_of_getElem? A);omega
 obtain h|⟨⟨x,z⟩,y⟩:=h
 .exact .inl (H.mark d Fv h)
 .refine .inr ⟨⟨u x,?_⟩,H.keep _ _ y λ_ _ _=>rfl⟩;obtain⟨k,a1,a2,i,j⟩|⟨m,k,a1,a2,i,j,p⟩|⟨m,k,a1,a2,i,j,p⟩|⟨a0,m,a1,a2,i⟩|⟨a0,m,k,a1,a2,i,j,p⟩|⟨a0,m,k,a1,a2,i,j,p⟩|⟨a0,m,a1,a2,i⟩:=z
  .exact .inl ⟨k,a1,a2,i.keep hZ l,by rw[f];exact j⟩
  .exact .inr (.inl ⟨m,k,a1,a2,i.keep hZ l,by rw[f];exact j,hrel p⟩)
  .exact .inr (.inr (.inl ⟨m,k,a1,a2,i.keep hZ l,by rw[f];exact j,hrel p⟩))
  .exact .inr (.inr (.inr (.inl ⟨a0,m,by rw[f];exact a1,a2.keep hZ l,hrel i⟩)))
  .exact .inr (.inr (.inr (.inr (.inl ⟨a0,m,k,a1,a2,i.keep hZ l,by rw[f];exact j,hrel p⟩))))
  .exact .inr (.inr (.inr (.inr (.inr (.inl ⟨a0,m,k,a1,a2,i.keep hZ l,by rw[f];exact j,hrel p⟩)))))
  .exact .inr (.inr (.inr (.inr (.inr (.inr ⟨a0,m,by rw[f];exact a1,a2.keep hZ l,hrel i⟩)))))
theorem bZ (H:LQ P Z Ac Still Ai c r pre ty o Ph X) {n:Nat} {g:m_} {w:o_} {t:Trace} (h:Ce P c r pre ty o Ph X false n g w t):Bh r pre ty w KK 0\/FH P c r pre ty X 0 n g w t:=by
 obtain h|⟨⟨e,⟨k,rfl,d,a,_⟩|⟨m,k,rfl,d,a,_⟩|⟨m,k,rfl,d,a,_⟩|⟨_,m,j,a,i⟩|⟨b,_⟩|⟨b,_⟩|⟨b,_⟩⟩,f⟩:=h
 .exact .inl (H.run h)
 .exact .inl a
 .exact .inl a
 .exact .inl a
 .exact .inr ⟨e,m,j,⟨a,f⟩,i⟩
 .cases b
 .cases b
 .cases b
theorem pG (H:LQ P Z Ac Still Ai c r pre ty o Ph X) (hc:c≠0) {n:Nat} {g:m_} {w:o_} {t:Trace} {fn:h_} {pos:String} (d:Nat) (hK0:Bh r pre ty w KK 0)
  (h:Ce P c r pre ty o Ph X false n g w t):Ce P c r pre ty o Ph X true n g ((w.at d).setCell (stA r pre) (.int .u64 (KK+1))) (t++MemOp.ofEvents 0 fn pos (JM (stA r pre))):=by
 have j:Bh r pre ty ((w.at d).setCell (stA r pre) (.int .u64 (KK+1))) (if true=true then KK+1 else KK) 0:=Bh.setSt (w:=w.at d) hK0 _;have s:∀op∈MemOp.ofEvents 0 fn pos (JM (stA r pre)),op.act.touch?=some ⟨.cell (stA r pre),false,.atomic⟩\/op.act.touch?=some ⟨.cell (stA r pre),true,.atomic⟩:=by
  intro op f
  obtain⟨e,v,rfl⟩:=Go.Conc.mem_ofEvents f
  simp only[JM,List.mem_toArray,r_,List.not_mem_nil,or_false]at v
  obtain rfl|rfl:=v
  .exact .inl rfl
  .exact .inr rfl
 have a:Deaf (t++MemOp.ofEvents 0 fn pos (JM (stA r pre))) c=Deaf t c:=Deaf_other t (g':=0) (Ne.symm hc) _ ofEvents_g;have q:JO c r pre t->JO c r pre (t++MemOp.ofEvents 0 fn pos (JM (stA r pre))):=λh=>h.app λop f b u _=>by
  obtain e|e:=s op f<;>(rw[e]at u;obtain rfl:=x_ u;simp)
 have hrel:∀{m},NI c r pre m t->NI c r pre m (t++MemOp.ofEvents 0 fn pos (JM (stA r pre))):=λh=>h.app (λop f e=>by
  obtain x|x:=s op f<;>(rw[e]at x;cases x)) λk op b B D _=>by have:=ofEvents_g op (Array.mem_of_getElem? B);omega
 obtain h|⟨⟨y,A⟩,z⟩:=h
 .exact .inl (H.up d hK0 h)
 .refine .inr ⟨⟨q y,?_⟩,H.keep _ _ z λx C _=>by simp[World.setCell,World.at,stA,Array.getElem?_modify,Ne.symm C]⟩;obtain⟨k,a1,a2,l,i⟩|⟨m,k,a1,a2,l,i,p⟩|⟨m,k,a1,a2,l,i,p⟩|⟨a0,m,a1,a2,l⟩|⟨a0,_⟩|⟨a0,_⟩|⟨a0,_⟩:=A
  .exact .inl ⟨k,a1,a2,j,by rw[a];exact i⟩
  .exact .inr (.inl ⟨m,k,a1,a2,j,by rw[a];exact i,hrel p⟩)
  .exact .inr (.inr (.inl ⟨m,k,a1,a2,j,by rw[a];exact i,hrel p⟩))
  .exact absurd (hK0.eq a2).1 (by decide)
  .cases a0
  .cases a0
  .cases a0
theorem Eo {B B1:Nat} {J9:m_} {w w1:o_} {A7:Array m_} {w':o_} {t':Trace} (ho:BZ Z w w1) (hB:B<=B1) (J:Joined P Z Ob X B1 J9 w1 A7 w' t'):Joined P Z Ob X B J9 w A7 w' t':=by
 obtain⟨f,a,b,c,d,e⟩:=J;exact⟨f,a,b,ho.trans c,Nat.le_trans hB d,e⟩
theorem join (HP:LQ P Z Ac Still (fun g=>g=c) c r pre ty o Ph X) (hS0:∀l,Ac l->¬Still l->Ob l) (O:NU P r pre ty o) {x:Wts} {g0 J9:m_} (H:zN P r pre ty g0 J9 x) (hZ:Z r) (hW:∀l,KD r pre l->Ac l/\¬Still l) (hc:c≠0)
  {n B:Nat} {gs:Array m_} {w:o_} {sl:d_ (W_)} {t:Trace} {q:Nat->Nat} (h0:gs[0]?=some g0)
  (D:Duo P Ac Still (λg=>g=0) (λg=>g=c) B 0 c (Ce P c r pre ty o Ph X false) n gs w t q):AA P gs w sl t (Joined P Z Ob X B J9 w):=by
 have OC:∀w0,Gp P Z Ac Still (λB t=>PX Ac Still (λ_=>False) (λg=>g=c) B 0 t) c (Ce P c r pre ty o Ph X w0):=λw0=>Oj HP O hZ hW hc id
 have JC:∀w0 n b w t,Ce P c r pre ty o Ph X w0 n b w t->∀d,Dj r pre ty (w.at d):=λw0 n b w t h d=>let ⟨_,_,i⟩:=WI HP h;i.is d
 have JD:∀w0 n b w t,EJ 1 (Ce P c r pre ty o Ph X w0) n b w t->∀d,Dj r pre ty (w.at d):=λw0 n b w t h d=>let ⟨_,_,i⟩:=WI HP h.1;i.is d
 have s:∀w0,Gp P Z Ac Still (λB t=>PX Ac Still (λ_=>False) (λg=>g=c) B 0 t) c (EJ 1 (Ce P c r pre ty o Ph X w0)):=λw0=>Sr hc (OC w0)
 have ON:Gp P Z Ac Still (λB t=>PX Ac Still (λ_=>False) (λg=>g=c) B 0 t) c (EJ 1 (FH P c r pre ty X 0)):=Sr hc (Sm HP.keep hZ hW hc id);refine(GM (JC false) (Oj (w0:=false) (Mem:=λg=>g=0) (Ai:=λg=>g=c) HP O hZ hW hc hc) x.k0 H.s0 h0 D).bind λgs1 w1 Jg t1 hz1 ⟨q1,n1,B1,h1,o1,b1,D1⟩=>?_
 refine AA.mono ?_ λp A z=>Eo (B1:=B1) o1 b1
 refine go_duo (Ko:=λ_=>False) (Loose':=λg=>g=c) (Oj (w0:=false) (Mem:=λg=>g=0) (Ai:=λg=>g=c) HP O hZ hW hc hc) h1 H.runs.1 D1 (λ_ N=>N.elim) λBm hBm w2 hsz2 n2 x2 t2 o2 hB2 hp2 d=>?_
 have hmk:∀e∈#[Ja],(MemAct.ofEvent e).touch?=none/\∀a,MemAct.ofEvent e≠.mark (.release a):=by
  intro e f
  simp at f;subst f
  exact⟨rfl,λa=>by simp[Ja,MemAct.ofEvent]⟩
 refine⟨x.mD',w2.at d,#[Ja],Bm,H.XG _,w_ _,hsz2,(hp2.fewer (Ko:=λ_=>False) λ_ h=>h.elim).appMute ofEvents_g (λop AO=>by obtain⟨e,f,rfl⟩:=Go.Conc.mem_ofEvents AO;exact(hmk e f).1) (λx=>x.elim) (λop AO=>by obtain⟨e,f,rfl⟩:=Go.Conc.mem_ofEvents AO;simp at f;subst f;trivial),
  EJ 1 (Ce P c r pre ty o Ph X false),n2,⟨?_,?_⟩,λgs3 q3 n3 hz3 h3 D3 sl3=>?_⟩
 .rw[woken_of_again ((OC false).again hB2 (w2.at d) (λ_ _=>rfl))];exact aK HP hZ hc d hmk hB2
 .rw[Deaf_own,hp2.hears 0 rfl];rfl
 refine AA.mono ?_ λp A z=>Eo (B1:=Bm) (o2.trans (BZ.at w2 d)) hBm
 refine(GM (JD false) (s false) x.k1 H.s1 h3 D3).bind λgs4 w4 sl4 t4 hz4 ⟨q4,n4,B4,h4,o4,b4,D4⟩=>?_
 refine AA.mono ?_ λp A z=>Eo (B1:=B4) o4 b4
 refine go_duo (Ko:=λ_=>False) (Loose':=λg=>g=c) (s false) h4 H.runs.2.1 D4 (λ_ N=>N.elim) λBn hBn E j n5 x5 t5 o5 C ϳ F=>?_
 have rd:∀{w:o_} {B:Nat} {st sm:Int},Bh r pre ty w st sm->w.heap.size<=B->∀e∈#[(⟨.cell (stA r pre),false,true⟩:Event)],Yr Ac Still B e:=by
  intro w B st sm i hB e f
  simp at f;subst f
  exact Tf hW (by have:=i.lt;omega) (.inl rfl) rfl false
 obtain hr5|hd5:=bZ HP C.1
 rotate_left
 .obtain⟨hN,m,hq,⟨i,M⟩,hm⟩:=hd5;have T:=rd i j;have v:EJ 1 (FH P c r pre ty X 0) n5 x5 E t5:=⟨⟨hN,m,hq,⟨i,M⟩,hm⟩,C.2⟩;refine⟨x.mL0,E.at F,_,Bn,H.an6 _ (i.keep hZ (λ_ _=>rfl)).cellSt,w_ _,j,ϳ.own T,EJ 1 (FH P c r pre ty X 0),n5,?_,λgs6 q6 n6 hz6 h6 D6 sl6=>?_⟩
  .rw[woken_of_again (ON.again v (E.at F) (λ_ _=>rfl))];exact ON.calm (E.at F) _ v (λ_ _=>rfl) (E8 (Ne.symm hc) T)
  .exact(Y3 hS0 HP.keep hZ hW hc H.fin0 h6 D6).mono λp A z=>Eo (o5.trans (BZ.at E F)) hBn
 have Y:=rd hr5 j;refine⟨x.mLK,E.at F,_,Bn,H.an5 _ (hr5.keep hZ (λ_ _=>rfl)).cellSt,w_ _,j,ϳ.own Y,EJ 1 (Ce P c r pre ty o Ph X false),n5,?_,λgs6 q6 n6 hz6 h6 D6 sl6=>?_⟩
 .rw[woken_of_again ((s false).again C (E.at F) (λ_ _=>rfl))];exact(s false).calm (E.at F) _ C (λ_ _=>rfl) (E8 (Ne.symm hc) Y)
 refine AA.mono ?_ λp A z=>Eo (B1:=Bn) (o5.trans (BZ.at E F)) hBn
 refine(GM (JD false) (s false) x.k2 H.s2 h6 D6).bind λgs7 w7 sl7 t7 hz7 ⟨q7,n7,B7,h7,o7,b7,D7⟩=>?_
 refine AA.mono ?_ λp A z=>Eo (B1:=B7) o7 b7
 refine go_duo (Ko:=λ_=>False) (Loose':=λg=>g=c) (s false) h7 H.runs.2.2.1 D7 (λ_ N=>N.elim) λS hBo J K n8 x8 t8 o8 u hp8 I=>?_
 obtain Q|hd8:=bZ HP u.1
 rotate_left
 .obtain⟨hN,m,hq,⟨i,M⟩,hm⟩:=hd8;have T:=rd i K;have v:EJ 1 (FH P c r pre ty X 0) n8 x8 J t8:=⟨⟨hN,m,hq,⟨i,M⟩,hm⟩,u.2⟩;refine⟨x.mC0,J.at I,_,S,H.miss _ (i.keep hZ (λ_ _=>rfl)).cellSt (i.keep hZ (λ_ _=>rfl)).Pz,w_ _,K,hp8.own T,EJ 1 (FH P c r pre ty X 0),n8,?_,λgs9 q9 n9 hz9 h9 D9 sl9=>?_⟩
  .rw[woken_of_again (ON.again v (J.at I) (λ_ _=>rfl))];exact ON.calm (J.at I) _ v (λ_ _=>rfl) (E8 (Ne.symm hc) T)
  .exact(Xj hS0 HP.keep hZ hW hc H.lo0 h9 D9).mono λp A z=>Eo (o8.trans (BZ.at J I)) hBo
 have U:r<S:=by have:=Q.lt;omega
 have bt2:∀e∈JM (stA r pre),Yr Ac Still S e:=by
  intro e f
  simp only[JM,List.mem_toArray,r_,List.not_mem_nil,or_false]at f
  obtain rfl|rfl:=f
  .exact Tf hW U (.inl rfl) rfl false
  .exact Tf hW U (.inl rfl) rfl true
 have V:Bh r pre ty (J.at I) KK 0:=Q.keep hZ (λ_ _=>rfl);have bq8:BZ Z J ((J.at I).setCell (stA r pre) (.int .u64 (KK+1))):=Oh (a:=stA r pre) hZ _ I;have bp0:(x8.status=.running\/x8.status=.finished):=by
  obtain h|⟨⟨_,⟨k,_,R,_⟩|⟨m,k,_,R,_⟩|⟨m,k,_,R,_⟩|⟨_,m,hq,_⟩|⟨hw,_⟩|⟨hw,_⟩|⟨hw,_⟩⟩,_⟩:=u.1
  .exact .inl (HP.status h).1
  .exact .inl (R.status O.runs.1)
  .exact .inl (R.status O.runs.2.1)
  .exact .inl (R.status O.runs.2.2.1)
  .exact hq.status
  .cases hw
  .cases hw
  .cases hw
 refine⟨x.mC1,_,_,S,H.Ik _ V.cellSt V.Pz,w_ _,by rw[G7];exact K,hp8.own bt2,EJ 1 (Ce P c r pre ty o Ph X true),n8,⟨?_,?_⟩,λgs9 q9 n9 hz9 h9 D9 sl9=>?_⟩
 .rw[woken_of_again (again_running _ bp0)];exact pG HP hc I Q u.1
 .rw[Deaf_own,u.2];rfl
 refine AA.mono ?_ λp A z=>Eo (B1:=S) (o8.trans bq8) hBo
 refine(GM (JD true) (s true) x.k3 H.s3 h9 D9).bind λgsa wa sla ta hza ⟨qa,na,Ba,ha,oa,ba,Da⟩=>?_
 refine AA.mono ?_ λp A z=>Eo (B1:=Ba) oa ba
 refine go_duo (Ko:=λ_=>False) (Loose':=λg=>g=c) (s true) ha H.runs.2.2.2 Da (λ_ N=>N.elim) λBs hBs wb bs0 nb xb tb ob L hpb db=>?_
 have hrb:r<Bs:=by
  obtain⟨st,h⟩|⟨_,m,_,⟨h,_⟩,_⟩:=ZH HP L.1<;>(have:=h.lt;omega)
 have W:∀e∈#[V7 (smA r pre)],Yr Ac Still Bs e:=by
  intro e f
  simp at f;subst f
  refine⟨λy hy=>?_,by simp[V7],by simp[V7],?_,by simp[V7]⟩
  .obtain rfl:=x_ hy;exact⟨λR=>((hW _ (.inr rfl)).2 R).elim,λ_=>by simp⟩
  .exact hrb
 refine⟨x.mW',wb.at db,_,Bs,H.wr _,w_ _,bs0,hpb.own W,EJ 1 (Ce P c r pre ty o Ph X true),nb,?_,λgsc qc nc hzc Es Dc slc=>?_⟩
 .rw[woken_of_again ((s true).again L (wb.at db) (λ_ _=>rfl))];exact(s true).calm (wb.at db) _ L (λ_ _=>rfl) (E8 (Ne.symm hc) W)
 refine AA.mono ?_ λp A z=>Eo (B1:=Bs) (ob.trans (BZ.at wb db)) hBs
 refine(GM (JD true) (s true) x.k4 H.s4 Es Dc).bind λgsd wd sld td hzd ⟨qd,nd,Bd,hd,od,bd,Dd⟩=>?_
 refine AA.mono ?_ λp A z=>Eo (B1:=Bd) od bd
 refine(Λ HP O hZ hW hc (OC true) H.ay4 H.am5 _ nd gsd (G x.fr x.cs) wd sld td qd Bd (Nat.lt_succ_self _) hd (.inl rfl) Dd).bind λgse we sle te hze ⟨qe,ne,Be,hBe,f,oe,De⟩=>?_
 exact(Xj hS0 HP.keep hZ hW hc H.lo1 f De).mono λp A z=>Eo oe hBe
end
def Ri (Tr:Trace->Prop):Prop:=∀t i fn pos es,i≠0->(∀e∈es,e.mute=true)->Tr t->Tr (t++MemOp.ofEvents i fn pos es)
section
variable {P:l_} {Z:Nat->Prop} {Ac Still:Loc->Prop} {Mem Ai:Nat->Prop} {Tr:Trace->Prop}
theorem iF (hTr:Ri Tr):∀(X:Nat) (gs:Array m_) (a:m_) (w:o_) (sl:d_ (W_)) (t:Trace) (q:Nat->Nat),sumTo gs.size q<X->gs[0]?=some a->a.status=.running->Leavers P t gs q->Tr t->
  ∃(N:Nat) (A7:Array m_) (d0 d:Nat) (sl0 DJ:d_ (W_)) (t':Trace) (q':Nat->Nat),runNT P N (crowd gs w sl) t=(.next (crowd A7 (w.at d0) sl0),t')/\A7.size=gs.size/\A7[0]?=some a/\
   stepT P (crowd A7 (w.at d0) sl0)=runT P (crowd A7 (w.at d) DJ) 0/\Leavers P t' A7 q'/\Tr t':=by
 intro X
 induction X with
 |zero=>intro gs a w sl t q Q;omega
 |succ X V=>
  intro gs a w sl t q Q n m f I
  have B:∀g∈gs,awake g:=by
   intro g c
   obtain⟨i,e,rfl⟩:=Array.mem_iff_getElem.1 c
   obtain rfl|s:=Nat.eq_zero_or_pos i
   .have:gs[0]=a:=(by simpa [v_ e]using n);rw[this];exact awake_of (.inl m)
   .exact awake_of ((f.old i _ s (v_ e)).status.elim .inl λx=>.inr (.inr x))
  obtain⟨i,g,d,DJ,e,c,E⟩:=crowd_pick (P:=P) (w:=w) (sl:=sl) B ⟨0,a,n,m⟩;have F:i<gs.size:=(y_.1 e).1;obtain rfl|s:=Nat.eq_zero_or_pos i
  .exact⟨0,gs,w.drawn,d,sl,DJ,t,q,rfl,rfl,n,E,f,I⟩
  .have o:=f.old i g s e;have C:(i==0)=false:=(by simp;omega);cases hqi:q i with
   |zero=>rw[hqi]at o;rw[o.1]at c;cases c
   |succ k=>
    rw[hqi]at o
    obtain⟨R,_⟩|⟨_,g',H,S,l,D⟩:=o
    .rw[R]at c;cases c
    have K:=runT_crowd_go (P:=P) (sl:=DJ) (i:=i) e (by rw[C];exact l (w.at d));have G:((gs.map (woken P g g' (w.at d))).setIfInBounds i g').size=gs.size:=(by simp);have J:sumTo gs.size (upd q i k)+(k+1)=sumTo gs.size q+k:=by
     have:=sumTo_upd q k id F
     simpa [hqi]using this
    obtain⟨N,A7,d0,d1,sl0,O,t',q',T,M,u,j,v,A⟩:=V ((gs.map (woken P g g' (w.at d))).setIfInBounds i g') a (w.at d) DJ (t++MemOp.ofEvents i g.frame.fn g.frame.place H) (upd q i k) (by rw[G];omega)
     (by
      have L:i≠0:=by omega
      rw[z_ L,Array.getElem?_map,n]
      simp[woken_run m]) m
     ⟨λx y p r=>by
      by_cases b:i=x
      .subst b;rw[Array.getElem?_setIfInBounds_self_of_lt (by simpa using F)]at r;obtain rfl:=x_ r;rw[upd_same,Deaf_own];exact D
      .rw[z_ b,Array.getElem?_map]at r;obtain⟨z,U,rfl⟩:=Option.map_eq_some_iff.1 r;have h:=f.old x z p U;rw[woken_quitsD h,upd_ne q k (Ne.symm b),Deaf_other t b _ ofEvents_g];exact h,λx p=>by
      rw[Deaf_other t (g':=i) (by simp at p;omega) _ ofEvents_g];exact f.above x (by simpa using p)⟩
     (hTr t i _ _ H (by omega) S I)
    exact⟨N+1,A7,d0,d1,sl0,O,t',q',by simp only[runNT,E,K];exact T,M.trans G,u,j,v,A⟩
theorem go_mute (hTr:Ri Tr) {gs:Array m_} {a:m_} {w:o_} {sl:d_ (W_)} {t:Trace} {q:Nat->Nat} {Q:Array m_->o_->Trace->Prop} (h0:gs[0]?=some a) (Bi:a.status=.running) (hL:Leavers P t gs q) (ht:Tr t)
  (Kw:∀d t1,Tr t1->∃a' w' es,stepG P true a (w.at d)=.go a' w' es/\∀A7 q',A7.size=gs.size->A7[0]?=some a'->Leavers P (t1++MemOp.ofEvents 0 a.frame.fn a.frame.place es) A7 q'->
   ∀DJ,AA P A7 w' DJ (t1++MemOp.ofEvents 0 a.frame.fn a.frame.place es) Q):AA P gs w sl t Q:=by
 obtain⟨N,c,H,d,F,o,t1,q1,D,f,p,v,e,m⟩:=iF (P:=P) hTr (sumTo gs.size q+1) gs a w sl t q (by omega) h0 Bi hL ht;obtain⟨a',w',es,j,C⟩:=Kw d t1 m;have z:0<c.size:=(y_.1 p).1;have u:=runT_crowd_go (P:=P) (sl:=o) (i:=0) p j;have b:((c.map (woken P a a' w')).setIfInBounds 0 a').size=gs.size:=by simp[f]
 obtain⟨A,h,w2,n,G,k,l,B⟩:=C ((c.map (woken P a a' w')).setIfInBounds 0 a') q1 b (by simp[z]) ⟨λi x g s=>by
   rw[z_ (by omega),Array.getElem?_map]at s
   obtain⟨y,E,rfl⟩:=Option.map_eq_some_iff.1 s
   have r:=e.old i y g E
   rw[woken_quitsD r,Deaf_other t1 (g':=0) (by omega) _ ofEvents_g]
   exact r,λi g=>by
   rw[b,<-f]at g
   rw[Deaf_other t1 (g':=0) (by omega) _ ofEvents_g]
   exact e.above i g⟩ o;refine⟨N+1+A,h,w2,n,G,?_,l.trans b,B⟩;rw[runNT_add,runNT_succ_of D (v.trans u)];exact k
theorem JS (hTr:Ri Tr) {J:o_->Prop} {a':m_}:∀(k:Nat) {a:m_} (_:J5 P J true k a a') {gs:Array m_} {w:o_} {sl:d_ (W_)} {t:Trace} {q:Nat->Nat},(∀d,J (w.at d))->gs[0]?=some a->Leavers P t gs q->Tr t->
  AA P gs w sl t λA7 w' t'=>∃q' d,A7[0]?=some a'/\w'=w.at d/\Leavers P t' A7 q'/\Tr t'
 |0,a,g,gs,w,sl,t,q,_,e,f,h=>.now ⟨q,w.drawn,by rw[e,show a=a' from g],rfl,f,h⟩
 |k+1,a,g,gs,w,sl,t,q,m,e,f,h=>by
  obtain⟨o,a1,n,p⟩:=g
  refine go_mute hTr e o f h λd C i=>⟨a1,w.at d,#[],n _ (m d),λA7 q' B r b z=>?_⟩
  rw[DC]at b ⊢
  exact(JS hTr k p (w:=w.at d) (λc=>m c) r b i).mono λl A y ⟨j,c,s,u,v,x⟩=>⟨j,c,s,u,v,x⟩
theorem di (B:Nat):Ri (λt=>PX Ac Still (λg=>g=0/\Mem g) (λ_=>False) B 0 t):=by
 intro t i fn pos h d c H;refine H.appMute ofEvents_g (λop a=>?_) (λf=>(d f.1).elim) (λop a=>?_)
 .obtain⟨e,b,rfl⟩:=Go.Conc.mem_ofEvents a;exact touch_mute (c e b)
 .obtain⟨e,b,rfl⟩:=Go.Conc.mem_ofEvents a;exact low_mute (c e b) B
structure as6 where
 mD:m_
 mD':m_
 mA:m_
 mA':m_
 mR:m_
 mR':m_
 mE:m_
 mE':m_
 k0:Nat
 k1:Nat
 k2:Nat
 k3:Nat
 k4:Nat
def V9 (a:f_):Event:=⟨.mark (.read a),false,true⟩
structure ap2 (P:l_) (r:Nat) (pre:X_) (ty:j_) (g0 J9:m_) (x:as6):Prop where
 runs:x.mD.status=.running/\x.mA.status=.running/\x.mR.status=.running/\x.mE.status=.running
 s0:J5 P (Dj r pre ty) true x.k0 g0 x.mD
 XG:∀w,stepG P true x.mD w=.go x.mD' w #[Ja]
 s1:J5 P (Dj r pre ty) true x.k1 x.mD' x.mA
 add:∀w,w.cell? (stA r pre)=some (.int .u64 0)->w.frozen? (stA r pre)=false->stepG P true x.mA w=.go x.mA' (w.setCell (stA r pre) (.int .u64 KK)) (JM (stA r pre))
 s2:J5 P (Dj r pre ty) true x.k2 x.mA' x.mR
 rd:∀w,stepG P true x.mR w=.go x.mR' w #[V9 (smA r pre)]
 s3:J5 P (Dj r pre ty) true x.k3 x.mR' x.mE
 ena:∀w,stepG P true x.mE w=.go x.mE' w #[KL]
 s4:J5 P (Dj r pre ty) true x.k4 x.mE' J9
theorem ql {r:Nat} {pre:X_} {ty:j_} {g0 J9:m_} {x:as6} (H:ap2 P r pre ty g0 J9 x) (hZ:Z r) {B:Nat} {gs:Array m_} {w:o_} {sl:d_ (W_)} {t:Trace} {q:Nat->Nat}
  (h0:gs[0]?=some g0) (hL:Leavers P t gs q) (hP:Past Ac B t) (hB:w.heap.size<=B) (hr:Bh r pre ty w 0 0):
  AA P gs w sl t λA7 w' t'=>∃q',A7[0]?=some J9/\BZ Z w w'/\Bh r pre ty w' KK 0/\Leavers P t' A7 q'/\Past Ac B t'/\w'.heap.size<=B:=by
 have u:r<B:=by have:=hr.lt;omega
 have o:Ri (λt=>PX Ac (λ_=>False) (λg=>g=0/\True) (λ_=>False) B 0 t):=di (Mem:=λ_=>True) B;have l:Ri (λt=>PX Ac (λ_=>False) (λg=>g=0/\False) (λ_=>False) B 0 t/\Deaf t 0=1):=λt i fn pos es E m h=>⟨di (Mem:=λ_=>False) B t i fn pos es E m h.1,by rw[Deaf_other t E _ ofEvents_g];exact h.2⟩
 have R:PX Ac (λ_=>False) (λg=>g=0/\True) (λ_=>False) B 0 t:=(PX.ofPast hP (λ_ h=>h.elim) (λ_ h=>h.elim)).fewer λg n=>n.1
 refine(JS o x.k0 H.s0 (λd=>hr.is d) h0 hL R).bind λgs1 w1 Jg t1 _ ⟨q1,d1,h1,e1,I,T⟩=>?_
 subst e1;refine go_mute o h1 H.runs.1 I T λd2 G z=>⟨_,_,_,H.XG _,λgs3 q3 _ h3 J sl3=>?_⟩
 have U:PX Ac (λ_=>False) (λg=>g=0/\False) (λ_=>False) B 0 (G++MemOp.ofEvents 0 x.mD.frame.fn x.mD.frame.place #[Ja])/\Deaf (G++MemOp.ofEvents 0 x.mD.frame.fn x.mD.frame.place #[Ja]) 0=1:=by
  refine⟨(z.fewer (Ko:=λg=>g=0/\False) λg n=>n.2.elim).appMute ofEvents_g (λop f=>?_) (λs=>s.2.elim) (λop f=>?_),?_⟩
  .obtain⟨e,b,rfl⟩:=Go.Conc.mem_ofEvents f;simp at b;subst b;rfl
  .obtain⟨e,b,rfl⟩:=Go.Conc.mem_ofEvents f;simp at b;subst b;trivial
  .rw[Deaf_own,z.hears 0 ⟨rfl,trivial⟩];rfl
 refine(JS l x.k1 H.s1 (w:=(w.at d1).at d2) (λd=>hr.is d) h3 J U).bind λgs4 w4 sl4 t4 _ ⟨q4,d4,h4,e4,K,V⟩=>?_
 subst e4;have c:∀d,Bh r pre ty ((((w.at d1).at d2).at d4).at d) 0 0:=λd=>hr
 refine go_mute l h4 H.runs.2.1 K V λj t5 W=>⟨_,_,_,H.add _ (c j).cellSt (c j).Pz,λgs6 q6 _ h6 L sl6=>?_⟩
 have atom:∀(a:f_),a.block=r->∀wr:Bool,Yr Ac (λ_=>False) B ⟨.cell a,wr,true⟩:=λa D wr=>⟨λx v=>by obtain rfl:=x_ v;exact⟨λh=>h.elim,λ_=>by simp⟩,by simp,by simp,by show a.block<B;omega,by simp⟩
 have own:∀{t:Trace} {fn:h_} {pos:String} {es:Array Event},(∀e∈es,Yr Ac (λ_=>False) B e)->(PX Ac (λ_=>False) (λg=>g=0/\False) (λ_=>False) B 0 t/\Deaf t 0=1)->(PX Ac (λ_=>False) (λg=>g=0/\False) (λ_=>False) B 0 (t++MemOp.ofEvents 0 fn pos es)/\Deaf (t++MemOp.ofEvents 0 fn pos es) 0=1):=fun {t fn pos es} m h=>by
  refine⟨h.1.own m,?_⟩
  rw[Deaf_own,deafBehind_still (λe b=>⟨(m e b).2.1,(m e b).2.2.1⟩)]
  exact h.2
 have X:=own (fn:=x.mA.frame.fn) (pos:=x.mA.frame.place) (es:=JM (stA r pre)) (λe b=>by
  simp only[JM,List.mem_toArray,r_,List.not_mem_nil,or_false]at b
  obtain rfl|rfl:=b
  .exact atom _ rfl false
  .exact atom _ rfl true) W
 refine(JS l x.k2 H.s2 (λd=>((c j).setSt KK).is d) h6 L X).bind λgs7 w7 sl7 t7 _ ⟨q7,d7,h7,p,M,Y⟩=>?_
 refine go_mute l h7 H.runs.2.2.1 M Y λd8 t8 X8=>⟨_,_,_,H.rd _,λgs9 q9 _ h9 N sl9=>?_⟩
 have X9:=own (fn:=x.mR.frame.fn) (pos:=x.mR.frame.place) (es:=#[V9 (smA r pre)]) (λe b=>by
  simp at b;subst b
  exact⟨λx v=>by obtain rfl:=x_ v;exact⟨λh=>h.elim,λ_=>by simp⟩,by simp[V9],by simp[V9],u,by simp[V9]⟩) X8;refine(JS l x.k3 H.s3 (λd=>by subst p;exact((c j).setSt KK).is d) h9 N X9).bind λgsa wa sla ta _ ⟨qa,da,D,C,O,Xa⟩=>?_
 refine go_mute l D H.runs.2.2.2 O Xa λdb y A=>⟨_,_,_,H.ena _,λgsc qc _ hc Q slc=>?_⟩
 have Xc:PX Ac (λ_=>False) (λg=>g=0/\False) (λ_=>False) B 0 (y++MemOp.ofEvents 0 x.mE.frame.fn x.mE.frame.place #[KL]):=A.1.appMute ofEvents_g (λop f=>by
  obtain⟨e,b,rfl⟩:=Go.Conc.mem_ofEvents f;simp at b;subst b;rfl) (λs=>s.2.elim) (λop f=>by
  obtain⟨e,b,rfl⟩:=Go.Conc.mem_ofEvents f;simp at b;subst b;trivial);have S:Past Ac B (y++MemOp.ofEvents 0 x.mE.frame.fn x.mE.frame.place #[KL]):=Xc.toPast (by rw[Deaf_own,A.2];rfl) (λ_ h=>h) (λ_ h _=>h);have Xc':PX Ac (λ_=>False) (λg=>g=0/\True) (λ_=>False) B 0 (y++MemOp.ofEvents 0 x.mE.frame.fn x.mE.frame.place #[KL]):=(PX.ofPast S (λ_ h=>h.elim) (λ_ h=>h.elim)).fewer λg n=>n.1
 refine(JS o x.k4 H.s4 (λd=>by subst C p;exact((c j).setSt KK).is d) hc Q Xc').mono λA7 w' t' ⟨q',d',j1,j2,j3,F⟩=>?_
 subst j2 C p;have off:BZ Z w ((((((((w.at d1).at d2).at d4).at j).setCell (stA r pre) (.int .u64 KK)).at d7).at d8).at da):=by
  refine⟨by simp[World.setCell,World.at],λk hk=>?_,rfl,rfl,rfl⟩
  have:r≠k:=λe=>hk (e ▸ hZ)
  simp[World.setCell,World.at,stA,Array.getElem?_modify,this]
 refine⟨q',j1,⟨off.size,off.same,off.os,off.output,off.tape⟩,(c j).setSt KK,j3,F.toPast (F.hears 0 ⟨rfl,trivial⟩) (λ_ h=>h) (λ_ h _=>h),?_⟩;simp only[World.setCell,World.at,Array.size_modify];exact hB
end
def AgL (Zl:Nat->Prop) (w w1:o_):Prop:=∀x,Zl x->w1.heap[x]?=w.heap[x]?
def Hm (P:l_) (r:Nat) (pre:X_) (ty:j_) (Zl:Nat->Prop) (gR:m_) (X:o_->Prop):Nat->m_->o_->Prop
 |0,g,w=>g=gR/\X w
 |n+1,g,w=>g.status=.running/\∀w1,AgL Zl w w1->Dj r pre ty w1->∃g' w' es,stepG P false g w1=.go g' w' es/\(∀e∈es,∃a wr,e=⟨.cell a,wr,false⟩/\Zl a.block/\a.block<w'.heap.size)/\BZ Zl w1 w'/\Hm P r pre ty Zl gR X n g' w'
section
variable {P:l_} {Z Zl:Nat->Prop} {Ac Still:Loc->Prop} {Ai:Nat->Prop} {r:Nat} {pre:X_} {ty:j_} {c:Nat} {o:QJ} {gR:m_} {X:o_->Prop}
theorem Hm.agree (hX:∀w w1,AgL Zl w w1->X w->X w1):∀{n:Nat} {g:m_} {w w1:o_},AgL Zl w w1->Hm P r pre ty Zl gR X n g w->Hm P r pre ty Zl gR X n g w1
 |0,_,_,_,a,h=>⟨h.1,hX _ _ a h.2⟩
 |_+1,_,_,_,a,h=>⟨h.1,λw2 c d=>h.2 w2 (λx b=>(c x b).trans (a x b)) d⟩
theorem Hm.RH (hX:∀w w1,AgL Zl w w1->X w->X w1) {n:Nat} {g':m_} {w:o_} (h:Hm P r pre ty Zl gR X n g' w):∀{k:Nat} {g:m_},J5 P (Dj r pre ty) false k g g'->Hm P r pre ty Zl gR X (k+n) g w
 |0,g,a=>by rw[Nat.zero_add,show g=g' from a];exact h
 |k+1,g,a=>by
  rw[show k+1+n=(k+n)+1 from by omega]
  obtain⟨c,b,d,e⟩:=a
  exact⟨c,λw1 f i=>⟨b,w1,#[],d w1 i,by simp,BZ.refl w1,(Hm.RH hX h e).agree hX f⟩⟩
def Zw (P:l_) (c r:Nat) (pre:X_) (ty:j_) (o:QJ) (Ac Still:Loc->Prop) (Zl:Nat->Prop) (X:o_->Prop) (w0:Bool) (n:Nat) (g:m_) (w:o_) (t:Trace):Prop:=
 (JO c r pre t/\KnL Ac Still c t)/\Bh r pre ty w (if w0 then KK+1 else KK) 0/\Deaf t c=0/\∃k,n=k+1+(o.k1+o.k2+o.k3+o.k4+o.nF+o.nP+10)/\Hm P r pre ty Zl o.gR X (k+1) g w
theorem ag7 (hZ:Z r) (hZl:∀x,Zl x->Z x) (Cf:¬Zl r) (hW:∀l,KD r pre l->Ac l/\¬Still l) (Bv:∀a:f_,Zl a.block->Still (.cell a)/\Ac (.cell a)) (hc:c≠0) (hL:Ai c) (hX:∀w w1,AgL Zl w w1->X w->X w1):
  LQ P Z Ac Still Ai c r pre ty o (Zw P c r pre ty o Ac Still Zl X) X where
 status:=by
  rintro F n g w t ⟨_,_,_,k,rfl,z,_⟩
  exact⟨z,by omega⟩
 run:=by
  rintro F n g w t ⟨_,h,_⟩
  exact h
 calm:=by
  rintro F n g w t s u ⟨⟨v,A⟩,p,C,k,H,y⟩ K Q
  exact⟨⟨v.calm (λl W=>(hW l W).1) Q,A.app λop f b i z O=>((((Q op f).2.1 b i).1 z).2 O).elim⟩,p.keep hZ K,(Y6 Q).trans C,k,H,y.agree hX λx D=>K x (hZl x D)⟩
 mark:=by
  rintro F n g w t m fn pos d S ⟨⟨v,A⟩,p,C,k,H,y⟩
  have I:∀op∈MemOp.ofEvents 0 fn pos m,op.act.touch?=none:=λop f=>by
   obtain⟨e,q,rfl⟩:=Go.Conc.mem_ofEvents f
   exact(S e q).1
  exact⟨⟨v.app λop f b i _=>(by rw[I op f]at i;cases i),A.app λop f b i=>(by rw[I op f]at i;cases i)⟩,p,by rw[Deaf_other t (g':=0) (Ne.symm hc) _ ofEvents_g];exact C,k,H,y.agree hX λ_ _=>rfl⟩
 up:=by
  rintro n g w t fn pos d N ⟨⟨v,A⟩,p,C,k,H,y⟩
  have R:∀op∈MemOp.ofEvents 0 fn pos (JM (stA r pre)),∀b,op.act.touch?=some b->b.loc=.cell (stA r pre)/\b.kind=.atomic:=by
   intro op f b i
   obtain⟨e,q,rfl⟩:=Go.Conc.mem_ofEvents f
   simp only[JM,List.mem_toArray,r_,List.not_mem_nil,or_false]at q
   obtain rfl|rfl:=q<;>(obtain rfl:=x_ i;exact⟨rfl,rfl⟩)
  refine⟨⟨v.app λop f b i _=>by rw[(R op f b i).2];simp,A.app λop f b i z=>?_⟩,Bh.setSt (w:=w.at d) N _,by rw[Deaf_other t (g':=0) (Ne.symm hc) _ ofEvents_g];exact C,k,H,y.agree hX λx D=>?_⟩
  .rw[(R op f b i).1]at z;exact((hW _ (.inl rfl)).2 z).elim
  .have:r≠x:=λe=>Cf (e ▸ D)
   simp[World.setCell,World.at,stA,Array.getElem?_modify,this]
 step:=by
  rintro Mem F n g w t B V ⟨⟨v,A⟩,p,C,k,rfl,y⟩ T hB d
  obtain⟨g',s,m,e1,e2,e3,e4⟩:=y.2 (w.at d) (λ_ _=>rfl) (p.is d)
  have j:(∀op∈MemOp.ofEvents c g.frame.fn g.frame.place m,∀b,op.act.touch?=some b->∃a:f_,b.loc=.cell a/\Zl a.block)/\(∀op∈MemOp.ofEvents c g.frame.fn g.frame.place m,op.act.low (max B s.heap.size))/\Deaf (t++MemOp.ofEvents c g.frame.fn g.frame.place m) c=Deaf t c:=by
   refine⟨λop f b i=>?_,λop f=>?_,?_⟩
   .obtain⟨e,q,rfl⟩:=Go.Conc.mem_ofEvents f;obtain⟨a,wr,rfl,E,_⟩:=e2 e q;obtain rfl:=x_ i;exact⟨a,rfl,E⟩
   .obtain⟨e,q,rfl⟩:=Go.Conc.mem_ofEvents f;obtain⟨a,wr,rfl,_,E⟩:=e2 e q;exact Nat.lt_of_lt_of_le E (Nat.le_max_right ..)
   .rw[Deaf_own];exact deafBehind_still (λe q=>by obtain⟨a,wr,rfl,_⟩:=e2 e q;exact⟨by simp,by simp⟩) _
  have G:JO c r pre (t++MemOp.ofEvents c g.frame.fn g.frame.place m):=v.app λop f b i L=>by
   obtain⟨a,E,M⟩:=j.1 op f b i
   rw[E]at L
   obtain e|e:=L<;>(injection e with e;exact(Cf (by rw[e]at M;exact M)).elim)
  have Y:KnL Ac Still c (t++MemOp.ofEvents c g.frame.fn g.frame.place m):=A.app λop f _ _ _ _=>ofEvents_g op f
  have px:PX Ac Still Mem Ai (max B s.heap.size) 0 (t++MemOp.ofEvents c g.frame.fn g.frame.place m):=
   (T.mono (Nat.le_max_left ..)).al5 V hL A ofEvents_g (λop f b i=>by obtain⟨a,E,M⟩:=j.1 op f b i;rw[E];exact Bv a M) j.2.1;have J:Bh r pre ty s (if F=true then KK+1 else KK) 0:=by unfold Bh;rw[e3.same r Cf];exact p
  refine .inl ⟨k+(o.k1+o.k2+o.k3+o.k4+o.nF+o.nP+10),g',s,m,by omega,e1,(show BZ Zl w s from⟨e3.size,e3.same,e3.os,e3.output,e3.tape⟩).sub hZl,⟨max B s.heap.size,Nat.le_max_left ..,Nat.le_max_right ..,px⟩,?_⟩;cases k with
  |zero=>
   obtain⟨rfl,D⟩:=e4
   exact .inr ⟨⟨G,.inl ⟨0,rfl,rfl,J,j.2.2.trans C⟩⟩,D⟩
  |succ k=>exact .inl ⟨⟨G,Y⟩,J,j.2.2.trans C,k,rfl,e4⟩
 low:=by
  rintro F n g w t d g' s m st' ⟨_,p,_,k,_,y⟩ z v
  obtain⟨g1,w2,U,e1,_,e3,_⟩:=y.2 (w.at d) (λ_ _=>rfl) (p.is d)
  rw[e1]at z
  injection z with _ L _
  subst L
  have J:Bh r pre ty w2 (if F=true then KK+1 else KK) 0:=by unfold Bh;rw[e3.same r Cf];exact p
  exact absurd (J.eq v).2 (by decide)
 keep:=λw s h K=>hX w s (λx D=>K x (λe=>Cf (e ▸ D)) (hZl x D)) h
end
end Go.Fxa
namespace Go.Fxa
open Go.Conc
def AQ (x:Frame×Z_):d_ (h_×X_):=
 match x.1.roundOf,x.1.mode,x.1.kind==CallKind.early,x.1.todo with
 |none,.run,false,.inRegion ops (i::_)::_=>match ops[i]? with
  |some o=>if Region.wanted o (yielded ops x.1.tmps)then match o.op with
   |.call { callee:=.value (.func f),args:=Vy,argTypes:=_ }=>some (f,Vy.map x.1.eval)
   |_=>none
   else none
  |none=>none
 |_,_,_,_=>none
def Entry (P:Program) (f:FuncId) (e:Array Value->Sem Value):Prop:=∃fn,P.funcs[f]?=some fn/\(fn.name== "runtime.NumGoroutine")=false/\fn.body.isNone=true/\Extern.findNext fn=none/\Extern.find fn=some e
def BB (x:Frame×Z_) (v:n_):Frame×Z_:=(x.1.finish v,x.2)
section
variable {P:l_} {main:Bool} {x:Frame×Z_} {f:h_} {args:X_} {e:X_->Sem n_} {w w':o_} {v:n_} {BA:Array Event}
theorem Fj (h:AQ x=some (f,args)) (hE:Entry P f e) (Bi:(e args).run P w=.ok v w') (FW:(e args).events P w #[⟨.mark (.extern f),false,true⟩]=#[⟨.mark (.extern f),false,true⟩]++BA) (hs:∀x∈BA,x.sync=true/\∀g,x.loc≠.mark (.extern g)):
  stepG P main (G x.1 x.2) w=.go (G (BB x v).1 (BB x v).2) w' BA:=by
 obtain⟨⟨fn,c,r,i,n,kind,K⟩,I⟩:=x;obtain⟨u,A,d,y,D,z⟩:=hE;unfold AQ at h;simp only at h;split at h
 .rename_i j p q l F;split at h
  .rename_i o m;split at h
   .rename_i E;split at h
    .rename_i J H t s;simp only[Option.some.injEq,Prod.mk.injEq]at h;obtain⟨rfl,rfl⟩:=h;have B:kind≠.early:=λe=>by subst e;simp at F
     have C:=Frame.eval_at' (Frame.mk fn c [] i .run kind none) ⟨c,i⟩ (.inRegion j (p::q)::l);have k:(Frame.mk fn c (.inRegion j (p::q)::l) i .run kind none).eval=(Act.mk c i).eval:=C;rw[k]at Bi FW;exact(stepG_entry (b:=Frame.mk fn c [] i .run kind none) (a:=⟨c,i⟩) (kk:=l) m E B s A d y D z Bi FW hs).trans (by unfold BB Act.put Frame.at Frame.finish;simp only[m,Option.bind_some];cases o.dst<;>rfl)
    .cases h
   .cases h
  .cases h
 .cases h
theorem oV (h:AQ x=some (f,args)) (hE:Entry P f e) (Bi:(e args).run P w=.halt .blocked w'):stepG P main (G x.1 x.2) w=.go { G x.1 x.2 with status:=.blocked } w' #[]:=by
 obtain⟨⟨fn,c,p,g,l,kind,F⟩,C⟩:=x;obtain⟨s,v,d,t,y,u⟩:=hE;unfold AQ at h;simp only at h;split at h
 .rename_i i m n k E;split at h
  .rename_i o z;split at h
   .rename_i A;split at h
    .rename_i D B r q;simp only[Option.some.injEq,Prod.mk.injEq]at h;obtain⟨rfl,rfl⟩:=h;have j:(Frame.mk fn c (.inRegion i (m::n)::k) g .run kind none).eval=(Act.mk c g).eval:=Frame.eval_at' (Frame.mk fn c [] g .run kind none) ⟨c,g⟩ (.inRegion i (m::n)::k);rw[j]at Bi;exact stepG_entry_blocked (b:=Frame.mk fn c [] g .run kind none) (a:=⟨c,g⟩) (kk:=k) z A q v d t y u Bi
    .cases h
   .cases h
  .cases h
 .cases h
/-! ### each by itself -/
theorem SY (m:Mark) (hm:∀g,m≠.extern g) (h:AQ x=some (f,args)) (hE:Entry P f (fun _=>do mark m;pure Extern.Race.none_)):
  stepG P main (G x.1 x.2) w=.go (G (BB x (.tuple #[])).1 (BB x (.tuple #[])).2) w #[⟨.mark m,false,true⟩]:=
 Fj h hE (by simp[Extern.Race.none_]) (by simp) (by
  intro y a
  simp at a
  subst a
  exact⟨rfl,λg h=>hm g (by cases h;rfl)⟩)
theorem QA (mk:f_->Mark) (hm:∀ad g,mk ad≠.extern g) {ad:f_} (h:AQ x=some (f,#[.pointer (some ad)])) (hE:Entry P f (Extern.Race.marked mk)):
  stepG P main (G x.1 x.2) w=.go (G (BB x (.tuple #[])).1 (BB x (.tuple #[])).2) w #[⟨.mark (mk ad),false,true⟩]:=
 Fj h hE (by simp[Extern.Race.marked,Extern.Race.at_,Extern.Race.none_]) (by simp[Extern.Race.marked,Extern.Race.at_]) (by
  intro x a
  simp at a
  subst a
  exact⟨rfl,λg h=>hm ad g (Loc.mark.inj h)⟩)
theorem lC {k:IntKind} {ad:f_} {n d:Int} (h:AQ x=some (f,#[.pointer (some ad),.int k d])) (hE:Entry P f (Extern.Atomic.update (Op.intArith .add) k true)) (hc:w.cell? ad=some (.int k n)) (hz:w.frozen? ad=false):
  stepG P main (G x.1 x.2) w=.go (G (BB x (.int k (k.wrap (n+d)))).1 (BB x (.int k (k.wrap (n+d)))).2) (w.setCell ad (.int k (k.wrap (n+d)))) (JM ad):=
 Fj h hE (run_add_entry hc hz) (by rw[events_add_entry hc hz];rfl) (sync_rw ad)
theorem pU {k:IntKind} {ad:f_} {n n':Int} (h:AQ x=some (f,#[.pointer (some ad),.int k n,.int k n'])) (hE:Entry P f (Extern.Atomic.casT (.int k))) (hc:w.cell? ad=some (.int k n)) (hz:w.frozen? ad=false):
  stepG P main (G x.1 x.2) w=.go (G (BB x (.bool true)).1 (BB x (.bool true)).2) (w.setCell ad (.int k n')) (JM ad):=
 Fj h hE (by rw[casT_eq];exact run_cas_hit_entry hc hz) (by rw[casT_eq,events_cas_hit_entry hc hz];rfl) (sync_rw ad)
theorem ja {k:IntKind} {ad:f_} {m n n':Int} (h:AQ x=some (f,#[.pointer (some ad),.int k n,.int k n'])) (hE:Entry P f (Extern.Atomic.casT (.int k))) (hc:w.cell? ad=some (.int k m)) (hz:w.frozen? ad=false) (Cf:¬m=n):
  stepG P main (G x.1 x.2) w=.go (G (BB x (.bool false)).1 (BB x (.bool false)).2) w #[⟨.cell ad,false,true⟩]:=
 Fj h hE (by rw[casT_eq];exact run_cas_miss_entry hc hz Cf) (by rw[casT_eq,events_cas_miss_entry hc hz Cf];rfl) (sync_r ad)
theorem Sj {k:IntKind} {ad:f_} {n:Int} (h:AQ x=some (f,#[.pointer (some ad)])) (hE:Entry P f (Extern.Atomic.loadT (.int k))) (hc:w.cell? ad=some (.int k n)):
  stepG P main (G x.1 x.2) w=.go (G (BB x (.int k n)).1 (BB x (.int k n)).2) w #[⟨.cell ad,false,true⟩]:=
 Fj h hE (by
  change (Sem.run P (do Extern.Atomic.read (.int k) (<-asAddr (.pointer (some ad)))) w)=_
  simp[Extern.Atomic.read,asAddr,hc]) (by
  change Sem.events P (do Extern.Atomic.read (.int k) (<-asAddr (.pointer (some ad)))) w _=_
  simp[Extern.Atomic.read,asAddr,hc,events_load]) (sync_r ad)
theorem Θ {k:IntKind} {ad:f_} {n:Int} {u:n_} (h:AQ x=some (f,#[.pointer (some ad),.int k n])) (hE:Entry P f Extern.Atomic.storeT) (hc:w.cell? ad=some u) (hz:w.frozen? ad=false):
  stepG P main (G x.1 x.2) w=.go (G (BB x (.tuple #[])).1 (BB x (.tuple #[])).2) (w.setCell ad (.int k n)) #[⟨.cell ad,true,true⟩]:=
 Fj h hE (by
  change (Sem.run P (do
   store (<-asAddr (.pointer (some ad))) (.int k n) .atomic
   pure Extern.Atomic.none_) w)=_
  simp[asAddr,hc,hz,run_store P w ad (.int k n) .atomic rfl,Result.andThen,Extern.Atomic.none_]) (by
  change Sem.events P (do
   store (<-asAddr (.pointer (some ad))) (.int k n) .atomic
   pure Extern.Atomic.none_) w _=_
  simp[asAddr,hc,hz,events_store P w _ ad (.int k n) .atomic rfl]) (λx a=>by
  simp at a;subst a;exact⟨rfl,λg h=>by cases h⟩)
theorem qm {ad:f_} {n:Int} (h:AQ x=some (f,args)) (hx:args[0]?=some (.pointer (some ad))) (hE:Entry P f Extern.Sync.semacquire) (hc:w.cell? ad=some (.int .u32 n)) (hn0:n≠0) (hz:w.frozen? ad=false):
  stepG P main (G x.1 x.2) w=.go (G (BB x (.tuple #[])).1 (BB x (.tuple #[])).2) (w.setCell ad (.int .u32 (n-1))) (semEvents ad):=
 Fj h hE (by simp[Extern.Sync.semacquire,Extern.Sync.count,hx,hc,hn0,hz,Extern.Sync.none_,run_store P w ad (.int .u32 (n-1)) .atomic rfl,Result.andThen])
  (by simp[Extern.Sync.semacquire,Extern.Sync.count,hx,hc,hn0,hz,semEvents,events_load,events_store P w _ ad (.int .u32 (n-1)) .atomic rfl,run_store P w ad (.int .u32 (n-1)) .atomic rfl,Result.evThen]) (semEvents_sync ad)
theorem Vr {ad:f_} (h:AQ x=some (f,args)) (hx:args[0]?=some (.pointer (some ad))) (hE:Entry P f Extern.Sync.semacquire) (hc:w.cell? ad=some (.int .u32 0)):
  stepG P main (G x.1 x.2) w=.go { G x.1 x.2 with status:=.blocked } w #[]:=
 oV h hE (by simp[Extern.Sync.semacquire,Extern.Sync.count,hx,hc])
theorem nI {ad:f_} {n:Int} (h:AQ x=some (f,args)) (hx:args[0]?=some (.pointer (some ad))) (hE:Entry P f Extern.Sync.semrelease) (hc:w.cell? ad=some (.int .u32 n)) (hz:w.frozen? ad=false):
  stepG P main (G x.1 x.2) w=.go (G (BB x (.tuple #[])).1 (BB x (.tuple #[])).2) (w.setCell ad (.int .u32 (IntKind.u32.wrap (n+1)))) (semEvents ad):=
 Fj h hE (by simp[Extern.Sync.semrelease,Extern.Sync.count,hx,hc,hz,Extern.Sync.none_,Op.intArith,run_store P w ad (.int .u32 (IntKind.u32.wrap (n+1))) .atomic rfl,Result.andThen])
  (by simp[Extern.Sync.semrelease,Extern.Sync.count,hx,hc,hz,semEvents,Op.intArith,events_load,events_store P w _ ad (.int .u32 (IntKind.u32.wrap (n+1))) .atomic rfl,run_store P w ad (.int .u32 (IntKind.u32.wrap (n+1))) .atomic rfl,Result.evThen]) (semEvents_sync ad)
/-! ### operations that only read -/
end
end Go.Fxa
namespace Go
open Go.Fxa Go.Conc
section
variable {P:l_} {main:Bool} {x:Frame×Z_} {f:h_} {args:X_} {e:X_->Sem n_} {w w':o_} {v:n_} {BA:Array Event}
def Sem.feed (P:l_) {α:Type}:Sem α->U_->d_ (List f_×α)
 |.pure a,_=>some ([],a)
 |.program k,vs=>(k P).feed P vs
 |.load m a k,v::vs=>match m,(k v).feed P vs with
  |.plain,some (Vy,x)=>some (a::Vy,x)
  |_,_=>none
 |_,_=>none
end
end Go
namespace Go.Fxa
open Go.Conc
section
variable {P:l_} {main:Bool} {x:Frame×Z_} {f:h_} {args:X_} {e:X_->Sem n_} {w w':o_} {v:n_} {BA:Array Event}
def Cells (w:o_):List f_->U_->Prop
 |[],_=>True
 |a::Vy,v::vs=>w.cell? a=some v/\Cells w Vy vs
 |_::_,[]=>False
def Il (Vy:List f_):Array Event:=(Vy.map λa=>⟨.cell a,false,false⟩).toArray
theorem vT {α:Type} {e:Sem α} {a:α}:∀{vs:U_} {Vy:List f_} (_:e.feed P vs=some (Vy,a)) (_:Cells w Vy vs) (es:Array Event),e.runT P w es=(.ok a w,es++Il Vy):=by
 induction e with
 |pure b=>
  intro vs Vy h _ es
  simp only[Sem.feed,Option.some.injEq,Prod.mk.injEq]at h
  obtain⟨rfl,rfl⟩:=h
  simp[Sem.runT,Il]
 |program k d=>intro vs Vy h c es;exact d P h c es
 |load m l k d=>
  intro vs Vy h c es
  cases vs with
  |nil=>simp[Sem.feed]at h
  |cons v vs=>
   simp only[Sem.feed]at h
   split at h
   .rename_i f y j;simp only[Option.some.injEq,Prod.mk.injEq]at h;obtain⟨rfl,rfl⟩:=h;obtain⟨g,i⟩:=c;simp only[Sem.runT,g];rw[d v j i];simp only[Prod.mk.injEq,true_and];apply Array.ext';simp[Il]
   .cases h
 |_=>intro vs Vy h;cases vs<;>simp[Sem.feed]at h
def opAt (x:Frame×Z_):d_ Oper:=
 match x.1.roundOf,x.1.mode,x.1.kind==CallKind.early,x.1.todo with
 |none,.run,false,.inRegion ops (i::_)::_=>match ops[i]? with
  |some o=>if Region.wanted o (yielded ops x.1.tmps)then some o else none
  |none=>none
 |_,_,_,_=>none
theorem PU {o:Oper} (h:opAt x=some o):stepG P main (G x.1 x.2) w=stepG.apply P true x.1 x.2 none (execOp x.1.eval o) w/\(x.1.kind==CallKind.early)=false:=by
 obtain⟨⟨fn,b,c,j,a,kind,p⟩,i⟩:=x;unfold opAt at h;simp only at h;split at h
 .rename_i f l m n g;split at h
  .rename_i k d;split at h
   .rename_i e;obtain rfl:=x_ h;refine⟨?_,g⟩;simp[G,stepG,stepG.exec,stepG.oper,Frame.oper?,d,e]
   .cases h
  .cases h
 .cases h
theorem nM {fn:h_} (hq:(P.funcs[fn]?).any (·.norace)=false) (Vy:List f_):seen P fn (#[]++Il Vy)=Il Vy:=by
 rw[Array.empty_append];exact seen_eq hq (λe b f=>by
  simp only[Il,List.mem_toArray,List.mem_map]at b
  obtain⟨a,_,rfl⟩:=b
  simp)
theorem rP {o:Oper} {vs:U_} {Vy:List f_} (h:opAt x=some o) (hf:(execOp x.1.eval o).feed P vs=some (Vy,.value v)) (hc:Cells w Vy vs) (hq:(P.funcs[x.1.fn]?).any (·.norace)=false):
  stepG P main (G x.1 x.2) w=.go (G (BB x v).1 (BB x v).2) w (Il Vy):=by
 obtain⟨a,b⟩:=PU (P:=P) (main:=main) (w:=w) h;rw[a];simp only[stepG.apply,vT hf hc #[],if_true,GStep.after,Array.append_empty,b,Bool.false_eq_true,if_false,nM hq]
 rfl
theorem tH {o:Oper} {cs:Array CommCase} {bl:Bool} {sh:CommShape} (h:opAt x=some o) (hf:(execOp x.1.eval o).I9 P=some (.comm cs bl sh)):
  stepG P main (G x.1 x.2) w=.comm (G x.1 x.2) cs bl sh w #[]:=by
 obtain⟨a,b⟩:=PU (P:=P) (main:=main) (w:=w) h;rw[a];simp only[stepG.apply,Je hf w #[],if_true,GStep.after,Array.append_empty,b,Bool.false_eq_true,if_false,seen_none]
 rfl
end
end Go.Fxa
