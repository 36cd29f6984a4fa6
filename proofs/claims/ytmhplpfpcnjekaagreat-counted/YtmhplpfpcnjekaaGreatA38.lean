/- Counted's check: files, one of -/
import Derived.Test.YtmhplpfpcnjekaaGreatA37
namespace Go.Fxa
open Conc Proofs RowKit Proofs.Tryz
set_option maxRecDepth 1000000
set_option maxHeartbeats 0
section
variable (m:Nat) (w:o_) (f:Y_)
theorem bh7 (q0 q1:Int) (n j len cp gb:Nat) (a:d_ f_) (c:Nat) (hjl:(j:Int)<(len:Int)) (_:len<=1000) (d0:w.cell? (T_ gb (j*3))=some (b_ q0)) (_:w.cell? (T_ gb (j*3+1))=some (b_ q1)) (d2:w.cell? (T_ gb (j*3+2))=some (.slice a n c)) (yE:¬(64:Int)<(n:Int)) (hneg:¬q0<0) (g2:(0:Int)<=q0) (g0:¬(0:Int)<(j:Int)):(yH prog 13).wpIn NF m prog (Ends λtm w'=>(∃g,tm=fB f g (Q_ gb len cp) (b_ (j:Nat))/\g 240=.bool false)/\Keep No w w') ⟨fA f (Q_ gb len cp) (b_ (j:Nat)),[]⟩ w:=by
 unfold yH dI dL dq;rw[Uw];dsimp only[Tryz.f23,Option.getD,behind,piece];unfold fA;refine Bi 69 254 ?_;gi_wp2;refine CZ ?_ ?_
 .intro W b;have d0:=b.has (w:=w.drew) d0;have d2:=b.has (w:=w.drew) d2
  iterate 2 (refine AQ (by kernel_rfl) rfl rfl rfl (by kernel_rfl) ?_)
  refine Ae (by gi_wp2) ?_;refine AQ (by kernel_rfl) rfl rfl rfl (by kernel_rfl) ?_
  iterate 3 (refine Ae (by gi_wp2) ?_)
  iterate 3 (refine AQ (by kernel_rfl) rfl rfl rfl (by kernel_rfl) ?_)
  refine Ae (by gi_wp2) ?_;refine AQ (by kernel_rfl) rfl rfl rfl (by kernel_rfl) ?_
  iterate 2 (refine Ae (by gi_wp2) ?_)
  refine AQ (by kernel_rfl) rfl rfl rfl (by kernel_rfl) ?_
  iterate 6 (refine Iy (by kernel_rfl) rfl rfl ?_)
  iterate 4 (refine AQ (by kernel_rfl) rfl rfl rfl (by kernel_rfl) ?_)
  refine Ae (by gi_wp2) ?_;refine AQ (by kernel_rfl) rfl rfl rfl (by kernel_rfl) ?_
  iterate 6 (refine Iy (by kernel_rfl) rfl rfl ?_)
  iterate 2 (refine AQ (by kernel_rfl) rfl rfl rfl (by kernel_rfl) ?_)
  iterate 12 (refine Iy (by kernel_rfl) rfl rfl ?_)
  iterate 4 (refine AQ (by kernel_rfl) rfl rfl rfl (by kernel_rfl) ?_)
  refine Ae (by gi_wp2) ?_;refine AQ (by kernel_rfl) rfl rfl rfl (by kernel_rfl) ?_
  iterate 6 (refine Iy (by kernel_rfl) rfl rfl ?_)
  iterate 2 (refine AQ (by kernel_rfl) rfl rfl rfl (by kernel_rfl) ?_)
  iterate 7 (refine Iy (by kernel_rfl) rfl rfl ?_)
  refine AQ (by kernel_rfl) rfl rfl rfl (by kernel_rfl) ?_;exact trivial
 .intro W b;gi_wp2;exact⟨rfl,rfl,endsB (by kernel_rfl) (by rfl),(p_ No w).drew.then b⟩
end
section
variable (m:Nat) (w:o_) (f:Y_)
theorem bh6 (q0 q1:Int) (n j len cp gb:Nat) (a:d_ f_) (c:Nat) (hjl:(j:Int)<(len:Int)) (bm9:len<=1000) (d0:w.cell? (T_ gb (j*3))=some (b_ q0)) (_:w.cell? (T_ gb (j*3+1))=some (b_ q1)) (d2:w.cell? (T_ gb (j*3+2))=some (.slice a n c)) (yE:¬(64:Int)<(n:Int)) (hneg:¬q0<0) (g2:(0:Int)<=q0) (g0:(0:Int)<(j:Int)) (z:Nat) (p0:Int) (hz:(j:Int)-1=(z:Int)) (g5:(z:Int)<(len:Int)) (y0:w.cell? (T_ gb (z*3))=some (b_ p0)) (g3:¬q0<=p0) (g4:¬p0<0):(yH prog 13).wpIn NF m prog (Ends λtm w'=>(∃g,tm=fB f g (Q_ gb len cp) (b_ (j:Nat))/\g 240=.bool false)/\Keep No w w') ⟨fA f (Q_ gb len cp) (b_ (j:Nat)),[]⟩ w:=by
 unfold yH dI dL dq;rw[Uw];dsimp only[Tryz.f23,Option.getD,behind,piece];unfold fA;refine Bi 69 254 ?_;gi_wp2;refine CZ ?_ ?_
 .intro W b;have d0:=b.has (w:=w.drew) d0;have d2:=b.has (w:=w.drew) d2;have y0:=b.has (w:=w.drew) y0
  iterate 2 (refine AQ (by kernel_rfl) rfl rfl rfl (by kernel_rfl) ?_)
  refine Ae (by gi_wp2) ?_;refine AQ (by kernel_rfl) rfl rfl rfl (by kernel_rfl) ?_
  iterate 3 (refine Ae (by gi_wp2) ?_)
  iterate 3 (refine AQ (by kernel_rfl) rfl rfl rfl (by kernel_rfl) ?_)
  refine Ae (by gi_wp2) ?_;refine AQ (by kernel_rfl) rfl rfl rfl (by kernel_rfl) ?_
  iterate 2 (refine Ae (by gi_wp2) ?_)
  refine AQ (by kernel_rfl) rfl rfl rfl (by kernel_rfl) ?_
  iterate 6 (refine Iy (by kernel_rfl) rfl rfl ?_)
  iterate 4 (refine AQ (by kernel_rfl) rfl rfl rfl (by kernel_rfl) ?_)
  refine Ae (by gi_wp2) ?_
  iterate 3 (refine AQ (by kernel_rfl) rfl rfl rfl (by kernel_rfl) ?_)
  refine Ae (by gi_wp2) ?_;refine AQ (by kernel_rfl) rfl rfl rfl (by kernel_rfl) ?_
  iterate 2 (refine Ae (by gi_wp2) ?_)
  iterate 4 (refine AQ (by kernel_rfl) rfl rfl rfl (by kernel_rfl) ?_)
  iterate 2 (refine Ae (by gi_wp2) ?_)
  refine AQ (by kernel_rfl) rfl rfl rfl (by kernel_rfl) ?_;refine Ae (by gi_wp2) ?_
  iterate 2 (refine AQ (by kernel_rfl) rfl rfl rfl (by kernel_rfl) ?_)
  refine Ae (by gi_wp2) ?_;refine AQ (by kernel_rfl) rfl rfl rfl (by kernel_rfl) ?_
  iterate 2 (refine Ae (by gi_wp2) ?_)
  iterate 4 (refine AQ (by kernel_rfl) rfl rfl rfl (by kernel_rfl) ?_)
  refine Ae (by gi_wp2) ?_
  iterate 3 (refine AQ (by kernel_rfl) rfl rfl rfl (by kernel_rfl) ?_)
  refine Ae (by gi_wp2) ?_;refine AQ (by kernel_rfl) rfl rfl rfl (by kernel_rfl) ?_
  iterate 2 (refine Ae (by gi_wp2) ?_)
  iterate 4 (refine AQ (by kernel_rfl) rfl rfl rfl (by kernel_rfl) ?_)
  iterate 2 (refine Ae (by gi_wp2) ?_)
  refine AQ (by kernel_rfl) rfl rfl rfl (by kernel_rfl) ?_
  iterate 2 (refine Ae (by gi_wp2) ?_)
  refine AQ (by kernel_rfl) rfl rfl rfl (by kernel_rfl) ?_;exact trivial
 .intro W b;gi_wp2;exact⟨rfl,rfl,endsB (by kernel_rfl) (by rfl),(p_ No w).drew.then b⟩
end
section
variable (m:Nat) (w:o_) (f:Y_)
theorem bi1 (j len cp gb:Nat) (g0:¬(0:Int)<(j:Int)):(dRh prog 8).wpIn NF m prog (Ends λtm w'=>(∃g,tm=fD f g (Q_ gb len cp) (b_ (j:Nat)) (b_ 0)/\g 81=.bool false)/\Keep No w w') ⟨fC f (Q_ gb len cp) (b_ (j:Nat)) (b_ 0),[]⟩ w:=by
 unfold dRh dI dL dq;rw[Uw];dsimp only[Tryz.f23,Option.getD,behind,piece];unfold fC;refine Bi 17 254 ?_;gi_wp2;refine CZ ?_ ?_
 .intro W a
  repeat' (refine Ae ?_ ?_)
  all_goals first|exact trivial|gi_wp2
 .intro W a;gi_wp2;exact⟨rfl,rfl,ap1 (by kernel_rfl) (by rfl),(p_ No w).drew.then a⟩
theorem bi0 (j len cp gb:Nat) (pid:Int) (hjl:(j:Int)<(len:Int)) (bm9:len<=1000) (d0:w.cell? (T_ gb j)=some (b_ pid)) (g0:(0:Int)<(j:Int)) (z:Nat) (p0:Int) (hz:(j:Int)-1=(z:Int)) (g5:(z:Int)<(len:Int)) (y0:w.cell? (T_ gb z)=some (b_ p0)) (g3:¬pid<=p0):(dRh prog 8).wpIn NF m prog (Ends λtm w'=>(∃g,tm=fD f g (Q_ gb len cp) (b_ (j:Nat)) (b_ 0)/\g 81=.bool false)/\Keep No w w') ⟨fC f (Q_ gb len cp) (b_ (j:Nat)) (b_ 0),[]⟩ w:=by
 unfold dRh dI dL dq;rw[Uw];dsimp only[Tryz.f23,Option.getD,behind,piece];unfold fC;refine Bi 17 254 ?_;gi_wp2;refine CZ ?_ ?_
 .intro W a;have d0:=a.has (w:=w.drew) d0;have y0:=a.has (w:=w.drew) y0
  repeat' (refine Ae ?_ ?_)
  all_goals first|exact trivial|gi_wp2
 .intro W a;gi_wp2;exact⟨rfl,rfl,ap1 (by kernel_rfl) (by rfl),(p_ No w).drew.then a⟩
end
theorem eQ.keep {w w':o_} {v:n_} {l:List (W_)} {S:Nat->Prop} (h:eQ w v l) (hK:Keep S w w') (hn:∀b cs,w.heap[b]?=some (O_ cs 174)->¬S b):eQ w' v l:=by
 obtain⟨s,c,e,h⟩:=h;refine⟨s,c,e,λj=>?_⟩;obtain⟨b,e1,⟨cs,d⟩,f⟩:=h j;have a:=hn b cs d;exact⟨b,e1,⟨cs,hK.old d a⟩,λi r g=>⟨(hK.cell (p:=(T_ b (i*2))) (BQ d) a).trans (f i r g).1,(hK.cell (p:=(T_ b (i*2+1))) (BQ d) a).trans (f i r g).2⟩⟩
section
variable (m:Nat) (w:o_)
theorem Zu (NC NS:Nat) (K:KS) (s fa:d_ f_) (n c nf fc:Nat) (h:AV K w) (ok:Ez NC NS K):P_ m 23 #[R_ K.kb,.agg #[b_ NC,b_ NS,.slice s n c,.slice fa nf fc]] w λe w'=>Keep No w w'/\e=.returned (.bool true):=by
 have hNC:=ok.co.le;have hNS:=ok.sw.le;have hlC:=ok.co.fit.1;have hlS:=ok.sw.fit.1;have Y:(w.alloc (.cells #[b_ NC,b_ NS,.slice s n c,.slice fa nf fc] 25)).heap[w.heap.size]?=some (O_ #[b_ NC,b_ NS,.slice s n c,.slice fa nf fc] 25):=heap_alloc_new rfl;have K0:Keep No w (w.alloc (.cells #[b_ NC,b_ NS,.slice s n c,.slice fa nf fc] 25)):=(p_ _ _).alloc _;obtain⟨i0,hi,hz0,hz1,hz2⟩:=info_parts info4;gi_enter func23,ntmps23;gi_upto_region 1 with fail;generalize w.alloc (.cells #[b_ NC,b_ NS,.slice s n c,.slice fa nf fc] 25)=V at*;have c0:V.cell? (S_ w.heap.size)=some (b_ NC):=bce Y rfl;have c1:V.cell? (T_ w.heap.size 1)=some (b_ NS):=bce Y rfl;have hmk:=run_make (P:=prog) V 137 4 i0 (.bool false) underlying137 hi hz0 .i64 .i64 NC NC (by omega) (by omega) (by rw[hz2];omega) (by omega);rw[hz1]at hmk;simp only[Int.toNat_natCast,Nat.mul_one,Value.cells]at hmk;have rC:=Xx V NC;have K1:Keep No V (V.alloc (.cells (madeCells #[.bool false] NC) 4)):=(p_ _ _).alloc _;have c1:=K1.has c1;generalize V.alloc (.cells (madeCells #[.bool false] NC) 4)=w1 at*;have hlt1:V.heap.size<w1.heap.size:=by obtain⟨_,O,_⟩:=rC;exact BQ O
 gi_upto_region 2 with fail;have ar9:=run_make (P:=prog) w1 137 4 i0 (.bool false) underlying137 hi hz0 .i64 .i64 NS NS (by omega) (by omega) (by rw[hz2];omega) (by omega);rw[hz1]at ar9;simp only[Int.toNat_natCast,Nat.mul_one,Value.cells]at ar9;have rS:=Xx w1 NS;have K2:Keep No w1 (w1.alloc (.cells (madeCells #[.bool false] NS) 4)):=(p_ _ _).alloc _;generalize w1.alloc (.cells (madeCells #[.bool false] NS) 4)=w2 at*;have rC:=rC.keep K2 id;have KA:=(K0.then K1).then K2;have hlt0:w.heap.size<V.heap.size:=BQ Y;have cf:=λm=>az1 m w2 K (h.no KA) (by omega) (by omega)
 gi_upto_region 3 with fail;clear hmk ar9;generalize hcb:V.heap.size=C at*;generalize hsb:w1.heap.size=u at*;have hlt2:u<w2.heap.size:=by obtain⟨_,O,_⟩:=rS;exact BQ O
 gi_upto_region 4 with(gi_at_call 59;refine(cf _).mono ?_;rintro e w3 ⟨K3,v,v',rfl,o1,o2⟩);have rC:=rC.keep K3 id;have rS:=rS.keep K3 id;have KB:=KA.then K3;have cg:=λm=>κ m w3 C NC NC v K.core rC hNC (tq o1) ok.co.so ok.co.uM λi hi=>by have:=ok.co.cnt i hi;omega
 gi_upto_region 5 with(gi_at_call 60;refine(cg _).mono ?_;rintro e w4 ⟨rfl,K4,R4⟩);have KD:Keep No w w4:=KB.trans K4 λx N e=>absurd N (by rw[show x=C from e];omega)
 have rS:=rS.keep K4 (λe=>by have e:u=C:=e;omega);have cg':=λm=>κ m w4 u NS NS v' K.swap rS hNS ((tq o2).keep K4 λb cs hb e=>by obtain⟨_,O,_⟩:=rC;rw[show b=C from e,O]at hb;simp at hb) ok.sw.so ok.sw.uM λi hi=>by have:=ok.sw.cnt i hi;omega
 gi_upto_region 6 with(gi_at_call 60;refine(cg' _).mono ?_;rintro e w5 ⟨rfl,K5,R5⟩);have KE:Keep No w w5:=KD.trans K5 λx N e=>absurd N (by rw[show x=u from e];omega)
 have R4:=R4.keep K5 (λe=>by have e:C=u:=e;omega);have sz5:w2.heap.size<=w5.heap.size:=Nat.le_trans K3.size (Nat.le_trans K4.size K5.size);have cp:=λm=>av3 m w5 K (h.no KE) ok.th ok.len
 clear cg cg' cf rC rS K4 K5 o1 o2 Y c0 c1 hcb hsb;gi_upto_region 9 with(gi_at_call 50;refine(cp _).mono ?_;rintro e S ⟨K6,pv,rfl,Es⟩);obtain⟨sp,cpp,hpv⟩:∃s c,pv=.slice s K.AP.length c:=by
  obtain⟨e,e2⟩|⟨g,cap,H,e,_⟩:=Es.2
  .exact⟨none,0,by rw[e,e2]⟩
  .exact⟨_,_,e⟩
 subst hpv;have KF:Keep No w S:=KE.then K6;have R4:I4 S C NC (Jo K 0):=(R4.keep K6 id).ext λi _=>by simp[Jo,BD]
 have R5:I4 S u NS (KQ K 0):=(R5.keep K6 id).ext λi _=>by simp[KQ,BD]
 have hlen:=ok.len;clear cp KE KD KB KA K3 K6 K0 K1 K2;gi_wp2;gi_loopw [12] (λi wr=>∃k:Nat,k<=K.AP.length/\i=b_ k/\Keep (At2 C u) S wr/\I4 wr C NC (Jo K k)/\I4 wr u NS (KQ K k)) (λi _=>K.AP.length-(intOf i).toNat)
 case atStart=>exact⟨0,by omega,rfl,p_ _ _,R4,R5⟩
 case round=>
  obtain⟨k,hk,rfl,KK,G,L⟩:=hrel
  have KW:Keep No w wr:=KF.trans KK λx N e=>absurd N (by obtain e|e:=e<;>rw[e]<;>omega)
  by_cases BI:k<K.AP.length
  .have t:K.AP[k]?=some K.AP[k]:=Ii BI;generalize K.AP[k]=b at t;obtain⟨r,M⟩:=AV.mem ok.th t;have h6:=h.no KW;obtain⟨g,cap,H,rfl,hgb,hgs⟩:∃g cap H,sp=some (S_ g)/\S.heap[g]?=some (O_ H cap)/\w5.heap.size<=g:=by
    obtain⟨_,e2⟩|⟨g,cap,H,e,hb,N,_⟩:=Es.2
    .omega
    .cases e;exact⟨g,_,H,rfl,N,hb⟩
   have pid:∀(j b':Nat) (r':PR),K.AP[j]?=some b'->K.ps b'=some r'->wr.cell? (T_ g j)=some (b_ r'.pid):=λj b' r' O h2=>by
    have hj:=(LQ.1 O).1
    refine(KK.cell (p:=(T_ g j)) (BQ hgb) (by rintro(e|e)<;>(have e:g=_:=e;omega))).trans ((Es.cellAt j (by omega)).trans ?_)
    simp[dh,O,h2]
   have d0:=pid k b r t M;have hlk:=λm=>(Ψ m wr NC NS K r.pid h6 ok).mono λe w2 h=>uf ok t M h
   gi_upto_region 13 with(first|(gi_at_call 20;refine(hlk _).mono ?_;rintro e W ⟨L2,st,a7,n7,c7,a8,n8,c8,rfl,hS,i7,i8⟩;obtain⟨x3,hst3,L3,b3⟩:=Nj (w:=W.alloc (.cells look0 48)) (rb:=W.heap.size) (a:=r.pid) (b:=r.par) (c:=st) (d:=r.A) (e:=r.B) (f:=r.P) (g:=r.st) (n7:=n7) (c7:=c7) (n8:=n8) (c8:=c8) (a7:=a7) (a8:=a8) (heap_alloc_new rfl))|refine Dk rfl (.tmp 13) (.tmp 62) 48 rfl rfl rfl hst3 ?_);have L4:Keep No wr x3:=(L2.then ((p_ No W).alloc (.cells look0 48))).trans L3 (λx N e=>absurd (show x=W.heap.size from e) (by have:=L2.size;omega));have g2:x3.cell? (T_ W.heap.size 2)=some (b_ st):=bce b3 rfl;have R:x3.cell? (T_ W.heap.size 7)=some (.slice a7 n7 c7):=bce b3 rfl;have U:x3.cell? (T_ W.heap.size 8)=some (.slice a8 n8 c8):=bce b3 rfl;have e7:Nonempty (PLift (n7=r.Ag.length)):=⟨⟨by obtain⟨_,_,e,_⟩:=i7;injection e with _ e _;rw[e];simp[ints]⟩⟩;have e8:Nonempty (PLift (n8=r.fds.length)):=⟨⟨by obtain⟨_,_,e,_⟩:=i8;injection e with _ e _⟩⟩;have hwh:=λm x (N:Keep No wr x)=>(ZT m x K NC r.pid (h6.no N) ok.th ok.co (by omega)).mono λe w2 h=>ό ok t M h
   have hp0:=L4.has d0;have Z:W.heap.size≠C/\W.heap.size≠u:=by
    have e1:u<S.heap.size:=by obtain⟨_,O,_⟩:=R5;exact BQ O
    have e2:=KK.size
    have e3:=L2.size
    omega
   clear hst3 hlk b3 L3 i7 i8 L2;generalize W.heap.size=pb at*;gi_cut [81]from 254 (λv wc=>v=.bool false/\Keep No x3 wc)
   .rename_i J K' hJ hK';refine uC (c':=dRh prog 8) (by kernel_rfl) (bh0 rfl rfl rfl rfl (λf=>?_) λl w' hK h81=>hK' _ _ (Met.intro (hJ _ _ ⟨l 64,l 65,l 66,l 67,l 68,l 69,l 70,l 71,l 72,l 73,l 74,l 75,l 76,l 77,l 78,l 79,l 80,l 81,⟨h81,hK⟩,by kernel_rfl⟩)));by_cases hk0:k=0
    .exact bi1 m x3 f k _ _ g (by omega)
    .have hy:K.AP[k-1]?=some K.AP[k-1]:=Ii (by omega);obtain⟨y,hyr⟩:=AV.mem ok.th hy;have hyx:y.pid<r.pid:=by
      have:=List.pairwise_iff_getElem.1 ok.asc (k-1) k (by omega) BI (by omega)
      rw[Ii BI]at t
      rw[x_ t]at this
      exact this y r hyr M
     exact bi0 m x3 f k _ _ g r.pid (by omega) (by omega) hp0 (by omega) (k-1) y.pid (by omega) (by omega) (L4.has (pid (k-1) _ y hy hyr)) (by omega)
   .obtain⟨rfl,Q⟩:=hcut;clear pid;have hp1:=Q.has hp0;have g2:=Q.has g2;have R:=Q.has R;have U:=Q.has U;have hwc:=λm=>hwh m wc (L4.then Q)
    have G:=(G.keep L4 id).keep Q id;have L:=(L.keep L4 id).keep Q id;have KY:Keep (At2 C u) S wc:=(KK.trans L4 (λ_ _ e=>e.elim)).trans Q λ_ _ e=>e.elim
    clear hwh Q L4 hp0 d0;gi_upto_region 16 with(first|(gi_at_call 22;refine(hwc _).mono ?_;rintro e T ⟨L5,x,y,z,s',rfl,hs1,hs2⟩;obtain⟨x5,hst5,L6,b5⟩:=SL (w:=T.alloc (.cells #[b_ 0,b_ 0,b_ 0] 54)) (rb:=T.heap.size) (x:=x) (y:=y) (z:=z) (heap_alloc_new rfl))|refine Dk rfl (.tmp 15) (.tmp 89) 54 rfl rfl rfl hst5 ?_);have LW:Keep No wc x5:=(L5.then ((p_ No T).alloc (.cells #[b_ 0,b_ 0,b_ 0] 54))).trans L6 (λx N e=>absurd (show x=T.heap.size from e) (by have:=L5.size;omega));have g2:=LW.has g2;have R:=LW.has R;have U:=LW.has U;have G:=G.keep LW id;have L:=L.keep LW id;have KZ:Keep (At2 C u) S x5:=KY.trans LW λ_ _ e=>e.elim
    have q0:x5.cell? (S_ T.heap.size)=some (b_ x):=bce b5 rfl;have q1:x5.cell? (T_ T.heap.size 1)=some (b_ y):=bce b5 rfl;have q2:x5.cell? (T_ T.heap.size 2)=some (b_ z):=bce b5 rfl;have hqn:T.heap.size≠C/\T.heap.size≠u:=by
     have e1:u<S.heap.size:=by obtain⟨_,O,_⟩:=R5;exact BQ O
     have e2:=KY.size
     have e3:=L5.size
     omega
    have hlq:T.heap.size<x5.heap.size:=BQ b5;have o:=ok.pr b r M;clear hwc hst5 L6 LW KY b5 L5;generalize T.heap.size=qb at*;cases hen:r.en with
    |true=>
     have BX:st=2:=hS.1 hen
     have hs3:s'=3:=hs1 hen
     obtain⟨_,hoi,hoc⟩:=o.off hen
     have hn7:n7=0:=by obtain⟨⟨e⟩⟩:=e7;rw[e,hoi];rfl
     subst BX hs3 hn7
     clear hS hs1 hs2 e7 e8 q0 q1 q2 o
     gi_wp2
     go_roundw
     case rel=>exact⟨k+1,by omega,by go_num,KZ,G.ext λi _=>Ze t M hoc i,L.ext λi _=>xu t M hoi i⟩
     case measure=>simp[intOf];omega
    |false=>
     obtain⟨hs0,N,hy,hz⟩:=hs2 hen
     subst hs0 N hy hz
     have BX:(st==2)=false:=by have:=hS.2 hen;simp;omega
     obtain⟨kk,l1,l2,l3⟩:=o.len hen
     have l6:=o.fds hen
     have hnb:Aj r.Ag.length=kk:=by rw[l1];unfold Aj;omega
     have hF1:((n7:Int) !=8*((Aj r.Ag.length:Nat):Int))=false:=by obtain⟨⟨e⟩⟩:=e7;rw[hnb,e,l1];simp
     have hF2:¬(16:Int)<((Aj r.Ag.length:Nat):Int):=by omega
     have hF3:((n8:Int) !=6)=false:=by obtain⟨⟨e⟩⟩:=e8;rw[e,l6];rfl
     have hpl:=ok.sw.pl b r M
     have X:=λm=>WO m x5 u NS NS r.sw (Aj r.Ag.length) (KQ K k) L hNS hpl (by omega) (iq ok t M).1
     have hpc:=(ok.co.pl b r M).2
     have hn1:1<=Aj r.Ag.length:=by omega
     clear hS hs1 hs2 e7 e8 o l1 l6 hnb
     gi_upto_region 20 with(gi_at_call 61;refine(X _).mono ?_;rintro e x6 ⟨rfl,L7,L⟩)
     have L:I4 x6 u NS (KQ K (k+1)):=L.ext λi _=>(iq ok t M).2 i
     have G:=G.keep L7 (λe=>by have e:C=u:=e;omega)
     have q1:=(L7.cell (p:=(T_ qb 1)) hlq hqn.2).trans q1
     have q2:=(L7.cell (p:=(T_ qb 2)) hlq hqn.2).trans q2
     have hlp:=World.block_lt_of_cell? _ _ R
     have R:=(L7.cell (p:=(T_ pb 7)) hlp Z.2).trans R
     have U:=(L7.cell (p:=(T_ pb 8)) hlp Z.2).trans U
     have KZ:Keep (At2 C u) S x6:=KZ.trans L7 λx _ e=>.inr e
     clear X q0 g2 BX L7
     gi_cut [18]from 254 (λv wc=>v=.bool true/\Keep (At2 C u) S wc/\I4 wc C NC (Jo K (k+1))/\I4 wc u NS (KQ K (k+1))/\wc.cell? (T_ qb 2)=some (b_ ((Aj r.Ag.length:Nat):Int))/\wc.cell? (T_ pb 7)=some (.slice a7 n7 c7)/\wc.cell? (T_ pb 8)=some (.slice a8 n8 c8))
     .obtain Gz|⟨a,Gz,ha,_⟩:=hpc
      .rw[Gz]at q1;have G:I4 x6 C NC (Jo K (k+1)):=G.ext λi _=>Ze t M Gz i
       clear Gz;gi_wp2;gi_meet
       case rel=>exact⟨rfl,KZ,G,L,q2,R,U⟩
      .have X:=λm=>WO m x6 C NC NC a (Aj r.Ag.length) (Jo K k) G hNC ha hn1 (iw ok t M Gz).1
       have mX:∀i,(Jo K k i || uQ a (Aj r.Ag.length) i)=Jo K (k+1) i:=(iw ok t M Gz).2;rw[Gz]at q1;have fa:((a:Int)==-1)=false:=(by simp);have mX:=Nonempty.intro (PLift.up mX);clear Gz;gi_wp2_with (gi_at_call 61;refine(X _).mono ?_;rintro e x7 ⟨rfl,L8,G⟩);gi_meet
       case rel=>
        obtain⟨⟨mX⟩⟩:=mX
        exact⟨rfl,KZ.trans L8 λx _ e=>.inl e,G.ext λi _=>mX i,L.keep L8 (λe=>by have e:u=C:=e;omega),(L8.cell (p:=(T_ qb 2)) (World.block_lt_of_cell? _ _ q2) hqn.1).trans q2,(L8.cell (p:=(T_ pb 7)) (World.block_lt_of_cell? _ _ R) Z.1).trans R,(L8.cell (p:=(T_ pb 8)) (World.block_lt_of_cell? _ _ U) Z.1).trans U⟩
     .obtain⟨rfl,KZ,G,L,q2,R,U⟩:=hcut;gi_wp2;go_roundw
      case rel=>exact⟨k+1,by omega,by go_num,KZ,G,L⟩
      case measure=>simp[intOf];omega
  .obtain rfl:k=K.AP.length:=(by omega);obtain⟨aC,aS⟩:=ϯ ok;have c62:=λm=>θ m wr C NC NC _ G hNC aC
   have bf8:=λm=>θ m wr u NS NS _ L hNS aS
   obtain⟨ln,hln,hds⟩:=h.dk;have hnl:=ok.DV.nl;have c63:=λm=>aj9 m wr K ln (h.no KW) (λb e=>(hln b e).keep KW id) (by omega)
   have I:=aa6 h ok hln hds;clear hln hds G L KK;generalize Rt K ln 16++YH K ln K.nl=D at c63 I;gi_upto_region 24 with(gi_at_call 62;refine(c62 _).mono ?_;rintro e y1 ⟨rfl,hw⟩;have hw:=hw.symm;subst hw);gi_upto_region 25 with(gi_at_call 62;refine(bf8 _).mono ?_;rintro e y1 ⟨rfl,hw⟩;have hw:=hw.symm;subst hw);gi_upto_region 27 with(gi_at_call 63;refine(c63 _).mono ?_;rintro e y2 ⟨M2,fv,rfl,xs,fo,fl⟩);clear c62 bf8 c63;have KV:Keep No w y2:=KW.then M2;obtain⟨sf,cf,hfv⟩:∃s c,fv=.slice s D.length c:=by
    obtain⟨e,e2⟩|⟨g,cap,H,e,_⟩:=fo.2
    .exact⟨none,0,by rw[e,e2]⟩
    .exact⟨_,_,e⟩
   subst hfv;have hfn:=I.n;gi_wp2;gi_loopw [21,23] (λd i wq=>Keep No y2 wq/\∃j:Nat,j<=D.length/\i=b_ j/\d=b_ (PL (D.take j):Nat)) (λ_ i _=>D.length-(intOf i).toNat)
   case atStart=>exact⟨p_ _ _,0,by omega,rfl,rfl⟩
   case round=>
    obtain⟨KJ,j,hj,rfl,rfl⟩:=hrel
    by_cases hjl:j<D.length
    .have t:D[j]?=some D[j]:=Ii hjl;generalize D[j]=q at t;obtain⟨g,rfl⟩:∃g,sf=some (S_ g):=by
      obtain⟨_,e2⟩|⟨g,cap,H,e,_,N,_⟩:=fo.2
      .omega
      .cases e;exact⟨g,rfl⟩
     have hmem:=t_ t;have q64:=I.len q hmem;have qop:=I.opn q hmem;obtain⟨f0,f1,a,c,f2⟩:=fl.get j q t;have hxl:=fl.len;have d0:=KJ.has ((fo.cellAt (j*3) (by omega)).trans f0);have d1:=KJ.has ((fo.cellAt (j*3+1) (by omega)).trans f1);have d2:=KJ.has ((fo.cellAt (j*3+2) (by omega)).trans f2);have F:PL (D.take (j+1))=PL (D.take j)+Aj q.2.2:=vY t;have bt7:PL (D.take j)<=40:=by
      have e:=I.sum
      rw[<-List.take_append_drop j D,P9]at e
      omega
     have hq2:((q.2.2:Int)+7) / 8=(Aj q.2.2:Nat):=(by unfold Aj;omega);have hb8:Aj q.2.2<=8:=(by unfold Aj;omega);have yE:¬(64:Int)<(q.2.2:Int):=(by omega);have F:=Nonempty.intro (PLift.up F);clear f0 f1 f2;gi_upto_region 31 with fail;clear hq2;gi_cut [240]from 254 (λv wc=>v=.bool false/\Keep No wr wc)
     .rename_i J K' hJ hK';refine uC (c':=yH prog 13) (by kernel_rfl) (bg9 rfl rfl rfl (λf=>?_) λl w' hK h81=>hK' _ _ (Met.intro (hJ _ _ ⟨l 171,l 172,l 173,l 174,l 175,l 176,l 177,l 178,l 179,l 180,l 181,l 182,l 183,l 184,l 185,l 186,l 187,l 188,l 189,l 190,l 191,l 192,l 193,l 194,l 195,l 196,l 197,l 198,l 199,l 200,l 201,l 202,l 203,l 204,l 205,l 206,l 207,l 208,l 209,l 210,l 211,l 212,l 213,l 214,l 215,l 216,l 217,l 218,l 219,l 220,l 221,l 222,l 223,l 224,l 225,l 226,l 227,l 228,l 229,l 230,l 231,l 232,l 233,l 234,l 235,l 236,l 237,l 238,l 239,l 240,⟨h81,hK⟩,by kernel_rfl⟩)));by_cases E:q.1<0
      .have g1:¬((q.2.1:Nat):Int)<1:=(by have:=qop E;omega);by_cases hj0:j=0
       .exact bh9 m wr f _ _ _ j _ _ g a c (by omega) (by omega) d0 d1 d2 yE E g1 (by omega) (by omega)
       .exact bh8 m wr f _ _ _ j _ _ g a c (by omega) (by omega) d0 d1 d2 yE E g1 (by omega) (by omega)
      .by_cases hj0:j=0
       .exact bh7 m wr f _ _ _ j _ _ g a c (by omega) (by omega) d0 d1 d2 yE E (by omega) (by omega)
       .have hy:D[j-1]?=some D[j-1]:=Ii (by omega);have hA:=List.pairwise_iff_getElem.1 I.ord (j-1) j (by omega) hjl (by omega);rw[Ii hjl]at t;rw[x_ t]at hA;generalize D[j-1]=p at hy hA;obtain⟨a0,a1⟩:=hA (by omega);exact bh6 m wr f _ _ _ j _ _ g a c (by omega) (by omega) d0 d1 d2 yE E (by omega) (by omega) (j-1) p.1 (by omega) (by omega) (KJ.has ((fo.cellAt ((j-1)*3) (by omega)).trans (fl.get (j-1) p hy).1)) (by omega) (by omega)
     .obtain⟨rfl,Q⟩:=hcut;clear t;gi_wp2;go_roundw
      case rel=>
       obtain⟨⟨F⟩⟩:=F
       exact⟨KJ.then Q,j+1,by omega,by go_num,by rw[F];push_cast;rfl⟩
      case measure=>simp[intOf];omega
    .obtain rfl:j=D.length:=(by omega);rw[List.take_length];have bt7:((PL D:Nat):Int)<=40:=(by have:=I.sum;omega);have h12:((K.AP.length:Nat):Int)<=12:=(by omega);gi_wp2;go_ret;exact⟨KV.then KJ,by simp⟩
end
theorem yh:(prog.funcs[6]?).any (·.norace)=false:=by kernel_rfl
theorem body6:FP prog 6=Tryz.f6.body.getD .skip:=by kernel_rfl
def cq (P:l_) (i:Nat):Code:=piece (behind i (FP P 6))
def cX (P:l_) (i:Nat):Code:=behind i (FP P 6)
def cL (P:l_:=prog):Code:=match cq P 5 with | .seq _ (.block _ (.loop b))=>b|_=>.skip
def cI (P:l_:=prog):Code:=match cL P with | .seq _ (.seq (.block _ c) _)=>c|_=>.skip
def cW (P:l_:=prog):Code:=match cI P with | .seq _ (.seq _ c)=>c|_=>.skip
def cZ (P:l_:=prog):Code:=match cI P with | .seq _ (.seq c _)=>c|_=>.skip
def cp8 (P:l_:=prog):Code:=match cL P with | .seq (.seq a _) _=>a|_=>.skip
def cpR (P:l_:=prog):Code:=match cL P with | .seq _ r=>r|_=>.skip
def yI (P:l_:=prog):Code:=match cL P with | .seq _ (.seq _ r)=>r|_=>.skip
def cp10 (P:l_:=prog):Code:=match cI P with | .seq c _=>c|_=>.skip
def cp12 (P:l_:=prog):Code:=match cZ P with | .seq c _=>c|_=>.skip
def cpY (P:l_:=prog):Code:=match cZ P with | .seq _ c=>c|_=>.skip
def cpC:Code:=Code.cond (Operand.tmp 33) Code.skip (Code.exit 0)
theorem ba2:cI prog=(cp10 prog).seq ((cZ prog).seq (cW prog)):=by kernel_rfl
theorem az9:cZ prog=(cp12 prog).seq (cpY prog):=by kernel_rfl
theorem ny (i:Nat) (h:i=1\/i=2\/i=3\/i=4):cX prog i=(cq prog i).seq (cX prog (i+1)):=by obtain rfl|rfl|rfl|rfl:=h<;>kernel_rfl
theorem ba1:(cW prog).BC (CS prog)=true:=by kernel_rfl
theorem ba0:(cZ prog).BC (CS prog)=true:=by kernel_rfl
theorem ak9:(cp8 prog).BC (CS prog)=true:=by kernel_rfl
theorem ak8:(yI prog).BC (CS prog)=true:=by kernel_rfl
theorem ab1:(cp10 prog).BC (CS prog)=true:=by kernel_rfl
theorem aa9:(cp12 prog).BC (CS prog)=true:=by kernel_rfl
theorem ak7:(cq prog 0).BC (CS prog)=true:=by kernel_rfl
theorem ak6:(cq prog 2).BC (CS prog)=true:=by kernel_rfl
theorem ak5:(cq prog 3).BC (CS prog)=true:=by kernel_rfl
theorem uz:(cq prog 4).BC (CS prog)=true:=by kernel_rfl
theorem al1:(cX prog 6).BC (CS prog)=true:=by kernel_rfl
section
variable (cv Ea bx kp iv told er:n_) (cs:Z_) (f:Y_) (sb:Nat) (pid nn:Int)
def kxA (P:l_:=prog):Frame×Z_:=run P 1 (Frame.enter P 6 #[cv,Ea] .normal,cs)
theorem bm0:AB prog 1 (Frame.enter prog 6 #[cv,Ea] .normal,cs)=some []:=by kernel_rfl
theorem bl9:Dj (kxA cv Ea cs)=(6,[.code (cq prog 0),.code (cX prog 1)],[],.run,.normal,none,cs):=by kernel_rfl
theorem bl8:slotsOf (kxA cv Ea cs) [0,1]=[cv,Ea]:=by kernel_rfl
theorem bl7:(kxA cv Ea cs).1.tmps.size=108:=by kernel_rfl
def kxB (P:l_:=prog):Frame×Z_:=(Frame.mk 6 (TN 108 (AY f [(1,Ea),(2,bx)])) [.code (cX P 1)] [] .run .normal none,cs)
theorem bl6:AB prog 3 (kxB Ea bx cs f)=some []:=by kernel_rfl
def kxC (P:l_:=prog):Frame:=(below (run P 3 (kxB Ea bx cs f P))).1
theorem bl5:run prog 3 (kxB Ea bx cs f)=(Frame.enter prog 13 #[] .normal,kxC Ea bx cs f::cs):=by kernel_rfl
def kxD (P:l_:=prog):Frame×Z_:=run P 2 ((kxC Ea bx cs f P).finish (.bool true),cs)
theorem bl4:AB prog 2 ((kxC Ea bx cs f).finish (.bool true),cs)=some []:=by kernel_rfl
theorem bl3:Dj (kxD Ea bx cs f)=(6,[.code (cX prog 2)],[],.run,.normal,none,cs):=by kernel_rfl
theorem bl2:slotsOf (kxD Ea bx cs f) [1,2,5]=[Ea,bx,.bool true]:=by kernel_rfl
theorem bl1:(kxD Ea bx cs f).1.tmps.size=108:=by kernel_rfl
def kxE (P:l_:=prog):Frame×Z_:=run P 7 (Frame.mk 6 (TN 108 (AY f [(1,Ea),(2,bx),(6,kp)])) [.code (cX P 5)] [] .run .normal none,cs)
theorem bl0:AB prog 7 (Frame.mk 6 (TN 108 (AY f [(1,Ea),(2,bx),(6,kp)])) [.code (cX prog 5)] [] .run .normal none,cs)=some []:=by kernel_rfl
theorem bk9:Dj (kxE Ea bx kp cs f)=(6,.code (cL prog)::[.inLoop (cL prog),.inBlock 0,.code (cX prog 6)],[],.run,.normal,none,cs):=by kernel_rfl
theorem bk8:slotsOf (kxE Ea bx kp cs f) [1,2,6,8]=[Ea,bx,kp,b_ (0:Nat)]:=by kernel_rfl
theorem bk7:(kxE Ea bx kp cs f).1.tmps.size=108:=by kernel_rfl
def kyA (P:l_:=prog):Frame×Z_:=(Frame.mk 6 (TN 108 (AY f [(1,Ea),(2,bx),(6,kp),(8,iv)])) (.code (cL P)::[.inLoop (cL P),.inBlock 0,.code (cX P 6)]) [] .run .normal none,cs)
def kyB (P:l_:=prog):Frame×Z_:=run P 2 (kyA Ea bx kp iv cs f P)
theorem bk6:AB prog 2 (kyA Ea bx kp iv cs f)=some []:=by kernel_rfl
theorem bk5:Dj (kyB Ea bx kp iv cs f)=(6,.code (cp8 prog)::.code cpC::.code (cpR prog)::[.inLoop (cL prog),.inBlock 0,.code (cX prog 6)],[],.run,.normal,none,cs):=by kernel_rfl
theorem bk4:slotsOf (kyB Ea bx kp iv cs f) [1,2,6,8]=[Ea,bx,kp,iv]:=by kernel_rfl
theorem bk3:(kyB Ea bx kp iv cs f).1.tmps.size=108:=by kernel_rfl
def kyC (b:Bool) (P:l_:=prog):Frame×Z_:=(Frame.mk 6 (TN 108 (AY f [(1,Ea),(2,bx),(6,kp),(8,iv),(33,.bool b)])) (.code cpC::.code (cpR P)::[.inLoop (cL P),.inBlock 0,.code (cX P 6)]) [] .run .normal none,cs)
def kyD (P:l_:=prog):Frame×Z_:=run P 4 (kyC Ea bx kp iv cs f true P)
theorem bk0:AB prog 4 (kyC Ea bx kp iv cs f true)=some []:=by kernel_rfl
theorem bj9:Dj (kyD Ea bx kp iv cs f)=(6,.code (cI prog)::.inBlock 1::.code (yI prog)::[.inLoop (cL prog),.inBlock 0,.code (cX prog 6)],[],.run,.normal,none,cs):=by kernel_rfl
theorem bj8:slotsOf (kyD Ea bx kp iv cs f) [1,2,6,8]=[Ea,bx,kp,iv]:=by kernel_rfl
theorem bj7:(kyD Ea bx kp iv cs f).1.tmps.size=108:=by kernel_rfl
def kyE (P:l_:=prog):Frame×Z_:=run P 2 (kyC Ea bx kp iv cs f false P)
theorem bj6:AB prog 2 (kyC Ea bx kp iv cs f false)=some []:=by kernel_rfl
theorem bj5:Dj (kyE Ea bx kp iv cs f)=(6,[.code (cX prog 6)],[],.run,.normal,none,cs):=by kernel_rfl
theorem bj3:(kyE Ea bx kp iv cs f).1.tmps.size=108:=by kernel_rfl
def kzA (q:Int) (P:l_:=prog):Frame×Z_:=(Frame.mk 6 (TN 108 (AY f [(1,Ea),(2,bx),(6,kp),(8,iv),(9,ptr sb),(42,b_ q)])) (.code (cpY P)::.code (cW P)::.inBlock 1::.code (yI P)::[.inLoop (cL P),.inBlock 0,.code (cX P 6)]) [] .run .normal none,cs)
theorem ay5:AB prog 16 (kzA Ea bx kp iv cs f sb 0)=some []:=by kernel_rfl
theorem ay4:AB prog 16 (kzA Ea bx kp iv cs f sb 1)=some []:=by kernel_rfl
def kzB (q:Int) (P:l_:=prog):Frame×Z_:=run P 16 (kzA Ea bx kp iv cs f sb q P)
theorem ay3:Gj prog (kzB Ea bx kp iv cs f sb 0) [b_ pid]=some ([(T_ sb 1)],b_ pid):=by kernel_rfl
theorem ay2:Gj prog (kzB Ea bx kp iv cs f sb 1) [b_ pid]=some ([(T_ sb 1)],b_ pid):=by kernel_rfl
def kzC (q:Int) (P:l_:=prog):Frame×Z_:=run P 1 (BG (kzB Ea bx kp iv cs f sb q P) (b_ pid))
theorem ay1:AB prog 1 (BG (kzB Ea bx kp iv cs f sb 0) (b_ pid))=some []:=by kernel_rfl
theorem ax9:AB prog 1 (BG (kzB Ea bx kp iv cs f sb 1) (b_ pid))=some []:=by kernel_rfl
theorem ay0:Gj prog (kzC Ea bx kp iv cs f sb pid 0) [b_ nn]=some ([(T_ sb 2)],b_ nn):=by kernel_rfl
theorem ax8:Gj prog (kzC Ea bx kp iv cs f sb pid 1) [b_ nn]=some ([(T_ sb 2)],b_ nn):=by kernel_rfl
def kzD (q:Int) (P:l_:=prog):Frame:=(below (run P 1 (BG (kzC Ea bx kp iv cs f sb pid q P) (b_ nn)))).1
theorem ax7:AB prog 1 (BG (kzC Ea bx kp iv cs f sb pid 0) (b_ nn))=some []:=by kernel_rfl
theorem ax5:AB prog 1 (BG (kzC Ea bx kp iv cs f sb pid 1) (b_ nn))=some []:=by kernel_rfl
theorem ax6:run prog 1 (BG (kzC Ea bx kp iv cs f sb pid 0) (b_ nn))=(Frame.enter prog 19 #[kp,b_ pid,b_ nn] .normal,kzD Ea bx kp iv cs f sb pid nn 0::cs):=by kernel_rfl
theorem ax4:run prog 1 (BG (kzC Ea bx kp iv cs f sb pid 1) (b_ nn))=(Frame.enter prog 19 #[kp,b_ pid,b_ nn] .normal,kzD Ea bx kp iv cs f sb pid nn 1::cs):=by kernel_rfl
def kzE (q:Int) (P:l_:=prog):Frame×Z_:=run P 2 ((kzD Ea bx kp iv cs f sb pid nn q P).finish (.tuple #[told,er]),cs)
theorem ax3:AB prog 2 ((kzD Ea bx kp iv cs f sb pid nn 0).finish (.tuple #[told,er]),cs)=some []:=by kernel_rfl
theorem aw9:AB prog 2 ((kzD Ea bx kp iv cs f sb pid nn 1).finish (.tuple #[told,er]),cs)=some []:=by kernel_rfl
theorem ax2:Dj (kzE Ea bx kp iv told er cs f sb pid nn 0)=(6,.code (cW prog)::.inBlock 1::.code (yI prog)::[.inLoop (cL prog),.inBlock 0,.code (cX prog 6)],[],.run,.normal,none,cs):=by kernel_rfl
theorem aw8:Dj (kzE Ea bx kp iv told er cs f sb pid nn 1)=(6,.code (cW prog)::.inBlock 1::.code (yI prog)::[.inLoop (cL prog),.inBlock 0,.code (cX prog 6)],[],.run,.normal,none,cs):=by kernel_rfl
theorem ax1:slotsOf (kzE Ea bx kp iv told er cs f sb pid nn 0) [1,2,6,8,9]=[Ea,bx,kp,iv,ptr sb]:=by kernel_rfl
theorem aw7:slotsOf (kzE Ea bx kp iv told er cs f sb pid nn 1) [1,2,6,8,9]=[Ea,bx,kp,iv,ptr sb]:=by kernel_rfl
theorem ax0:(kzE Ea bx kp iv told er cs f sb pid nn 0).1.tmps.size=108:=by kernel_rfl
theorem aw6:(kzE Ea bx kp iv told er cs f sb pid nn 1).1.tmps.size=108:=by kernel_rfl
def kuA (P:l_:=prog):Frame×Z_:=(Frame.mk 6 (TN 108 (AY f [(1,Ea),(2,bx),(6,kp),(8,iv)])) (.inBlock 1::.code (yI P)::[.inLoop (cL P),.inBlock 0,.code (cX P 6)]) [] .run .normal none,cs)
theorem bm4:AB prog 1 (kuA Ea bx kp iv cs f)=some []:=by kernel_rfl
theorem bm3:run prog 1 (kuA Ea bx kp iv cs f)=(Frame.mk 6 (TN 108 (AY f [(1,Ea),(2,bx),(6,kp),(8,iv)])) (.code (yI prog)::[.inLoop (cL prog),.inBlock 0,.code (cX prog 6)]) [] .run .normal none,cs):=by kernel_rfl
def kuB (P:l_:=prog):Frame×Z_:=(Frame.mk 6 (TN 108 (AY f [(1,Ea),(2,bx),(6,kp),(8,iv)])) [.inLoop (cL P),.inBlock 0,.code (cX P 6)] [] .run .normal none,cs)
theorem bm2:AB prog 1 (kuB Ea bx kp iv cs f)=some []:=by kernel_rfl
theorem bm1:run prog 1 (kuB Ea bx kp iv cs f)=kyA Ea bx kp iv cs f:=by kernel_rfl
theorem xK (g:Y_) (todo:List Item) (w:o_):stepG prog true (G (Frame.mk 6 (TN 108 (AY g [(4,.bool true)])) todo [] .returning .normal none) []) w=.ended (.done (.bool true)) w #[]:=by kernel_rfl
end
end Go.Fxa
