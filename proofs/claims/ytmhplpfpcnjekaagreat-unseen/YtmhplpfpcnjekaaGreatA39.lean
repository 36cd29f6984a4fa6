/- A kernel whose one process tel -/
import Derived.Test.YtmhplpfpcnjekaaGreatA38
namespace Go.Fxa
open Conc Proofs RowKit Proofs.Tryz
set_option maxRecDepth 1000000
set_option maxHeartbeats 0
variable {K K':KS} {b n rb c base size:Nat} {v x y z a:n_} {w:o_} {e:j_} {ad:f_}
theorem bl4:(prog.funcs[13]?).any (·.norace)=false:=sJ
theorem sF:GK prog 13=Tryz.f13.body.getD .skip:=sJ
def bq (P:l_) (i:Nat):Code:=piece (behind i (GK P 13))
def bX (P:l_) (i:Nat):Code:=behind i (GK P 13)
theorem bf2:(bq prog 1).Bv (CE prog)=true:=sJ
theorem bf1:(bq prog 2).Bv (CE prog)=true:=sJ
theorem bg3:(bX prog 4).Bv (CE prog)=true:=sJ
theorem bg4:bX prog 2=(bq prog 2).seq (bX prog 3):=sJ
section
variable (kp told er:n_) (cs:Z_) (f:Y_) (c0:Frame)
def bA (P:l_:=prog):Frame×Z_:=run P 5 (Frame.enter P 13 #[] .normal,cs)
theorem cq2:AU prog 5 (Frame.enter prog 13 #[] .normal,cs)=some []:=sJ
theorem cq1:DW (bA cs)=(13,[.code (bq prog 1),.code (bX prog 2)],[],.run,.normal,none,cs):=sJ
theorem cq0:(bA cs).1.tmps.size=63:=sJ
def bB (P:l_:=prog):Frame×Z_:=(Frame.mk 13 (TN 63 (A8 f [(1,kp)])) [.code (bX P 3)] [] .run .normal none,cs)
theorem cp9:AU prog 4 (bB kp cs f)=some []:=sJ
def bC (P:l_:=prog):Frame:=(below (run P 4 (bB kp cs f P))).1
theorem cp7:run prog 4 (bB kp cs f)=(Frame.enter prog 19 #[kp,b_ 1,b_ 1] .normal,bC kp cs f::cs):=sJ
def bD (P:l_:=prog):Frame×Z_:=run P 6 ((bC kp cs f P).finish (.tuple #[told,er]),cs)
theorem cp1:AU prog 6 ((bC kp cs f).finish (.tuple #[told,er]),cs)=some []:=sJ
theorem co9:DW (bD kp told er cs f)=(13,[.code (bX prog 4)],[],.run,.normal,none,cs):=sJ
theorem co8:Yr (bD kp told er cs f) [1,3,4]=[kp,told,er]:=sJ
theorem co6:(bD kp told er cs f).1.tmps.size=63:=sJ
theorem co5 (b:Bool) (todo:List Item):AU prog 1 (Frame.mk 13 (TN 63 (A8 f [(0,.bool b)])) todo [] .returning .normal none,c0::cs)=some []:=sJ
theorem co4 (b:Bool) (todo:List Item):run prog 1 (Frame.mk 13 (TN 63 (A8 f [(0,.bool b)])) todo [] .returning .normal none,c0::cs)=(c0.finish (.bool b),cs):=sJ
end
def Beg (K:KS):Prop:=∃b r,K.Aw=[b]/\K.ps b=some r/\r.pid=1/\r.P=0/\r.Af=[11,12,0,0,0,0,0,0]/\r.en=false/\r.bl=.nilFunc
theorem BR.at {r':PR} (h:BR K K') (d:K'.ps b=some r'):∃r c,K.ps b=some r/\r'={ r with co:=c }:=by
 obtain⟨f,a⟩:=h.ps;have:=a b;rw[d]at this;cases e:K.ps b with
 |none=>rw[e]at this;cases this
 |some r=>rw[e]at this;exact⟨r,f b,rfl,x_ this⟩
theorem serves {NC NS:Nat}:Vp NC NS b K n:=λm w _ _ K _ call _ _ e ok c a d=>ax3 m w K NC NS b call _ e ok c a d
theorem Beg.pick {CQ:List Ev} {e:Int} (h:Beg K) (hP:ku K 1 1 CQ e K'):e=0/\CQ=[(1,12,1,0)]/\∃b r,b∈K'.Aw/\K'.ps b=some r/\r.A=1/\r.P=2/\r.Af.length=8/\r.pid=1:=by
 obtain⟨b,r,p,q,G,N,O,H,Q⟩:=h;obtain⟨B,_⟩|⟨F,Y,t,g,_,⟨X,_⟩|⟨_,m,_⟩|⟨_,_,rfl,w,_⟩⟩:=hP
 .exact ql (by rw[G];rfl) (B b (by rw[p];simp) r q)
 .omega
 .obtain rfl:b=F:=by rw[p]at t;exact(List.mem_singleton.1 t).symm
  rw[q]at g;cases g;exact ql (by unfold KS.Ec KS.blk;rw[H,Q];rfl) m
 .obtain rfl:b=F:=by rw[p]at t;exact(List.mem_singleton.1 t).symm
  rw[q]at g;cases g;obtain⟨W,⟨u,r0,I,C,rfl,_⟩,w⟩:=w;obtain⟨a,c,e1,e2⟩:=I.at C;rw[q]at e1;cases e1;have key:∀{k:KS} {n:PR} {s call:Nat} {a:PR},k=u.Bi b { r0 with bl:=.nilFunc }->k.ps b=some n->FY n=(s,call,a)->s=1/\call=12/\a.pid=1/\a.P=2/\a.Af.length=8/\a.en=false/\b∈(k.Bi b a).Aw/\(k.Bi b a).ps b=some a:=fun {k n s call a} T h m=>by
   subst T
   rw[show(u.Bi b { r0 with bl:=.nilFunc }).ps b=some { r0 with bl:=.nilFunc } from Aj]at h
   cases h
   subst e2
   unfold FY Xu at m
   simp[N,O]at m
   obtain⟨rfl,rfl,rfl⟩:=m
   refine⟨rfl,rfl,G,rfl,zF,H,?_,Aj⟩
   show b∈u.Aw
   rw[I.Aw,p];simp
  have d:∀{E i:KS} {a:PR} {x y:Nat} {f:n_},a.pid=1->Ue E b a 12 i x y f->i=E/\x=1/\y=0/\f=.nilFunc:=λU h=>by
   obtain⟨h,_⟩|⟨_,a1,a2,L,M⟩:=h
   .exact ql (.inl rfl) h
   .exact⟨a1,a2.trans U,L,M⟩
  obtain⟨e1,v,K1',⟨rfl,rfl⟩,⟨n,s,call,a,x1,D,l⟩,rfl⟩|⟨j,e1,v,i,S,R,⟨n,s,call,a,x1,D,l⟩,rfl⟩:=w
  .obtain⟨rfl,rfl,o,J,y3,y4,y5,y6⟩:=key rfl x1 D;obtain⟨h,_⟩|⟨_,i,x,y,V,z,z1,Z,rfl,rfl⟩:=l
   .cases h
   .obtain⟨rfl,rfl,rfl,_⟩:=d o z.1;rw[y6]at z1;cases z1;refine⟨rfl,by simp[o],b,_,?_,Aj,rfl,J,y3,o⟩;exact y5
  .obtain rfl:j=0:=(by have:j<1:=S;omega);obtain⟨rfl,rfl⟩:=R;obtain⟨rfl,rfl,o,J,y3,y4,y5,y6⟩:=key rfl x1 D;obtain⟨h,_⟩|⟨_,i,x,y,f,V,z,z1,l⟩:=l
   .cases h
   .obtain⟨rfl,rfl,rfl,rfl⟩:=d o z.1;rw[y6]at z1;cases z1;obtain⟨_,h,_⟩|⟨⟨_,_,_,h⟩,_⟩:=l
    .rw[y4]at h;cases h
    .cases h
def cq9 (w:o_) (tm:X_) (w':o_):Prop:=Ac No w w'/\∃K C M g,tm=TN 63 (A8 g [(1,ptr K.kb)])/\tm=TN 63 (A8 g [(1,ptr K.kb),(2,b_ 0)])/\AV K w'/\Eo C M K/\Beg K/\∀k,K.T k≠(0,0)->w.heap.size<=k
def xI (i:Nat):Int:=if i=0 then 11 else 12
def zO (f:Y_) (a b c d e:n_):X_:=#[a,b,c,d,e,f 5,f 6,f 7,f 8,f 9,f 10,f 11,f 12,f 13,f 14,f 15,f 16,f 17,f 18,f 19,f 20,f 21,f 22,f 23,f 24,f 25,f 26,f 27,f 28,f 29,f 30,f 31,f 32,f 33,f 34,f 35,f 36,f 37,f 38,f 39,f 40,f 41,f 42,f 43,f 44,f 45,f 46,f 47,f 48,f 49,f 50,f 51,f 52,f 53,f 54,f 55,f 56,f 57,f 58,f 59,f 60,f 61,f 62]
theorem ch9:(dN 2 (8*Ai 2) λi=>(xI i).toNat)=[11,12,0,0,0,0,0,0]:=wB
section
variable (m:Nat) (w:o_) (f:Y_)
theorem bg0:(bq prog 1).wpIn NF m prog (Ends (cq9 w)) ⟨TN 63 (A8 f []),[]⟩ w:=by
 unfold bq;rw[sF];dsimp only[Tryz.f13,Option.getD,behind,piece];show Code.wpIn (Fence.list LF none) m prog _ _ ⟨zO f (f 0) (f 1) (f 2) (f 3) (f 4),[]⟩ _;unfold zO;have c:Ac No w (w.alloc (.cells #[b_ 11,b_ 12] 3)):=(Ac.refl _ _).alloc _;have j:(w.alloc (.cells #[b_ 11,b_ 12] 3)).heap[w.heap.size]?=some (N_ #[b_ 11,b_ 12] 3):=Y7 rfl;have n:qg (w.alloc (.cells #[b_ 11,b_ 12] 3)) (P_ w.heap.size 2 2) 2 xI:=⟨⟨_,_,rfl⟩,λ_=>⟨zD,_,_,rfl,λ_=>⟨_,_,rfl,λi o=>by
  have:i=0\/i=1:=zD
  obtain rfl|rfl:=this<;>rw[Ah j]<;>rfl⟩⟩⟩;have l:TU (w.alloc (.cells #[b_ 11,b_ 12] 3)) (.slice none 0 0) 0 (λ_=>(.slice none 0 0,0,λ_=>0)):=⟨_,_,rfl,λh=>ql h zD⟩;gi_wp2_with fail;refine(ad2 _ (w.alloc (.cells #[b_ 11,b_ 12] 3)) 16 20 _ _ 2 0 xI _ n l).mono ?_;rintro e w1 ⟨g,⟨_,a⟩|⟨K,b,u,t,C,M,rfl,s,ok,q,d,r,_⟩⟩
 .exact(a Js.zero ⟨zD,⟨zD,zD,λi o=>by unfold xI;split<;>omega⟩,by unfold Ai;omega⟩).elim
 .rw[ch9]at d;unfold ptr;gi_wp2;exact⟨rfl,rfl,c.then g,K,C,M,_,Ea rfl (by simp[ptr]),Ea rfl (by simp[ptr]),s,ok,⟨b,_,q,d,rfl,rfl,rfl,rfl,rfl⟩,λk p=>pV c.size (r k p)⟩
theorem bg2 (kb:Nat):(bq prog 2).wpIn NF m prog (Ends λd w'=>(∃g,d=TN 63 (A8 g [(1,ptr kb)]))/\Ac No w w') ⟨TN 63 (A8 f [(1,ptr kb),(2,b_ 0)]),[]⟩ w:=by
 unfold bq;rw[sF];dsimp only[Tryz.f13,Option.getD,behind,piece];show Code.wpIn (Fence.list LF none) m prog _ _ ⟨zO f (f 0) (ptr kb) (b_ 0) (f 3) (f 4),[]⟩ _;unfold zO ptr;gi_wp2;exact⟨rfl,rfl,⟨_,Ea rfl zF⟩,Ac.refl _ _⟩
theorem bg1 (NC NS:Nat) (K:KS) (told:n_) (b:Nat) (r:PR) (h:AV K w) (ok:Eo NC NS K) (Q:w.ownsRow 0 59 4 told 1 (SQ [(1,12,1,0)])) (W:b∈K.Aw) (V:K.ps b=some r) (S:r.A=1) (T:r.P=2) (U:r.Af.length=8) (R:r.pid=1):
  (bX prog 4).wpIn NF m prog (WM λX w'=>(∃g,X=TN 63 (A8 g [(0,.bool true)]))/\Ac No w w') ⟨TN 63 (A8 f [(1,ptr K.kb),(3,told),(4,b_ 0)]),[]⟩ w:=by
 obtain⟨k,z⟩:=List.mem_iff_getElem?.1 W;have j:=λm=>(rq m w NC NS K r.pid h ok).mono λe w2 h=>gG ok z V h
 rw[R]at j;obtain⟨l,I,C⟩:∃g c,told=P_ g 1 c:=by
  obtain⟨_,e⟩|⟨g,cap,v,e,_⟩:=Q.2
  .omega
  .exact⟨g,cap,e⟩
 subst C;have E:w.cell? (R_ l)=some (b_ 1):=Q.cellAt 0 zD;have F:w.cell? (S_ l 1)=some (b_ 12):=Q.cellAt 1 zD;have G:w.cell? (S_ l 2)=some (b_ 1):=Q.cellAt 2 zD;have H:w.cell? (S_ l 3)=some (b_ 0):=Q.cellAt 3 zD;unfold bX;rw[sF];dsimp only[Tryz.f13,Option.getD,behind];show Code.wpIn (Fence.list LF none) m prog _ _ ⟨zO f (f 0) (ptr K.kb) (f 2) (P_ l 1 I) (b_ 0),[]⟩ _;unfold zO ptr;gi_upto_region 6 with(first|(gi_at_call 20;refine(j _).mono ?_;rintro e w2 ⟨t,D,a7,n7,c7,a8,n8,c8,rfl,y,q,i8⟩;obtain⟨w3,i,p,n⟩:=JP (w:=w2.alloc (.cells Ij 48)) (rb:=w2.heap.size) (a:=r.pid) (b:=r.par) (c:=D) (d:=r.A) (e:=r.B) (f:=r.P) (g:=r.st) (n7:=n7) (c7:=c7) (n8:=n8) (c8:=c8) (a7:=a7) (a8:=a8) (Y7 rfl))|refine Dw rfl (.tmp 5) (.tmp 27) 48 rfl rfl rfl i ?_);have u:Ac No w2 w3:=((Ac.refl No w2).alloc (.cells Ij 48)).trans p (λx O e=>ql (show x=w2.heap.size from e) zD);have o:n7=8:=by
  obtain⟨s,c,e,_⟩:=q
  cases e
  simp[ints,U]
 subst o;have K23:=t.then u;have J:=K23.has E;have d1:=K23.has F;have d2:=K23.has G;have d3:=K23.has H;have L:w3.cell? (S_ w2.heap.size 3)=some (b_ 1):=by rw[Ah n];simp[LG,S]
 have M:w3.cell? (S_ w2.heap.size 5)=some (b_ 2):=by rw[Ah n];simp[LG,T]
 have N:w3.cell? (S_ w2.heap.size 7)=some (.slice a7 8 c7):=bce n rfl;clear S T U R i n p q i8 y;gi_wp2;exact⟨rfl,rfl,⟨_,Ea rfl zF⟩,K23⟩
end
theorem BN.low {T T':Tag} {v0 v v':o_} (M:BN T T' v v') (d:Ac No v0 v) (f:∀k,T k≠(0,0)->v0.heap.size<=k):Ac No v0 v'/\∀k,T' k≠(0,0)->v0.heap.size<=k:=by
 refine⟨d.trans M.keep (λk a e=>ql (f k e) zD),λk a=>?_⟩;by_cases e:k<v.heap.size
 .exact f k (by rw[<-Dh.fresh M k e];exact a)
 .exact pV d.size zD
theorem wX {Od:Old} {v:o_} {c0:Frame} {cs:Z_} {R:Frame×Z_->o_->Prop} (P:∀v',Ac No v v'->eP Od prog (c0.finish (.bool true),cs) v' R):eP Od prog (Frame.enter prog 13 #[] .normal,c0::cs) v R:=by
 refine eP.AU (cq2 _) ?_;rw[show run prog 5 (Frame.enter prog 13 #[] .normal,c0::cs)=bA (c0::cs)from rfl,at_toldM (l:=[]) (cq1 _) rfl (cq0 _)];refine eP.part (m:=0) bl4 rfl bf2 (λv1 _=>bg0 0 v1 _) λv1 o v2 j ⟨s,K,C,M,g,_,e,I,ok,D,H⟩=>?_
 subst e;rw[bg4];refine eP.seq (eP.part (m:=0) bl4 rfl bf1 (λv1 _=>bg2 0 v1 _ _) λv3 o v4 t ⟨⟨f,e⟩,u⟩=>?_);subst e;have n:=t.then u;refine eP.AU (x:=bB (ptr K.kb) (c0::cs) f) (cp9 _ _ _) ?_;rw[cp7];refine Vz (I.no n) ok (λ_ _ _ _ _ _=>serves) λtold e O q L a=>?_
 obtain⟨rfl,rfl,b,r,G,E,B,h,F,y⟩:=D.pick a.x;have c:=bG a.told.row (Nat.zero_le _);have i:=a.kb;refine eP.AU (cp1 _ _ _ _ _) ?_;rw[show run prog 6 ((bC (ptr K.kb) (c0::cs) f).finish (.tuple #[told,b_ 0]),c0::cs)=bD (ptr K.kb) told (b_ 0) (c0::cs) f from rfl,at_toldM (l:=[(1,ptr K.kb),(3,told),(4,b_ 0)]) (co9 _ _ _ _ _) (co8 _ _ _ _ _) (co6 _ _ _ _ _),<-i];refine eP.zS (m:=0) bl4 rfl bg3 (λv6 d=>bg1 0 v6 _ C M q told b r (a.ka.no d) a.ok (Xj c d) G E B h F y) λv6 o p J d ⟨⟨N,e⟩,w⟩=>?_
 subst e;refine eP.AU (co5 _ _ _ _ _) ?_;rw[co4];refine P J ?_;have z:Ac No v v4:=(j.then s).then n;have A:=(a.mv.low z (λk P=>pV j.size (H k P))).1;exact A.then (d.then w)
abbrev Fr (fn:h_) (N:Nat) (f:Y_) (l:List (Nat×n_)) (k:List Item) (cs:Z_):Frame×Z_:=(Frame.mk fn (TN N (A8 f l)) k [] .run .normal none,cs)
def EM (n:Nat) (x:Frame×Z_) (fn:h_) (N:Nat) (l:List (Nat×n_)) (k:List Item) (cs:Z_):Prop:=(AU prog n x,DW (run prog n x),Yr (run prog n x) (l.map (·.1)),(run prog n x).1.tmps.size)=(some [],(fn,k,[],.run,.normal,none,cs),l.map (·.2),N)
def sW (n:Nat) (x:Frame×Z_) (fn:h_) (args:X_) (cs:Z_):Prop:=(AU prog n x,run prog n x)=(some [],(Frame.enter prog fn args .normal,(below (run prog n x)).1::cs))
def rd2 (n:Nat) (x:Frame×Z_) (a b:n_) (P:l_:=prog):Frame×Z_:=run P 1 (BG (run P 1 (BG (run P n x) a)) b)
def Δ (n:Nat) (x:Frame×Z_) (sb:Nat) (pid nn:Int) (kv:n_) (cs:Z_):Prop:=(AU prog n x,Hz prog (run prog n x) [b_ pid],AU prog 1 (BG (run prog n x) (b_ pid)),Hz prog (run prog 1 (BG (run prog n x) (b_ pid))) [b_ nn],AU prog 1 (BG (run prog 1 (BG (run prog n x) (b_ pid))) (b_ nn)),rd2 n x (b_ pid) (b_ nn))=(some [],some ([(S_ sb 1)],b_ pid),some [],some ([(S_ sb 2)],b_ nn),some [],(Frame.enter prog 19 #[kv,b_ pid,b_ nn] .normal,(below (rd2 n x (b_ pid) (b_ nn))).1::cs))
section
variable {Od:Old} {x:Frame×Z_} {v:o_} {Q:Frame×Z_->o_->Prop} {n N:Nat} {fn:h_} {l:List (Nat×n_)} {k:List Item} {cs:Z_} {args:X_}
theorem eP.told (h:EM n x fn N l k cs) (d:∀g,eP Od prog (Fr fn N g l k cs) v Q):eP Od prog x v Q:=by
 unfold EM at h;simp only[lJ]at h;refine eP.AU h.1 ?_;rw[at_toldM (x:=run prog n x) (l:=l) (by rw[h.2.1]) h.2.2.1 h.2.2.2];exact d _
theorem eP.enters (h:sW n x fn args cs) (d:eP Od prog (Frame.enter prog fn args .normal,(below (run prog n x)).1::cs) v Q):eP Od prog x v Q:=by
 obtain⟨a,b⟩:=Prod.mk.inj h;refine eP.AU a ?_;rw[b];exact d
theorem eP.asks {sb:Nat} {pid g:Int} {i:n_} (h:Δ n x sb pid g i cs) (c1:v.cell? (S_ sb 1)=some (b_ pid)) (c2:v.cell? (S_ sb 2)=some (b_ g)) (j:eP Od prog (Frame.enter prog 19 #[i,b_ pid,b_ g] .normal,(below (rd2 n x (b_ pid) (b_ g))).1::cs) v Q):eP Od prog x v Q:=by
 unfold Δ at h;simp only[lJ]at h;obtain⟨a,b,c,d,e,f⟩:=h;refine eP.AU a (eP.reads b ⟨c1,eu⟩ (eP.AU c (eP.reads d ⟨c2,eu⟩ (eP.AU e ?_))));show eP Od prog (rd2 n x (b_ pid) (b_ g)) v Q;rw[f];exact j
end
theorem pG:(prog.funcs[7]?).any (·.norace)=false:=sJ
theorem LJ:GK prog 7=Tryz.f7.body.getD .skip:=sJ
def uq (P:l_) (i:Nat):Code:=piece (behind i (GK P 7))
def uX (P:l_) (i:Nat):Code:=behind i (GK P 7)
def uL (P:l_:=prog):Code:=match uq P 7 with | .seq _ (.block _ (.loop b))=>b|_=>.skip
def uB (P:l_:=prog):Code:=match uL P with | .seq _ (.seq b _)=>b|_=>.skip
def uI (P:l_:=prog):Code:=match uB P with | .block _ c=>c|_=>.skip
def u10 (P:l_:=prog):Code:=match uL P with | .seq (.seq a _) _=>a|_=>.skip
def uR (P:l_:=prog):Code:=match uL P with | .seq _ r=>r|_=>.skip
def u11 (P:l_:=prog):Code:=match uL P with | .seq _ (.seq _ r)=>r|_=>.skip
def u12 (P:l_:=prog):Code:=match uI P with | .seq c _=>c|_=>.skip
def u13 (P:l_:=prog):Code:=match uI P with | .seq _ (.seq c _)=>c|_=>.skip
def uY (P:l_:=prog):Code:=match uI P with | .seq _ (.seq _ c)=>c|_=>.skip
def uV (P:l_:=prog):Code:=match uY P with | .seq _ c=>c|_=>.skip
def u20 (P:l_:=prog):Code:=match uV P with | .seq _ c=>c|_=>.skip
def uC:Code:=Code.cond (Operand.tmp 59) Code.skip (Code.exit 0)
theorem bo2:uI prog=(u12 prog).seq ((u13 prog).seq (uY prog)):=sJ
theorem XP (i:Nat) (h:i=2\/i=3\/i=4\/i=5\/i=6):uX prog i=(uq prog i).seq (uX prog (i+1)):=by obtain rfl|rfl|rfl|rfl|rfl:=h<;>kernel_rfl
theorem av9:(uq prog 0).Bv (CE prog)=true:=sJ
theorem av8:(uq prog 2).Bv (CE prog)=true:=sJ
theorem av7:(uq prog 3).Bv (CE prog)=true:=sJ
theorem av6:(uq prog 4).Bv (CE prog)=true:=sJ
theorem av5:(uq prog 5).Bv (CE prog)=true:=sJ
theorem gm:(uq prog 6).Bv (CE prog)=true:=sJ
theorem aw6:(u10 prog).Bv (CE prog)=true:=sJ
theorem aw5:(u11 prog).Bv (CE prog)=true:=sJ
theorem aw4:(u12 prog).Bv (CE prog)=true:=sJ
theorem aw3:(u13 prog).Bv (CE prog)=true:=sJ
theorem aw2:(u20 prog).Bv (CE prog)=true:=sJ
theorem af6:(uB prog).Bv (CE prog)=true:=sJ
theorem aw1:(uX prog 8).Bv (CE prog)=true:=sJ
abbrev uE (P:l_:=prog):List Item:=[.inLoop (uL P),.inBlock 0,.code (uX P 8)]
section
variable (cv GX bx ka kb iv t1 e1 t2 e2:n_) (cs:Z_) (f:Y_) (sb:Nat) (pid nn:Int)
theorem uA:EM 1 (Frame.enter prog 7 #[cv,GX] .normal,cs) 7 128 [(0,cv),(1,GX)] [.code (uq prog 0),.code (uX prog 1)] cs:=by unfold EM;kernel_rfl
abbrev uFb (P:l_:=prog):Frame×Z_:=Fr 7 128 f [(1,GX),(2,bx)] [.code (uX P 1)] cs
theorem uBe:sW 3 (uFb GX bx cs f) 13 #[] cs:=by unfold sW;kernel_rfl
theorem uBf:EM 2 ((below (run prog 3 (uFb GX bx cs f))).1.finish (.bool true),cs) 7 128 [(1,GX),(2,bx),(5,.bool true)] [.code (uX prog 2)] cs:=by unfold EM;kernel_rfl
theorem uLa:EM 7 (Fr 7 128 f [(1,GX),(6,ka),(8,kb)] [.code (uX prog 7)] cs) 7 128 [(1,GX),(6,ka),(8,kb),(10,b_ (0:Nat))] (.code (uL prog)::uE) cs:=by unfold EM;kernel_rfl
theorem uLb:EM 2 (Fr 7 128 f [(1,GX),(6,ka),(8,kb),(10,iv)] (.code (uL prog)::uE) cs) 7 128 [(1,GX),(6,ka),(8,kb),(10,iv)] (.code (u10 prog)::.code uC::.code (uR prog)::uE) cs:=by unfold EM;kernel_rfl
theorem uLc:EM 3 (Fr 7 128 f [(1,GX),(6,ka),(8,kb),(10,iv),(59,.bool true)] (.code uC::.code (uR prog)::uE) cs) 7 128 [(1,GX),(6,ka),(8,kb),(10,iv)] (.code (uB prog)::.code (u11 prog)::uE) cs:=by unfold EM;kernel_rfl
theorem uLd:EM 1 (Fr 7 128 f [(1,GX),(6,ka),(8,kb),(10,iv)] (.code (uB prog)::.code (u11 prog)::uE) cs) 7 128 [(1,GX),(6,ka),(8,kb),(10,iv)] (.code (uI prog)::.inBlock 1::.code (u11 prog)::uE) cs:=by unfold EM;kernel_rfl
theorem uLe:EM 2 (Fr 7 128 f [(1,GX),(6,ka),(8,kb),(10,iv),(59,.bool false)] (.code uC::.code (uR prog)::uE) cs) 7 128 [(6,ka),(8,kb)] [.code (uX prog 8)] cs:=by unfold EM;kernel_rfl
abbrev uFp (P:l_:=prog):Frame×Z_:=Fr 7 128 f [(1,GX),(6,ka),(8,kb),(10,iv),(11,ptr sb)] (.code (uY P)::.inBlock 1::.code (u11 P)::uE P) cs
theorem uPa:Δ 4 (uFp GX ka kb iv cs f sb) sb pid nn ka cs:=by unfold Δ;kernel_rfl
theorem uPb:EM 6 ((below (rd2 4 (uFp GX ka kb iv cs f sb) (b_ pid) (b_ nn))).1.finish (.tuple #[t1,e1]),cs) 7 128 [(1,GX),(6,ka),(8,kb),(10,iv),(11,ptr sb),(12,t1),(13,e1)] (.code (uV prog)::.inBlock 1::.code (u11 prog)::uE) cs:=by unfold EM;kernel_rfl
abbrev uFr (P:l_:=prog):Frame×Z_:=Fr 7 128 f [(1,GX),(6,ka),(8,kb),(10,iv),(11,ptr sb),(12,t1),(13,e1)] (.code (uV P)::.inBlock 1::.code (u11 P)::uE P) cs
theorem uRa:Δ 4 (uFr GX ka kb iv t1 e1 cs f sb) sb pid nn kb cs:=by unfold Δ;kernel_rfl
theorem uRb:EM 6 ((below (rd2 4 (uFr GX ka kb iv t1 e1 cs f sb) (b_ pid) (b_ nn))).1.finish (.tuple #[t2,e2]),cs) 7 128 [(1,GX),(6,ka),(8,kb),(10,iv),(12,t1),(13,e1),(14,t2),(15,e2)] (.code (u20 prog)::.inBlock 1::.code (u11 prog)::uE) cs:=by unfold EM;kernel_rfl
theorem uLf:EM 1 (Fr 7 128 f [(1,GX),(6,ka),(8,kb),(10,iv)] (.inBlock 1::.code (u11 prog)::uE) cs) 7 128 [(1,GX),(6,ka),(8,kb),(10,iv)] (.code (u11 prog)::uE) cs:=by unfold EM;kernel_rfl
theorem uLg:EM 1 (Fr 7 128 f [(1,GX),(6,ka),(8,kb),(10,iv)] uE cs) 7 128 [(1,GX),(6,ka),(8,kb),(10,iv)] (.code (uL prog)::uE) cs:=by unfold EM;kernel_rfl
theorem ϖ (g:Y_) (todo:List Item) (w:o_):stepG prog true (G (Frame.mk 7 (TN 128 (A8 g [(4,.bool true)])) todo [] .returning .normal none) []) w=.ended (.done (.bool true)) w #[]:=sJ
end
def af1 (w:o_) (v:n_) (l:List (W_)):Prop:=∃s c,v=.slice s l.length c/\(0<l.length->∃b,s=some (R_ b)/\(∃cs,w.heap[b]?=some (N_ cs 174))/\∀i r,l[i]?=some r->w.cell? (S_ b (i*2))=some (b_ (r.1:Nat))/\w.cell? (S_ b (i*2+1))=some (b_ (r.2:Nat)))
theorem au5 (h:w.heap[rb]?=some (N_ #[x,y,z] 54)):w.cell? (R_ rb)=some x/\w.cell? (S_ rb 1)=some y/\w.cell? (S_ rb 2)=some z:=by
 refine⟨?_,?_,?_⟩<;>rw[Ah h]<;>rfl
theorem Xg {b c:n_} {x y z:Int} (h:w.heap[rb]?=some (N_ #[a,b,c] 54)):∃w',(Instr.storeAt 54 (Q_ rb) (.agg #[b_ x,b_ y,b_ z])).run prog w=.ok () w'/\Ac (At rb) w w'/\w'.heap[rb]?=some (N_ #[b_ x,b_ y,b_ z] 54):=by
 have e:(Instr.storeAt 54 (Q_ rb) (.agg #[b_ x,b_ y,b_ z])).run prog w=(OE rb 0 [b_ x,b_ y,b_ z] (.pure ())).run prog w:=sJ
 obtain⟨w',d,f,g⟩:=G7 (P:=prog) (k:=Sem.pure ()) [b_ x,b_ y,b_ z] 0 _ w h zF (by simp[Value.oneCell']);refine⟨w',?_,f,?_⟩
 .rw[e,d];rfl
 .rw[g];simp[TY]
def dE (K:KS) (pid:Int) (w:o_) (e:Ending) (w':o_):Prop:=Ac No w w'/\∃x y z s:Int,e=.returned (.tuple #[.agg #[b_ x,b_ y,b_ z],b_ s])/\((LyS K pid s/\x=0/\y=0/\z=0)\/(s=0/\∃b r,LyB K pid b r/\x=(r.sw:Nat)/\y=r.co/\z=(Ai r.Af.length:Nat)))
def cd4 (r:PR) (i:Nat) (v:n_) (_W:o_):Prop:=v=if i=9 then b_ (Ai r.Af.length:Nat)else .agg #[b_ (r.sw:Nat),b_ r.co,b_ (Ai r.Af.length:Nat)]
section
variable (m:Nat) (w:o_)
theorem yg (K:KS) (N:Nat) (pid:Int) (h:AV K w) (V:K.EJ) (U:BU N (0,0) K) (X:K.Aw.length<=100):
  O_ m 22 #[Q_ K.kb,b_ pid] w (dE K pid w):=by
 have l:Ac No w (w.alloc (.cells #[b_ 0,b_ 0,b_ 0] 54)):=(Ac.refl _ _).alloc _;have p:(w.alloc (.cells #[b_ 0,b_ 0,b_ 0] 54)).heap[w.heap.size]?=some (N_ #[b_ 0,b_ 0,b_ 0] 54):=Y7 rfl;have c:=λm=>gz m _ K pid (h.no l) V X
 have L:=U.le.2;gi_enter func22,ntmps22;gi_wp2_with (first|(gi_at_call 51;refine(c _).mono ?_;rintro e w1 ⟨a,⟨s,rfl,T,d⟩|⟨b,r,rfl,d⟩⟩<;>obtain⟨O,j,n,o⟩:=Xg (x:=0) (y:=0) (z:=0) (a.old p id))|refine Dw rfl (.tmp 4) (.tmp 16) 54 rfl rfl rfl j ?_)
 .refine bodyPost_ret (v:=.tuple #[.agg #[b_ 0,b_ 0,b_ 0],b_ s]) (by simp[results,results22,go_sem,au5 o]) rfl ?_;exact⟨(l.then a).trans n (λk J e=>ql (show k=w.heap.size from e) zD),0,0,0,s,rfl,.inl ⟨d,rfl,rfl,rfl⟩⟩
 .clear j n o;have B:=l.then a;have t:=h.no B;have S:=U.pl b r d.2.1;obtain⟨Q,R,M⟩:=t.im8 d.2.1;have f:=t.Il d.2.1 10;have g:=t.Il d.2.1 11;simp[PR.arr]at f g;have D:=a.old p id;clear c l a p;refine CG (P:=prog) No _ rfl rfl sJ 11 29 [0,1,2,3,4,5,6,7,8] [9,10] sJ (by rfl) (cd4 r) (λ_ _ _ _ _ h _=>h) _ _ rfl rfl ?_;gi_wp2;refine⟨rfl,sJ,?_,?_,?_⟩
  .intro W a;have F:=a.has (w:=w1.drew) f;have G:=a.has (w:=w1.drew) g
   repeat' (refine Au ?_ ?_)
   all_goals first|exact eu|gi_wp2
  .intro i I u W a A;have H:=a.has (w:=w1.drew) M;obtain rfl|rfl:=(by simpa using I:i=9\/i=10)
   .refine BC rfl λKK E=>?_
    show wpListIn NF m prog _ _ _ (Act.put (Act.put _ (some 27) (u 9)) (some 28) (u 10)) _;gi_wp2_with (gi_at_call 58;refine(EZ _ W b _ _ _ H zD).mono ?_;rintro e w2 ⟨rfl,rfl⟩);exact⟨_,rfl,Ac.refl _ _,rfl⟩
   .have C:u 9=b_ (Ai r.Af.length:Nat):=A 9 zF wB;refine BC rfl λKK E=>?_
    show wpListIn NF m prog _ _ _ (Act.put (Act.put _ (some 27) (u 9)) (some 28) (u 10)) _;rw[C];gi_wp2;exact⟨.agg #[b_ (r.sw:Nat),b_ r.co,b_ (Ai r.Af.length:Nat)],by rw[<-C];rfl,Ac.refl _ _,rfl⟩
  .intro u W a A;have q:u 10=.agg #[b_ (r.sw:Nat),b_ r.co,b_ (Ai r.Af.length:Nat)]:=A 10 zF;show wpListIn NF m prog _ _ _ (Act.put (Act.put _ (some 27) (u 9)) (some 28) (u 10)) _;rw[q];have KW:Ac No w1 W:=(Ac.refl No w1).drew.then a;obtain⟨O,j,n,o⟩:=Xg (x:=(r.sw:Nat)) (y:=r.co) (z:=(Ai r.Af.length:Nat)) (KW.old D id);gi_wp2_with (refine Dw rfl (.tmp 4) (.tmp 28) 54 rfl rfl rfl j ?_);refine bodyPost_ret (v:=.tuple #[.agg #[b_ (r.sw:Nat),b_ r.co,b_ (Ai r.Af.length:Nat)],b_ 0]) (by simp[results,results22,go_sem,au5 o]) rfl ?_;exact⟨(B.then KW).trans n (λk J e=>ql (show k=w.heap.size from e) zD),_,_,_,_,rfl,.inr ⟨rfl,b,r,d,rfl,rfl,rfl⟩⟩
end
theorem IJ {w':o_} {xs:U_} (h:w.ownsRow base e size v n xs) (k:Ac No w w'):w'.ownsRow base e size v n xs:=by
 obtain⟨j,i⟩:=h;refine⟨j,?_⟩;obtain i|⟨g,cap,f,a,b,c,d⟩:=i
 .exact .inl i
 .exact .inr ⟨g,cap,f,a,b,k.old c id,d⟩
theorem aV {t:j_} (h:w.heap[b]?=some (N_ #[x,y] t)):∀q u,([x,y]:U_)[q]?=some u->w.cell? (((R_ b):f_).add q)=some u:=λq u a=>by
 rw[Addr.add_lit,Nat.zero_add,Ah h q,<-a];simp
section
variable (m:Nat) (w:o_)
theorem yT:(prog.info? 174).map (λi=>(i.zero,i.size,i.bytes))=some (some (.agg #[b_ 0,b_ 0]),2,16):=sJ
theorem bc9:(prog.info? 186).map (λi=>(i.zero,i.size,i.bytes))=some (some (.agg #[b_ 0,b_ 0]),2,16):=sJ
theorem cc4 (w:o_):(binOp .eql 90 (.slice (some ad) n c) (.slice none 0 0)).run prog w=.ok (.bool false) w:=sJ
theorem ar2 (g c:Nat) (l:List (W_)) (h:Mp 186 w g c l) (A:l.length<=1000):O_ m 159 #[P_ g l.length c] w λe w'=>Ac No w w'/\∃v,e=.returned v/\w'.ownsRow w.heap.size 186 2 v l.length (rc l):=by
 obtain⟨s,q,b,d,f⟩:=info_parts bc9;have x:=cc4 w (ad:=(R_ g)) (n:=l.length) (c:=c);gi_enter func159,ntmps159;gi_wp2_with (gi_at_builtin;refine wpListIn_append_own _ rfl (.tmp 5) (.tmp 6) 90 rfl w.heap.size 186 s (.agg #[b_ 0,b_ 0]) 2 16 underlying90 q b d f rfl wB _ 0 [] rfl PQ (R_ g) l.length c (rc l) rfl (by rw[XR]) (λj u i=>((Ac.refl No w).alloc _).has (by have a:=(KT.1 i).1;rw[XR]at a;rw[Addr.add_lit,Nat.zero_add];exact(Rw.cell h a).trans i)) (qY l) (by unfold maxLen;omega) zD zF ?_;intro t w1 o p _);go_ret;refine⟨((Ac.refl No w).alloc (.cells #[] 186)).trans (DD (S:=At w.heap.size) p (λk h _=>(x_ (show some w.heap.size=some k from h)).symm)) (λk r h=>ql r (by rw[show k=w.heap.size from h];exact Nat.lt_irrefl _)),t,rfl,?_⟩;simpa using o
theorem ax9 (p:Nat) (kb g c:Nat) (l:List (W_)) (i:w.cell? (S_ kb p)=some (P_ g l.length c)) (h:Mp 186 w g c l) (f:l.length<=1000):O_ m 104 #[.pointer (some (S_ kb p))] w λe w'=>Ac No w w'/\∃v,e=.returned v/\w'.ownsRow w.heap.size 186 2 v l.length (rc l):=by
 have b:=λm=>ar2 m w g c l h f
 gi_enter func104,ntmps104;gi_wp2_with (gi_at_call 159;refine(b _).mono ?_;rintro e w1 ⟨a,v,rfl,d⟩);go_ret;exact⟨a,v,zF,d⟩
theorem Λ (base:Nat) (v:n_) (l:List (W_)) (h:w.ownsRow base 186 2 v l.length (rc l)) (M:l.length<=1000):O_ m 103 #[v] w λe w'=>Ac No w w'/\∃v',e=.returned v'/\w'.ownsRow w.heap.size 174 2 v' l.length (rc l):=by
 obtain⟨I,p,q,t,u⟩:=info_parts yT;obtain⟨s,c,H⟩:∃s c,v=.slice s l.length c:=by
  obtain⟨e,e2⟩|⟨g,cap,b,e,_⟩:=h.2
  .exact⟨none,0,by rw[e,e2]⟩
  .exact⟨_,_,e⟩
 subst H;gi_enter func103,ntmps103;gi_wp2;gi_loopw [3,8] (λa i wr=>∃k:Nat,k<=l.length/\i=b_ k/\Ac No w wr/\wr.ownsRow w.heap.size 174 2 a k (rc (l.take k))) (λ_ i _=>l.length-(intOf i).toNat)
 case atStart=>exact⟨0,zD,rfl,Ac.refl _ _,World.ownsRow_nil _ _ _ _⟩
 case round=>
  obtain⟨k,A,rfl,KK,y⟩:=hrel
  by_cases E:k<l.length
  .have o:l[k]?=some l[k]:=IG E;generalize l[k]=r at o;obtain⟨g,cap,b,rfl,G⟩:∃g cap b,s=some (R_ g)/\w.heap[g]?=some (N_ b cap):=by
    obtain⟨_,e2⟩|⟨g,cap,b,e,_,D,_⟩:=h.2
    .omega
    .cases e;exact⟨g,_,b,rfl,D⟩
   obtain⟨J,q1⟩:=XT l k r o;have K:=KK.has ((h.cellAt (k*2) zD).trans J);have d1:=KK.has ((h.cellAt (k*2+1) zD).trans q1);have C:(wr.alloc (.cells #[b_ (r.1:Nat),b_ (r.2:Nat)] 186)).heap[wr.heap.size]?=some (N_ #[b_ (r.1:Nat),b_ (r.2:Nat)] 186):=Y7 rfl;have j:Ac No wr (wr.alloc (.cells #[b_ (r.1:Nat),b_ (r.2:Nat)] 186)):=(Ac.refl _ _).alloc _;gi_upto_region 5 with fail;generalize wr.alloc (.cells #[b_ (r.1:Nat),b_ (r.2:Nat)] 186)=f at*;have L:f.cell? (R_ wr.heap.size)=some (b_ (r.1:Nat)):=bce C rfl;have e1:f.cell? (S_ wr.heap.size 1)=some (b_ (r.2:Nat)):=bce C rfl;have n:Ac No f (f.alloc (.cells #[b_ (r.1:Nat),b_ (r.2:Nat)] 174)):=(Ac.refl _ _).alloc _;have B:=IJ (IJ y j) n;gi_wp2_with (gi_at_builtin;refine wpListIn_append_own _ rfl (.tmp 12) (.tmp 18) 138 rfl w.heap.size 174 I (.agg #[b_ 0,b_ 0]) 2 16 underlying138 p q t u rfl wB _ k (rc (l.take k)) rfl B (R_ f.heap.size) 1 1 [b_ (r.1:Nat),b_ (r.2:Nat)] rfl rfl (aV (Y7 rfl)) (by simp[Value.oneCell']) (by unfold maxLen;omega) zD (pV KK.size (pV j.size n.size)) ?_;intro v' w4 d z _;have F:Ac No w w4:=((KK.then j).then n).trans (DD z λk A _=>A) (λx D e=>ql (B.lt x e).1 zD);clear z);go_roundw
   case rel=>exact⟨k+1,zD,by go_num,F,by rw[List.take_add_one,o,Qo];exact d⟩
   case measure=>simp[intOf];omega
  .obtain rfl:k=l.length:=zD;gi_wp2;go_ret;exact⟨KK,by simpa using y⟩
theorem bc8:(prog.info? 188).map (λi=>(i.zero,i.size,i.bytes))=some (some (.agg #[b_ 0,b_ 0]),2,16):=sJ
theorem cc3 (w:o_):(binOp .eql 95 (.slice (some ad) n c) (.slice none 0 0)).run prog w=.ok (.bool false) w:=sJ
theorem ar1 (g c:Nat) (l:List (W_)) (h:Mp 188 w g c l) (A:l.length<=1000):O_ m 160 #[P_ g l.length c] w λe w'=>Ac No w w'/\∃v,e=.returned v/\w'.ownsRow w.heap.size 188 2 v l.length (rc l):=by
 obtain⟨s,q,b,d,f⟩:=info_parts bc8;have x:=cc3 w (ad:=(R_ g)) (n:=l.length) (c:=c);gi_enter func160,ntmps160;gi_wp2_with (gi_at_builtin;refine wpListIn_append_own _ rfl (.tmp 5) (.tmp 6) 95 rfl w.heap.size 188 s (.agg #[b_ 0,b_ 0]) 2 16 underlying95 q b d f rfl wB _ 0 [] rfl PQ (R_ g) l.length c (rc l) rfl (by rw[XR]) (λj u i=>((Ac.refl No w).alloc _).has (by have a:=(KT.1 i).1;rw[XR]at a;rw[Addr.add_lit,Nat.zero_add];exact(Rw.cell h a).trans i)) (qY l) (by unfold maxLen;omega) zD zF ?_;intro t w1 o p _);go_ret;refine⟨((Ac.refl No w).alloc (.cells #[] 188)).trans (DD (S:=At w.heap.size) p (λk h _=>(x_ (show some w.heap.size=some k from h)).symm)) (λk r h=>ql r (by rw[show k=w.heap.size from h];exact Nat.lt_irrefl _)),t,rfl,?_⟩;simpa using o
theorem ax8 (p:Nat) (kb g c:Nat) (l:List (W_)) (i:w.cell? (S_ kb p)=some (P_ g l.length c)) (h:Mp 188 w g c l) (f:l.length<=1000):O_ m 106 #[.pointer (some (S_ kb p))] w λe w'=>Ac No w w'/\∃v,e=.returned v/\w'.ownsRow w.heap.size 188 2 v l.length (rc l):=by
 have b:=λm=>ar1 m w g c l h f
 gi_enter func106,ntmps106;gi_wp2_with (gi_at_call 160;refine(b _).mono ?_;rintro e w1 ⟨a,v,rfl,d⟩);go_ret;exact⟨a,v,zF,d⟩
theorem Κ (base:Nat) (v:n_) (l:List (W_)) (h:w.ownsRow base 188 2 v l.length (rc l)) (M:l.length<=1000):O_ m 105 #[v] w λe w'=>Ac No w w'/\∃v',e=.returned v'/\w'.ownsRow w.heap.size 174 2 v' l.length (rc l):=by
 obtain⟨I,p,q,t,u⟩:=info_parts yT;obtain⟨s,c,H⟩:∃s c,v=.slice s l.length c:=by
  obtain⟨e,e2⟩|⟨g,cap,b,e,_⟩:=h.2
  .exact⟨none,0,by rw[e,e2]⟩
  .exact⟨_,_,e⟩
 subst H;gi_enter func105,ntmps105;gi_wp2;gi_loopw [3,8] (λa i wr=>∃k:Nat,k<=l.length/\i=b_ k/\Ac No w wr/\wr.ownsRow w.heap.size 174 2 a k (rc (l.take k))) (λ_ i _=>l.length-(intOf i).toNat)
 case atStart=>exact⟨0,zD,rfl,Ac.refl _ _,World.ownsRow_nil _ _ _ _⟩
 case round=>
  obtain⟨k,A,rfl,KK,y⟩:=hrel
  by_cases E:k<l.length
  .have o:l[k]?=some l[k]:=IG E;generalize l[k]=r at o;obtain⟨g,cap,b,rfl,G⟩:∃g cap b,s=some (R_ g)/\w.heap[g]?=some (N_ b cap):=by
    obtain⟨_,e2⟩|⟨g,cap,b,e,_,D,_⟩:=h.2
    .omega
    .cases e;exact⟨g,_,b,rfl,D⟩
   obtain⟨J,q1⟩:=XT l k r o;have K:=KK.has ((h.cellAt (k*2) zD).trans J);have d1:=KK.has ((h.cellAt (k*2+1) zD).trans q1);have C:(wr.alloc (.cells #[b_ (r.1:Nat),b_ (r.2:Nat)] 188)).heap[wr.heap.size]?=some (N_ #[b_ (r.1:Nat),b_ (r.2:Nat)] 188):=Y7 rfl;have j:Ac No wr (wr.alloc (.cells #[b_ (r.1:Nat),b_ (r.2:Nat)] 188)):=(Ac.refl _ _).alloc _;gi_upto_region 5 with fail;generalize wr.alloc (.cells #[b_ (r.1:Nat),b_ (r.2:Nat)] 188)=f at*;have L:f.cell? (R_ wr.heap.size)=some (b_ (r.1:Nat)):=bce C rfl;have e1:f.cell? (S_ wr.heap.size 1)=some (b_ (r.2:Nat)):=bce C rfl;have n:Ac No f (f.alloc (.cells #[b_ (r.1:Nat),b_ (r.2:Nat)] 174)):=(Ac.refl _ _).alloc _;have B:=IJ (IJ y j) n;gi_wp2_with (gi_at_builtin;refine wpListIn_append_own _ rfl (.tmp 12) (.tmp 18) 138 rfl w.heap.size 174 I (.agg #[b_ 0,b_ 0]) 2 16 underlying138 p q t u rfl wB _ k (rc (l.take k)) rfl B (R_ f.heap.size) 1 1 [b_ (r.1:Nat),b_ (r.2:Nat)] rfl rfl (aV (Y7 rfl)) (by simp[Value.oneCell']) (by unfold maxLen;omega) zD (pV KK.size (pV j.size n.size)) ?_;intro v' w4 d z _;have F:Ac No w w4:=((KK.then j).then n).trans (DD z λk A _=>A) (λx D e=>ql (B.lt x e).1 zD);clear z);go_roundw
   case rel=>exact⟨k+1,zD,by go_num,F,by rw[List.take_add_one,o,Qo];exact d⟩
   case measure=>simp[intOf];omega
  .obtain rfl:k=l.length:=zD;gi_wp2;go_ret;exact⟨KK,by simpa using y⟩
end
theorem Xk {k:Nat} {xs:U_} (h:w.ownsRow base e size v n xs) (l:k<=base):w.ownsRow k e size v n xs:=by
 obtain⟨j,i⟩:=h;refine⟨j,?_⟩;obtain i|⟨g,cap,f,a,b,c,d⟩:=i
 .exact .inl i
 .exact .inr ⟨g,cap,f,a,pV l b,c,d⟩
theorem yE {l:List (W_)} (h:w.ownsRow base 174 2 v l.length (rc l)):af1 w v l:=by
 obtain⟨e,e2⟩|⟨g,cap,a,rfl,_,d,_⟩:=h.2
 .exact⟨none,0,by rw[e,e2],λc=>ql c zD⟩
 .refine⟨_,cap,rfl,λ_=>⟨g,rfl,⟨a,d⟩,λi r b=>?_⟩⟩;have j:=(KT.1 b).1;obtain⟨f,q1⟩:=XT l i r b;exact⟨(h.cellAt (i*2) zD).trans f,(h.cellAt (i*2+1) zD).trans q1⟩
def cd5 (base:Nat) (K:KS) (i:Nat) (v:n_) (W:o_):Prop:=(i=3->W.ownsRow base 186 2 v K.core.length (rc K.core))/\(i=4->W.ownsRow base 174 2 v K.core.length (rc K.core))/\(i=8->W.ownsRow base 188 2 v K.swap.length (rc K.swap))/\(i=9->W.ownsRow base 174 2 v K.swap.length (rc K.swap))
section
variable (m:Nat) (w:o_)
theorem ah1 (K:KS) (h:AV K w) (s:K.core.length<=1000) (t:K.swap.length<=1000):O_ m 59 #[Q_ K.kb] w λe w'=>Ac No w w'/\∃v v',e=.returned (.tuple #[v,v'])/\w'.ownsRow w.heap.size 174 2 v K.core.length (rc K.core)/\w'.ownsRow w.heap.size 174 2 v' K.swap.length (rc K.swap):=by
 gi_enter func59,ntmps59;gi_wp2;refine CG (P:=prog) No _ rfl rfl sJ 10 14 [0,1,2,5,6,7] [3,4,8,9] sJ (by rfl) (cd5 w.heap.size K) (λ_ _ _ _ _ h a=>⟨λe=>IJ (h.1 e) a,λe=>IJ (h.2.1 e) a,λe=>IJ (h.2.2.1 e) a,λe=>IJ (h.2.2.2 e) a⟩) _ _ rfl rfl ?_;gi_wp2;refine⟨rfl,sJ,?_,?_,?_⟩
 .intro W a
  repeat' (refine Au ?_ ?_)
  all_goals first|exact eu|gi_wp2
 .intro i o u W a d;have KW:Ac No w W:=(Ac.refl No w).drew.then a;have g:=h.no KW;obtain⟨r,n,l⟩:=g.k;obtain rfl|rfl|rfl|rfl:=(by simpa using o:i=3\/i=4\/i=8\/i=9)
  .refine BC rfl λKK f=>?_
   show wpListIn NF m prog _ _ _ (Act.put (Act.put (Act.put (Act.put _ (some 7) (u 3)) (some 8) (u 4)) (some 12) (u 8)) (some 13) (u 9)) _;gi_wp2_with (gi_at_call 104;refine(ax9 _ W 0 K.kb K.cg K.cc K.core ((Ah n 0).trans l.c0) g.mc s).mono ?_;rintro e w2 ⟨b,v,rfl,c⟩);exact⟨_,rfl,b,λ_=>Xk c KW.size,(λh=>ql h wB),(λh=>ql h wB),λh=>ql h wB⟩
  .have j:=(d 3 zF wB).1 rfl;refine BC rfl λKK f=>?_
   show wpListIn NF m prog _ _ _ (Act.put (Act.put (Act.put (Act.put _ (some 7) (u 3)) (some 8) (u 4)) (some 12) (u 8)) (some 13) (u 9)) _;gi_wp2_with (gi_at_call 103;refine(Λ _ W w.heap.size (u 3) K.core j s).mono ?_;rintro e w2 ⟨b,v,rfl,c⟩);exact⟨_,rfl,b,(λh=>ql h wB),λ_=>Xk c KW.size,(λh=>ql h wB),λh=>ql h wB⟩
  .refine BC rfl λKK f=>?_
   show wpListIn NF m prog _ _ _ (Act.put (Act.put (Act.put (Act.put _ (some 7) (u 3)) (some 8) (u 4)) (some 12) (u 8)) (some 13) (u 9)) _;gi_wp2_with (gi_at_call 106;refine(ax8 _ W 1 K.kb K.sg K.sc K.swap ((Ah n 1).trans l.c1) g.ms t).mono ?_;rintro e w2 ⟨b,v,rfl,c⟩);exact⟨_,rfl,b,(λh=>ql h wB),(λh=>ql h wB),λ_=>Xk c KW.size,λh=>ql h wB⟩
  .have j:=(d 8 zF wB).2.2.1 rfl;refine BC rfl λKK f=>?_
   show wpListIn NF m prog _ _ _ (Act.put (Act.put (Act.put (Act.put _ (some 7) (u 3)) (some 8) (u 4)) (some 12) (u 8)) (some 13) (u 9)) _;gi_wp2_with (gi_at_call 105;refine(Κ _ W w.heap.size (u 8) K.swap j t).mono ?_;rintro e w2 ⟨b,v,rfl,c⟩);exact⟨_,rfl,b,(λh=>ql h wB),(λh=>ql h wB),(λh=>ql h wB),λ_=>Xk c KW.size⟩
 .intro u W a d;have KW:Ac No w W:=(Ac.refl No w).drew.then a;have p:=(d 4 zF).2.1 rfl;have q:=(d 9 zF).2.2.2 rfl;show wpListIn NF m prog _ _ _ (Act.put (Act.put (Act.put (Act.put _ (some 7) (u 3)) (some 8) (u 4)) (some 12) (u 8)) (some 13) (u 9)) _;gi_wp2;go_ret2;exact⟨KW,_,_,zF,p,q⟩
end
theorem bj8 (h:w.heap[rb]?=some (N_ #[x,y,z] 147)):w.cell? (R_ rb)=some x/\w.cell? (S_ rb 1)=some y/\w.cell? (S_ rb 2)=some z:=by
 refine⟨?_,?_,?_⟩<;>rw[Ah h]<;>rfl
theorem kL {b c:n_} {x y:Int} {s:d_ f_} {k:Nat} (h:w.heap[rb]?=some (N_ #[a,b,c] 147)):∃w',(Instr.storeAt 147 (Q_ rb) (.agg #[b_ x,b_ y,.slice s n k])).run prog w=.ok () w'/\Ac (At rb) w w'/\w'.heap[rb]?=some (N_ #[b_ x,b_ y,.slice s n k] 147):=by
 have e:(Instr.storeAt 147 (Q_ rb) (.agg #[b_ x,b_ y,.slice s n k])).run prog w=(OE rb 0 [b_ x,b_ y,.slice s n k] (.pure ())).run prog w:=sJ
 obtain⟨w',d,f,g⟩:=G7 (P:=prog) (k:=Sem.pure ()) [b_ x,b_ y,.slice s n k] 0 _ w h zF (by simp[Value.oneCell']);refine⟨w',?_,f,?_⟩
 .rw[e,d];rfl
 .rw[g];simp[TY]
section
variable (m:Nat) (w:o_)
theorem yh (K:KS) (f:Nat) (name:Int) (h:AV K w) (tf:K.T f=(10,0)):O_ m 161 #[Q_ f,b_ name] w λe w'=>Ac No w w'/\∃a c,e=.returned (.agg #[b_ name,b_ (K.op f),.slice a (K.ct f).ws.length c])/\WG w.heap.size (.slice a (K.ct f).ws.length c) (ints (K.ct f).ws) w':=by
 obtain⟨ws,p⟩:∃ws,ag ((K.ct f).ws=ws):=⟨_,rfl⟩;rw[p.out];have J:Ac No w (w.alloc (.cells #[b_ 0,b_ 0,.slice none 0 0] 147)):=(Ac.refl _ _).alloc _;have I:(w.alloc (.cells #[b_ 0,b_ 0,.slice none 0 0] 147)).heap[w.heap.size]?=some (N_ #[b_ 0,b_ 0,.slice none 0 0] 147):=Y7 rfl;have h1:=h.no J;have S:w.heap.size<(w.alloc (.cells #[b_ 0,b_ 0,.slice none 0 0] 147)).heap.size:=Dt I;gi_enter func161,ntmps161;gi_upto_region 1 with fail;generalize w.alloc (.cells #[b_ 0,b_ 0,.slice none 0 0] 147)=w1 at*;obtain⟨u,N,U⟩:=h1.fl.file f tf;obtain⟨X,t,B,C,D⟩:=info_parts XF;have d1:w1.cell? (S_ f 1)=some (b_ (K.op f)):=bce N rfl;rw[p.out]at U;clear p;obtain⟨rfl,rfl⟩|⟨b,Y,rfl,hR,V,O,tg⟩:=U
 .have M:w1.cell? (R_ f)=some (.slice none 0 0):=bce N rfl;have l:=run_make (P:=prog) w1 22 3 X (b_ 0) underlying22 t B .i64 .i64 0 0 zD zD (by rw[D];omega) zD;rw[C]at l;have l:(Instr.makeSlice 22 (b_ 0) (b_ 0)).run prog w1=.ok (P_ w1.heap.size 0 0) (w1.alloc (.cells (madeCells #[b_ 0] 0) 3)):=l;have o:Ac No w1 (w1.alloc (.cells (madeCells #[b_ 0] 0) 3)):=(Ac.refl _ _).alloc _;have e0:=o.has M;have e1:=o.has d1;obtain⟨w8,H,E,L⟩:=kL (x:=name) (y:=K.op f) (s:=some (R_ w1.heap.size)) (n:=0) (k:=0) (o.old I id);gi_wp2;refine wpIn_loop_once ?_;gi_wp2_with (refine Dw rfl (.tmp 4) (.tmp 36) 147 rfl rfl rfl H ?_);refine bodyPost_ret (v:=.agg #[b_ name,b_ (K.op f),P_ w1.heap.size 0 0]) (by simp[results,results161,go_sem,bj8 L]) rfl ?_;exact⟨(J.then o).trans E (λk R e=>ql (show k=w.heap.size from e) zD),some (R_ w1.heap.size),0,rfl,_,_,rfl,λh=>by simp[ints]at h⟩
 .have M:w1.cell? (R_ f)=some (P_ b ws.length Y):=bce N rfl;have l:=run_make (P:=prog) w1 22 3 X (b_ 0) underlying22 t B .i64 .i64 ws.length ws.length zD zD (by rw[D];omega) zD;rw[C]at l;simp only[Int.toNat_natCast,Nat.mul_one,Value.cells]at l;have r0:=Yo w1 ws.length;have o:Ac No w1 (w1.alloc (.cells (madeCells #[b_ 0] ws.length) 3)):=(Ac.refl _ _).alloc _;generalize w1.alloc (.cells (madeCells #[b_ 0] ws.length) 3)=w2 at*;have e0:=o.has M;gi_wp2;gi_loopw [6,7,19] (λ_ _ i wr=>∃k:Nat,k<=ws.length/\i=b_ k/\Ac No w1 wr/\∃g,FB 3 .i64 wr w1.heap.size ws.length g/\ag (∀j x,j<k->ws[j]?=some x->g j=(x:Nat))) (λ_ _ i _=>ws.length-(intOf i).toNat)
  case atStart=>exact⟨0,zD,rfl,o,_,r0,λj x h=>ql h zD⟩
  case round=>
   obtain⟨k,R,rfl,KK,g,G,r⟩:=hrel
   by_cases Q:k<ws.length
   .have F:ws[k]?=some ws[k]:=IG Q;generalize ws[k]=x at F;have W:=O x (t_ F);have d:=KK.has ((hR.cell (i:=k) zD).trans (by simp[Az,F]:(Az ws)[k]?=some (a_ (x:Nat))));have ec:=G.cell Q;have ez:=G.fz k;gi_wp2;go_roundw
    case rel=>exact⟨k+1,zD,by go_num,KK.setCell _ (λW=>ql W (Nat.lt_irrefl _)),_,G.set k x,λj z hj q=>by
     unfold upd
     by_cases e:j=k
     .subst e;rw[rC rfl];rw[F]at q;cases q;rfl
     .rw[ru e];exact r.out j z zD q⟩
    case measure=>simp[intOf];omega
   .obtain rfl:k=ws.length:=zD;have e1:=KK.has d1;obtain⟨w8,H,E,L⟩:=kL (x:=name) (y:=K.op f) (s:=some (R_ w1.heap.size)) (n:=ws.length) (k:=ws.length) (KK.old I id);gi_wp2_with (refine Dw rfl (.tmp 4) (.tmp 36) 147 rfl rfl rfl H ?_);refine bodyPost_ret (v:=.agg #[b_ name,b_ (K.op f),P_ w1.heap.size ws.length ws.length]) (by simp[results,results161,go_sem,bj8 L]) rfl ?_;refine⟨(J.then KK).trans E (λk R e=>ql (show k=w.heap.size from e) zD),some (R_ w1.heap.size),ws.length,rfl,some (R_ w1.heap.size),ws.length,by simp[ints],λ_=>?_⟩;obtain⟨Z,q1,q2,q3⟩:=G.keep E (show ¬At w.heap.size w1.heap.size from λe=>by have e:w1.heap.size=w.heap.size:=e;omega);refine⟨w1.heap.size,Z,rfl,zD,q1,λi z q=>?_⟩;simp only[ints,List.getElem?_map]at q;obtain⟨z',A,rfl⟩:=jb.1 q;have t:=(KT.1 A).1;rw[q3 i t,r.out i z' t A]
end
end Go.Fxa
