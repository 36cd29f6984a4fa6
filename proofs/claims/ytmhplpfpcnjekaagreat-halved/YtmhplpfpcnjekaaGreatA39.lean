/- A kernel whose one process tel -/
import Derived.Test.YtmhplpfpcnjekaaGreatA38
namespace Go.Fxa
open Conc Proofs RowKit Proofs.Tryz
set_option maxRecDepth 1000000
set_option maxHeartbeats 0
variable {K K':KS}{b n sb c base size:Nat}{v kv x y z a:n_}{pid:Int}{w w':o_}{e t:j_}{fs:List (Int×Nat×List Nat)}
theorem br1:(prog.funcs[13]?).any (·.norace)=false:=sU
theorem vk:ES prog 13=Tryz.f13.body.getD .skip:=sU
def bq (P:l_)(i:Nat):Code:=piece (behind i (ES P 13))
def bX (P:l_)(i:Nat):Code:=behind i (ES P 13)
theorem bl7:(bq prog 1).AP (Bh prog)=true:=sU
theorem bl6:(bq prog 2).AP (Bh prog)=true:=sU
theorem bm4:(bX prog 4).AP (Bh prog)=true:=sU
theorem bm5:bX prog 2=(bq prog 2).seq (bX prog 3):=sU
section
variable (kp told er:n_)(cs:Z_)(f:Y_)(c0:Frame)
def bA (P:l_:=prog):Frame×Z_:=run P 5 (Frame.enter P 13 #[] .normal,cs)
theorem dc2:AU prog 5 (Frame.enter prog 13 #[] .normal,cs)=some []:=sU
theorem dc1:Ea (bA cs)=(13,[.code (bq prog 1),.code (bX prog 2)],[],.run,.normal,none,cs):=sU
theorem dc0:(bA cs).1.tmps.size=63:=sU
def bB (P:l_:=prog):Frame×Z_:=(Frame.mk 13 (TN 63 (AQ f [(1,kp)])) [.code (bX P 3)] [] .run .normal none,cs)
theorem db9:AU prog 4 (bB kp cs f)=some []:=sU
def bC (P:l_:=prog):Frame:=(below (run P 4 (bB kp cs f P))).1
theorem db8:run prog 4 (bB kp cs f)=(Frame.enter prog 19 #[kp,b_ 1,b_ 1] .normal,bC kp cs f::cs):=sU
def bD (P:l_:=prog):Frame×Z_:=run P 6 ((bC kp cs f P).finish (.tuple #[told,er]),cs)
theorem db7:AU prog 6 ((bC kp cs f).finish (.tuple #[told,er]),cs)=some []:=sU
theorem db6:Ea (bD kp told er cs f)=(13,[.code (bX prog 4)],[],.run,.normal,none,cs):=sU
theorem db5:X3 (bD kp told er cs f) [1,3,4]=[kp,told,er]:=sU
theorem db4:(bD kp told er cs f).1.tmps.size=63:=sU
theorem db3 (b:Bool)(todo:List Item):AU prog 1 (Frame.mk 13 (TN 63 (AQ f [(0,.bool b)])) todo [] .returning .normal none,c0::cs)=some []:=sU
theorem db2 (b:Bool)(todo:List Item):run prog 1 (Frame.mk 13 (TN 63 (AQ f [(0,.bool b)])) todo [] .returning .normal none,c0::cs)=(c0.finish (.bool b),cs):=sU
end
def Beg (K:KS):Prop:=∃b r,K.Ar=[b]/\K.ps b=some r/\r.pid=1/\r.P=0/\r.Af=[11,12,0,0,0,0,0,0]/\r.en=false/\r.bl=.nilFunc
theorem BZ.at {r':PR}(h:BZ K K')(hb:K'.ps b=some r'):∃r c,K.ps b=some r/\r'={r with co:=c}:=by
 obtain⟨f,a⟩:=h.ps;have:=a b;rw[hb]at this;cases e:K.ps b with
 |none=>rw[e]at this;cases this
 |some r=>rw[e]at this;exact⟨r,f b,rfl,x_ this⟩
theorem serves {NC NS:Nat}:VZ NC NS b K n:=λm w _ _ K _ call _ _ d ok a hb c=>bb4 m w K NC NS b call _ d ok a hb c
theorem Beg.pick {CU:List Ev}{e:Int}(h:Beg K)(Y:LW K 1 1 CU e K'):e=0/\CU=[(1,12,1,0)]/\∃b r,b∈K'.Ar/\K'.ps b=some r/\r.A=1/\r.P=2/\r.Af.length=8/\r.pid=1:=by
 obtain⟨b,r,p,q,F,M,N,G,O⟩:=h;obtain⟨z,_⟩|⟨E,W,t,g,_,⟨V,_⟩|⟨_,m,_⟩|⟨_,_,rfl,w,_⟩⟩:=Y
 .exact qx (by rw[F];rfl) (z b (by rw[p];simp) r q)
 .omega
 .obtain rfl:b=E:=by rw[p]at t;exact(List.mem_singleton.1 t).symm
  rw[q]at g;cases g;exact qx (by unfold KS.BV KS.blk;rw[G,O];rfl) m
 .obtain rfl:b=E:=by rw[p]at t;exact(List.mem_singleton.1 t).symm
  rw[q]at g;cases g;obtain⟨U,⟨u,r0,H,B,rfl,_⟩,w⟩:=w;obtain⟨a,c,e1,e2⟩:=H.at B;rw[q]at e1;cases e1;have key:∀{k:KS} {n:PR} {s call:Nat} {a:PR},k=u.Bj b {r0 with bl:=.nilFunc}->k.ps b=some n->EO n=(s,call,a)->s=1/\call=12/\a.pid=1/\a.P=2/\a.Af.length=8/\a.en=false/\b∈(k.Bj b a).Ar/\(k.Bj b a).ps b=some a:=fun {k n s call a} R h m=>by
   subst R
   rw[show(u.Bj b {r0 with bl:=.nilFunc}).ps b=some {r0 with bl:=.nilFunc} from Ag]at h
   cases h
   subst e2
   unfold EO XR at m
   simp[M,N]at m
   obtain⟨rfl,rfl,rfl⟩:=m
   refine⟨rfl,rfl,F,rfl,sJ,G,?_,Ag⟩
   show b∈u.Ar
   rw[H.Ar,p];simp
  have d:∀{D i:KS} {a:PR} {x y:Nat} {f:n_},a.pid=1->UM D b a 12 i x y f->i=D/\x=1/\y=0/\f=.nilFunc:=λS h=>by
   obtain⟨h,_⟩|⟨_,a1,a2,J,L⟩:=h
   .exact qx (.inl rfl) h
   .exact⟨a1,a2.trans S,J,L⟩
  obtain⟨e1,v,K1',⟨rfl,rfl⟩,⟨n,s,call,a,x1,C,l⟩,rfl⟩|⟨j,e1,v,i,Q,hR,⟨n,s,call,a,x1,C,l⟩,rfl⟩:=w
  .obtain⟨rfl,rfl,o,I,y3,y4,y5,y6⟩:=key rfl x1 C;obtain⟨h,_⟩|⟨_,i,x,y,T,hX,z1,X,rfl,rfl⟩:=l
   .cases h
   .obtain⟨rfl,rfl,rfl,_⟩:=d o hX.1;rw[y6]at z1;cases z1;refine⟨rfl,by simp[o],b,_,?_,Ag,rfl,I,y3,o⟩;exact y5
  .obtain rfl:j=0:=(by have:j<1:=Q;omega);obtain⟨rfl,rfl⟩:=hR;obtain⟨rfl,rfl,o,I,y3,y4,y5,y6⟩:=key rfl x1 C;obtain⟨h,_⟩|⟨_,i,x,y,f,T,hX,z1,l⟩:=l
   .cases h
   .obtain⟨rfl,rfl,rfl,rfl⟩:=d o hX.1;rw[y6]at z1;cases z1;obtain⟨_,h,_⟩|⟨⟨_,_,_,h⟩,_⟩:=l
    .rw[y4]at h;cases h
    .cases h
def dd2 (w:o_)(tm:X_)(w':o_):Prop:=Aa No w w'/\∃K C M g,tm=TN 63 (AQ g [(1,ptr K.kb)])/\tm=TN 63 (AQ g [(1,ptr K.kb),(2,b_ 0)])/\AY K w'/\DU C M K/\Beg K/\∀k,K.T k≠(0,0)->w.heap.size<=k
def yY (i:Nat):Int:=if i=0 then 11 else 12
def ό (f:Y_)(a b c d e:n_):X_:=#[a,b,c,d,e,f 5,f 6,f 7,f 8,f 9,f 10,f 11,f 12,f 13,f 14,f 15,f 16,f 17,f 18,f 19,f 20,f 21,f 22,f 23,f 24,f 25,f 26,f 27,f 28,f 29,f 30,f 31,f 32,f 33,f 34,f 35,f 36,f 37,f 38,f 39,f 40,f 41,f 42,f 43,f 44,f 45,f 46,f 47,f 48,f 49,f 50,f 51,f 52,f 53,f 54,f 55,f 56,f 57,f 58,f 59,f 60,f 61,f 62]
theorem cu7:(iE 2 (8*Aj 2) λi=>(yY i).toNat)=[11,12,0,0,0,0,0,0]:=sN
section
variable (m:Nat)(w:o_)(f:Y_)
theorem bm1:(bq prog 1).wpIn NF m prog (Ends (dd2 w)) ⟨TN 63 (AQ f []),[]⟩ w:=by
 unfold bq;rw[vk];dsimp only[Tryz.f13,Option.getD,behind,piece];show Code.wpIn (Fence.list LF none) m prog _ _ ⟨ό f (f 0) (f 1) (f 2) (f 3) (f 4),[]⟩ _;unfold ό;have c:Aa No w (w.alloc (.cells #[b_ 11,b_ 12] 3)):=(Aa.refl _ _).alloc _;have g:(w.alloc (.cells #[b_ 11,b_ 12] 3)).heap[w.heap.size]?=some (N_ #[b_ 11,b_ 12] 3):=Yw rfl;have l:aJ (w.alloc (.cells #[b_ 11,b_ 12] 3)) (P_ w.heap.size 2 2) 2 yY:=⟨⟨_,_,rfl⟩,λ_=>⟨wB,_,_,rfl,λ_=>⟨_,_,rfl,λi hi=>by
  have:i=0\/i=1:=wB
  obtain rfl|rfl:=this<;>rw[Ai g]<;>rfl⟩⟩⟩;have j:Pg (w.alloc (.cells #[b_ 11,b_ 12] 3)) (.slice none 0 0) 0 (λ_=>(.slice none 0 0,0,λ_=>0)):=⟨_,_,rfl,λh=>qx h wB⟩;gi_wp2_with fail;refine(Yq _ (w.alloc (.cells #[b_ 11,b_ 12] 3)) 16 20 _ _ 2 0 yY _ l j).mono ?_;rintro e w1 ⟨d,⟨_,a⟩|⟨K,b,s,r,C,M,rfl,q,ok,o,hb,p,_⟩⟩
 .exact(a JF.zero ⟨wB,⟨wB,wB,λi hi=>by unfold yY;split<;>omega⟩,by unfold Aj;omega⟩).elim
 .rw[cu7]at hb;unfold ptr;gi_wp2;exact⟨rfl,rfl,c.then d,K,C,M,_,BH rfl (by simp[ptr]),BH rfl (by simp[ptr]),q,ok,⟨b,_,o,hb,rfl,rfl,rfl,rfl,rfl⟩,λk n=>lN c.size (p k n)⟩
theorem bm3 (kb:Nat):(bq prog 2).wpIn NF m prog (Ends λd w'=>(∃g,d=TN 63 (AQ g [(1,ptr kb)]))/\Aa No w w') ⟨TN 63 (AQ f [(1,ptr kb),(2,b_ 0)]),[]⟩ w:=by
 unfold bq;rw[vk];dsimp only[Tryz.f13,Option.getD,behind,piece];show Code.wpIn (Fence.list LF none) m prog _ _ ⟨ό f (f 0) (ptr kb) (b_ 0) (f 3) (f 4),[]⟩ _;unfold ό ptr;gi_wp2;exact⟨rfl,rfl,⟨_,BH rfl sJ⟩,Aa.refl _ _⟩
theorem bm2 (NC NS:Nat)(K:KS)(told:n_)(b:Nat)(r:PR)(h:AY K w)(ok:DU NC NS K)(Q:w.ownsRow 0 59 4 told 1 (SS [(1,12,1,0)]))(T:b∈K.Ar)(hb:K.ps b=some r)(hA:r.A=1)(S:r.P=2)(hi:r.Af.length=8)(R:r.pid=1):
  (bX prog 4).wpIn NF m prog (SX λU w'=>(∃g,U=TN 63 (AQ g [(0,.bool true)]))/\Aa No w w') ⟨TN 63 (AQ f [(1,ptr K.kb),(3,told),(4,b_ 0)]),[]⟩ w:=by
 obtain⟨k,z⟩:=List.mem_iff_getElem?.1 T;have j:=λm=>(QL m w NC NS K r.pid h ok).mono λe w2 h=>UU ok z hb h
 rw[R]at j;obtain⟨l,I,C⟩:∃g c,told=P_ g 1 c:=by
  obtain⟨_,e⟩|⟨g,cap,v,e,_⟩:=Q.2
  .omega
  .exact⟨g,cap,e⟩
 subst C;have E:w.cell? (R_ l)=some (b_ 1):=Q.cellAt 0 wB;have F:w.cell? (S_ l 1)=some (b_ 12):=Q.cellAt 1 wB;have G:w.cell? (S_ l 2)=some (b_ 1):=Q.cellAt 2 wB;have H:w.cell? (S_ l 3)=some (b_ 0):=Q.cellAt 3 wB;unfold bX;rw[vk];dsimp only[Tryz.f13,Option.getD,behind];show Code.wpIn (Fence.list LF none) m prog _ _ ⟨ό f (f 0) (ptr K.kb) (f 2) (P_ l 1 I) (b_ 0),[]⟩ _;unfold ό ptr;gi_upto_region 6 with(first|(gi_at_call 20;refine(j _).mono ?_;rintro e w2 ⟨t,D,a7,n7,c7,a8,n8,c8,rfl,y,q,i8⟩;obtain⟨w3,i,p,n⟩:=EK (w:=w2.alloc (.cells Ez 48)) (rb:=w2.heap.size) (a:=r.pid) (b:=r.par) (c:=D) (d:=r.A) (e:=r.B) (f:=r.P) (g:=r.st) (n7:=n7) (c7:=c7) (n8:=n8) (c8:=c8) (a7:=a7) (a8:=a8) (Yw rfl))|refine BM rfl (.tmp 5) (.tmp 27) 48 rfl rfl rfl i ?_);have u:Aa No w2 w3:=((Aa.refl No w2).alloc (.cells Ez 48)).trans p (λx O e=>qx (show x=w2.heap.size from e) wB);have o:n7=8:=by
  obtain⟨s,c,e,_⟩:=q
  cases e
  simp[ints,hi]
 subst o;have K23:=t.then u;have J:=K23.has E;have d1:=K23.has F;have d2:=K23.has G;have d3:=K23.has H;have L:w3.cell? (S_ w2.heap.size 3)=some (b_ 1):=by rw[Ai n];simp[Jq,hA]
 have M:w3.cell? (S_ w2.heap.size 5)=some (b_ 2):=by rw[Ai n];simp[Jq,S]
 have N:w3.cell? (S_ w2.heap.size 7)=some (.slice a7 8 c7):=bce n rfl;clear hA S hi R i n p q i8 y;gi_wp2;exact⟨rfl,rfl,⟨_,BH rfl sJ⟩,K23⟩
end
theorem BQ.low {T T':Tag}{v0 v v':o_}(M:BQ T T' v v')(d:Aa No v0 v)(f:∀k,T k≠(0,0)->v0.heap.size<=k):Aa No v0 v'/\∀k,T' k≠(0,0)->v0.heap.size<=k:=by
 refine⟨d.trans M.keep (λk a e=>qx (f k e) wB),λk a=>?_⟩;by_cases e:k<v.heap.size
 .exact f k (by rw[<-CG.fresh M k e];exact a)
 .exact lN d.size wB
theorem Uw {Od:Old}{v:o_}{c0:Frame}{cs:Z_}{R:Frame×Z_->o_->Prop}(J:∀v',Aa No v v'->ag Od prog (c0.finish (.bool true),cs) v' R):ag Od prog (Frame.enter prog 13 #[] .normal,c0::cs) v R:=by
 refine ag.AU (dc2 _) ?_;rw[show run prog 5 (Frame.enter prog 13 #[] .normal,c0::cs)=bA (c0::cs)from rfl,at_toldM (l:=[]) (dc1 _) rfl (dc0 _)];refine ag.part (m:=0) br1 rfl bl7 (λv1 _=>bm1 0 v1 _) λv1 o v2 j ⟨s,K,C,M,g,_,e,E,ok,hB,D⟩=>?_
 subst e;rw[bm5];refine ag.seq (ag.part (m:=0) br1 rfl bl6 (λv1 _=>bm3 0 v1 _ _) λv3 o v4 t ⟨⟨f,e⟩,u⟩=>?_);subst e;have n:=t.then u;refine ag.AU (x:=bB (ptr K.kb) (c0::cs) f) (db9 _ _ _) ?_;rw[db8];refine Jg (E.no n) ok (λ_ _ _ _ _ _=>serves) λtold e I q G a=>?_
 obtain⟨rfl,rfl,b,r,B,hb,hA,h,hi,y⟩:=hB.pick a.x;have c:=fH a.told.row (Nat.zero_le _);have i:=a.kb;refine ag.AU (db7 _ _ _ _ _) ?_;rw[show run prog 6 ((bC (ptr K.kb) (c0::cs) f).finish (.tuple #[told,b_ 0]),c0::cs)=bD (ptr K.kb) told (b_ 0) (c0::cs) f from rfl,at_toldM (l:=[(1,ptr K.kb),(3,told),(4,b_ 0)]) (db6 _ _ _ _ _) (db5 _ _ _ _ _) (db4 _ _ _ _ _),<-i];refine ag.aP (m:=0) br1 rfl bm4 (λv6 d=>bm2 0 v6 _ C M q told b r (a.ka.no d) a.ok (Rx c d) B hb hA h hi y) λv6 o p F d ⟨⟨H,e⟩,w⟩=>?_
 subst e;refine ag.AU (db3 _ _ _ _ _) ?_;rw[db2];refine J F ?_;have z:Aa No v v4:=(j.then s).then n;have A:=(a.mv.low z (λk J=>lN j.size (D k J))).1;exact A.then (d.then w)
abbrev Fr (fn:h_)(N:Nat)(f:Y_)(l:List (Nat×n_))(k:List Item)(cs:Z_):Frame×Z_:=(Frame.mk fn (TN N (AQ f l)) k [] .run .normal none,cs)
def Bv (n:Nat)(x:Frame×Z_)(fn:h_)(N:Nat)(l:List (Nat×n_))(k:List Item)(cs:Z_):Prop:=(AU prog n x,Ea (run prog n x),X3 (run prog n x) (l.map (·.1)),(run prog n x).1.tmps.size)=(some [],(fn,k,[],.run,.normal,none,cs),l.map (·.2),N)
def Uc (n:Nat)(x:Frame×Z_)(fn:h_)(args:X_)(cs:Z_):Prop:=(AU prog n x,run prog n x)=(some [],(Frame.enter prog fn args .normal,(below (run prog n x)).1::cs))
def rd2 (n:Nat)(x:Frame×Z_)(a b:n_)(P:l_:=prog):Frame×Z_:=run P 1 (BK (run P 1 (BK (run P n x) a)) b)
def aY (n:Nat)(x:Frame×Z_)(sb:Nat)(pid nn:Int)(kv:n_)(cs:Z_):Prop:=(AU prog n x,G6 prog (run prog n x) [b_ pid],AU prog 1 (BK (run prog n x) (b_ pid)),G6 prog (run prog 1 (BK (run prog n x) (b_ pid))) [b_ nn],AU prog 1 (BK (run prog 1 (BK (run prog n x) (b_ pid))) (b_ nn)),rd2 n x (b_ pid) (b_ nn))=(some [],some ([(S_ sb 1)],b_ pid),some [],some ([(S_ sb 2)],b_ nn),some [],(Frame.enter prog 19 #[kv,b_ pid,b_ nn] .normal,(below (rd2 n x (b_ pid) (b_ nn))).1::cs))
def rd1 (n k:Nat)(x:Frame×Z_)(a:n_)(P:l_:=prog):Frame×Z_:=run P k (BK (run P n x) a)
def lW (n k:Nat)(x:Frame×Z_)(sb:Nat)(pid:Int)(nv kv:n_)(cs:Z_):Prop:=(AU prog n x,G6 prog (run prog n x) [b_ pid],AU prog k (BK (run prog n x) (b_ pid)),rd1 n k x (b_ pid))=(some [],some ([(S_ sb 1)],b_ pid),some [],(Frame.enter prog 19 #[kv,b_ pid,nv] .normal,(below (rd1 n k x (b_ pid))).1::cs))
section
variable {Od:Old}{x:Frame×Z_}{v:o_}{Q:Frame×Z_->o_->Prop}{n N:Nat}{fn:h_}{l:List (Nat×n_)}{k:List Item}{cs:Z_}{args:X_}
theorem ag.told (h:Bv n x fn N l k cs)(d:∀g,ag Od prog (Fr fn N g l k cs) v Q):ag Od prog x v Q:=by
 unfold Bv at h;simp only[lQ]at h;refine ag.AU h.1 ?_;rw[at_toldM (x:=run prog n x) (l:=l) (by rw[h.2.1]) h.2.2.1 h.2.2.2];exact d _
theorem ag.enters (h:Uc n x fn args cs)(d:ag Od prog (Frame.enter prog fn args .normal,(below (run prog n x)).1::cs) v Q):ag Od prog x v Q:=by
 obtain⟨a,b⟩:=Prod.mk.inj h;refine ag.AU a ?_;rw[b];exact d
theorem ag.asks {g:Int}(h:aY n x sb pid g kv cs)(c1:v.cell? (S_ sb 1)=some (b_ pid))(c2:v.cell? (S_ sb 2)=some (b_ g))(i:ag Od prog (Frame.enter prog 19 #[kv,b_ pid,b_ g] .normal,(below (rd2 n x (b_ pid) (b_ g))).1::cs) v Q):ag Od prog x v Q:=by
 unfold aY at h;simp only[lQ]at h;obtain⟨a,b,c,d,e,f⟩:=h;refine ag.AU a (ag.reads b ⟨c1,dE⟩ (ag.AU c (ag.reads d ⟨c2,dE⟩ (ag.AU e ?_))));show ag Od prog (rd2 n x (b_ pid) (b_ g)) v Q;rw[f];exact i
theorem ag.bt6 {k':Nat}{f:n_}(h:lW n k' x sb pid f kv cs)(c1:v.cell? (S_ sb 1)=some (b_ pid))(g:ag Od prog (Frame.enter prog 19 #[kv,b_ pid,f] .normal,(below (rd1 n k' x (b_ pid))).1::cs) v Q):ag Od prog x v Q:=by
 unfold lW at h;simp only[lQ]at h;obtain⟨a,b,c,d⟩:=h;refine ag.AU a (ag.reads b ⟨c1,dE⟩ (ag.AU c ?_));show ag Od prog (rd1 n k' x (b_ pid)) v Q;rw[d];exact g
end
def ai4 (w:o_)(v:n_)(l:List (W_)):Prop:=∃s c,v=.slice s l.length c/\(0<l.length->∃b,s=some (R_ b)/\(∃cs,w.heap[b]?=some (N_ cs 174))/\∀i r,l[i]?=some r->w.cell? (S_ b (i*2))=some (b_ (r.1:Nat))/\w.cell? (S_ b (i*2+1))=some (b_ (r.2:Nat)))
theorem lV {rb:Nat}(h:w.heap[rb]?=some (N_ #[x,y,z] 54)):w.cell? (R_ rb)=some x/\w.cell? (S_ rb 1)=some y/\w.cell? (S_ rb 2)=some z:=by
 refine⟨?_,?_,?_⟩<;>rw[Ai h]<;>rfl
theorem Oq {rb:Nat}{b c:n_}{x y z:Int}(h:w.heap[rb]?=some (N_ #[a,b,c] 54)):∃w',(Instr.storeAt 54 (Q_ rb) (.agg #[b_ x,b_ y,b_ z])).run prog w=.ok () w'/\Aa (At rb) w w'/\w'.heap[rb]?=some (N_ #[b_ x,b_ y,b_ z] 54):=by
 have e:(Instr.storeAt 54 (Q_ rb) (.agg #[b_ x,b_ y,b_ z])).run prog w=(OV rb 0 [b_ x,b_ y,b_ z] (.pure ())).run prog w:=sU
 obtain⟨w',d,f,g⟩:=Hr (P:=prog) (k:=Sem.pure ()) [b_ x,b_ y,b_ z] 0 _ w h sJ (by simp[Value.oneCell']);refine⟨w',?_,f,?_⟩
 .rw[e,d];rfl
 .rw[g];simp[UI]
def gZ (K:KS)(pid:Int)(w:o_)(e:Ending)(w':o_):Prop:=Aa No w w'/\∃x y z s:Int,e=.returned (.tuple #[.agg #[b_ x,b_ y,b_ z],b_ s])/\((rP K pid s/\x=0/\y=0/\z=0)\/(s=0/\∃b r,LyB K pid b r/\x=(r.sw:Nat)/\y=r.co/\z=(Aj r.Af.length:Nat)))
def cp1 (r:PR)(i:Nat)(v:n_)(_W:o_):Prop:=v=if i=9 then b_ (Aj r.Af.length:Nat)else .agg #[b_ (r.sw:Nat),b_ r.co,b_ (Aj r.Af.length:Nat)]
section
variable (m:Nat)(w:o_)
theorem Rt (K:KS)(N:Nat)(pid:Int)(h:AY K w)(hT:K.ED)(hC:Cb N (0,0) K)(T:K.Ar.length<=100):
  O_ m 22 #[Q_ K.kb,b_ pid] w (gZ K pid w):=by
 have l:Aa No w (w.alloc (.cells #[b_ 0,b_ 0,b_ 0] 54)):=(Aa.refl _ _).alloc _;have p:(w.alloc (.cells #[b_ 0,b_ 0,b_ 0] 54)).heap[w.heap.size]?=some (N_ #[b_ 0,b_ 0,b_ 0] 54):=Yw rfl;have c:=λm=>UT m _ K pid (h.no l) hT T
 have J:=hC.le.2;gi_enter func22,ntmps22;gi_wp2_with (first|(gi_at_call 51;refine(c _).mono ?_;rintro e w1 ⟨a,⟨s,rfl,S,d⟩|⟨b,r,rfl,d⟩⟩<;>obtain⟨M,j,n,o⟩:=Oq (x:=0) (y:=0) (z:=0) (a.old p id))|refine BM rfl (.tmp 4) (.tmp 16) 54 rfl rfl rfl j ?_)
 .refine bodyPost_ret (v:=.tuple #[.agg #[b_ 0,b_ 0,b_ 0],b_ s]) (by simp[results,results22,go_sem,lV o]) rfl ?_;exact⟨(l.then a).trans n (λk I e=>qx (show k=w.heap.size from e) wB),0,0,0,s,rfl,.inl ⟨d,rfl,rfl,rfl⟩⟩
 .clear j n o;have B:=l.then a;have t:=h.no B;have R:=hC.pl b r d.2.1;obtain⟨O,Q,L⟩:=t.im8 d.2.1;have f:=t.Iu d.2.1 10;have g:=t.Iu d.2.1 11;simp[PR.arr]at f g;have D:=a.old p id;clear c l a p;refine DI (P:=prog) No _ rfl rfl sU 11 29 [0,1,2,3,4,5,6,7,8] [9,10] sU (by rfl) (cp1 r) (λ_ _ _ _ _ h _=>h) _ _ rfl rfl ?_;gi_wp2;refine⟨rfl,sU,?_,?_,?_⟩
  .intro W a;have F:=a.has (w:=w1.drew) f;have G:=a.has (w:=w1.drew) g
   repeat' (refine AA ?_ ?_)
   all_goals first|exact dE|gi_wp2
  .intro i hi u W a A;have H:=a.has (w:=w1.drew) L;obtain rfl|rfl:=(by simpa using hi:i=9\/i=10)
   .refine BI rfl λKK E=>?_
    show wpListIn NF m prog _ _ _ (Act.put (Act.put _ (some 27) (u 9)) (some 28) (u 10)) _;gi_wp2_with (gi_at_call 58;refine(Fe _ W b _ _ _ H wB).mono ?_;rintro e w2 ⟨rfl,rfl⟩);exact⟨_,rfl,Aa.refl _ _,rfl⟩
   .have C:u 9=b_ (Aj r.Af.length:Nat):=A 9 sJ sN;refine BI rfl λKK E=>?_
    show wpListIn NF m prog _ _ _ (Act.put (Act.put _ (some 27) (u 9)) (some 28) (u 10)) _;rw[C];gi_wp2;exact⟨.agg #[b_ (r.sw:Nat),b_ r.co,b_ (Aj r.Af.length:Nat)],by rw[<-C];rfl,Aa.refl _ _,rfl⟩
  .intro u W a A;have q:u 10=.agg #[b_ (r.sw:Nat),b_ r.co,b_ (Aj r.Af.length:Nat)]:=A 10 sJ;show wpListIn NF m prog _ _ _ (Act.put (Act.put _ (some 27) (u 9)) (some 28) (u 10)) _;rw[q];have KW:Aa No w1 W:=(Aa.refl No w1).drew.then a;obtain⟨M,j,n,o⟩:=Oq (x:=(r.sw:Nat)) (y:=r.co) (z:=(Aj r.Af.length:Nat)) (KW.old D id);gi_wp2_with (refine BM rfl (.tmp 4) (.tmp 28) 54 rfl rfl rfl j ?_);refine bodyPost_ret (v:=.tuple #[.agg #[b_ (r.sw:Nat),b_ r.co,b_ (Aj r.Af.length:Nat)],b_ 0]) (by simp[results,results22,go_sem,lV o]) rfl ?_;exact⟨(B.then KW).trans n (λk I e=>qx (show k=w.heap.size from e) wB),_,_,_,_,rfl,.inr ⟨rfl,b,r,d,rfl,rfl,rfl⟩⟩
end
theorem J9 {xs:U_}(h:w.ownsRow base e size v n xs)(k:Aa No w w'):w'.ownsRow base e size v n xs:=by
 obtain⟨j,i⟩:=h;refine⟨j,?_⟩;obtain i|⟨g,cap,f,a,b,c,d⟩:=i
 .exact .inl i
 .exact .inr ⟨g,cap,f,a,b,k.old c id,d⟩
theorem Ϟ (h:w.heap[b]?=some (N_ #[x,y] t)):∀q u,([x,y]:U_)[q]?=some u->w.cell? (((R_ b):f_).add q)=some u:=λq u hq=>by
 rw[Addr.add_lit,Nat.zero_add,Ai h q,<-hq];simp
section
variable (m:Nat)(w:o_)
theorem bi0:(prog.info? 174).map (λi=>(i.zero,i.size,i.bytes))=some (some (.agg #[b_ 0,b_ 0]),2,16):=sU
theorem da7 (w:o_){ad:f_}:∀x,(binOp .eql (sx x 90 95) (.slice (some ad) n c) (.slice none 0 0)).run prog w=.ok (.bool false) w
 |false=>sU
 |true=>sU
abbrev ax0 {w:o_}{base:Nat}{e:j_}{size:Nat}{v:n_}{n:Nat}{xs:U_}(_:w.ownsRow base e size v n xs):j_:=e
theorem av9 (x:Bool)(g c:Nat)(l:List (W_))(h:Mp (sx x 186 188) w g c l)(A:l.length<=1000):O_ m (sx x 159 160) #[P_ g l.length c] w λe w'=>Aa No w w'/\∃v,e=.returned v/\w'.ownsRow w.heap.size (sx x 186 188) 2 v l.length (rc l):=by
 obtain⟨r,hi,b,d,f⟩:=(WM x).parts;have hq:=da7 w (ad:=(R_ g)) (n:=l.length) (c:=c) x;have U:=(WM x).und;cases x<;>dsimp only[aF,aC]at*;gi_enter func159,ntmps159
 rotate_left
 gi_enter func160,ntmps160
 all_goals
  gi_wp2_with (gi_at_builtin;refine wpListIn_append_own _ rfl (.tmp 5) (.tmp 6) _ rfl w.heap.size _ r (.agg #[b_ 0,b_ 0]) 2 16 U hi b d f rfl sN _ 0 [] rfl Um (R_ g) l.length c (rc l) rfl (by rw[uu]) (λj u i=>((Aa.refl No w).alloc _).has (by have a:=(Oc.1 i).1;rw[uu]at a;rw[Addr.add_lit,Nat.zero_add];exact(Rw.cell h a).trans i)) (aj8 l) (by unfold maxLen;omega) wB sJ ?_;intro s w1 o p _)
  go_ret
  refine⟨((Aa.refl No w).alloc _).trans (Ef (S:=At w.heap.size) p (λk h _=>(x_ (show some w.heap.size=some k from h)).symm)) (λk q h=>qx q (by rw[show k=w.heap.size from h];exact Nat.lt_irrefl _)),s,rfl,?_⟩
  simpa using o
theorem zL (x:Bool)(p:Nat)(kb g c:Nat)(l:List (W_))(i:w.cell? (S_ kb p)=some (P_ g l.length c))(h:Mp (sx x 186 188) w g c l)(f:l.length<=1000):O_ m (sx x 104 106) #[.pointer (some (S_ kb p))] w λe w'=>Aa No w w'/\∃v,e=.returned v/\w'.ownsRow w.heap.size (sx x 186 188) 2 v l.length (rc l):=by
 have b:=λm=>av9 m w x g c l h f
 cases x<;>dsimp only[aF,aC]at*;gi_enter func104,ntmps104
 rotate_left
 gi_enter func106,ntmps106
 all_goals
  gi_wp2_with ((first|gi_at_call 159|gi_at_call 160);refine(b _).mono ?_;rintro e w1 ⟨a,v,rfl,d⟩)
  go_ret
  exact⟨a,v,sJ,d⟩
theorem eG (x:Bool)(base:Nat)(v:n_)(l:List (W_))(h:w.ownsRow base (sx x 186 188) 2 v l.length (rc l))(L:l.length<=1000):O_ m (sx x 103 105) #[v] w λe w'=>Aa No w w'/\∃v',e=.returned v'/\w'.ownsRow w.heap.size 174 2 v' l.length (rc l):=by
 obtain⟨H,p,q,t,u⟩:=info_parts bi0;obtain⟨s,c,G⟩:∃s c,v=.slice s l.length c:=by
  obtain⟨e,e2⟩|⟨g,cap,b,e,_⟩:=h.2
  .exact⟨none,0,by rw[e,e2]⟩
  .exact⟨_,_,e⟩
 subst G;cases x<;>dsimp only[aF,aC]at*;gi_enter func103,ntmps103
 rotate_left
 gi_enter func105,ntmps105
 all_goals
  gi_wp2
  gi_loopw [3,8] (λa i wr=>∃k:Nat,k<=l.length/\i=b_ k/\Aa No w wr/\wr.ownsRow w.heap.size 174 2 a k (rc (l.take k))) (λ_ i _=>l.length-(intOf i).toNat)
  case atStart=>exact⟨0,wB,rfl,Aa.refl _ _,World.ownsRow_nil _ _ _ _⟩
  case round=>
   obtain⟨k,A,rfl,KK,y⟩:=hrel
   by_cases D:k<l.length
   .have o:l[k]?=some l[k]:=JM D;generalize l[k]=r at o;obtain⟨g,cap,b,rfl,F⟩:∃g cap b,s=some (R_ g)/\w.heap[g]?=some (N_ b cap):=by
     obtain⟨_,e2⟩|⟨g,cap,b,e,_,C,_⟩:=h.2
     .omega
     .cases e;exact⟨g,_,b,rfl,C⟩
    obtain⟨I,q1⟩:=iP l k r o;have J:=KK.has ((h.cellAt (k*2) wB).trans I);have d1:=KK.has ((h.cellAt (k*2+1) wB).trans q1);have hq:(wr.alloc (.cells #[b_ (r.1:Nat),b_ (r.2:Nat)] (ax0 h))).heap[wr.heap.size]?=some (.cells #[b_ (r.1:Nat),b_ (r.2:Nat)] (ax0 h) (0,0)):=Yw rfl;have j:Aa No wr (wr.alloc (.cells #[b_ (r.1:Nat),b_ (r.2:Nat)] (ax0 h))):=(Aa.refl _ _).alloc _;gi_upto_region 5 with fail;generalize wr.alloc (.cells #[b_ (r.1:Nat),b_ (r.2:Nat)] (ax0 h))=f at*;have K:f.cell? (R_ wr.heap.size)=some (b_ (r.1:Nat)):=bce hq rfl;have e1:f.cell? (S_ wr.heap.size 1)=some (b_ (r.2:Nat)):=bce hq rfl;have n:Aa No f (f.alloc (.cells #[b_ (r.1:Nat),b_ (r.2:Nat)] 174)):=(Aa.refl _ _).alloc _;have B:=J9 (J9 y j) n;gi_wp2_with (gi_at_builtin;refine wpListIn_append_own _ rfl (.tmp 12) (.tmp 18) 138 rfl w.heap.size 174 H (.agg #[b_ 0,b_ 0]) 2 16 underlying138 p q t u rfl sN _ k (rc (l.take k)) rfl B (R_ f.heap.size) 1 1 [b_ (r.1:Nat),b_ (r.2:Nat)] rfl rfl (Ϟ (Yw rfl)) (by simp[Value.oneCell']) (by unfold maxLen;omega) wB (lN KK.size (lN j.size n.size)) ?_;intro v' w4 d z _;have E:Aa No w w4:=((KK.then j).then n).trans (Ef z λk A _=>A) (λx C e=>qx (B.lt x e).1 wB);clear z);go_roundw
    case rel=>exact⟨k+1,wB,by go_num,E,by rw[List.take_add_one,o,YF];exact d⟩
    case measure=>simp[intOf];omega
   .obtain rfl:k=l.length:=wB;gi_wp2;go_ret;exact⟨KK,by simpa using y⟩
end
theorem Yd {k:Nat}{xs:U_}(h:w.ownsRow base e size v n xs)(hb:k<=base):w.ownsRow k e size v n xs:=by
 obtain⟨j,i⟩:=h;refine⟨j,?_⟩;obtain i|⟨g,cap,f,a,b,c,d⟩:=i
 .exact .inl i
 .exact .inr ⟨g,cap,f,a,lN hb b,c,d⟩
theorem Ya {l:List (W_)}(h:w.ownsRow base 174 2 v l.length (rc l)):ai4 w v l:=by
 obtain⟨e,e2⟩|⟨g,cap,a,rfl,_,c,_⟩:=h.2
 .exact⟨none,0,by rw[e,e2],λb=>qx b wB⟩
 .refine⟨_,cap,rfl,λ_=>⟨g,rfl,⟨a,c⟩,λi r hi=>?_⟩⟩;have f:=(Oc.1 hi).1;obtain⟨d,q1⟩:=iP l i r hi;exact⟨(h.cellAt (i*2) wB).trans d,(h.cellAt (i*2+1) wB).trans q1⟩
def cp7 (base:Nat)(K:KS)(i:Nat)(v:n_)(W:o_):Prop:=(i=3->W.ownsRow base 186 2 v K.core.length (rc K.core))/\(i=4->W.ownsRow base 174 2 v K.core.length (rc K.core))/\(i=8->W.ownsRow base 188 2 v K.swap.length (rc K.swap))/\(i=9->W.ownsRow base 174 2 v K.swap.length (rc K.swap))
section
variable (m:Nat)(w:o_)
theorem iW (K:KS)(h:AY K w)(r:K.core.length<=1000)(s:K.swap.length<=1000):O_ m 59 #[Q_ K.kb] w λe w'=>Aa No w w'/\∃v v',e=.returned (.tuple #[v,v'])/\w'.ownsRow w.heap.size 174 2 v K.core.length (rc K.core)/\w'.ownsRow w.heap.size 174 2 v' K.swap.length (rc K.swap):=by
 gi_enter func59,ntmps59;gi_wp2;refine DI (P:=prog) No _ rfl rfl sU 10 14 [0,1,2,5,6,7] [3,4,8,9] sU (by rfl) (cp7 w.heap.size K) (λ_ _ _ _ _ h a=>⟨λe=>J9 (h.1 e) a,λe=>J9 (h.2.1 e) a,λe=>J9 (h.2.2.1 e) a,λe=>J9 (h.2.2.2 e) a⟩) _ _ rfl rfl ?_;gi_wp2;refine⟨rfl,sU,?_,?_,?_⟩
 .intro W a
  repeat' (refine AA ?_ ?_)
  all_goals first|exact dE|gi_wp2
 .intro i hi u W a d;have KW:Aa No w W:=(Aa.refl No w).drew.then a;have g:=h.no KW;obtain⟨q,n,l⟩:=g.k;obtain rfl|rfl|rfl|rfl:=(by simpa using hi:i=3\/i=4\/i=8\/i=9)
  .refine BI rfl λKK f=>?_
   show wpListIn NF m prog _ _ _ (Act.put (Act.put (Act.put (Act.put _ (some 7) (u 3)) (some 8) (u 4)) (some 12) (u 8)) (some 13) (u 9)) _;gi_wp2_with (gi_at_call 104;refine(zL _ W false 0 K.kb K.cg K.cc K.core ((Ai n 0).trans l.c0) g.mc r).mono ?_;rintro e w2 ⟨b,v,rfl,c⟩);exact⟨_,rfl,b,λ_=>Yd c KW.size,(λh=>qx h sN),(λh=>qx h sN),λh=>qx h sN⟩
  .have j:=(d 3 sJ sN).1 rfl;refine BI rfl λKK f=>?_
   show wpListIn NF m prog _ _ _ (Act.put (Act.put (Act.put (Act.put _ (some 7) (u 3)) (some 8) (u 4)) (some 12) (u 8)) (some 13) (u 9)) _;gi_wp2_with (gi_at_call 103;refine(eG _ W false w.heap.size (u 3) K.core j r).mono ?_;rintro e w2 ⟨b,v,rfl,c⟩);exact⟨_,rfl,b,(λh=>qx h sN),λ_=>Yd c KW.size,(λh=>qx h sN),λh=>qx h sN⟩
  .refine BI rfl λKK f=>?_
   show wpListIn NF m prog _ _ _ (Act.put (Act.put (Act.put (Act.put _ (some 7) (u 3)) (some 8) (u 4)) (some 12) (u 8)) (some 13) (u 9)) _;gi_wp2_with (gi_at_call 106;refine(zL _ W true 1 K.kb K.sg K.sc K.swap ((Ai n 1).trans l.c1) g.ms s).mono ?_;rintro e w2 ⟨b,v,rfl,c⟩);exact⟨_,rfl,b,(λh=>qx h sN),(λh=>qx h sN),λ_=>Yd c KW.size,λh=>qx h sN⟩
  .have j:=(d 8 sJ sN).2.2.1 rfl;refine BI rfl λKK f=>?_
   show wpListIn NF m prog _ _ _ (Act.put (Act.put (Act.put (Act.put _ (some 7) (u 3)) (some 8) (u 4)) (some 12) (u 8)) (some 13) (u 9)) _;gi_wp2_with (gi_at_call 105;refine(eG _ W true w.heap.size (u 8) K.swap j s).mono ?_;rintro e w2 ⟨b,v,rfl,c⟩);exact⟨_,rfl,b,(λh=>qx h sN),(λh=>qx h sN),(λh=>qx h sN),λ_=>Yd c KW.size⟩
 .intro u W a d;have KW:Aa No w W:=(Aa.refl No w).drew.then a;have o:=(d 4 sJ).2.1 rfl;have p:=(d 9 sJ).2.2.2 rfl;show wpListIn NF m prog _ _ _ (Act.put (Act.put (Act.put (Act.put _ (some 7) (u 3)) (some 8) (u 4)) (some 12) (u 8)) (some 13) (u 9)) _;gi_wp2;go_ret2;exact⟨KW,_,_,sJ,o,p⟩
end
theorem bp8 {rb:Nat}(h:w.heap[rb]?=some (N_ #[x,y,z] 147)):w.cell? (R_ rb)=some x/\w.cell? (S_ rb 1)=some y/\w.cell? (S_ rb 2)=some z:=by
 refine⟨?_,?_,?_⟩<;>rw[Ai h]<;>rfl
theorem nD {rb:Nat}{b c:n_}{x y:Int}{s:d_ f_}{k:Nat}(h:w.heap[rb]?=some (N_ #[a,b,c] 147)):∃w',(Instr.storeAt 147 (Q_ rb) (.agg #[b_ x,b_ y,.slice s n k])).run prog w=.ok () w'/\Aa (At rb) w w'/\w'.heap[rb]?=some (N_ #[b_ x,b_ y,.slice s n k] 147):=by
 have e:(Instr.storeAt 147 (Q_ rb) (.agg #[b_ x,b_ y,.slice s n k])).run prog w=(OV rb 0 [b_ x,b_ y,.slice s n k] (.pure ())).run prog w:=sU
 obtain⟨w',d,f,g⟩:=Hr (P:=prog) (k:=Sem.pure ()) [b_ x,b_ y,.slice s n k] 0 _ w h sJ (by simp[Value.oneCell']);refine⟨w',?_,f,?_⟩
 .rw[e,d];rfl
 .rw[g];simp[UI]
section
variable (m:Nat)(w:o_)
theorem zC (K:KS)(f:Nat)(name:Int)(h:AY K w)(tf:K.T f=(10,0)):O_ m 161 #[Q_ f,b_ name] w λe w'=>Aa No w w'/\∃a c,e=.returned (.agg #[b_ name,b_ (K.op f),.slice a (K.ct f).ws.length c])/\Xy w.heap.size (.slice a (K.ct f).ws.length c) (ints (K.ct f).ws) w':=by
 obtain⟨ws,p⟩:∃ws,Yp ((K.ct f).ws=ws):=⟨_,rfl⟩;rw[p.out];have I:Aa No w (w.alloc (.cells #[b_ 0,b_ 0,.slice none 0 0] 147)):=(Aa.refl _ _).alloc _;have H:(w.alloc (.cells #[b_ 0,b_ 0,.slice none 0 0] 147)).heap[w.heap.size]?=some (N_ #[b_ 0,b_ 0,.slice none 0 0] 147):=Yw rfl;have h1:=h.no I;have R:w.heap.size<(w.alloc (.cells #[b_ 0,b_ 0,.slice none 0 0] 147)).heap.size:=Dt H;gi_enter func161,ntmps161;gi_upto_region 1 with fail;generalize w.alloc (.cells #[b_ 0,b_ 0,.slice none 0 0] 147)=w1 at*;obtain⟨u,M,S⟩:=h1.fl.file f tf;obtain⟨W,hi,A,B,C⟩:=info_parts Yu;have d1:w1.cell? (S_ f 1)=some (b_ (K.op f)):=bce M rfl;rw[p.out]at S;clear p;obtain⟨rfl,rfl⟩|⟨b,X,rfl,hR,U,N,tg⟩:=S
 .have L:w1.cell? (R_ f)=some (.slice none 0 0):=bce M rfl;have l:=run_make (P:=prog) w1 22 3 W (b_ 0) underlying22 hi A .i64 .i64 0 0 wB wB (by rw[C];omega) wB;rw[B]at l;have l:(Instr.makeSlice 22 (b_ 0) (b_ 0)).run prog w1=.ok (P_ w1.heap.size 0 0) (w1.alloc (.cells (madeCells #[b_ 0] 0) 3)):=l;have o:Aa No w1 (w1.alloc (.cells (madeCells #[b_ 0] 0) 3)):=(Aa.refl _ _).alloc _;have Z:=o.has L;have e1:=o.has d1;obtain⟨w8,G,D,J⟩:=nD (x:=name) (y:=K.op f) (s:=some (R_ w1.heap.size)) (n:=0) (k:=0) (o.old H id);gi_wp2;refine wpIn_loop_once ?_;gi_wp2_with (refine BM rfl (.tmp 4) (.tmp 36) 147 rfl rfl rfl G ?_);refine bodyPost_ret (v:=.agg #[b_ name,b_ (K.op f),P_ w1.heap.size 0 0]) (by simp[results,results161,go_sem,bp8 J]) rfl ?_;exact⟨(I.then o).trans D (λk Q e=>qx (show k=w.heap.size from e) wB),some (R_ w1.heap.size),0,rfl,_,_,rfl,λh=>by simp[ints]at h⟩
 .have L:w1.cell? (R_ f)=some (P_ b ws.length X):=bce M rfl;have l:=run_make (P:=prog) w1 22 3 W (b_ 0) underlying22 hi A .i64 .i64 ws.length ws.length wB wB (by rw[C];omega) wB;rw[B]at l;simp only[Int.toNat_natCast,Nat.mul_one,Value.cells]at l;have r0:=Y8 w1 ws.length;have o:Aa No w1 (w1.alloc (.cells (madeCells #[b_ 0] ws.length) 3)):=(Aa.refl _ _).alloc _;generalize w1.alloc (.cells (madeCells #[b_ 0] ws.length) 3)=w2 at*;have Z:=o.has L;gi_wp2;gi_loopw [6,7,19] (λ_ _ i wr=>∃k:Nat,k<=ws.length/\i=b_ k/\Aa No w1 wr/\∃g,FO 3 .i64 wr w1.heap.size ws.length g/\Yp (∀j x,j<k->ws[j]?=some x->g j=(x:Nat))) (λ_ _ i _=>ws.length-(intOf i).toNat)
  case atStart=>exact⟨0,wB,rfl,o,_,r0,λj x h=>qx h wB⟩
  case round=>
   obtain⟨k,Q,rfl,KK,g,F,r⟩:=hrel
   by_cases O:k<ws.length
   .have E:ws[k]?=some ws[k]:=JM O;generalize ws[k]=x at E;have V:=N x (t_ E);have d:=KK.has ((hR.cell (i:=k) wB).trans (by simp[Aw,E]:(Aw ws)[k]?=some (a_ (x:Nat))));have ec:=F.cell O;have ez:=F.fz k;gi_wp2;go_roundw
    case rel=>exact⟨k+1,wB,by go_num,KK.setCell _ (λV=>qx V (Nat.lt_irrefl _)),_,F.set k x,λj z hj q=>by
     unfold upd
     by_cases e:j=k
     .subst e;rw[rW rfl];rw[E]at q;cases q;rfl
     .rw[ru e];exact r.out j z wB q⟩
    case measure=>simp[intOf];omega
   .obtain rfl:k=ws.length:=wB;have e1:=KK.has d1;obtain⟨w8,G,D,J⟩:=nD (x:=name) (y:=K.op f) (s:=some (R_ w1.heap.size)) (n:=ws.length) (k:=ws.length) (KK.old H id);gi_wp2_with (refine BM rfl (.tmp 4) (.tmp 36) 147 rfl rfl rfl G ?_);refine bodyPost_ret (v:=.agg #[b_ name,b_ (K.op f),P_ w1.heap.size ws.length ws.length]) (by simp[results,results161,go_sem,bp8 J]) rfl ?_;refine⟨(I.then KK).trans D (λk Q e=>qx (show k=w.heap.size from e) wB),some (R_ w1.heap.size),ws.length,rfl,some (R_ w1.heap.size),ws.length,by simp[ints],λ_=>?_⟩;obtain⟨Y,q1,q2,q3⟩:=F.keep D (show ¬At w.heap.size w1.heap.size from λe=>by have e:w1.heap.size=w.heap.size:=e;omega);refine⟨w1.heap.size,Y,rfl,wB,q1,λi z q=>?_⟩;simp only[ints,List.getElem?_map]at q;obtain⟨z',t,rfl⟩:=lT.1 q;have hi:=(Oc.1 t).1;rw[q3 i hi,r.out i z' hi t]
end
structure ϋ (base:Nat)(w:o_)(xs:U_)(fs:List (Int×Nat×List Nat)):Prop where
 len:xs.length=fs.length*3
 get:∀i q,fs[i]?=some q->xs[i*3]?=some (b_ q.1)/\xs[i*3+1]?=some (b_ (q.2.1:Nat))/\∃a c,xs[i*3+2]?=some (.slice a q.2.2.length c)/\Xy base (.slice a q.2.2.length c) (ints q.2.2) w
theorem ϋ.nil:ϋ base w [] []:=⟨rfl,λi q h=>by simp at h⟩
theorem ϋ.keep {xs:U_}{S:Nat->Prop}(h:ϋ base w xs fs)(d:Aa S w w')(f:∀k cs,base<=k->w.heap[k]?=some (N_ cs 3)->¬S k):ϋ base w' xs fs:=
 ⟨h.len,λi q hq=>let ⟨h1,h2,a,c,h3,h4⟩:=h.get i q hq;⟨h1,h2,a,c,h3,h4.keep d f⟩⟩
theorem ϋ.no {xs:U_}(h:ϋ base w xs fs)(d:Aa No w w'):ϋ base w' xs fs:=h.keep d λ_ _ _ _ x=>x
theorem XX {g:o_}{xs:U_}(h:g.ownsRow base 147 3 v n xs):∀x cs,base<=x->g.heap[x]?=some (N_ cs 3)->¬(v.ownBlock=some x):=λx cs _ e c=>by
 obtain⟨rfl,_⟩|⟨d,f,b,rfl,_,a,_⟩:=h.2
 .cases c
 .obtain rfl:d=x:=x_ c;rw[e]at a;cases a
theorem ϋ.snoc {xs:U_}{x:Int}{o:Nat}{l:List Nat}{a:d_ f_}(h:ϋ base w xs fs)(f:Xy base (.slice a l.length c) (ints l) w):ϋ base w (xs++[b_ x,b_ (o:Nat),.slice a l.length c]) (fs++[(x,o,l)]):=by
 refine⟨by simp[h.len];omega,λi q hq=>?_⟩;have d:=h.len;by_cases hi:i<fs.length
 .rw[List.getElem?_append_left hi]at hq;rw[List.getElem?_append_left wB,List.getElem?_append_left wB,List.getElem?_append_left wB];exact h.get i q hq
 .rw[List.getElem?_append_right wB]at hq;have b:i=fs.length:=by have:=(Oc.1 hq).1;simp at this;omega
  subst b;simp at hq;subst hq;rw[List.getElem?_append_right wB,List.getElem?_append_right wB,List.getElem?_append_right wB];rw[show fs.length*3-xs.length=0 by omega,show fs.length*3+1-xs.length=1 by omega,show fs.length*3+2-xs.length=2 by omega];exact⟨rfl,rfl,a,c,rfl,f⟩
def SK (K:KS):Nat->List (Int×Nat×List Nat)
 |0=>[]
 |k+1=>SK K k++match K.nm k with|some f=>[((k:Int),K.op f,(K.ct f).ws)]|none=>[]
def au (K:KS)(l:List Nat):List (Int×Nat×List Nat):=l.map λf=>(-1,K.op f,(K.ct f).ws)
theorem bi1:(prog.info? 147).map (λi=>(i.zero,i.size,i.bytes))=some (some (.agg #[b_ 0,b_ 0,.slice none 0 0]),3,40):=sU
theorem WU (h:w.heap[b]?=some (N_ #[x,y,z] t)):∀q u,([x,y,z]:U_)[q]?=some u->w.cell? (((R_ b):f_).add q)=some u:=λq u hq=>by
 rw[Addr.add_lit,Nat.zero_add,Ai h q,<-hq];simp
def dX (w:o_)(base:Nat)(v:n_)(fs:List (Int×Nat×List Nat)):Prop:=∃xs,w.ownsRow base 147 3 v fs.length xs/\ϋ base w xs fs
section
variable (m:Nat)(w:o_)
theorem bh3 (K:KS)(h:AY K w)(hnl:K.nl.length<=1000):O_ m 107 #[.pointer (some (S_ K.kb 4))] w λe w'=>Aa No w w'/\∃v,e=.returned v/\dX w' w.heap.size v (SK K 16++au K K.nl):=by
 obtain⟨V,C,F,G,H⟩:=info_parts bi1;obtain⟨es,Q,O⟩:=Β h;gi_enter func107,ntmps107;gi_wp2_with (refine Ws rfl (.tmp 10) 102 rfl rfl Q ?_);gi_loopw [3,4,5,12] (λa _ _ i wr=>∃k:Nat,k<=16/\i=b_ k/\Aa No w wr/\dX wr w.heap.size a (SK K k)) (λ_ _ _ i _=>16-(intOf i).toNat)
 case atStart=>exact⟨0,wB,rfl,Aa.refl _ _,[],World.ownsRow_nil _ _ _ _,ϋ.nil⟩
 case round=>
  obtain⟨k,l,rfl,KK,xs,u,b⟩:=hrel
  by_cases S:k<16
  .have T:(k:Int)<16:=wB;have t:=O k S wr;have U:=h.no KK;have D:(SK K k).length<=16:=by
    have key:∀k,(SK K k).length<=k:=λk=>by
     induction k with
     |zero=>exact w_
     |succ k ih=>simp only[SK,g_];cases K.nm k<;>simp<;>omega
    exact lN (key k) l
   cases hnm:K.nm k with
   |none=>
    rw[hnm]at t
    simp only[VJ]at t
    gi_wp2_with (refine Ry rfl (.tmp 11) (.tmp 12) 102 rfl rfl rfl t ?_)
    go_roundw
    case rel=>exact⟨k+1,wB,by go_num,KK,xs,by simpa [SK,hnm]using u,by simpa [SK,hnm]using b⟩
    case measure=>simp[intOf];omega
   |some f=>
    rw[hnm]at t
    simp only[VJ,ptr]at t
    obtain⟨ks,_,N⟩:=U.k
    have R:=(N.nm k S).2 f hnm
    have L:=λm=>zC m wr K f k U R
    gi_wp2_with (first|refine Ry rfl (.tmp 11) (.tmp 12) 102 rfl rfl rfl t ?_|(gi_at_call 161;refine(L _).mono ?_;rintro e w2 ⟨y,a,c,rfl,n⟩;have q:Aa No w2 (w2.alloc (.cells #[b_ (k:Int),b_ (K.op f:Nat),.slice a (K.ct f).ws.length c] 147)):=(Aa.refl _ _).alloc _;have r:=J9 (J9 u y) q;have KC:Aa No w (w2.alloc (.cells #[b_ (k:Int),b_ (K.op f:Nat),.slice a (K.ct f).ws.length c] 147)):=(KK.then y).then q)|(gi_at_builtin;refine wpListIn_append_own _ rfl (.tmp 18) (.tmp 22) 144 rfl w.heap.size 147 V (.agg #[b_ 0,b_ 0,.slice none 0 0]) 3 40 underlying144 C F G H rfl sN _ (SK K k).length xs rfl r (R_ w2.heap.size) 1 1 [b_ (k:Int),b_ (K.op f:Nat),.slice a (K.ct f).ws.length c] rfl rfl (WU (Yw rfl)) (by simp[Value.oneCell']) (by unfold maxLen;omega) wB KC.size ?_;intro W w4 d p _;have J:Aa No w w4:=KC.trans (Ef p λk l _=>l) (λx Z e=>qx (r.lt x e).1 wB);have z:=((b.no y).no q).keep (Ef p λk l _=>l) (XX r);have A:=((n.mono KK.size).no q).keep (Ef p λk l _=>l) (XX r);clear p n))
    go_roundw
    case rel=>exact⟨k+1,wB,by go_num,J,_,by simpa [SK,hnm]using d,by simpa [SK,hnm]using z.snoc (x:=k) (o:=K.op f) (a:=a) (c:=c) A⟩
    case measure=>simp[intOf];omega
  .obtain rfl:k=16:=wB;have D:(SK K 16).length<=16:=by
    have key:∀k,(SK K k).length<=k:=λk=>by
     induction k with
     |zero=>exact w_
     |succ k ih=>simp only[SK,g_];cases K.nm k<;>simp<;>omega
    exact key 16
   obtain⟨ks,P,N⟩:=h.k;obtain⟨v,t,hN,M⟩:=N.nl;have q20:=KK.has ((Ai P 20).trans t);obtain⟨rfl,s⟩|⟨g,c,rfl,hR,tg⟩:=hN
   .gi_wp2;refine wpIn_loop_once ?_;gi_wp2;go_ret;exact⟨KK,_,rfl,xs,by rw[s];simpa [au]using u,by rw[s];simpa [au]using b⟩
   .gi_wp2;gi_loopw [3,7,30] (λa _ i X=>∃j:Nat,j<=K.nl.length/\i=b_ j/\Aa No w X/\dX X w.heap.size a (SK K 16++au K (K.nl.take j))) (λ_ _ i _=>K.nl.length-(intOf i).toNat)
    case atStart=>exact⟨0,wB,rfl,KK,xs,by simpa [au]using u,by simpa [au]using b⟩
    case round=>
     obtain⟨j,hj,rfl,B,xs,u,b⟩:=hrel
     by_cases E:j<K.nl.length
     .have I:K.nl[j]?=some K.nl[j]:=JM E;generalize K.nl[j]=f at I;have R:=M f (t_ I);have d3:=B.has ((hR.cell (i:=j) wB).trans (by simp[Ce,I,ptr]:(Ce K.nl)[j]?=some (Q_ f)));have L:=λm=>zC m _ K f (-1) (h.no B) R
      have Y:(SK K 16++au K (K.nl.take j)).length<=2000:=(by simp[au];omega);have e2:SK K 16++au K (K.nl.take (j+1))=(SK K 16++au K (K.nl.take j))++[(-1,K.op f,(K.ct f).ws)]:=(by rw[List.take_add_one,I];simp[au]);gi_wp2_with (first|(gi_at_call 161;refine(L _).mono ?_;rintro e w2 ⟨y,a,c,rfl,n⟩;have q:Aa No w2 (w2.alloc (.cells #[b_ (-1),b_ (K.op f:Nat),.slice a (K.ct f).ws.length c] 147)):=(Aa.refl _ _).alloc _;have r:=J9 (J9 u y) q;have KC:Aa No w (w2.alloc (.cells #[b_ (-1),b_ (K.op f:Nat),.slice a (K.ct f).ws.length c] 147)):=(B.then y).then q)|(gi_at_builtin;refine wpListIn_append_own _ rfl (.tmp 34) (.tmp 37) 144 rfl w.heap.size 147 V (.agg #[b_ 0,b_ 0,.slice none 0 0]) 3 40 underlying144 C F G H rfl sN _ (SK K 16++au K (K.nl.take j)).length xs rfl r (R_ w2.heap.size) 1 1 [b_ (-1),b_ (K.op f:Nat),.slice a (K.ct f).ws.length c] rfl rfl (WU (Yw rfl)) (by simp[Value.oneCell']) (by unfold maxLen;omega) wB KC.size ?_;intro W w4 d p _;have J:Aa No w w4:=KC.trans (Ef p λk l _=>l) (λx Z e=>qx (r.lt x e).1 wB);have z:=((b.no y).no q).keep (Ef p λk l _=>l) (XX r);have A:=((n.mono B.size).no q).keep (Ef p λk l _=>l) (XX r);clear p n));go_roundw
      case rel=>exact⟨W,_,b_ ((j:Int)+1),_,_,_,_,_,_,_,_,_,⟨j+1,wB,sJ,J,_,by rw[e2,g_];exact d,by rw[e2];exact z.snoc (x:=-1) (o:=K.op f) (a:=a) (c:=c) A⟩,rfl⟩
      case measure=>simp[intOf];omega
     .obtain rfl:j=K.nl.length:=wB;gi_wp2;go_ret;exact⟨B,_,rfl,xs,by simpa using u,by simpa using b⟩
theorem Κ (K:KS)(h:AY K w)(d:K.nl.length<=1000):O_ m 63 #[Q_ K.kb] w λe w'=>Aa No w w'/\∃v,e=.returned v/\dX w' w.heap.size v (SK K 16++au K K.nl):=by
 have c:=λm=>bh3 m w K h d
 gi_enter func63,ntmps63;gi_wp2_with (gi_at_call 107;refine(c _).mono ?_;rintro e w1 ⟨a,v,rfl,b⟩);go_ret;exact⟨a,v,sJ,b⟩
end
end Go.Fxa
