/- How all stand; t -/
import Derived.Test.YtmhplpfpcnjekaaGreatA35
import Derived.Test.YtmhplpfpcnjekaaGreatA36
namespace Go.Fxa
open Conc Proofs RowKit Proofs.Tryz
set_option maxRecDepth 1000000
set_option maxHeartbeats 0
variable {n k b NC NS sb:Nat}{w w' v:o_}{K K':KS}{r:PR}{pid:Int}{kv:n_}
def Gw (c:Int)(n:Nat):Nat:=if c<0 then((-(c+1)) % (n:Int)).toNat else(c % (n:Int)).toNat
theorem NP (c:Int)(a:1<=n):Gw c n<n:=by
 unfold Gw;split
 .have:=Int.emod_lt_of_pos (-(c+1)) (show(0:Int)<n by omega);have:=Int.emod_nonneg (-(c+1)) (show(n:Int)≠0 by omega);omega
 .have:=Int.emod_lt_of_pos c (show(0:Int)<n by omega);have:=Int.emod_nonneg c (show(n:Int)≠0 by omega);omega
section
variable (m:Nat)(w:o_)
theorem NI (c:Int)(n r:Nat)(h:-9223372036854775808<=c)(f:c<=9223372036854775807)(i:1<=n)(g:n<=65536)(d:Gw c n=r):O_ m 16 #[b_ c,b_ n] w λe w'=>e=.returned (b_ r)/\w'=w:=by
 unfold Gw at d;by_cases a:c<0
 .rw[rW a]at d;gi_enter func16,ntmps16;gi_wp2
  all_goals go_ret
  refine⟨jy ?_,rfl⟩;have:=Int.emod_nonneg (-(c+1)) (show(n:Int)≠0 by omega);have e:-((c+1).tmod (n:Int))=(-(c+1)) % (n:Int):=by rw[<-Int.neg_tmod,Int.tmod_eq_emod_of_nonneg wB]
  simp only[e];omega
 .rw[ru a]at d;gi_enter func16,ntmps16;gi_wp2
  all_goals go_ret
  have b:=Int.emod_nonneg c (show(n:Int)≠0 by omega);exact⟨jy wB,rfl⟩
theorem Qe (v v':n_)(n:Nat)(f:Nat->Int)(h:SlI w v n f)(C:SlI w v' n f):O_ m 21 #[v,v'] w λe w'=>e=.returned (.bool true)/\Aa No w w':=by
 obtain⟨z,s,c,rfl,l⟩:=h;obtain⟨_,B,t,rfl,j⟩:=C;by_cases p:n=0
 .subst p;gi_enter func21,ntmps21;gi_wp2;refine wpIn_loop_once ?_;gi_wp2;go_ret;exact⟨sJ,Aa.refl _ _⟩
 .obtain⟨b,o,rfl,q⟩:=l wB;obtain⟨r,A,rfl,d⟩:=j wB;clear l j;gi_enter func21,ntmps21;gi_wp2;gi_loopw [5] (λi wr=>∃k:Nat,k<=n/\i=b_ k/\Aa No w wr) (λi _=>n-(intOf i).toNat)
  case atStart=>exact⟨0,Nat.zero_le _,rfl,Aa.refl _ _⟩
  case round=>
   obtain⟨k,y,rfl,a⟩:=hrel
   by_cases g:k<n
   .have u:=a.has (q k g);have x:=a.has (d k g);gi_wp2;gi_region
    all_goals gi_wp2
    all_goals go_roundw
    all_goals first|exact⟨k+1,wB,by go_num,a.drew⟩|(simp[intOf];omega)
   .gi_wp2;go_ret;exact⟨sJ,a⟩
end
theorem Rx {base:Nat}{e:j_}{size:Nat}{v:n_}{xs:U_}(h:w.ownsRow base e size v n xs)(l:Aa No w w'):w'.ownsRow base e size v n xs:=by
 obtain⟨j,i⟩:=h;refine⟨j,?_⟩;obtain i|⟨g,cap,f,a,b,c,d⟩:=i
 .exact .inl i
 .exact .inr ⟨g,cap,f,a,b,l.old c id,d⟩
def XB (K:KS)(k:Nat):U_:=(K.Ar.take k).map λb=>b_ (match K.ps b with|some r=>(r.pid:Int)|none=>0)
theorem ϱ (h:K.Ar[k]?=some b)(a:K.ps b=some r):XB K (k+1)=XB K k++[b_ r.pid]:=by
 unfold XB;rw[List.take_add_one,h];simp[a]
section
variable (m:Nat)(w:o_)
theorem uw (K:KS)(h:AY K w)(hT:K.ED)(J:K.Ar.length<=12):O_ m 50 #[Q_ K.kb] w λe w'=>Aa No w w'/\∃v,e=.returned v/\w'.ownsRow w.heap.size 3 1 v K.Ar.length (XB K K.Ar.length):=by
 have H:=h.kc2;obtain⟨F,j,l,n,o⟩:=info_parts Yu;gi_enter func50,ntmps50;gi_wp2;gi_loopw [3,11] (λa i wr=>∃k:Nat,k<=K.Ar.length/\i=b_ k/\Aa No w wr/\wr.ownsRow w.heap.size 3 1 a k (XB K k)) (λ_ i _=>K.Ar.length-(intOf i).toNat)
 case atStart=>exact⟨0,wB,rfl,Aa.refl _ _,World.ownsRow_nil _ _ _ _⟩
 case round=>
  obtain⟨k,y,rfl,KK,p⟩:=hrel
  by_cases B:k<K.Ar.length
  .have f:K.Ar[k]?=some K.Ar[k]:=JM B;generalize K.Ar[k]=b at f;obtain⟨r,A⟩:=AY.mem hT f;have t:=h.no KK;have D:=t.mf f;have d1:=t.Iu A 0;simp only[ptr]at D;simp[PR.arr]at d1;have g:Aa No wr (wr.alloc (.cells #[b_ r.pid] 3)):=(Aa.refl _ _).alloc _;have c:∀q u,([b_ r.pid]:U_)[q]?=some u->(wr.alloc (.cells #[b_ r.pid] 3)).cell? (((R_ wr.heap.size):f_).add q)=some u:=λq u hq=>by
    match q,hq with
    |0,hq=>
     have E:(wr.alloc (.cells #[b_ r.pid] 3)).heap[wr.heap.size]?=some (N_ #[b_ r.pid] 3):=Yw rfl
     rw[Addr.add_lit]
     refine(Ai E 0).trans ?_
     simpa using hq
   have z:(wr.alloc (.cells #[b_ r.pid] 3)).ownsRow w.heap.size 3 1 _ k (XB K k):=Rx p g;gi_wp2_with (gi_at_builtin;refine wpListIn_append_own _ rfl (.tmp 15) (.tmp 20) 22 rfl w.heap.size 3 F (b_ 0) 1 8 underlying22 j l n o rfl sN _ k (XB K k) rfl z (R_ wr.heap.size) 1 1 [b_ r.pid] rfl rfl c (by simp[Value.oneCell']) (by unfold maxLen;omega) wB (lN KK.size g.size) ?_;intro I w4 d s _;have C:Aa No w w4:=(KK.then g).trans (Ef s λk y _=>y) (λx G e=>qx (z.lt x e).1 wB);clear s);go_roundw
   case rel=>exact⟨k+1,wB,by go_num,C,by rw[ϱ f A];exact d⟩
   case measure=>simp[intOf];omega
  .obtain rfl:k=K.Ar.length:=wB;gi_wp2;go_ret;exact⟨KK,by simpa using p⟩
end
theorem UU {e:Ending}(ok:DU NC NS K)(q:K.Ar[k]?=some b)(p:K.ps b=some r)(h:Aa No w w'/\am2 K r.pid w.heap.size e w'):Aa No w w'/\∃o a7 n7 c7 a8 n8 c8,e=.returned (.tuple #[.agg (Yt r o (.slice a7 n7 c7) (.slice a8 n8 c8)),b_ 0])/\StX K r o/\Xy w.heap.size (.slice a7 n7 c7) (ints r.Af) w'/\Xy w.heap.size (.slice a8 n8 c8) r.fds w':=by
 obtain⟨g,⟨f,j,o,l,m,c,a,i,e1,e2,e3,e4⟩|⟨_,d⟩⟩:=h
 .obtain rfl:=ok.one f j b r c (t_ q) a p wB;rw[p]at a;cases a;obtain⟨a7,c7,rfl,_⟩:=id e3;obtain⟨a8,c8,rfl,_⟩:=id e4;exact⟨g,o,a7,_,c7,a8,_,c8,e1,e2,e3,e4⟩
 .exact qx rfl (d b (t_ q) r p)
theorem br1:(prog.funcs[13]?).any (·.norace)=false:=sU
theorem vk:ES prog 13=Tryz.f13.body.getD .skip:=sU
def bq (P:l_)(i:Nat):Code:=piece (behind i (ES P 13))
def bX (P:l_)(i:Nat):Code:=behind i (ES P 13)
theorem bl7:(bq prog 1).AP (Bh prog)=true:=sU
theorem bl6:(bq prog 2).AP (Bh prog)=true:=sU
theorem bm4:(bX prog 4).AP (Bh prog)=true:=sU
theorem bm5:bX prog 2=(bq prog 2).seq (bX prog 3):=sU
section
variable (kp told er:n_)(cs:Z_)(f:Y_)(c0:Frame)
def bA (P:l_:=prog):Frame×Z_:=run P 5 (Frame.enter P 13 #[] .normal,cs)
theorem dc2:AU prog 5 (Frame.enter prog 13 #[] .normal,cs)=some []:=sU
theorem dc1:Ea (bA cs)=(13,[.code (bq prog 1),.code (bX prog 2)],[],.run,.normal,none,cs):=sU
theorem dc0:(bA cs).1.tmps.size=63:=sU
def bB (P:l_:=prog):Frame×Z_:=(Frame.mk 13 (TN 63 (AQ f [(1,kp)])) [.code (bX P 3)] [] .run .normal none,cs)
theorem db9:AU prog 4 (bB kp cs f)=some []:=sU
def bC (P:l_:=prog):Frame:=(below (run P 4 (bB kp cs f P))).1
theorem db8:run prog 4 (bB kp cs f)=(Frame.enter prog 19 #[kp,b_ 1,b_ 1] .normal,bC kp cs f::cs):=sU
def bD (P:l_:=prog):Frame×Z_:=run P 6 ((bC kp cs f P).finish (.tuple #[told,er]),cs)
theorem db7:AU prog 6 ((bC kp cs f).finish (.tuple #[told,er]),cs)=some []:=sU
theorem db6:Ea (bD kp told er cs f)=(13,[.code (bX prog 4)],[],.run,.normal,none,cs):=sU
theorem db5:X3 (bD kp told er cs f) [1,3,4]=[kp,told,er]:=sU
theorem db4:(bD kp told er cs f).1.tmps.size=63:=sU
theorem db3 (b:Bool)(todo:List Item):AU prog 1 (Frame.mk 13 (TN 63 (AQ f [(0,.bool b)])) todo [] .returning .normal none,c0::cs)=some []:=sU
theorem db2 (b:Bool)(todo:List Item):run prog 1 (Frame.mk 13 (TN 63 (AQ f [(0,.bool b)])) todo [] .returning .normal none,c0::cs)=(c0.finish (.bool b),cs):=sU
end
def Beg (K:KS):Prop:=∃b r,K.Ar=[b]/\K.ps b=some r/\r.pid=1/\r.P=0/\r.Af=[11,12,0,0,0,0,0,0]/\r.en=false/\r.bl=.nilFunc
theorem BZ.at {r':PR}(h:BZ K K')(hb:K'.ps b=some r'):∃r c,K.ps b=some r/\r'={r with co:=c}:=by
 obtain⟨f,a⟩:=h.ps;have:=a b;rw[hb]at this;cases e:K.ps b with
 |none=>rw[e]at this;cases this
 |some r=>rw[e]at this;exact⟨r,f b,rfl,x_ this⟩
theorem serves:VZ NC NS b K n:=λm w _ _ K _ call _ _ d ok a hb c=>bb4 m w K NC NS b call _ d ok a hb c
theorem Beg.pick {CU:List Ev}{e:Int}(h:Beg K)(Y:LW K 1 1 CU e K'):e=0/\CU=[(1,12,1,0)]/\∃b r,b∈K'.Ar/\K'.ps b=some r/\r.A=1/\r.P=2/\r.Af.length=8/\r.pid=1:=by
 obtain⟨b,r,p,q,F,M,N,G,O⟩:=h;obtain⟨z,_⟩|⟨E,W,t,g,_,⟨V,_⟩|⟨_,m,_⟩|⟨_,_,rfl,w,_⟩⟩:=Y
 .exact qx (by rw[F];rfl) (z b (by rw[p];simp) r q)
 .omega
 .obtain rfl:b=E:=by rw[p]at t;exact(List.mem_singleton.1 t).symm
  rw[q]at g;cases g;exact qx (by unfold KS.BV KS.blk;rw[G,O];rfl) m
 .obtain rfl:b=E:=by rw[p]at t;exact(List.mem_singleton.1 t).symm
  rw[q]at g;cases g;obtain⟨U,⟨u,r0,H,B,rfl,_⟩,w⟩:=w;obtain⟨a,c,e1,e2⟩:=H.at B;rw[q]at e1;cases e1;have key:∀{k:KS} {n:PR} {s call:Nat} {a:PR},k=u.Bj b {r0 with bl:=.nilFunc}->k.ps b=some n->EO n=(s,call,a)->s=1/\call=12/\a.pid=1/\a.P=2/\a.Af.length=8/\a.en=false/\b∈(k.Bj b a).Ar/\(k.Bj b a).ps b=some a:=fun {k n s call a} R h m=>by
   subst R
   rw[show(u.Bj b {r0 with bl:=.nilFunc}).ps b=some {r0 with bl:=.nilFunc} from Ag]at h
   cases h
   subst e2
   unfold EO XR at m
   simp[M,N]at m
   obtain⟨rfl,rfl,rfl⟩:=m
   refine⟨rfl,rfl,F,rfl,sJ,G,?_,Ag⟩
   show b∈u.Ar
   rw[H.Ar,p];simp
  have d:∀{D i:KS} {a:PR} {x y:Nat} {f:n_},a.pid=1->UM D b a 12 i x y f->i=D/\x=1/\y=0/\f=.nilFunc:=λS h=>by
   obtain⟨h,_⟩|⟨_,a1,a2,J,L⟩:=h
   .exact qx (.inl rfl) h
   .exact⟨a1,a2.trans S,J,L⟩
  obtain⟨e1,v,K1',⟨rfl,rfl⟩,⟨n,s,call,a,x1,C,l⟩,rfl⟩|⟨j,e1,v,i,Q,hR,⟨n,s,call,a,x1,C,l⟩,rfl⟩:=w
  .obtain⟨rfl,rfl,o,I,y3,y4,y5,y6⟩:=key rfl x1 C;obtain⟨h,_⟩|⟨_,i,x,y,T,hX,z1,X,rfl,rfl⟩:=l
   .cases h
   .obtain⟨rfl,rfl,rfl,_⟩:=d o hX.1;rw[y6]at z1;cases z1;refine⟨rfl,by simp[o],b,_,?_,Ag,rfl,I,y3,o⟩;exact y5
  .obtain rfl:j=0:=(by have:j<1:=Q;omega);obtain⟨rfl,rfl⟩:=hR;obtain⟨rfl,rfl,o,I,y3,y4,y5,y6⟩:=key rfl x1 C;obtain⟨h,_⟩|⟨_,i,x,y,f,T,hX,z1,l⟩:=l
   .cases h
   .obtain⟨rfl,rfl,rfl,rfl⟩:=d o hX.1;rw[y6]at z1;cases z1;obtain⟨_,h,_⟩|⟨⟨_,_,_,h⟩,_⟩:=l
    .rw[y4]at h;cases h
    .cases h
def dd2 (w:o_)(tm:X_)(w':o_):Prop:=Aa No w w'/\∃K C M g,tm=TN 63 (AQ g [(1,ptr K.kb)])/\tm=TN 63 (AQ g [(1,ptr K.kb),(2,b_ 0)])/\AY K w'/\DU C M K/\Beg K/\∀k,K.T k≠(0,0)->w.heap.size<=k
def yY (i:Nat):Int:=if i=0 then 11 else 12
def ό (f:Y_)(a b c d e:n_):X_:=#[a,b,c,d,e,f 5,f 6,f 7,f 8,f 9,f 10,f 11,f 12,f 13,f 14,f 15,f 16,f 17,f 18,f 19,f 20,f 21,f 22,f 23,f 24,f 25,f 26,f 27,f 28,f 29,f 30,f 31,f 32,f 33,f 34,f 35,f 36,f 37,f 38,f 39,f 40,f 41,f 42,f 43,f 44,f 45,f 46,f 47,f 48,f 49,f 50,f 51,f 52,f 53,f 54,f 55,f 56,f 57,f 58,f 59,f 60,f 61,f 62]
theorem cu7:(iE 2 (8*Aj 2) λi=>(yY i).toNat)=[11,12,0,0,0,0,0,0]:=sN
section
variable (m:Nat)(w:o_)(f:Y_)
theorem bm1:(bq prog 1).wpIn NF m prog (Ends (dd2 w)) ⟨TN 63 (AQ f []),[]⟩ w:=by
 unfold bq;rw[vk];dsimp only[Tryz.f13,Option.getD,behind,piece];show Code.wpIn (Fence.list LF none) m prog _ _ ⟨ό f (f 0) (f 1) (f 2) (f 3) (f 4),[]⟩ _;unfold ό;have c:Aa No w (w.alloc (.cells #[b_ 11,b_ 12] 3)):=(Aa.refl _ _).alloc _;have g:(w.alloc (.cells #[b_ 11,b_ 12] 3)).heap[w.heap.size]?=some (N_ #[b_ 11,b_ 12] 3):=Yw rfl;have l:aJ (w.alloc (.cells #[b_ 11,b_ 12] 3)) (P_ w.heap.size 2 2) 2 yY:=⟨⟨_,_,rfl⟩,λ_=>⟨wB,_,_,rfl,λ_=>⟨_,_,rfl,λi hi=>by
  have:i=0\/i=1:=wB
  obtain rfl|rfl:=this<;>rw[Ai g]<;>rfl⟩⟩⟩;have j:Pg (w.alloc (.cells #[b_ 11,b_ 12] 3)) (.slice none 0 0) 0 (λ_=>(.slice none 0 0,0,λ_=>0)):=⟨_,_,rfl,λh=>qx h wB⟩;gi_wp2_with fail;refine(Yq _ (w.alloc (.cells #[b_ 11,b_ 12] 3)) 16 20 _ _ 2 0 yY _ l j).mono ?_;rintro e w1 ⟨d,⟨_,a⟩|⟨K,b,s,r,C,M,rfl,q,ok,o,hb,p,_⟩⟩
 .exact(a JF.zero ⟨wB,⟨wB,wB,λi hi=>by unfold yY;split<;>omega⟩,by unfold Aj;omega⟩).elim
 .rw[cu7]at hb;unfold ptr;gi_wp2;exact⟨rfl,rfl,c.then d,K,C,M,_,BH rfl (by simp[ptr]),BH rfl (by simp[ptr]),q,ok,⟨b,_,o,hb,rfl,rfl,rfl,rfl,rfl⟩,λk n=>lN c.size (p k n)⟩
theorem bm3 (kb:Nat):(bq prog 2).wpIn NF m prog (Ends λa w'=>(∃g,a=TN 63 (AQ g [(1,ptr kb)]))/\Aa No w w') ⟨TN 63 (AQ f [(1,ptr kb),(2,b_ 0)]),[]⟩ w:=by
 unfold bq;rw[vk];dsimp only[Tryz.f13,Option.getD,behind,piece];show Code.wpIn (Fence.list LF none) m prog _ _ ⟨ό f (f 0) (ptr kb) (b_ 0) (f 3) (f 4),[]⟩ _;unfold ό ptr;gi_wp2;exact⟨rfl,rfl,⟨_,BH rfl sJ⟩,Aa.refl _ _⟩
theorem bm2 (NC NS:Nat)(K:KS)(told:n_)(b:Nat)(r:PR)(h:AY K w)(ok:DU NC NS K)(Q:w.ownsRow 0 59 4 told 1 (SS [(1,12,1,0)]))(T:b∈K.Ar)(hb:K.ps b=some r)(hA:r.A=1)(S:r.P=2)(hi:r.Af.length=8)(R:r.pid=1):
  (bX prog 4).wpIn NF m prog (SX λU w'=>(∃g,U=TN 63 (AQ g [(0,.bool true)]))/\Aa No w w') ⟨TN 63 (AQ f [(1,ptr K.kb),(3,told),(4,b_ 0)]),[]⟩ w:=by
 obtain⟨k,z⟩:=List.mem_iff_getElem?.1 T;have j:=λm=>(QL m w NC NS K r.pid h ok).mono λe w2 h=>UU ok z hb h
 rw[R]at j;obtain⟨l,I,C⟩:∃g c,told=P_ g 1 c:=by
  obtain⟨_,e⟩|⟨g,cap,v,e,_⟩:=Q.2
  .omega
  .exact⟨g,cap,e⟩
 subst C;have E:w.cell? (R_ l)=some (b_ 1):=Q.cellAt 0 wB;have F:w.cell? (S_ l 1)=some (b_ 12):=Q.cellAt 1 wB;have G:w.cell? (S_ l 2)=some (b_ 1):=Q.cellAt 2 wB;have H:w.cell? (S_ l 3)=some (b_ 0):=Q.cellAt 3 wB;unfold bX;rw[vk];dsimp only[Tryz.f13,Option.getD,behind];show Code.wpIn (Fence.list LF none) m prog _ _ ⟨ό f (f 0) (ptr K.kb) (f 2) (P_ l 1 I) (b_ 0),[]⟩ _;unfold ό ptr;gi_upto_region 6 with(first|(gi_at_call 20;refine(j _).mono ?_;rintro e w2 ⟨t,D,a7,n7,c7,a8,n8,c8,rfl,y,q,i8⟩;obtain⟨w3,i,p,n⟩:=EK (w:=w2.alloc (.cells Ez 48)) (rb:=w2.heap.size) (a:=r.pid) (b:=r.par) (c:=D) (d:=r.A) (e:=r.B) (f:=r.P) (g:=r.st) (n7:=n7) (c7:=c7) (n8:=n8) (c8:=c8) (a7:=a7) (a8:=a8) (Yw rfl))|refine BM rfl (.tmp 5) (.tmp 27) 48 rfl rfl rfl i ?_);have u:Aa No w2 w3:=((Aa.refl No w2).alloc (.cells Ez 48)).trans p (λx O e=>qx (show x=w2.heap.size from e) wB);have o:n7=8:=by
  obtain⟨s,c,e,_⟩:=q
  cases e
  simp[ints,hi]
 subst o;have K23:=t.then u;have J:=K23.has E;have d1:=K23.has F;have d2:=K23.has G;have d3:=K23.has H;have L:w3.cell? (S_ w2.heap.size 3)=some (b_ 1):=by rw[Ai n];simp[Jq,hA]
 have M:w3.cell? (S_ w2.heap.size 5)=some (b_ 2):=by rw[Ai n];simp[Jq,S]
 have N:w3.cell? (S_ w2.heap.size 7)=some (.slice a7 8 c7):=bce n rfl;clear hA S hi R i n p q i8 y;gi_wp2;exact⟨rfl,rfl,⟨_,BH rfl sJ⟩,K23⟩
end
theorem BQ.low {T T':Tag}{v0 v':o_}(M:BQ T T' v v')(c:Aa No v0 v)(d:∀k,T k≠(0,0)->v0.heap.size<=k):Aa No v0 v'/\∀k,T' k≠(0,0)->v0.heap.size<=k:=by
 refine⟨c.trans M.keep (λk a e=>qx (d k e) wB),λk a=>?_⟩;by_cases e:k<v.heap.size
 .exact d k (by rw[<-CG.fresh M k e];exact a)
 .exact lN c.size wB
theorem Uw {Od:Old}{c0:Frame}{cs:Z_}{R:Frame×Z_->o_->Prop}(J:∀v',Aa No v v'->ag Od prog (c0.finish (.bool true),cs) v' R):ag Od prog (Frame.enter prog 13 #[] .normal,c0::cs) v R:=by
 refine ag.AU (dc2 _) ?_;rw[show run prog 5 (Frame.enter prog 13 #[] .normal,c0::cs)=bA (c0::cs)from rfl,at_toldM (l:=[]) (dc1 _) rfl (dc0 _)];refine ag.part (m:=0) br1 rfl bl7 (λv1 _=>bm1 0 v1 _) λv1 o v2 j ⟨s,K,C,M,g,_,e,E,ok,hB,D⟩=>?_
 subst e;rw[bm5];refine ag.seq (ag.part (m:=0) br1 rfl bl6 (λv1 _=>bm3 0 v1 _ _) λv3 o v4 t ⟨⟨f,e⟩,u⟩=>?_);subst e;have n:=t.then u;refine ag.AU (x:=bB (ptr K.kb) (c0::cs) f) (db9 _ _ _) ?_;rw[db8];refine Jg (E.no n) ok (λ_ _ _ _ _ _=>serves) λtold e I q G a=>?_
 obtain⟨rfl,rfl,b,r,B,hb,hA,h,hi,y⟩:=hB.pick a.x;have c:=fH a.told.row (Nat.zero_le _);have i:=a.kb;refine ag.AU (db7 _ _ _ _ _) ?_;rw[show run prog 6 ((bC (ptr K.kb) (c0::cs) f).finish (.tuple #[told,b_ 0]),c0::cs)=bD (ptr K.kb) told (b_ 0) (c0::cs) f from rfl,at_toldM (l:=[(1,ptr K.kb),(3,told),(4,b_ 0)]) (db6 _ _ _ _ _) (db5 _ _ _ _ _) (db4 _ _ _ _ _),<-i];refine ag.aP (m:=0) br1 rfl bm4 (λv6 d=>bm2 0 v6 _ C M q told b r (a.ka.no d) a.ok (Rx c d) B hb hA h hi y) λv6 o p F d ⟨⟨H,e⟩,w⟩=>?_
 subst e;refine ag.AU (db3 _ _ _ _ _) ?_;rw[db2];refine J F ?_;have z:Aa No v v4:=(j.then s).then n;have A:=(a.mv.low z (λk J=>lN j.size (D k J))).1;exact A.then (d.then w)
abbrev Fr (fn:h_)(N:Nat)(f:Y_)(l:List (Nat×n_))(k:List Item)(cs:Z_):Frame×Z_:=(Frame.mk fn (TN N (AQ f l)) k [] .run .normal none,cs)
def Bv (n:Nat)(x:Frame×Z_)(fn:h_)(N:Nat)(l:List (Nat×n_))(k:List Item)(cs:Z_):Prop:=(AU prog n x,Ea (run prog n x),X3 (run prog n x) (l.map (·.1)),(run prog n x).1.tmps.size)=(some [],(fn,k,[],.run,.normal,none,cs),l.map (·.2),N)
def Uc (n:Nat)(x:Frame×Z_)(fn:h_)(args:X_)(cs:Z_):Prop:=(AU prog n x,run prog n x)=(some [],(Frame.enter prog fn args .normal,(below (run prog n x)).1::cs))
def rd2 (n:Nat)(x:Frame×Z_)(a b:n_)(P:l_:=prog):Frame×Z_:=run P 1 (BK (run P 1 (BK (run P n x) a)) b)
def aY (n:Nat)(x:Frame×Z_)(sb:Nat)(pid nn:Int)(kv:n_)(cs:Z_):Prop:=(AU prog n x,G6 prog (run prog n x) [b_ pid],AU prog 1 (BK (run prog n x) (b_ pid)),G6 prog (run prog 1 (BK (run prog n x) (b_ pid))) [b_ nn],AU prog 1 (BK (run prog 1 (BK (run prog n x) (b_ pid))) (b_ nn)),rd2 n x (b_ pid) (b_ nn))=(some [],some ([(S_ sb 1)],b_ pid),some [],some ([(S_ sb 2)],b_ nn),some [],(Frame.enter prog 19 #[kv,b_ pid,b_ nn] .normal,(below (rd2 n x (b_ pid) (b_ nn))).1::cs))
def rd1 (n k:Nat)(x:Frame×Z_)(a:n_)(P:l_:=prog):Frame×Z_:=run P k (BK (run P n x) a)
def lW (n k:Nat)(x:Frame×Z_)(sb:Nat)(pid:Int)(nv kv:n_)(cs:Z_):Prop:=(AU prog n x,G6 prog (run prog n x) [b_ pid],AU prog k (BK (run prog n x) (b_ pid)),rd1 n k x (b_ pid))=(some [],some ([(S_ sb 1)],b_ pid),some [],(Frame.enter prog 19 #[kv,b_ pid,nv] .normal,(below (rd1 n k x (b_ pid))).1::cs))
section
variable {Od:Old}{x:Frame×Z_}{v:o_}{Q:Frame×Z_->o_->Prop}{n N:Nat}{fn:h_}{l:List (Nat×n_)}{k:List Item}{cs:Z_}{args:X_}
theorem ag.told (h:Bv n x fn N l k cs)(a:∀g,ag Od prog (Fr fn N g l k cs) v Q):ag Od prog x v Q:=by
 unfold Bv at h;simp only[lQ]at h;refine ag.AU h.1 ?_;rw[at_toldM (x:=run prog n x) (l:=l) (by rw[h.2.1]) h.2.2.1 h.2.2.2];exact a _
theorem ag.enters (h:Uc n x fn args cs)(c:ag Od prog (Frame.enter prog fn args .normal,(below (run prog n x)).1::cs) v Q):ag Od prog x v Q:=by
 obtain⟨a,b⟩:=Prod.mk.inj h;refine ag.AU a ?_;rw[b];exact c
theorem ag.asks {g:Int}(h:aY n x sb pid g kv cs)(c1:v.cell? (S_ sb 1)=some (b_ pid))(c2:v.cell? (S_ sb 2)=some (b_ g))(i:ag Od prog (Frame.enter prog 19 #[kv,b_ pid,b_ g] .normal,(below (rd2 n x (b_ pid) (b_ g))).1::cs) v Q):ag Od prog x v Q:=by
 unfold aY at h;simp only[lQ]at h;obtain⟨a,b,c,d,e,f⟩:=h;refine ag.AU a (ag.reads b ⟨c1,dE⟩ (ag.AU c (ag.reads d ⟨c2,dE⟩ (ag.AU e ?_))));show ag Od prog (rd2 n x (b_ pid) (b_ g)) v Q;rw[f];exact i
theorem ag.bt6 {k':Nat}{e:n_}(h:lW n k' x sb pid e kv cs)(c1:v.cell? (S_ sb 1)=some (b_ pid))(f:ag Od prog (Frame.enter prog 19 #[kv,b_ pid,e] .normal,(below (rd1 n k' x (b_ pid))).1::cs) v Q):ag Od prog x v Q:=by
 unfold lW at h;simp only[lQ]at h;obtain⟨a,b,c,d⟩:=h;refine ag.AU a (ag.reads b ⟨c1,dE⟩ (ag.AU c ?_));show ag Od prog (rd1 n k' x (b_ pid)) v Q;rw[d];exact f
end
end Go.Fxa
