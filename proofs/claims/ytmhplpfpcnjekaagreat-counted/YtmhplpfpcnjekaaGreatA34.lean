/- May there be such a machine? -/
import Derived.Test.YtmhplpfpcnjekaaGreatA33
import Derived.Sort.CutIn
namespace Go.Fxa
open Conc Proofs RowKit Proofs.Tryz
set_option maxRecDepth 1000000
set_option maxHeartbeats 0
def kZ (w:o_) (v:n_) (n:Nat) (f:Nat->Int):Prop:=(∃s c,v=.slice s n c)/\(n<=128->SlI w v n f)
theorem kZ.kp {w w':o_} {v:n_} {n:Nat} {f:Nat->Int} (h:kZ w v n f) (hK:Keep No w w'):kZ w' v n f:=⟨h.1,λa=>(h.2 a).keep hK⟩
def Uo (w:o_) (v:n_) (nf:Nat) (ff:Nat->n_×Nat×(Nat->Int)):Prop:=∃s c,v=.slice s nf c/\(0<nf->∃b o,s=some (T_ b o)/\∀i,i<nf->w.cell? (T_ b (o+i))=some (ff i).1/\kZ w (ff i).1 (ff i).2.1 (ff i).2.2)
theorem Uo.kp {w w':o_} {v:n_} {nf:Nat} {ff:Nat->n_×Nat×(Nat->Int)} (h:Uo w v nf ff) (hK:Keep No w w'):Uo w' v nf ff:=let ⟨s,c,e,h2⟩:=h;⟨s,c,e,λd=>let ⟨b,o,e',h3⟩:=h2 d;⟨b,o,e',λi a=>⟨hK.has (h3 i a).1,(h3 i a).2.kp hK⟩⟩⟩
def Ε (ff:Nat->n_×Nat×(Nat->Int)) (k:Nat):Prop:=∀i,i<k->(ff i).2.1<=64/\Words (ff i).2.1 (ff i).2.2
def ZF (L:Nat->Nat) (k:Nat):Nat:=Ie (λi=>Aj (L i)) k
def vK (nf:Nat) (ff:Nat->n_×Nat×(Nat->Int)) (e:Ending):Prop:=∃r:Bool,e=.returned (.bool r)/\(r=true->nf<=16/\Ε ff nf/\ZF (λi=>(ff i).2.1) nf<=40)/\(nf=0->r=true)
theorem vK.no {nf:Nat} {ff:Nat->n_×Nat×(Nat->Int)} (h:nf≠0):vK nf ff (.returned (.bool false)):=⟨false,rfl,(λh=>by cases h),λe=>absurd e h⟩
def YR (core swap:Int) (n:Nat) (f:Nat->Int):Prop:=(16<=core/\core<=64/\1<=swap/\swap<=256)/\(1<=n/\n<=128/\Words n f)/\(Aj n:Int)<=swap
def V3 (core swap:Int) (n:Nat) (f:Nat->Int) (nf:Nat) (ff:Nat->n_×Nat×(Nat->Int)) (e:Ending):Prop:=∃r:Bool,e=.returned (.bool r)/\(r=true->YR core swap n f/\nf<=16/\Ε ff nf/\ZF (λi=>(ff i).2.1) nf<=40)/\(nf=0->YR core swap n f->r=true)
theorem V3.no {core swap:Int} {n nf:Nat} {f:Nat->Int} {ff:Nat->n_×Nat×(Nat->Int)} (h:¬YR core swap n f):V3 core swap n f nf ff (.returned (.bool false)):=⟨false,rfl,(λh=>by cases h),λ_ e=>absurd e h⟩
theorem pX {n:Nat} (h:n<=64):Aj n<=8:=by unfold Aj;omega
section
variable (m:Nat) (w:o_)
theorem Zh {F:Fence} {n:Nat} {P:l_} {ops:Array Oper} {Q:Exit->Act->o_->Prop} {a:Act} {w:o_} {rest:List Oper} {o:Oper} (hw:Region.wanted o (yielded ops a.tmps)=false) (ha:o.about P w a.eval=none) (hp:a.put o.dst undef=a) (h:wpListIn F n P ops Q rest a w):wpListIn F n P ops Q (o::rest) a w:=
 wpListIn_skip hw ha (by rw[hp];exact h)
theorem pY (v:n_) (nf:Nat) (ff:Nat->n_×Nat×(Nat->Int)) (h:Uo w v nf ff):P_ m 88 #[v] w λe w'=>Keep No w w'/\vK nf ff e:=by
 obtain⟨s,c,rfl,B⟩:=h;by_cases g:nf=0
 .subst g;gi_enter func88,ntmps88;gi_wp2;refine wpIn_loop_once ?_;gi_wp2;go_ret;exact⟨p_ _ _,true,by simp,λ_=>⟨by omega,λi l=>absurd l (by omega),Nat.zero_le _⟩,λ_=>rfl⟩
 by_cases F:(16:Int)<nf
 .gi_enter func88,ntmps88;gi_wp2;go_ret;exact⟨p_ _ _,vK.no g⟩
 obtain⟨b,o,rfl,K⟩:=B (by omega);clear B;gi_enter func88,ntmps88;gi_wp2;gi_loopw [3,11] (λa i wr=>∃(k:Nat) (x:Int),k<=nf/\a=b_ x/\0<=x/\x<=8*k/\i=b_ k/\Keep No w wr/\Ε ff k/\Nonempty (PLift (x=(ZF (λi=>(ff i).2.1) k:Nat)))) (λ_ i _=>nf-(intOf i).toNat)
 case atStart=>exact⟨0,0,by omega,rfl,by omega,by omega,rfl,p_ _ _,λi l=>absurd l (by omega),⟨⟨rfl⟩⟩⟩
 case round=>
  obtain⟨k,x,O,rfl,L,M,rfl,KK,z,j⟩:=hrel
  by_cases D:k<nf
  .obtain⟨t,⟨P,N,C⟩,y⟩:=K k D;generalize A:ff k=q at*;obtain⟨Q,d,u⟩:=q;simp only at t C y;subst C;have d1:=KK.has t;by_cases G:(64:Int)<d
   .gi_wp2_with (refine Zh rfl rfl rfl ?_);go_ret;exact⟨KK,vK.no g⟩
   .have H:=(y (by omega)).keep KK;gi_wp2_with (gi_at_call 87;refine(Ug _ _ _ d u H).mono ?_;rintro e w1 ⟨⟨r,rfl,p⟩,f⟩;have f:=f.symm;subst f;cases r<;>first|(have I:Words d u:=p.1 rfl;clear p)|clear p)
    .go_ret;exact⟨KK,vK.no g⟩
    .have J:=pX (n:=d) (by omega);gi_wp2_with (gi_at_call 48;refine(FW _ _ d (by omega)).mono ?_;rintro e w1 ⟨rfl,f⟩;have f:=f.symm;subst f);go_roundw
     case rel=>
      have E:ZF (λi=>(ff i).2.1) (k+1)=Aj d+ZF (λi=>(ff i).2.1) k:=by simp only[ZF,Ie,A]
      refine⟨k+1,x+Aj d,by omega,by go_num,by omega,by omega,by go_num,KK,λi l=>?_,⟨⟨by obtain⟨⟨j⟩⟩:=j;rw[E];omega⟩⟩⟩
      by_cases e:i=k
      .subst e;rw[A];exact⟨by show d<=64;omega,I⟩
      .exact z i (by omega)
     case measure=>simp[intOf];omega
  .obtain rfl:k=nf:=(by omega);gi_wp2;go_ret;refine⟨KK,_,rfl,λe=>⟨by omega,z,?_⟩,λe=>absurd e g⟩;obtain⟨⟨j⟩⟩:=j;simp at e;omega
theorem ai1 (core swap:Int) (v fv:n_) (n nf:Nat) (f:Nat->Int) (ff:Nat->n_×Nat×(Nat->Int)) (h:kZ w v n f) (hF:Uo w fv nf ff):P_ m 41 #[.agg #[b_ core,b_ swap,v,fv]] w λe w'=>Keep No w w'/\V3 core swap n f nf ff e:=by
 obtain⟨⟨s,c,rfl⟩,y⟩:=h;obtain⟨g,i,rfl⟩:∃s c,fv=.slice s nf c:=let ⟨s,c,e,_⟩:=hF;⟨s,c,e⟩
 have d:Keep No w (w.alloc (.cells #[b_ core,b_ swap,.slice s n c,.slice g nf i] 25)):=(p_ _ _).alloc _;gi_enter func41,ntmps41;by_cases G:core<16
 .gi_wp2;go_ret;exact⟨d,V3.no (λb=>by have:=b.1;omega)⟩
 by_cases H:64<core
 .gi_wp2;go_ret;exact⟨d,V3.no (λb=>by have:=b.1;omega)⟩
 by_cases I:swap<1
 .gi_wp2;go_ret;exact⟨d,V3.no (λb=>by have:=b.1;omega)⟩
 by_cases J:256<swap
 .gi_wp2;go_ret;exact⟨d,V3.no (λb=>by have:=b.1;omega)⟩
 by_cases K:(n:Int)<1
 .gi_wp2;go_ret;exact⟨d,V3.no (λb=>by have:=b.2.1;omega)⟩
 by_cases L:128<(n:Int)
 .gi_wp2;go_ret;exact⟨d,V3.no (λb=>by have:=b.2.1;omega)⟩
 have C:=(y (by omega)).keep d;have k:=hF.kp d;clear y hF;gi_wp2_with fail;refine(Ug _ (w.alloc (.cells #[b_ core,b_ swap,.slice s n c,.slice g nf i] 25)) _ n f C).mono ?_;rintro e w1 ⟨⟨r,rfl,o⟩,q⟩;have q:=q.symm;subst q;cases r
 .gi_wp2;go_ret;exact⟨d,V3.no (λb=>by have:=o.2 b.2.1.2.2;cases this)⟩
 have F:Words n f:=o.1 rfl;clear o;have t:(w.alloc (.cells #[b_ core,b_ swap,.slice s n c,.slice g nf i] 25)).heap[w.heap.size]?=some (O_ #[b_ core,b_ swap,.slice s n c,.slice g nf i] 25):=heap_alloc_new rfl;have x:(w.alloc (.cells #[b_ core,b_ swap,.slice s n c,.slice g nf i] 25)).cell? (T_ w.heap.size 1)=some (b_ swap):=bce t rfl;have c3:(w.alloc (.cells #[b_ core,b_ swap,.slice s n c,.slice g nf i] 25)).cell? (T_ w.heap.size 3)=some (.slice g nf i):=bce t rfl;gi_wp2;generalize w.alloc (.cells #[b_ core,b_ swap,.slice s n c,.slice g nf i] 25)=w1 at*;refine Bi 4 47 ?_;gi_wp2_with (gi_at_call 48;refine(FW _ w1.drew n (by omega)).mono ?_;rintro e w2 ⟨rfl,a⟩;have a:=a.symm;subst a);refine CZ ?_ ?_
 .intro V D;have d1:=D.has (w:=w1.drew) x
  repeat' (refine Ae ?_ ?_)
  all_goals first|exact trivial|gi_wp2_with (gi_at_call 48;refine(FW _ V n (by omega)).mono ?_;rintro e w2 ⟨rfl,a⟩;have a:=a.symm;subst a)
 intro V j;have u:Keep No w V:=d.drew.then j;have d1:=j.has (w:=w1.drew) x;have d3:=j.has (w:=w1.drew) c3;have l:=(k.kp (w':=w1.drew) (p_ No w1).drew).kp j;by_cases B:(Aj n:Int)<=swap
 .have E:YR core swap n f:=⟨⟨by omega,by omega,by omega,by omega⟩,⟨by omega,by omega,F⟩,B⟩;gi_wp2_with (gi_at_call 88;refine(pY _ V _ nf ff l).mono ?_;rintro e w2 ⟨A,r,rfl,z,p⟩);go_ret;exact⟨u.then A,r,by simp,λh=>⟨E,z h⟩,λh _=>p h⟩
 .gi_wp2_with (refine Zh rfl rfl rfl ?_);go_ret;exact⟨u,V3.no (λb=>by have:=b.2.2;omega)⟩
end
theorem aj1:(prog.info? 119).map (λi=>(i.zero,i.size,i.bytes))=some (some (.pointer none),1,8):=by kernel_rfl
def dO (ib L fb:Nat):X_:=#[b_ 0,b_ 0,.bool false,a_ 0,.nilFunc,a_ 0,a_ 0,a_ 0,Q_ ib L L,Q_ fb 6 6,b_ 0,b_ 0]
def Fq (ib fb:Nat) (Ag:List Nat):PR:=⟨1,0,0,0,0,0,0,false,-1,.nilFunc,Q_ ib Ag.length Ag.length,Q_ fb 6 6,Ag,[-1,-1,-1,-1,-1,-1]⟩
def bo6 (kb sb sc n M:Nat) (ks:X_) (v:n_) (W:o_):Prop:=v=.tuple #[b_ 0,.bool true]/\W.heap[kb]?=some (.cells (ks.setIfInBounds 1 (Q_ sb (Aw [(0,M)] n).2.length sc)) 114 (0,0))/\Mp 188 W sb sc (Aw [(0,M)] n).2
theorem take_one {M n:Nat} (h1:1<=n) (h:n<=M):Aw [(0,M)] n=(some 0,if M=n then[]else[(n,M-n)]):=by
 unfold Aw;rw[if_neg (by omega)];simp[h]
section
variable (m:Nat) (w:o_)
theorem bj2 (kb i:Nat) (ks:X_) (a:d_ f_) (n c:Nat) (hk:w.heap[kb]?=some (O_ ks 114)) (hi:i<16) (hs:ks[4+i]?=some (.pointer none)):
  P_ m 44 #[.pointer (some (T_ kb 4)),b_ (i:Nat),.slice a n c] w λe w'=>e=.returned (.tuple #[])/\Keep (At kb) w w'/\w'.heap[kb]?=some (.cells (ks.setIfInBounds (4+i) (ptr w.heap.size)) 114 (0,0))/\w'.heap[w.heap.size]?=some (O_ #[.slice a n c,b_ 0] 191):=by
 have j:(i:Int)<16:=by omega
 have f:Keep No w (w.alloc (.cells #[.slice a n c,b_ 0] 191)):=(p_ _ _).alloc _;have b:=f.old hk id;have h:=(Af b (4+i)).trans hs;have z1:=BO b (4+i);have g:=BQ hk;gi_enter func44,ntmps44;gi_wp2;go_end0;have d:Keep (At kb) w ((w.setCell (T_ kb (4+i)) (R_ w.heap.size)).alloc (.cells #[.slice a n c,b_ 0] 191)):=Keep.alloc (Keep.Oa _) _;exact⟨by simp,d,((p_ No _).alloc _).old (Ah hk _) id,heap_alloc_new (by simp)⟩
theorem ba4 (kb pb sb sc M ib L fb:Nat) (ks:X_) (hp:w.heap[pb]?=some (O_ (dO ib L fb) 128)) (hk:w.heap[kb]?=some (O_ ks 114)) (hs:ks[1]?=some (Q_ sb 1 sc)) (hs2:ks[2]?=some (.slice none 0 0)) (hs3:ks[3]?=some (b_ 0)) (hf:Mp 188 w sb sc [(0,M)]) (hn:Aj L<=M) (hL:1<=L) (hL':L<=128) (hM:M<=500):
  P_ m 46 #[R_ kb,R_ pb] w λe w'=>e=.returned (.bool true)/\Keep (λb=>b=kb\/b=sb\/b=pb) w w'/\(∀Ag:List Nat,Ag.length=L->w'.heap[pb]?=some (Fq ib fb Ag).obj)/\∃g c,w.heap.size<=g/\w'.heap[kb]?=some (.cells (((ks.setIfInBounds 1 (Q_ sb (Aw [(0,M)] (Aj L)).2.length sc)).setIfInBounds 3 (b_ 1)).setIfInBounds 2 (Q_ g 1 c)) 114 (0,0))/\Mp 188 w' sb sc (Aw [(0,M)] (Aj L)).2/\Rw 119 1 w' g 1 c (Bj [pb]):=by
 have q8:w.cell? (T_ pb 8)=some (Q_ ib L L):=bce hp rfl;have z:pb≠kb:=BU hp hk (by decide);have hd:Hd 188 w kb 1 114 ks sb sc [(0,M)]:=⟨hk,hs,hf,by decide⟩;have D:kb≠sb:=hd.apart;have hpc:pb≠sb:=by obtain⟨v,hc,_⟩:=hf.blk;exact BU hp hc (by decide)
 have n1:1<=Aj L:=by unfold Aj;omega
 have t:=take_one n1 hn;obtain⟨i9,hi9,F,G,H⟩:=info_parts aj1;gi_enter func46,ntmps46;gi_wp2;refine CV (P:=prog) _ rfl rfl (by kernel_rfl) 10 49 [0,1,2,3,4] [5,6,7,8,9] (by kernel_rfl) (by rfl)
  (NG (At2 kb sb) w.drew 5 (bo6 kb sb sc (Aj L) M ks) [(6,.tuple #[b_ 0,.bool true]),(7,b_ 0),(8,.bool true),(9,b_ 0)]) (FU (by simp) (by simp)) _ _ rfl rfl ?_;gi_wp2_with (gi_at_call 58;refine(ER _ w.drew pb _ _ _ q8 (by omega)).mono ?_;rintro e w1 ⟨rfl,rfl⟩);refine⟨rfl,by kernel_rfl,Ef,?_,?_,?_⟩
 .intro L' u W d;have d8:=(d.1.cell (w:=w.drew) (p:=(T_ pb 8)) (BQ hp) (by rintro(h|h)<;>contradiction)).trans q8
  repeat' (refine Ae ?_ ?_)
  all_goals first|exact trivial|gi_wp2_with (gi_at_call 58;refine(ER _ W pb _ _ _ d8 (by omega)).mono ?_;rintro e w1 ⟨rfl,rfl⟩)
 .intro i hi L' u W d hLi O;obtain rfl|rfl|rfl|rfl|rfl:=(by simpa using hi:i=5\/i=6\/i=7\/i=8\/i=9)
  .obtain rfl:=d.2.1 hLi;refine Bh rfl λKK Lh=>?_
   show wpListIn NF m prog _ _ _ (Act.put (Act.put (Act.put (Act.put (Act.put _ (some 13) (u 5)) (some 7) (u 6)) (some 14) (u 7)) (some 15) (u 8)) (some 5) (u 9)) _;gi_wp2_with fail;refine(an2 _ w.drew kb sb sc (Aj L) M 114 ks [(0,M)] (hd.keep (p_ No w).drew id id) ⟨by simp;omega,λi r hr=>by match i,hr with|0,hr=>cases hr;simp⟩ (by omega) (by unfold Aj;omega)).mono ?_;rintro e w1 ⟨rfl,Z,A,N⟩;rw[show NK (Aw [(0,M)] (Aj L)).1=.tuple #[b_ 0,.bool true] by rw[t];rfl];gi_wp2;exact⟨_,rfl,FV d (by simp) Z ⟨rfl,A,N⟩⟩
  .have K:=(d.2.2.1 (O 5 (by simp) (by decide))).1;exact dV rfl rfl rfl ⟨_,rfl,Fv d (by decide) K (by simp)⟩
  .have x:=d.2.2.2 (6,.tuple #[b_ 0,.bool true]) (by simp) (O 6 (by simp) (by decide));exact Q3 rfl rfl rfl x rfl ⟨_,rfl,FZ d (by decide) (by simp)⟩
  .have x:=d.2.2.2 (6,.tuple #[b_ 0,.bool true]) (by simp) (O 6 (by simp) (by decide));exact Q3 rfl rfl rfl x rfl ⟨_,rfl,FZ d (by decide) (by simp)⟩
  .have B:=d.2.2.2 (7,b_ 0) (by simp) (O 7 (by simp) (by decide));exact dW rfl rfl rfl ⟨_,rfl,Fv d (by decide) B (by simp)⟩
 .intro L' u W d hL;obtain⟨K,A,N⟩:=d.2.2.1 (hL 5 (by simp));have S:=d.2.2.2 (8,.bool true) (by simp) (hL 8 (by simp));have T:=d.2.2.2 (9,b_ 0) (by simp) (hL 9 (by simp));have x:=d.2.2.2 (6,.tuple #[b_ 0,.bool true]) (by simp) (hL 6 (by simp));have B:=d.2.2.2 (7,b_ 0) (by simp) (hL 7 (by simp));simp only at x B S T;show wpListIn NF m prog _ _ _ (Act.put (Act.put (Act.put (Act.put (Act.put _ (some 13) (u 5)) (some 7) (u 6)) (some 14) (u 7)) (some 15) (u 8)) (some 5) (u 9)) _;rw[K,x,B,S,T];clear t;generalize hl9:(Aw [(0,M)] (Aj L)).2=l' at*;generalize hv':Value.slice (some (S_ sb)) l'.length sc=v' at*;have E:=d.1.old (w:=w.drew) hp (by rintro(h|h)<;>contradiction);have KW:Keep (λb=>b=kb\/b=sb\/b=pb) w W:=(p_ _ w).drew.trans d.1 (by rintro k _ (h|h);exact .inl h;exact .inr (.inl h));have c3:W.cell? (T_ kb 3)=some (b_ 0):=(Af A 3).trans ((BK (by decide)).trans hs3);have f3:=BO A 3;clear d K x B S T hL;gi_upto_region 5 with fail;have X:=Ah (i:=3) A (b_ 1);have n:=(GY (p:=(T_ kb 3)) (b_ 1) z).trans E;have t3:=Rw.keep N (Keep.Oa (w:=W) (b:=kb) (o:=3) (b_ 1)) (λe=>D e.symm);have K3:=KW.setCell (p:=(T_ kb 3)) (b_ 1) (λ_=>.inl rfl);generalize W.setCell (T_ kb 3) (b_ 1)=l at*;clear c3 f3 A N E KW;have d3:l.cell? (T_ kb 3)=some (b_ 1):=(Af X 3).trans (NR ((BK (by decide)).trans hs3));have p0:l.cell? (S_ pb)=some (b_ 0):=bce n rfl;have f0:=BO n 0;have q:=Ah (i:=0) n (b_ 1);have p10:(l.setCell (S_ pb) (b_ 1)).cell? (T_ pb 10)=some (b_ 0):=bce q rfl;have U:=BO q 10;have s:=Ah (i:=10) q (b_ 0);have p11:((l.setCell (S_ pb) (b_ 1)).setCell (T_ pb 10) (b_ 0)).cell? (T_ pb 11)=some (b_ 0):=bce s rfl;have V:=BO s 11;have y:=Ah (i:=11) s (b_ (-1));gi_upto_region 6 with fail;have y:∀Ag:List Nat,Ag.length=L->(((l.setCell (S_ pb) (b_ 1)).setCell (T_ pb 10) (b_ 0)).setCell (T_ pb 11) (b_ (-1))).heap[pb]?=some (Fq ib fb Ag).obj:=λAg hl=>by
   rw[y]
   simp[Fq,dO,PR.obj,PR.arr,hl]
  have k1:Keep (Go.Fxa.At pb) l (l.setCell (S_ pb) (b_ 1)):=Keep.Oa _;have k2:Keep (Go.Fxa.At pb) (l.setCell (S_ pb) (b_ 1)) ((l.setCell (S_ pb) (b_ 1)).setCell (T_ pb 10) (b_ 0)):=Keep.Oa _;have k3:Keep (Go.Fxa.At pb) ((l.setCell (S_ pb) (b_ 1)).setCell (T_ pb 10) (b_ 0)) (((l.setCell (S_ pb) (b_ 1)).setCell (T_ pb 10) (b_ 0)).setCell (T_ pb 11) (b_ (-1))):=Keep.Oa _;have K36:=(k1.then k2).then k3;clear k1 k2 k3;generalize ((l.setCell (S_ pb) (b_ 1)).setCell (T_ pb 10) (b_ 0)).setCell (T_ pb 11) (b_ (-1))=f at*;have Y:=K36.old X (λe=>z e.symm);have t6:=t3.keep K36 (λe=>hpc e.symm);have K6:Keep (λb=>b=kb\/b=sb\/b=pb) w f:=K3.trans K36 (λk _ e=>.inr (.inr e));clear d3 p0 f0 q p10 U s p11 V K36 t3 X n K3;have d2:f.cell? (T_ kb 2)=some (.slice none 0 0):=(Af Y 2).trans ((BK (by decide)).trans ((BK (by decide)).trans hs2));have Q:Keep No f (f.alloc (.cells #[R_ pb] 119)):=(p_ No f).alloc _;have hcA:∀j u,([R_ pb]:U_)[j]?=some u->(f.alloc (.cells #[R_ pb] 119)).cell? (((S_ f.heap.size):f_).add j)=some u:=λj u hj=>by
   match j,hj with
   |0,hj=>
    have ea:((S_ f.heap.size):f_).add 0=(S_ f.heap.size):=by rw[Addr.add_lit,Nat.zero_add]
    rw[ea,Af (heap_alloc_new (w:=f) (o:=.cells #[R_ pb] 119) rfl)]
    simpa using hj
  gi_wp2_with (gi_at_builtin;refine wpListIn_append_own _ rfl (.tmp 43) (.tmp 45) 100 rfl w.heap.size 119 i9 (.pointer none) 1 8 underlying100 hi9 F G H rfl (by decide) (.slice none 0 0) 0 [] rfl (World.ownsRow_nil _ _ _ _) (S_ f.heap.size) 1 1 [R_ pb] rfl (by simp) hcA (by simp[Value.oneCell']) (by unfold maxLen;omega) (by omega) (Nat.le_trans K6.size Q.size) ?_;intro va I oB EO _;have KB:Keep No (f.alloc (.cells #[R_ pb] 119)) I:=Ey EO (λk h _=>by cases h);obtain⟨aa,R,hva⟩:∃a c,va=.slice a 1 c:=(by obtain⟨_,hx⟩|⟨g,cap,v,hv,_⟩:=oB.2;(· omega);(· exact⟨_,_,hv⟩));subst hva;have bB:=KB.old (Q.old Y id) id;have gB:=BO bB 2;have eB:=(Af bB 2).trans ((BK (by decide)).trans ((BK (by decide)).trans hs2)));go_ret;have KB':Keep No f I:=Q.then KB;have C:=KB'.old Y id;have tB:=t6.keep KB' id;have J:Keep (Go.Fxa.At kb) I (I.setCell (T_ kb 2) (.slice aa 1 R)):=Keep.Oa _;obtain⟨_,hx⟩|⟨g,cap,v,hv,hbg,hg,hc1,hmx,hcs,t⟩:=oB.2
  .omega
  .injection hv with e1 _ e3;subst e1 e3;have hgk:g≠kb:=BU hg C (by decide);have hR:Rw 119 1 I g 1 R (Bj [pb]):=⟨⟨v,hg,hcs,t⟩,hc1,hmx,rfl,by simp[Bj,ptr,Value.oneCell']⟩;subst hv' hl9;exact⟨by simp,(K6.trans (S':=No) KB' (λ_ _ e=>e.elim)).trans J (λk _ e=>.inl e),λAg hl=>J.old (KB'.old (y Ag hl) id) z,g,hbg,R,Ah C _,Rw.keep tB J (λe=>D e.symm),hR.keep J hgk⟩
end
theorem Fe.rw {T:j_} {k:IntKind} {w:o_} {b n:Nat} {f:Nat->Int} (h:Fe T k w b n f) (hn:n<=1000):Rw T 1 w b n n ((List.range n).map λi=>.int k (f i)):=by
 obtain⟨c,d,j,e⟩:=h;refine⟨⟨c,d,by omega,?_⟩,w_ _,by unfold maxLen;omega,by simp,λx g=>?_⟩
 .refine List.ext_getElem? λi=>?_
  rw[Nat.mul_one];by_cases a:i<n
  .rw[List.getElem?_take_of_lt a,Array.getElem?_toList,e i a];simp[a]
  .rw[List.getElem?_eq_none (by simp;omega),List.getElem?_eq_none (by simp;omega)]
 .obtain⟨i,_,rfl⟩:=List.mem_map.1 g
  rfl
def di (n N8:Nat) (Ag:Nat->Nat):List Nat:=(List.range N8).map (padded n Ag)
structure Ho (kb base k:Nat) (L:Nat->Nat) (uP ks:X_) (T:Tag) (nm:Nat->d_ Nat) (w:o_):Prop where
 kh:w.heap[kb]?=some (O_ ks 114)
 off:∀j,j<4\/20<=j->ks[j]?=uP[j]?
 nmv:∀i,i<16->ks[4+i]?=some (XX (nm i))
 nmT:∀i b,nm i=some b->T b=(10,0)
 inj:∀i j f,nm i=some f->nm j=some f->i=j
 out:∀i,k<=i->nm i=none
 tg:∀b,T b≠(0,0)->base<=b/\b<w.heap.size/\(T b=(10,0)\/∃f,T b=(15,f))
 fl:∀b,T b=(10,0)->∃v,w.heap[b]?=some (O_ #[v,b_ 0] 191)/\Sj T w b 64 v
 ln:∀i f,nm i=some f->LenAt w f (L i)
theorem Ho.start {kb base:Nat} {L:Nat->Nat} {ks:X_} {w:o_} (h:w.heap[kb]?=some (O_ ks 114)) (hn:∀i,i<16->ks[4+i]?=some (.pointer none)):Ho kb base 0 L ks ks (λ_=>(0,0)) (λ_=>none) w:=
 ⟨h,λ_ _=>rfl,hn,(λ_ _ h=>by cases h),(λ_ _ _ h=>by cases h),λ_ _=>rfl,λ_ h=>absurd rfl h,(λ_ h=>by simp at h),(λ_ _ h=>by cases h)⟩
theorem Ho.kp {kb base k:Nat} {L:Nat->Nat} {uP ks:X_} {T:Tag} {nm:Nat->d_ Nat} {w w':o_} (h:Ho kb base k L uP ks T nm w) (hK:Keep No w w'):Ho kb base k L uP ks T nm w':=
 ⟨hK.old h.kh id,h.off,h.nmv,h.nmT,h.inj,h.out,λb g=>let ⟨a,c,d⟩:=h.tg b g;⟨a,Nat.lt_of_lt_of_le c hK.size,d⟩,λb g=>let ⟨v,a,c⟩:=h.fl b g;⟨v,hK.old a id,c.keep (Q:=λ_=>False) hK.no (λh=>h)⟩,λi f e=>(h.ln i f e).keep hK id⟩
theorem Ho.make {kb base k g n:Nat} {L:Nat->Nat} {uP ks:X_} {T:Tag} {nm:Nat->d_ Nat} {w w':o_} {Ag:Nat->Nat} (h:Ho kb base k L uP ks T nm w) (hLk:L k=n) (hk:k<16) (hb:kb<base) (hs:base<=w.heap.size) (hg:base<=g) (hgT:T g=(0,0)) (hR:Fe 123 .u16 w g n (fun i=>Ag i)) (hn:n<=64) (hw:∀i,i<n->Ag i<65536)
  (hK:Keep (At kb) w w') (hk':w'.heap[kb]?=some (.cells (ks.setIfInBounds (4+k) (ptr w.heap.size)) 114 (0,0))) (hf:w'.heap[w.heap.size]?=some (O_ #[Q_ g n n,b_ 0] 191)):
  Ho kb base (k+1) L uP (ks.setIfInBounds (4+k) (ptr w.heap.size)) (BA (BA T g (15,w.heap.size)) w.heap.size (10,0)) (Ar nm k (some w.heap.size)) w':=by
 have z:g<w.heap.size:=by obtain⟨_,l,_⟩:=hR;exact BQ l
 have s:4+k<ks.size:=(y_.1 (h.nmv k hk)).1;have r:T w.heap.size=(0,0):=by
  cases Decidable.em (T w.heap.size=(0,0))with
  |inl e=>exact e
  |inr e=>have:=(h.tg _ e).2.1;omega
 have tag:∀{b t},T b=t->t≠(0,0)->BA (BA T g (15,w.heap.size)) w.heap.size (10,0) b=t:=fun {b t} l m=>by
  rw[Bf (by rintro rfl;exact m (l.symm.trans r)),Bf (by rintro rfl;exact m (l.symm.trans hgT))];exact l
 have o:BA (BA T g (15,w.heap.size)) w.heap.size (10,0) g=(15,w.heap.size):=by rw[Bf (by omega),BH]
 have u:∀{b t},T b=t->t≠(0,0)->¬At kb b:=fun {b t} l m e=>by
  have:=(h.tg b (by rw[l];exact m)).1
  have e:b=kb:=e
  omega
 refine⟨hk',λj E=>?_,λi q=>?_,λi b e=>?_,λi j f l m=>?_,λi q=>?_,λb e=>?_,λb e=>?_,λi b e=>?_⟩
 .rw[G6 (by omega)];exact h.off j E
 .by_cases e:i=k
  .subst e;rw[Array.getElem?_setIfInBounds_self_of_lt s];simp[Ar,XX]
  .rw[G6 (by omega)];simpa [Ar,e]using h.nmv i q
 .by_cases p:i=k
  .subst p;obtain rfl:w.heap.size=b:=(by simpa [Ar]using e);exact BH
  .exact tag (h.nmT i b (by simpa [Ar,p]using e)) (by simp)
 .by_cases e1:i=k<;>by_cases e2:j=k
  .omega
  .exfalso;obtain rfl:w.heap.size=f:=(by simpa [Ar,e1]using l);have:=h.nmT j _ (by simpa [Ar,e2]using m);rw[r]at this;simp at this
  .exfalso;obtain rfl:w.heap.size=f:=(by simpa [Ar,e2]using m);have:=h.nmT i _ (by simpa [Ar,e1]using l);rw[r]at this;simp at this
  .exact h.inj i j f (by simpa [Ar,e1]using l) (by simpa [Ar,e2]using m)
 .simpa [Ar,show i≠k by omega]using h.out i (by omega)
 .by_cases e1:b=w.heap.size
  .subst e1;exact⟨hs,BQ hf,.inl BH⟩
  .by_cases e2:b=g
   .subst e2;exact⟨hg,Nat.lt_of_lt_of_le z hK.size,.inr ⟨_,o⟩⟩
   .rw[Bf e1,Bf e2]at e ⊢;obtain⟨a,c,d⟩:=h.tg b e;exact⟨a,Nat.lt_of_lt_of_le c hK.size,d⟩
 .by_cases e1:b=w.heap.size
  .subst e1;refine⟨_,hf,.inr ⟨g,n,(List.range n).map Ag,?_,?_,by simpa using hn,λx F=>?_,o⟩⟩
   .simp
   .have:=(hR.rw (by omega)).keep hK (λe=>by have e:g=kb:=e;omega);simpa [Az,Function.comp_def]using this
   .obtain⟨i,q,rfl⟩:=List.mem_map.1 F;exact hw i (by simpa using q)
  .have e2:T b=(10,0):=by
    by_cases e2:b=g
    .subst e2;rw[o]at e;simp at e
    .rwa [Bf e1,Bf e2]at e
   obtain⟨v,a,c⟩:=h.fl b e2;refine⟨v,hK.old a (u e2 (by simp)),?_⟩;obtain c|⟨D,C,G,a1,a2,A,B,y⟩:=c
   .exact .inl c
   .exact .inr ⟨D,C,G,a1,a2.keep hK (u y (by simp)),A,B,tag y (by simp)⟩
 .by_cases p:i=k
  .subst p;obtain rfl:w.heap.size=b:=(by simpa [Ar]using e);rw[hLk];exact⟨_,_,_,hf⟩
  .have e1:nm i=some b:=(by simpa [Ar,p]using e);exact(h.ln i b e1).keep hK (u (h.nmT i b e1) (by simp))
theorem Ve {f:Nat->Nat}:∀n:Nat,BD f (List.range n)=Ie f n
 |0=>rfl
 |n+1=>by rw[O5,Ve n];simp only[Ie];omega
theorem fG {f:Nat->Nat} {k:Nat} (h:∀i,k<=i->f i=0):∀d:Nat,Ie f (k+d)=Ie f k
 |0=>rfl
 |d+1=>by show f (k+d)+Ie f (k+d)=_;rw[h _ (by omega),fG h d];omega
theorem sG {f g:Nat->Nat}:∀{n:Nat},(∀i,i<n->f i<=g i)->Ie f n<=Ie g n
 |0,_=>w_ _
 |n+1,h=>by
  have a:=sG (n:=n) (f:=f) (g:=g) λi c=>h i (by omega)
  have b:=h n (by omega)
  simp only[Ie];omega
theorem Ho.disk {kb base k:Nat} {L:Nat->Nat} {uP ks:X_} {T:Tag} {nm:Nat->d_ Nat} {w:o_} (h:Ho kb base k L uP ks T nm w) (hk:k<=16) (hs:ZF L k<=40):VK T nm [] w:=by
 have l:∀b,∃n,T b=(10,0)->LenAt w b n:=λb=>by
  by_cases e:T b=(10,0)
  .obtain⟨v,a1,a2⟩:=h.fl b e;obtain rfl|⟨g,c,m,rfl,_⟩:=a2
   .exact⟨0,λ_=>⟨_,_,_,a1⟩⟩
   .exact⟨m.length,λ_=>⟨_,_,_,a1⟩⟩
  .exact⟨0,λh=>absurd h e⟩
 obtain⟨d,j⟩:=Classical.axiomOfChoice l;refine⟨d,j,?_⟩;show BD (Ot d nm) (List.range 16)+0<=40;rw[Ve];have e1:=fG (f:=Ot d nm) (k:=k) (λi a=>WN (h.out i a)) (16-k);rw[show k+(16-k)=16 by omega]at e1;have e2:=sG (n:=k) (f:=Ot d nm) (g:=λi=>Aj (L i)) λi _=>by
  unfold Ot
  cases a:nm i with
  |none=>exact Nat.zero_le _
  |some f=>simp only;rw[(j f (h.nmT i f a)).eq (h.ln i f a)];exact w_ _
 unfold ZF at hs;omega
def MJ (kb cb sb g pb ib fb:Nat) (T:Tag):Tag:=BA (BA (BA (BA (BA (BA (BA T kb (1,0)) cb (2,0)) sb (3,0)) g (4,0)) pb (6,pb)) ib (7,pb)) fb (8,pb)
def Nz (kb cb sb g c pb ib fb C:Nat) (l:List (W_)) (nm:Nat->d_ Nat) (T:Tag) (Ag:List Nat):KS:=
 { kb:=kb,cg:=cb,cc:=1,sg:=sb,sc:=1,pg:=g,pc:=c,Cj:=1,core:=[(0,C)],swap:=l,AP:=[pb],nl:=[],desc:=λ_=>0,op:=λ_=>0,nm:=nm,ef:=λ_=>none,ps:=Dz (λ_=>none) pb (Fq ib fb Ag),T:=MJ kb cb sb g pb ib fb T }
section
variable {kb base k cb sb g c pb ib fb C M:Nat} {L:Nat->Nat} {uP ks ks':X_} {T:Tag} {nm:Nat->d_ Nat} {w w0:o_} {l:List (W_)} {Ag:List Nat}
theorem AV.fresh (hF:Ho kb base k L uP ks T nm w0) (hkL:k<=16) (hfs:ZF L k<=40) (hK:Keep (fun b=>b=kb\/b=sb\/b=pb) w0 w) (hk:w.heap[kb]?=some (O_ ks' 114)) (k0:ks'[0]?=some (Q_ cb 1 1)) (k1:ks'[1]?=some (Q_ sb l.length 1)) (k2:ks'[2]?=some (Q_ g 1 c)) (k3:ks'[3]?=some (b_ 1)) (kn:∀i,i<16->ks'[4+i]?=ks[4+i]?) (k20:ks'[20]?=some (.slice none 0 0)) (ke:∀i,i<20->ks'[21+i*2]?=some .nilIface/\ks'[21+i*2+1]?=some (b_ 0))
  (mc:Mp 186 w cb 1 [(0,C)]) (ms:Mp 188 w sb 1 l) (pr:Rw 119 1 w g 1 c (Bj [pb])) (hp:w.heap[pb]?=some (Fq ib fb Ag).obj) (hi:Rw 123 1 w ib Ag.length Ag.length (Az Ag)) (hf:Rw 3 1 w fb 6 6 (Fp [-1,-1,-1,-1,-1,-1])) (tkb:kb<base) (tsb:sb<base) (tcb:cb<base) (tz:T g=(0,0)/\T pb=(0,0)/\T ib=(0,0)/\T fb=(0,0)):AV (Nz kb cb sb g c pb ib fb C l nm T Ag) w:=by
 have low:∀{x},x<base->T x=(0,0):=fun {x} W=>by
  cases Decidable.em (T x=(0,0))with
  |inl e=>exact e
  |inr e=>have:=(hF.tg _ e).1;omega
 obtain⟨tg,tp,ti,tf⟩:=tz;obtain⟨_,q,_⟩:=mc.blk;obtain⟨_,s,_⟩:=ms.blk;obtain⟨_,u,_⟩:=pr.blk;obtain⟨_,z,_⟩:=hi.blk;obtain⟨_,A,_⟩:=hf.blk;have n1:kb≠cb:=BU hk q (by decide);have n2:kb≠sb:=BU hk s (by decide);have n3:kb≠g:=BU hk u (by decide);have n4:kb≠pb:=BU hk hp (by decide);have n5:kb≠ib:=BU hk z (by decide);have n6:kb≠fb:=BU hk A (by decide);have n7:cb≠sb:=BU q s (by decide);have n8:cb≠g:=BU q u (by decide);have n9:cb≠pb:=BU q hp (by decide);have B:cb≠ib:=BU q z (by decide);have D:cb≠fb:=BU q A (by decide);have E:sb≠g:=BU s u (by decide);have F:sb≠pb:=BU s hp (by decide);have G:sb≠ib:=BU s z (by decide);have H:sb≠fb:=BU s A (by decide);have I:g≠pb:=BU u hp (by decide);have J:g≠ib:=BU u z (by decide);have K:g≠fb:=BU u A (by decide);have M:pb≠ib:=BU hp z (by decide);have N:pb≠fb:=BU hp A (by decide);have O:ib≠fb:=BU z A (by decide);have X:MJ kb cb sb g pb ib fb T kb=(1,0):=by simp[MJ,BA,n1,n2,n3,n4,n5,n6]
 have Y:MJ kb cb sb g pb ib fb T cb=(2,0):=by simp[MJ,BA,n7,n8,n9,B,D]
 have Z:MJ kb cb sb g pb ib fb T sb=(3,0):=by simp[MJ,BA,E,F,G,H]
 have t4:MJ kb cb sb g pb ib fb T g=(4,0):=by simp[MJ,BA,I,J,K]
 have t6:MJ kb cb sb g pb ib fb T pb=(6,pb):=by simp[MJ,BA,M,N]
 have t7:MJ kb cb sb g pb ib fb T ib=(7,pb):=by simp[MJ,BA,O]
 have t8:MJ kb cb sb g pb ib fb T fb=(8,pb):=by simp[MJ,BA]
 have tag:∀{b t},T b=t->t≠(0,0)->MJ kb cb sb g pb ib fb T b=t:=fun {b t} j o=>by
  have ne:∀{x},T x=(0,0)->b≠x:=λW e=>by subst e;exact o (j.symm.trans W)
  unfold MJ
  rw[Bf (ne tf),Bf (ne ti),Bf (ne tp),Bf (ne tg),Bf (ne (low tsb)),Bf (ne (low tcb)),Bf (ne (low tkb))]
  exact j
 have m:∀{b t},MJ kb cb sb g pb ib fb T b=t->9<=t.1->T b=t:=fun {b t} j o=>by
  by_cases e1:b=fb
  .subst e1;rw[t8]at j;subst j;simp at o
  by_cases e2:b=ib
  .subst e2;rw[t7]at j;subst j;simp at o
  by_cases e3:b=pb
  .subst e3;rw[t6]at j;subst j;simp at o
  by_cases e4:b=g
  .subst e4;rw[t4]at j;subst j;simp at o
  by_cases S:b=sb
  .subst S;rw[Z]at j;subst j;simp at o
  by_cases U:b=cb
  .subst U;rw[Y]at j;subst j;simp at o
  by_cases V:b=kb
  .subst V;rw[X]at j;subst j;simp at o
  unfold MJ at j
  rwa [Bf e1,Bf e2,Bf e3,Bf e4,Bf S,Bf U,Bf V]at j
 have p:∀{b t},T b=t->t≠(0,0)->¬t=(10,0)->(∀f,¬t=(15,f))->False:=fun {b t} j o h3 h4=>by
  obtain e|⟨f,e⟩:=(hF.tg b (by rw[j];exact o)).2.2
  .exact h3 (j.symm.trans e)
  .exact h4 f (j.symm.trans e)
 have P:∀{b t},T b=t->t≠(0,0)->¬(b=kb\/b=sb\/b=pb):=fun {b t} j o e=>by
  obtain rfl|rfl|rfl:=e
  .exact o (j.symm.trans (low tkb))
  .exact o (j.symm.trans (low tsb))
  .exact o (j.symm.trans tp)
 refine⟨⟨ks',hk,⟨k0,k1,k2,k3,λi hi=>⟨(kn i hi).trans (hF.nmv i hi),λb e=>tag (hF.nmT i b e) (by simp)⟩,⟨_,k20,.inl ⟨rfl,rfl⟩,λ_ h=>by cases h⟩,λi hi=>⟨.nilIface,(ke i hi).1,(ke i hi).2,rfl,λh=>absurd h (by simp[Nz])⟩⟩⟩,mc,ms,pr,λb r e=>?_,⟨λb e=>?_,λb e=>?_,λb f e=>?_,λb e=>?_,λb e=>?_⟩,X,Y,Z,t4,λb hb=>?_,(hF.disk hkL hfs).to λb n e=>⟨m e (by simp),λhl=>hl.keep hK (P (m e (by simp)) (by simp))⟩⟩
 .have e:Dz (λ_=>none) pb (Fq ib fb Ag) b=some r:=e;by_cases R:b=pb
  .subst R;rw[Am]at e;cases e;exact⟨t6,hp,λ_=>⟨ib,Ag.length,rfl,hi,t7⟩,λ_=>⟨fb,6,rfl,hf,t8⟩,.inl rfl,λh=>by cases h⟩
  .rw[BZ R]at e;cases e
 .have e:=m e (by simp);obtain⟨v,a,d⟩:=hF.fl b e;refine⟨v,hK.old a (P e (by simp)),?_⟩;obtain d|⟨x,y,ws,a1,a2,a3,a4,Q⟩:=d
  .exact .inl d
  .exact .inr ⟨x,y,ws,a1,a2.keep hK (P Q (by simp)),a3,a4,tag Q (by simp)⟩
 .exact(p (m e (by simp)) (by simp) (by simp) (by simp)).elim
 .exact(p (m e (by simp)) (by simp) (by simp) (by simp)).elim
 .exact(p (m e (by simp)) (by simp) (by simp) (by simp)).elim
 .exact(p (m e (by simp)) (by simp) (by simp) (by simp)).elim
 .have l0:=BQ hk;have l1:=BQ q;have l2:=BQ s;have l3:=BQ u;have l4:=BQ z;have l5:=BQ A;have l6:=BQ hp;show MJ kb cb sb g pb ib fb T b=(0,0);unfold MJ;rw[Bf (by omega),Bf (by omega),Bf (by omega),Bf (by omega),Bf (by omega),Bf (by omega),Bf (by omega)];cases Decidable.em (T b=(0,0))with
  |inl e=>exact e
  |inr e=>have:=(hF.tg _ e).2.1;have:=hK.size;omega
theorem Ez.fresh (hC:16<=C/\C<=64) (hM:M<=256) (hi:∃q,Ag.length=8*q/\1<=q/\q<=16) (hw:∀x∈Ag,x<65536) (hn:Aj Ag.length<=M) (hl:l=(Aw [(0,M)] (Aj Ag.length)).2) (inj:∀i j f,nm i=some f->nm j=some f->i=j):Ez C M (Nz kb cb sb g c pb ib fb C l nm T Ag):=by
 obtain⟨q,q1,v,w⟩:=hi;have p:1<=Aj Ag.length:=by rw[q1];unfold Aj;omega
 have y:Aj Ag.length=q:=by rw[q1];unfold Aj;omega
 have get:∀{b r},(Nz kb cb sb g c pb ib fb C l nm T Ag).ps b=some r->b=pb/\r=Fq ib fb Ag:=fun {b r} e=>by
  have e:Dz (λ_=>none) pb (Fq ib fb Ag) b=some r:=e
  by_cases o:b=pb
  .subst o;rw[Am]at e;cases e;exact⟨rfl,rfl⟩
  .rw[BZ o]at e;cases e
 have a:(Nz kb cb sb g c pb ib fb C l nm T Ag).ps pb=some (Fq ib fb Ag):=by simp[Nz,Dz]
 have k:l=if M=Aj Ag.length then[]else[(Aj Ag.length,M-Aj Ag.length)]:=by rw[hl,take_one p hn]
 refine⟨λb t=>?_,by simp[Nz],by simp[Nz],⟨by omega,?_,by simp[Nz,VW],Nat.zero_le _,λi hi=>?_,λb r e=>?_⟩,⟨by omega,?_,by rw[show(Nz kb cb sb g c pb ib fb C l nm T Ag).swap=l from rfl,k];split<;>simp[VW],Nat.zero_le _,λi hi=>?_,λb r e=>?_⟩,λb r e=>?_,λb r e=>?_,by simp[Nz],by simp[Nz],?_⟩
 .obtain rfl:b=pb:=by simpa [Nz]using t
  exact⟨_,a⟩
 .intro r d;obtain rfl:r=(0,C):=by simpa [Nz]using d
  simp;omega
 .show Dq i [(0,C)]+BD (EX i _) [pb]+_=1;simp only[Dq,BD];rw[DX a,Uu (Nat.zero_le _) (by omega),Oj];simp[Fq]
 .obtain⟨rfl,rfl⟩:=get e;exact⟨by show Ag.length<=128;omega,.inl rfl⟩
 .intro r d;have d:r∈l:=d;rw[k]at d;split at d
  .cases d
  .obtain rfl:r=(Aj Ag.length,M-Aj Ag.length):=(by simpa using d);simp;omega
 .show Dq i l+BD (JR i _) [pb]+_=1;simp only[BD];rw[F5 a,Oj];show Dq i l+(Ny i 0 (Aj Ag.length)+0)+0=1;rw[k];split
  .simp only[Dq];unfold Ny;split<;>omega
  .simp only[Dq];unfold Ny;repeat' split
   all_goals omega
 .obtain⟨rfl,rfl⟩:=get e;show 0+Aj Ag.length<=M;omega
 .obtain⟨rfl,rfl⟩:=get e;refine⟨by simp[Fq],by simp[Fq],by simp[Fq],by simp[Fq],by simp[Fq],by simp[Fq],hw,λ_=>rfl,λn hn=>.inl (by simpa [Fq]using hn),λ_=>⟨q,q1,v,w⟩,λh=>by cases h⟩
 .obtain⟨rfl,rfl⟩:=get e;simp[Fq,Nz]
 .have m:∀i,BF (Nz kb cb sb g c pb ib fb C l nm T Ag).ps [pb] i=0:=λi=>by
   unfold BF
   simp only[BD]
   rw[GU a]
   have:(Fq ib fb Ag).fds.count (i:Int)=0:=by
    rw[List.count_eq_zero]
    intro h
    simp[Fq]at h
   omega
  refine⟨λi _=>(m i).symm,λi _=>by rw[show(Nz kb cb sb g c pb ib fb C l nm T Ag).AP=[pb]from rfl,m];omega,λf=>?_,by simp[Nz],(λf u=>by simp[Nz]at u),λi j f _ _=>inj i j f,λi f _ _ h=>by simp[Nz]at h⟩;have:Ej (λ_=>0) (λ_=>none) f=0:=by
   cases m:Ej (λ_=>0) (λ_=>none) f with
   |zero=>rfl
   |succ n=>
    obtain⟨i,_,s⟩:=TC (f:=λi=>if 0<(λ_:Nat=>0) i/\(λ_:Nat=>(none:d_ Nat)) i=some f then 1 else 0) (l:=List.range 20) (by unfold Ej at m;omega)
    simp at s
  exact this.symm
end
end Go.Fxa
