/- The first process of a kernel -/
import Derived.Test.YtmhplpfpcnjekaaGreatA31
import Derived.Sort.CutIn
namespace Go.Fxa
open Conc Proofs RowKit Proofs.Tryz
set_option maxRecDepth 1000000
set_option maxHeartbeats 0
theorem ah0:(prog.info? 119).map (λi=>(i.zero,i.size,i.bytes))=some (some (.pointer none),1,8):=by kernel_rfl
def bG (ib L fb:Nat):X_:=#[b_ 0,b_ 0,.bool false,a_ 0,.nilFunc,a_ 0,a_ 0,a_ 0,Q_ ib L L,Q_ fb 6 6,b_ 0,b_ 0]
def Ef (ib fb:Nat) (Ae:List Nat):PR:=⟨1,0,0,0,0,0,0,false,-1,.nilFunc,Q_ ib Ae.length Ae.length,Q_ fb 6 6,Ae,[-1,-1,-1,-1,-1,-1]⟩
def bm2 (kb sb sc n M:Nat) (ks:X_) (v:n_) (W:o_):Prop:=v=.tuple #[b_ 0,.bool true]/\W.heap[kb]?=some (.cells (ks.setIfInBounds 1 (Q_ sb (Aw [(0,M)] n).2.length sc)) 114 (0,0))/\Mp 188 W sb sc (Aw [(0,M)] n).2
theorem take_one {M n:Nat} (h1:1<=n) (h:n<=M):Aw [(0,M)] n=(some 0,if M=n then[]else[(n,M-n)]):=by
 unfold Aw;rw[if_neg (by omega)];simp[h]
section
variable (m:Nat) (w:o_)
theorem be9 (kb i:Nat) (ks:X_) (a:d_ f_) (n c:Nat) (hk:w.heap[kb]?=some (O_ ks 114)) (hi:i<16) (hs:ks[4+i]?=some (.pointer none)):
  P_ m 44 #[.pointer (some (T_ kb 4)),b_ (i:Nat),.slice a n c] w λe w'=>e=.returned (.tuple #[])/\Keep (At kb) w w'/\w'.heap[kb]?=some (.cells (ks.setIfInBounds (4+i) (ptr w.heap.size)) 114 (0,0))/\w'.heap[w.heap.size]?=some (O_ #[.slice a n c,b_ 0] 191):=by
 have j:(i:Int)<16:=by omega
 have f:Keep No w (w.alloc (.cells #[.slice a n c,b_ 0] 191)):=(p_ _ _).alloc _;have b:=f.old hk id;have h:=(Af b (4+i)).trans hs;have z1:=BN b (4+i);have g:=DN hk;gi_enter func44,ntmps44;gi_wp2;go_end0;have d:Keep (At kb) w ((w.setCell (T_ kb (4+i)) (R_ w.heap.size)).alloc (.cells #[.slice a n c,b_ 0] 191)):=Keep.alloc (Keep.Jo _) _;exact⟨by simp,d,((p_ No _).alloc _).old (Ak hk _) id,heap_alloc_new (by simp)⟩
theorem ax4 (kb pb sb sc M ib L fb:Nat) (ks:X_) (hp:w.heap[pb]?=some (O_ (bG ib L fb) 128)) (hk:w.heap[kb]?=some (O_ ks 114)) (hs:ks[1]?=some (Q_ sb 1 sc)) (hs2:ks[2]?=some (.slice none 0 0)) (hs3:ks[3]?=some (b_ 0)) (hf:Mp 188 w sb sc [(0,M)]) (hn:Am L<=M) (hL:1<=L) (hL':L<=128) (hM:M<=500):
  P_ m 46 #[R_ kb,R_ pb] w λe w'=>e=.returned (.bool true)/\Keep (λb=>b=kb\/b=sb\/b=pb) w w'/\(∀Ae:List Nat,Ae.length=L->w'.heap[pb]?=some (Ef ib fb Ae).obj)/\∃g c,w.heap.size<=g/\w'.heap[kb]?=some (.cells (((ks.setIfInBounds 1 (Q_ sb (Aw [(0,M)] (Am L)).2.length sc)).setIfInBounds 3 (b_ 1)).setIfInBounds 2 (Q_ g 1 c)) 114 (0,0))/\Mp 188 w' sb sc (Aw [(0,M)] (Am L)).2/\Rw 119 1 w' g 1 c (BH [pb]):=by
 have q8:w.cell? (T_ pb 8)=some (Q_ ib L L):=bce hp rfl;have x:pb≠kb:=BL hp hk (by decide);have hd:Hd 188 w kb 1 114 ks sb sc [(0,M)]:=⟨hk,hs,hf,by decide⟩;have B:kb≠sb:=hd.apart;have hpc:pb≠sb:=by obtain⟨s,hc,_⟩:=hf.blk;exact BL hp hc (by decide)
 have n1:1<=Am L:=by unfold Am;omega
 have q:=take_one n1 hn;obtain⟨i9,hi9,D,E,F⟩:=info_parts ah0;gi_enter func46,ntmps46;gi_wp2;refine DT (P:=prog) _ rfl rfl (by kernel_rfl) 10 49 [0,1,2,3,4] [5,6,7,8,9] (by kernel_rfl) (by rfl)
  (NJ (At2 kb sb) w.drew 5 (bm2 kb sb sc (Am L) M ks) [(6,.tuple #[b_ 0,.bool true]),(7,b_ 0),(8,.bool true),(9,b_ 0)]) (F8 (by simp) (by simp)) _ _ rfl rfl ?_;gi_wp2_with (gi_at_call 58;refine(Gg _ w.drew pb _ _ _ q8 (by omega)).mono ?_;rintro e w1 ⟨rfl,rfl⟩);refine⟨rfl,by kernel_rfl,En,?_,?_,?_⟩
 .intro L' u W d;have d8:=(d.1.cell (w:=w.drew) (p:=(T_ pb 8)) (DN hp) (by rintro(h|h)<;>contradiction)).trans q8
  repeat' (refine Az ?_ ?_)
  all_goals first|exact trivial|gi_wp2_with (gi_at_call 58;refine(Gg _ W pb _ _ _ d8 (by omega)).mono ?_;rintro e w1 ⟨rfl,rfl⟩)
 .intro i hi L' u W d Y K;obtain rfl|rfl|rfl|rfl|rfl:=(by simpa using hi:i=5\/i=6\/i=7\/i=8\/i=9)
  .obtain rfl:=d.2.1 Y;refine BJ rfl λKK Qj=>?_
   show wpListIn NF m prog _ _ _ (Act.put (Act.put (Act.put (Act.put (Act.put _ (some 13) (u 5)) (some 7) (u 6)) (some 14) (u 7)) (some 15) (u 8)) (some 5) (u 9)) _;gi_wp2_with fail;refine(am3 _ w.drew kb sb sc (Am L) M 114 ks [(0,M)] (hd.keep (p_ No w).drew id id) ⟨by simp;omega,λi r hr=>by match i,hr with|0,hr=>cases hr;simp⟩ (by omega) (by unfold Am;omega)).mono ?_;rintro e w1 ⟨rfl,X,y,J⟩;rw[show Nk (Aw [(0,M)] (Am L)).1=.tuple #[b_ 0,.bool true] by rw[q];rfl];gi_wp2;exact⟨_,rfl,F9 d (by simp) X ⟨rfl,y,J⟩⟩
  .have I:=(d.2.2.1 (K 5 (by simp) (by decide))).1;exact qK rfl rfl rfl ⟨_,rfl,Gu d (by decide) I (by simp)⟩
  .have t:=d.2.2.2 (6,.tuple #[b_ 0,.bool true]) (by simp) (K 6 (by simp) (by decide));exact UL rfl rfl rfl t rfl ⟨_,rfl,GZ d (by decide) (by simp)⟩
  .have t:=d.2.2.2 (6,.tuple #[b_ 0,.bool true]) (by simp) (K 6 (by simp) (by decide));exact UL rfl rfl rfl t rfl ⟨_,rfl,GZ d (by decide) (by simp)⟩
  .have z:=d.2.2.2 (7,b_ 0) (by simp) (K 7 (by simp) (by decide));exact qL rfl rfl rfl ⟨_,rfl,Gu d (by decide) z (by simp)⟩
 .intro L' u W d hL;obtain⟨I,y,J⟩:=d.2.2.1 (hL 5 (by simp));have Q:=d.2.2.2 (8,.bool true) (by simp) (hL 8 (by simp));have R:=d.2.2.2 (9,b_ 0) (by simp) (hL 9 (by simp));have t:=d.2.2.2 (6,.tuple #[b_ 0,.bool true]) (by simp) (hL 6 (by simp));have z:=d.2.2.2 (7,b_ 0) (by simp) (hL 7 (by simp));simp only at t z Q R;show wpListIn NF m prog _ _ _ (Act.put (Act.put (Act.put (Act.put (Act.put _ (some 13) (u 5)) (some 7) (u 6)) (some 14) (u 7)) (some 15) (u 8)) (some 5) (u 9)) _;rw[I,t,z,Q,R];clear q;generalize hl9:(Aw [(0,M)] (Am L)).2=l' at*;generalize hv':Value.slice (some (S_ sb)) l'.length sc=v' at*;have C:=d.1.old (w:=w.drew) hp (by rintro(h|h)<;>contradiction);have KW:Keep (λb=>b=kb\/b=sb\/b=pb) w W:=(p_ _ w).drew.trans d.1 (by rintro k _ (h|h);exact .inl h;exact .inr (.inl h));have c3:W.cell? (T_ kb 3)=some (b_ 0):=(Af y 3).trans ((BC (by decide)).trans hs3);have f3:=BN y 3;clear d I t z Q R hL;gi_upto_region 5 with fail;have U:=Ak (i:=3) y (b_ 1);have n:=(Gz (p:=(T_ kb 3)) (b_ 1) x).trans C;have t3:=Rw.keep J (Keep.Jo (w:=W) (b:=kb) (o:=3) (b_ 1)) (λe=>B e.symm);have K3:=KW.setCell (p:=(T_ kb 3)) (b_ 1) (λ_=>.inl rfl);generalize W.setCell (T_ kb 3) (b_ 1)=l at*;clear c3 f3 y J C KW;have d3:l.cell? (T_ kb 3)=some (b_ 1):=(Af U 3).trans (Nq ((BC (by decide)).trans hs3));have p0:l.cell? (S_ pb)=some (b_ 0):=bce n rfl;have f0:=BN n 0;have ϥ:=Ak (i:=0) n (b_ 1);have p10:(l.setCell (S_ pb) (b_ 1)).cell? (T_ pb 10)=some (b_ 0):=bce ϥ rfl;have S:=BN ϥ 10;have ϳ:=Ak (i:=10) ϥ (b_ 0);have p11:((l.setCell (S_ pb) (b_ 1)).setCell (T_ pb 10) (b_ 0)).cell? (T_ pb 11)=some (b_ 0):=bce ϳ rfl;have T:=BN ϳ 11;have v:=Ak (i:=11) ϳ (b_ (-1));gi_upto_region 6 with fail;have v:∀Ae:List Nat,Ae.length=L->(((l.setCell (S_ pb) (b_ 1)).setCell (T_ pb 10) (b_ 0)).setCell (T_ pb 11) (b_ (-1))).heap[pb]?=some (Ef ib fb Ae).obj:=λAe hl=>by
   rw[v]
   simp[Ef,bG,PR.obj,PR.arr,hl]
  have k1:Keep (Go.Fxa.At pb) l (l.setCell (S_ pb) (b_ 1)):=Keep.Jo _;have k2:Keep (Go.Fxa.At pb) (l.setCell (S_ pb) (b_ 1)) ((l.setCell (S_ pb) (b_ 1)).setCell (T_ pb 10) (b_ 0)):=Keep.Jo _;have k3:Keep (Go.Fxa.At pb) ((l.setCell (S_ pb) (b_ 1)).setCell (T_ pb 10) (b_ 0)) (((l.setCell (S_ pb) (b_ 1)).setCell (T_ pb 10) (b_ 0)).setCell (T_ pb 11) (b_ (-1))):=Keep.Jo _;have K36:=(k1.then k2).then k3;clear k1 k2 k3;generalize ((l.setCell (S_ pb) (b_ 1)).setCell (T_ pb 10) (b_ 0)).setCell (T_ pb 11) (b_ (-1))=f at*;have V:=K36.old U (λe=>x e.symm);have t6:=t3.keep K36 (λe=>hpc e.symm);have K6:Keep (λb=>b=kb\/b=sb\/b=pb) w f:=K3.trans K36 (λk _ e=>.inr (.inr e));clear d3 p0 f0 ϥ p10 S ϳ p11 T K36 t3 U n K3;have d2:f.cell? (T_ kb 2)=some (.slice none 0 0):=(Af V 2).trans ((BC (by decide)).trans ((BC (by decide)).trans hs2));have N:Keep No f (f.alloc (.cells #[R_ pb] 119)):=(p_ No f).alloc _;have hcA:∀j u,([R_ pb]:U_)[j]?=some u->(f.alloc (.cells #[R_ pb] 119)).cell? (((S_ f.heap.size):f_).add j)=some u:=λj u hj=>by
   match j,hj with
   |0,hj=>
    have ea:((S_ f.heap.size):f_).add 0=(S_ f.heap.size):=by rw[Addr.add_lit,Nat.zero_add]
    rw[ea,Af (heap_alloc_new (w:=f) (o:=.cells #[R_ pb] 119) rfl)]
    simpa using hj
  gi_wp2_with (gi_at_builtin;refine wpListIn_append_own _ rfl (.tmp 43) (.tmp 45) 100 rfl w.heap.size 119 i9 (.pointer none) 1 8 underlying100 hi9 D E F rfl (by decide) (.slice none 0 0) 0 [] rfl (World.ownsRow_nil _ _ _ _) (S_ f.heap.size) 1 1 [R_ pb] rfl (by simp) hcA (by simp[Value.oneCell']) (by unfold maxLen;omega) (by omega) (Nat.le_trans K6.size N.size) ?_;intro va G oB DK _;have KB:Keep No (f.alloc (.cells #[R_ pb] 119)) G:=Gw DK (λk h _=>by cases h);obtain⟨aa,O,hva⟩:∃a c,va=.slice a 1 c:=(by obtain⟨_,hx⟩|⟨g,cap,s,hv,_⟩:=oB.2;(· omega);(· exact⟨_,_,hv⟩));subst hva;have bB:=KB.old (N.old V id) id;have gB:=BN bB 2;have eB:=(Af bB 2).trans ((BC (by decide)).trans ((BC (by decide)).trans hs2)));go_ret;have KB':Keep No f G:=N.then KB;have A:=KB'.old V id;have tB:=t6.keep KB' id;have H:Keep (Go.Fxa.At kb) G (G.setCell (T_ kb 2) (.slice aa 1 O)):=Keep.Jo _;obtain⟨_,hx⟩|⟨g,cap,s,hv,Z,hg,hc1,hmx,hcs,q⟩:=oB.2
  .omega
  .injection hv with e1 _ e3;subst e1 e3;have hgk:g≠kb:=BL hg A (by decide);have hR:Rw 119 1 G g 1 O (BH [pb]):=⟨⟨s,hg,hcs,q⟩,hc1,hmx,rfl,by simp[BH,ptr,Value.oneCell']⟩;subst hv' hl9;exact⟨by simp,(K6.trans (S':=No) KB' (λ_ _ e=>e.elim)).trans H (λk _ e=>.inl e),λAe hl=>H.old (KB'.old (v Ae hl) id) x,g,Z,O,Ak A _,Rw.keep tB H (λe=>B e.symm),hR.keep H hgk⟩
end
theorem Fe.rw {T:j_} {k:IntKind} {w:o_} {b n:Nat} {f:Nat->Int} (h:Fe T k w b n f) (hn:n<=1000):Rw T 1 w b n n ((List.range n).map λi=>.int k (f i)):=by
 obtain⟨c,d,j,e⟩:=h;refine⟨⟨c,d,by omega,?_⟩,w_ _,by unfold maxLen;omega,by simp,λx g=>?_⟩
 .refine List.ext_getElem? λi=>?_
  rw[Nat.mul_one];by_cases a:i<n
  .rw[List.getElem?_take_of_lt a,Array.getElem?_toList,e i a];simp[a]
  .rw[List.getElem?_eq_none (by simp;omega),List.getElem?_eq_none (by simp;omega)]
 .obtain⟨i,_,rfl⟩:=List.mem_map.1 g
  rfl
def XO (n N8:Nat) (Ae:Nat->Nat):List Nat:=(List.range N8).map (padded n Ae)
structure GU (kb base k:Nat) (L:Nat->Nat) (uh ks:X_) (T:Tag) (nm:Nat->d_ Nat) (ct:Nat->Ct) (w:o_):Prop where
 kh:w.heap[kb]?=some (O_ ks 114)
 off:∀j,j<4\/20<=j->ks[j]?=uh[j]?
 nmv:∀i,i<16->ks[4+i]?=some (ϯ (nm i))
 nmT:∀i b,nm i=some b->T b=(10,0)
 inj:∀i j f,nm i=some f->nm j=some f->i=j
 out:∀i,k<=i->nm i=none
 tg:∀b,T b≠(0,0)->base<=b/\b<w.heap.size/\(T b=(10,0)\/∃f,T b=(15,f))
 fl:∀b,T b=(10,0)->∃v,w.heap[b]?=some (O_ #[v,b_ 0] 191)/\RJ T w b 64 v (ct b).ws
 ln:∀i f,nm i=some f->LenAt w f (L i)
theorem GU.start {kb base:Nat} {L:Nat->Nat} {ks:X_} {w:o_} (h:w.heap[kb]?=some (O_ ks 114)) (hn:∀i,i<16->ks[4+i]?=some (.pointer none)):GU kb base 0 L ks ks (λ_=>(0,0)) (λ_=>none) (λ_=>⟨[],false,false,0⟩) w:=
 ⟨h,λ_ _=>rfl,hn,(λ_ _ h=>by cases h),(λ_ _ _ h=>by cases h),λ_ _=>rfl,λ_ h=>absurd rfl h,(λ_ h=>by simp at h),(λ_ _ h=>by cases h)⟩
theorem GU.kp {kb base k:Nat} {L:Nat->Nat} {uh ks:X_} {T:Tag} {nm:Nat->d_ Nat} {ct:Nat->Ct} {w w':o_} (h:GU kb base k L uh ks T nm ct w) (hK:Keep No w w'):GU kb base k L uh ks T nm ct w':=
 ⟨hK.old h.kh id,h.off,h.nmv,h.nmT,h.inj,h.out,λb g=>let ⟨a,c,d⟩:=h.tg b g;⟨a,Nat.lt_of_lt_of_le c hK.size,d⟩,λb g=>let ⟨v,a,c⟩:=h.fl b g;⟨v,hK.old a id,c.keep (Q:=λ_=>False) hK.no (λh=>h)⟩,λi f e=>(h.ln i f e).keep hK id⟩
theorem GU.make {kb base k g n:Nat} {L:Nat->Nat} {uh ks:X_} {T:Tag} {nm:Nat->d_ Nat} {ct:Nat->Ct} {w w':o_} {Ae:Nat->Nat} (h:GU kb base k L uh ks T nm ct w) (hLk:L k=n) (hk:k<16) (hb:kb<base) (hs:base<=w.heap.size) (hg:base<=g) (hgT:T g=(0,0)) (hR:Fe 123 .u16 w g n (fun i=>Ae i)) (hn:n<=64) (hw:∀i,i<n->Ae i<65536)
  (hK:Keep (At kb) w w') (hk':w'.heap[kb]?=some (.cells (ks.setIfInBounds (4+k) (ptr w.heap.size)) 114 (0,0))) (hf:w'.heap[w.heap.size]?=some (O_ #[Q_ g n n,b_ 0] 191)):
  GU kb base (k+1) L uh (ks.setIfInBounds (4+k) (ptr w.heap.size)) (DZ (DZ T g (15,w.heap.size)) w.heap.size (10,0)) (Aj nm k (some w.heap.size)) (Aj ct w.heap.size ⟨(List.range n).map Ae,false,false,0⟩) w':=by
 have z:g<w.heap.size:=by obtain⟨_,l,_⟩:=hR;exact DN l
 have s:4+k<ks.size:=(y_.1 (h.nmv k hk)).1;have r:T w.heap.size=(0,0):=by
  cases Decidable.em (T w.heap.size=(0,0))with
  |inl e=>exact e
  |inr e=>have:=(h.tg _ e).2.1;omega
 have tag:∀{b t},T b=t->t≠(0,0)->DZ (DZ T g (15,w.heap.size)) w.heap.size (10,0) b=t:=fun {b t} l m=>by
  rw[Bj (by rintro rfl;exact m (l.symm.trans r)),Bj (by rintro rfl;exact m (l.symm.trans hgT))];exact l
 have o:DZ (DZ T g (15,w.heap.size)) w.heap.size (10,0) g=(15,w.heap.size):=by rw[Bj (by omega),CX]
 have u:∀{b t},T b=t->t≠(0,0)->¬At kb b:=fun {b t} l m e=>by
  have:=(h.tg b (by rw[l];exact m)).1
  have e:b=kb:=e
  omega
 refine⟨hk',λj E=>?_,λi q=>?_,λi b e=>?_,λi j f l m=>?_,λi q=>?_,λb e=>?_,λb e=>?_,λi b e=>?_⟩
 .rw[IB (by omega)];exact h.off j E
 .by_cases e:i=k
  .subst e;rw[Array.getElem?_setIfInBounds_self_of_lt s];simp[Aj,ϯ]
  .rw[IB (by omega)];simpa [Aj,e]using h.nmv i q
 .by_cases p:i=k
  .subst p;obtain rfl:w.heap.size=b:=(by simpa [Aj]using e);exact CX
  .exact tag (h.nmT i b (by simpa [Aj,p]using e)) (by simp)
 .by_cases e1:i=k<;>by_cases e2:j=k
  .omega
  .exfalso;obtain rfl:w.heap.size=f:=(by simpa [Aj,e1]using l);have:=h.nmT j _ (by simpa [Aj,e2]using m);rw[r]at this;simp at this
  .exfalso;obtain rfl:w.heap.size=f:=(by simpa [Aj,e2]using m);have:=h.nmT i _ (by simpa [Aj,e1]using l);rw[r]at this;simp at this
  .exact h.inj i j f (by simpa [Aj,e1]using l) (by simpa [Aj,e2]using m)
 .simpa [Aj,show i≠k by omega]using h.out i (by omega)
 .by_cases e1:b=w.heap.size
  .subst e1;exact⟨hs,DN hf,.inl CX⟩
  .by_cases e2:b=g
   .subst e2;exact⟨hg,Nat.lt_of_lt_of_le z hK.size,.inr ⟨_,o⟩⟩
   .rw[Bj e1,Bj e2]at e ⊢;obtain⟨a,c,d⟩:=h.tg b e;exact⟨a,Nat.lt_of_lt_of_le c hK.size,d⟩
 .by_cases e1:b=w.heap.size
  .subst e1;rw[show Aj ct w.heap.size ⟨(List.range n).map Ae,false,false,0⟩ w.heap.size=⟨(List.range n).map Ae,false,false,0⟩from if_pos rfl];refine⟨_,hf,.inr ⟨g,n,?_,?_,by simpa using hn,λx F=>?_,o⟩⟩
   .simp
   .have:=(hR.rw (by omega)).keep hK (λe=>by have e:g=kb:=e;omega);simpa [AB,Function.comp_def]using this
   .obtain⟨i,q,rfl⟩:=List.mem_map.1 F;exact hw i (by simpa using q)
  .have e2:T b=(10,0):=by
    by_cases e2:b=g
    .subst e2;rw[o]at e;simp at e
    .rwa [Bj e1,Bj e2]at e
   obtain⟨v,a,c⟩:=h.fl b e2;rw[show Aj ct w.heap.size ⟨(List.range n).map Ae,false,false,0⟩ b=ct b from if_neg e1];refine⟨v,hK.old a (u e2 (by simp)),?_⟩;obtain c|⟨D,C,a1,a2,A,B,y⟩:=c
   .exact .inl c
   .exact .inr ⟨D,C,a1,a2.keep hK (u y (by simp)),A,B,tag y (by simp)⟩
 .by_cases p:i=k
  .subst p;obtain rfl:w.heap.size=b:=(by simpa [Aj]using e);rw[hLk];exact⟨_,_,_,hf⟩
  .have e1:nm i=some b:=(by simpa [Aj,p]using e);exact(h.ln i b e1).keep hK (u (h.nmT i b e1) (by simp))
theorem U2 {f:Nat->Nat}:∀n:Nat,BF f (List.range n)=Iq f n
 |0=>rfl
 |n+1=>by rw[Rn,U2 n];simp only[Iq];omega
theorem bY {f:Nat->Nat} {k:Nat} (h:∀i,k<=i->f i=0):∀d:Nat,Iq f (k+d)=Iq f k
 |0=>rfl
 |d+1=>by show f (k+d)+Iq f (k+d)=_;rw[h _ (by omega),bY h d];omega
theorem rq {f g:Nat->Nat}:∀{n:Nat},(∀i,i<n->f i<=g i)->Iq f n<=Iq g n
 |0,_=>w_ _
 |n+1,h=>by
  have a:=rq (n:=n) (f:=f) (g:=g) λi c=>h i (by omega)
  have b:=h n (by omega)
  simp only[Iq];omega
theorem GU.disk {kb base k:Nat} {L:Nat->Nat} {uh ks:X_} {T:Tag} {nm:Nat->d_ Nat} {ct:Nat->Ct} {w:o_} (h:GU kb base k L uh ks T nm ct w) (hk:k<=16) (hs:Ze L k<=40):VQ T nm [] w:=by
 have l:∀b,∃n,T b=(10,0)->LenAt w b n:=λb=>by
  by_cases e:T b=(10,0)
  .obtain⟨v,a1,a2⟩:=h.fl b e;obtain⟨rfl,_⟩|⟨g,c,rfl,_⟩:=a2
   .exact⟨0,λ_=>⟨_,_,_,a1⟩⟩
   .exact⟨_,λ_=>⟨_,_,_,a1⟩⟩
  .exact⟨0,λh=>absurd h e⟩
 obtain⟨d,j⟩:=Classical.axiomOfChoice l;refine⟨d,j,?_⟩;show BF (UE d nm) (List.range 16)+0<=40;rw[U2];have e1:=bY (f:=UE d nm) (k:=k) (λi a=>dL (h.out i a)) (16-k);rw[show k+(16-k)=16 by omega]at e1;have e2:=rq (n:=k) (f:=UE d nm) (g:=λi=>Am (L i)) λi _=>by
  unfold UE
  cases a:nm i with
  |none=>exact Nat.zero_le _
  |some f=>simp only;rw[(j f (h.nmT i f a)).eq (h.ln i f a)];exact w_ _
 unfold Ze at hs;omega
def LM (kb cb sb g pb ib fb:Nat) (T:Tag):Tag:=DZ (DZ (DZ (DZ (DZ (DZ (DZ T kb (1,0)) cb (2,0)) sb (3,0)) g (4,0)) pb (6,pb)) ib (7,pb)) fb (8,pb)
def Na (kb cb sb g c pb ib fb C:Nat) (l:List (W_)) (nm:Nat->d_ Nat) (T:Tag) (ct:Nat->Ct) (Ae:List Nat):KS:=
 { kb:=kb,cg:=cb,cc:=1,sg:=sb,sc:=1,pg:=g,pc:=c,BK:=1,core:=[(0,C)],swap:=l,AV:=[pb],nl:=[],desc:=λ_=>0,op:=λ_=>0,nm:=nm,ef:=λ_=>none,ps:=BX (λ_=>none) pb (Ef ib fb Ae),T:=LM kb cb sb g pb ib fb T,ct:=ct,tv:=λ_=>.nilIface }
section
variable {kb base k cb sb g c pb ib fb C M:Nat} {L:Nat->Nat} {uh ks ks':X_} {T:Tag} {nm:Nat->d_ Nat} {ct:Nat->Ct} {w w0:o_} {l:List (W_)} {Ae:List Nat}
theorem A8.fresh (hF:GU kb base k L uh ks T nm ct w0) (hkL:k<=16) (hfs:Ze L k<=40) (hK:Keep (fun b=>b=kb\/b=sb\/b=pb) w0 w) (hk:w.heap[kb]?=some (O_ ks' 114)) (k0:ks'[0]?=some (Q_ cb 1 1)) (k1:ks'[1]?=some (Q_ sb l.length 1)) (k2:ks'[2]?=some (Q_ g 1 c)) (k3:ks'[3]?=some (b_ 1)) (kn:∀i,i<16->ks'[4+i]?=ks[4+i]?) (k20:ks'[20]?=some (.slice none 0 0)) (ke:∀i,i<20->ks'[21+i*2]?=some .nilIface/\ks'[21+i*2+1]?=some (b_ 0))
  (mc:Mp 186 w cb 1 [(0,C)]) (ms:Mp 188 w sb 1 l) (pr:Rw 119 1 w g 1 c (BH [pb])) (hp:w.heap[pb]?=some (Ef ib fb Ae).obj) (hi:Rw 123 1 w ib Ae.length Ae.length (AB Ae)) (hf:Rw 3 1 w fb 6 6 (Fh [-1,-1,-1,-1,-1,-1])) (tkb:kb<base) (tsb:sb<base) (tcb:cb<base) (tz:T g=(0,0)/\T pb=(0,0)/\T ib=(0,0)/\T fb=(0,0)):A8 (Na kb cb sb g c pb ib fb C l nm T ct Ae) w:=by
 have low:∀{x},x<base->T x=(0,0):=fun {x} W=>by
  cases Decidable.em (T x=(0,0))with
  |inl e=>exact e
  |inr e=>have:=(hF.tg _ e).1;omega
 obtain⟨tg,tp,ti,tf⟩:=tz;obtain⟨_,q,_⟩:=mc.blk;obtain⟨_,s,_⟩:=ms.blk;obtain⟨_,u,_⟩:=pr.blk;obtain⟨_,z,_⟩:=hi.blk;obtain⟨_,A,_⟩:=hf.blk;have n1:kb≠cb:=BL hk q (by decide);have n2:kb≠sb:=BL hk s (by decide);have n3:kb≠g:=BL hk u (by decide);have n4:kb≠pb:=BL hk hp (by decide);have n5:kb≠ib:=BL hk z (by decide);have n6:kb≠fb:=BL hk A (by decide);have n7:cb≠sb:=BL q s (by decide);have n8:cb≠g:=BL q u (by decide);have n9:cb≠pb:=BL q hp (by decide);have B:cb≠ib:=BL q z (by decide);have D:cb≠fb:=BL q A (by decide);have E:sb≠g:=BL s u (by decide);have F:sb≠pb:=BL s hp (by decide);have G:sb≠ib:=BL s z (by decide);have H:sb≠fb:=BL s A (by decide);have I:g≠pb:=BL u hp (by decide);have J:g≠ib:=BL u z (by decide);have K:g≠fb:=BL u A (by decide);have M:pb≠ib:=BL hp z (by decide);have N:pb≠fb:=BL hp A (by decide);have O:ib≠fb:=BL z A (by decide);have X:LM kb cb sb g pb ib fb T kb=(1,0):=by simp[LM,DZ,n1,n2,n3,n4,n5,n6]
 have Y:LM kb cb sb g pb ib fb T cb=(2,0):=by simp[LM,DZ,n7,n8,n9,B,D]
 have Z:LM kb cb sb g pb ib fb T sb=(3,0):=by simp[LM,DZ,E,F,G,H]
 have t4:LM kb cb sb g pb ib fb T g=(4,0):=by simp[LM,DZ,I,J,K]
 have t6:LM kb cb sb g pb ib fb T pb=(6,pb):=by simp[LM,DZ,M,N]
 have t7:LM kb cb sb g pb ib fb T ib=(7,pb):=by simp[LM,DZ,O]
 have t8:LM kb cb sb g pb ib fb T fb=(8,pb):=by simp[LM,DZ]
 have tag:∀{b t},T b=t->t≠(0,0)->LM kb cb sb g pb ib fb T b=t:=fun {b t} j o=>by
  have ne:∀{x},T x=(0,0)->b≠x:=λW e=>by subst e;exact o (j.symm.trans W)
  unfold LM
  rw[Bj (ne tf),Bj (ne ti),Bj (ne tp),Bj (ne tg),Bj (ne (low tsb)),Bj (ne (low tcb)),Bj (ne (low tkb))]
  exact j
 have m:∀{b t},LM kb cb sb g pb ib fb T b=t->9<=t.1->T b=t:=fun {b t} j o=>by
  by_cases e1:b=fb
  .subst e1;rw[t8]at j;subst j;simp at o
  by_cases e2:b=ib
  .subst e2;rw[t7]at j;subst j;simp at o
  by_cases e3:b=pb
  .subst e3;rw[t6]at j;subst j;simp at o
  by_cases e4:b=g
  .subst e4;rw[t4]at j;subst j;simp at o
  by_cases S:b=sb
  .subst S;rw[Z]at j;subst j;simp at o
  by_cases U:b=cb
  .subst U;rw[Y]at j;subst j;simp at o
  by_cases V:b=kb
  .subst V;rw[X]at j;subst j;simp at o
  unfold LM at j
  rwa [Bj e1,Bj e2,Bj e3,Bj e4,Bj S,Bj U,Bj V]at j
 have p:∀{b t},T b=t->t≠(0,0)->¬t=(10,0)->(∀f,¬t=(15,f))->False:=fun {b t} j o h3 h4=>by
  obtain e|⟨f,e⟩:=(hF.tg b (by rw[j];exact o)).2.2
  .exact h3 (j.symm.trans e)
  .exact h4 f (j.symm.trans e)
 have P:∀{b t},T b=t->t≠(0,0)->¬(b=kb\/b=sb\/b=pb):=fun {b t} j o e=>by
  obtain rfl|rfl|rfl:=e
  .exact o (j.symm.trans (low tkb))
  .exact o (j.symm.trans (low tsb))
  .exact o (j.symm.trans tp)
 refine⟨⟨ks',hk,⟨k0,k1,k2,k3,λi hi=>⟨(kn i hi).trans (hF.nmv i hi),λb e=>tag (hF.nmT i b e) (by simp)⟩,⟨_,k20,.inl ⟨rfl,rfl⟩,λ_ h=>by cases h⟩,λi hi=>⟨(ke i hi).1,(ke i hi).2,rfl,λh=>absurd h (by simp[Na])⟩⟩⟩,mc,ms,pr,λb r e=>?_,⟨λb e=>?_,λb e=>?_,λb f e=>?_,λb e=>?_,λb e=>?_⟩,X,Y,Z,t4,λb hb=>?_,(hF.disk hkL hfs).to λb n e=>⟨m e (by simp),λhl=>hl.keep hK (P (m e (by simp)) (by simp))⟩⟩
 .have e:BX (λ_=>none) pb (Ef ib fb Ae) b=some r:=e;by_cases R:b=pb
  .subst R;rw[Ah]at e;cases e;exact⟨t6,hp,λ_=>⟨ib,Ae.length,rfl,hi,t7⟩,λ_=>⟨fb,6,rfl,hf,t8⟩,.inl rfl,λh=>by cases h⟩
  .rw[Bg R]at e;cases e
 .have e:=m e (by simp);obtain⟨v,a,d⟩:=hF.fl b e;refine⟨v,hK.old a (P e (by simp)),?_⟩;obtain d|⟨x,y,a1,a2,a3,a4,Q⟩:=d
  .exact .inl d
  .exact .inr ⟨x,y,a1,a2.keep hK (P Q (by simp)),a3,a4,tag Q (by simp)⟩
 .exact(p (m e (by simp)) (by simp) (by simp) (by simp)).elim
 .exact(p (m e (by simp)) (by simp) (by simp) (by simp)).elim
 .exact(p (m e (by simp)) (by simp) (by simp) (by simp)).elim
 .exact(p (m e (by simp)) (by simp) (by simp) (by simp)).elim
 .have l0:=DN hk;have l1:=DN q;have l2:=DN s;have l3:=DN u;have l4:=DN z;have l5:=DN A;have l6:=DN hp;show LM kb cb sb g pb ib fb T b=(0,0);unfold LM;rw[Bj (by omega),Bj (by omega),Bj (by omega),Bj (by omega),Bj (by omega),Bj (by omega),Bj (by omega)];cases Decidable.em (T b=(0,0))with
  |inl e=>exact e
  |inr e=>have:=(hF.tg _ e).2.1;have:=hK.size;omega
theorem GK.fresh (hC:16<=C/\C<=64) (hM:M<=256) (hi:∃q,Ae.length=8*q/\1<=q/\q<=16) (hw:∀x∈Ae,x<65536) (hn:Am Ae.length<=M) (hl:l=(Aw [(0,M)] (Am Ae.length)).2) (inj:∀i j f,nm i=some f->nm j=some f->i=j):GK C M (Na kb cb sb g c pb ib fb C l nm T ct Ae):=by
 obtain⟨q,q1,v,w⟩:=hi;have p:1<=Am Ae.length:=by rw[q1];unfold Am;omega
 have y:Am Ae.length=q:=by rw[q1];unfold Am;omega
 have get:∀{b r},(Na kb cb sb g c pb ib fb C l nm T ct Ae).ps b=some r->b=pb/\r=Ef ib fb Ae:=fun {b r} e=>by
  have e:BX (λ_=>none) pb (Ef ib fb Ae) b=some r:=e
  by_cases o:b=pb
  .subst o;rw[Ah]at e;cases e;exact⟨rfl,rfl⟩
  .rw[Bg o]at e;cases e
 have a:(Na kb cb sb g c pb ib fb C l nm T ct Ae).ps pb=some (Ef ib fb Ae):=by simp[Na,BX]
 have k:l=if M=Am Ae.length then[]else[(Am Ae.length,M-Am Ae.length)]:=by rw[hl,take_one p hn]
 refine⟨λb t=>?_,by simp[Na],by simp[Na],⟨by omega,?_,by simp[Na,XM],Nat.zero_le _,λi hi=>?_,λb r e=>?_⟩,⟨by omega,?_,by rw[show(Na kb cb sb g c pb ib fb C l nm T ct Ae).swap=l from rfl,k];split<;>simp[XM],Nat.zero_le _,λi hi=>?_,λb r e=>?_⟩,λb r e=>?_,λb r e=>?_,by simp[Na],by simp[Na],?_⟩
 .obtain rfl:b=pb:=by simpa [Na]using t
  exact⟨_,a⟩
 .intro r d;obtain rfl:r=(0,C):=by simpa [Na]using d
  simp;omega
 .show D5 i [(0,C)]+BF (FX i _) [pb]+_=1;simp only[D5,BF];rw[EF a,kX (Nat.zero_le _) (by omega),Q8];simp[Ef]
 .obtain⟨rfl,rfl⟩:=get e;exact⟨by show Ae.length<=128;omega,.inl rfl⟩
 .intro r d;have d:r∈l:=d;rw[k]at d;split at d
  .cases d
  .obtain rfl:r=(Am Ae.length,M-Am Ae.length):=(by simpa using d);simp;omega
 .show D5 i l+BF (LP i _) [pb]+_=1;simp only[BF];rw[IM a,Q8];show D5 i l+(NY i 0 (Am Ae.length)+0)+0=1;rw[k];split
  .simp only[D5];unfold NY;split<;>omega
  .simp only[D5];unfold NY;repeat' split
   all_goals omega
 .obtain⟨rfl,rfl⟩:=get e;show 0+Am Ae.length<=M;omega
 .obtain⟨rfl,rfl⟩:=get e;refine⟨by simp[Ef],by simp[Ef],by simp[Ef],by simp[Ef],by simp[Ef],by simp[Ef],hw,λ_=>rfl,λn hn=>.inl (by simpa [Ef]using hn),λ_=>⟨q,q1,v,w⟩,λh=>by cases h⟩
 .obtain⟨rfl,rfl⟩:=get e;simp[Ef,Na]
 .have m:∀i,BP (Na kb cb sb g c pb ib fb C l nm T ct Ae).ps [pb] i=0:=λi=>by
   unfold BP
   simp only[BF]
   rw[Gv a]
   have:(Ef ib fb Ae).fds.count (i:Int)=0:=by
    rw[List.count_eq_zero]
    intro h
    simp[Ef]at h
   omega
  refine⟨λi _=>(m i).symm,λi _=>by rw[show(Na kb cb sb g c pb ib fb C l nm T ct Ae).AV=[pb]from rfl,m];omega,λf=>?_,by simp[Na],(λf u=>by simp[Na]at u),λi j f _ _=>inj i j f,λi f _ _ h=>by simp[Na]at h⟩;have:EM (λ_=>0) (λ_=>none) f=0:=by
   cases m:EM (λ_=>0) (λ_=>none) f with
   |zero=>rfl
   |succ n=>
    obtain⟨i,_,s⟩:=Ws (f:=λi=>if 0<(λ_:Nat=>0) i/\(λ_:Nat=>(none:d_ Nat)) i=some f then 1 else 0) (l:=List.range 20) (by unfold EM at m;omega)
    simp at s
  exact this.symm
end
end Go.Fxa
