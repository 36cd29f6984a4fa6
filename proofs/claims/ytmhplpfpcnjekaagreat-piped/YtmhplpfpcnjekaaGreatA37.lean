/- Piped: the pieces of its loop, -/
import Derived.Test.YtmhplpfpcnjekaaGreatA36
namespace Go.Fxa
open Conc Proofs RowKit Proofs.Tryz
set_option maxRecDepth 1000000
set_option maxHeartbeats 0
structure ab3 (base:Nat) (T:Tag) (v:n_) (w:o_) (l:List Nat):Prop where
 row:w.ownsRow base 3 1 v l.length (l.map λx:Nat=>b_ (x:Int))
 no:∀g,v.ownBlock=some g->T g=(0,0)
structure LS (v0:o_) (K:KS) (rv:n_) (l:List Nat) (w:o_):Prop where
 ka:A8 K w
 ok:GK 16 40 K
 own:ab3 v0.heap.size K.T rv w l
 k0:Keep No v0 w
 low:∀k,K.T k≠(0,0)->v0.heap.size<=k
theorem ab3.TL {base:Nat} {T T':Tag} {v:n_} {w w':o_} {l:List Nat} (h:ab3 base T v w l) (M:BV T T' w w'):ab3 base T' v w' l:=by
 refine⟨?_,λg f=>(DY.fresh M g (h.row.lt g f).2).trans (h.no g f)⟩;obtain⟨⟨i,e⟩,j⟩:=h;refine⟨i,?_⟩;obtain e|⟨g,cap,a,rfl,b,c,d⟩:=e
 .exact .inl e
 .exact .inr ⟨g,cap,a,rfl,b,M.old c (j g rfl),d⟩
section
variable {v0 w w':o_} {K K':KS} {rv:n_} {l:List Nat}
theorem LS.TL (h:LS v0 K rv l w) (ka:A8 K' w') (ok:GK 16 40 K') (M:BV K.T K'.T w w'):LS v0 K' rv l w':=⟨ka,ok,h.own.TL M,(M.low h.k0 h.low).1,(M.low h.k0 h.low).2⟩
theorem LS.no (h:LS v0 K rv l w) (hK:Keep No w w'):LS v0 K rv l w':=h.TL (h.ka.no hK) h.ok (BV.no hK h.ka.lt)
theorem LS.sl (h:LS v0 K rv l w):∃a c,rv=.slice a l.length c:=by
 obtain⟨e,d⟩|⟨g,cap,b,e,_⟩:=h.own.row.2
 .exact⟨none,0,by rw[e,d]⟩
 .exact⟨_,cap,e⟩
theorem LS.at (h:LS v0 K rv l w) {i x:Nat} (hi:l[i]?=some x):∃g c,rv=Q_ g l.length c/\w.cell? (T_ g i)=some (b_ (x:Int)):=by
 have j:i<l.length:=by
  obtain a|a:=Nat.lt_or_ge i l.length
  .exact a
  .rw[List.getElem?_eq_none a]at hi;cases hi
 obtain⟨g,c,f⟩:∃g c,rv=Q_ g l.length c:=by
  obtain⟨_,e⟩|⟨g,cap,b,e,_⟩:=h.own.row.2
  .omega
  .exact⟨g,cap,e⟩
 have d:=h.own.row;subst f;refine⟨g,c,rfl,(d.cellAt i (by omega)).trans ?_⟩;rw[List.getElem?_map,hi];rfl
theorem LS.push {x:Nat} {rv':n_} (h:LS v0 K rv l w) (Jp:w'.ownsRow v0.heap.size 3 1 rv' (l.length+1) ((l.map λx:Nat=>b_ (x:Int))++[b_ (x:Int)])) (DK:w.grownBy w' rv.ownBlock) (hat:rv'.ownBlock=rv.ownBlock\/rv'.ownBlock=some w.heap.size):LS v0 K rv' (l++[x]) w':=by
 have b:Keep (λk=>rv.ownBlock=some k) w w':=Gw DK (λk a _=>a);refine⟨h.ka.keep (b.on λk _ e=>h.own.no k e) λk a=>h.ka.lt k (Nat.le_trans b.size a),h.ok,⟨by simpa using Jp,λg c=>?_⟩,h.k0.trans b (λk a e=>absurd (h.own.row.lt k e).1 (by omega)),h.low⟩;obtain e|e:=hat
 .exact h.own.no g (by rw[<-e];exact c)
 .rw[e]at c;cases c;exact h.ka.lt _ (w_ _)
end
section
variable (m:Nat) (w:o_) (f:Y_)
theorem bd6 (dv nv av kp rv xv:n_) (s:d_ f_) (N c i en:Nat) (hN:N<1000000000000000000):(g17 prog).wpIn NF m prog (Ends λtm w'=>(∃g,tm=TN 268 (AL g [(0,dv),(4,.slice s N c),(12,nv),(13,av),(14,kp),(18,rv),(19,xv),(20,b_ (en:Nat)),(21,b_ (i:Nat)),(105,.bool (decide (i<N+1200/\en<2)))]))/\Keep No w w') ⟨TN 268 (AL f [(0,dv),(4,.slice s N c),(12,nv),(13,av),(14,kp),(18,rv),(19,xv),(20,b_ (en:Nat)),(21,b_ (i:Nat))]),[]⟩ w:=by
 unfold g17 gL gq;rw[body8];dsimp only[Tryz.f8,Option.getD,behind,piece];show Code.wpIn (Fence.list LF none) m prog _ _ ⟨sg f (dv) (f 1) (f 2) (f 3) (.slice s N c) (f 11) (nv) (av) (kp) (f 15) (f 16) (f 17) (rv) (xv) (b_ (en:Nat)) (b_ (i:Nat)) (f 22),[]⟩ _;unfold sg;by_cases h:i<N+1200
 .have b:(i:Int)<N+1200:=by omega
  by_cases d:en<2
  .have a:(en:Int)<2:=(by omega);gi_wp2;exact⟨rfl,rfl,⟨_,C9 rfl (by simp[h,d])⟩,p_ _ _⟩
  .have a:¬(en:Int)<2:=(by omega);gi_wp2;exact⟨rfl,rfl,⟨_,C9 rfl (by simp)⟩,p_ _ _⟩
 .have b:¬(i:Int)<N+1200:=by omega
  gi_wp2;exact⟨rfl,rfl,⟨_,C9 rfl (by simp)⟩,p_ _ _⟩
theorem bd5 (dv sv nv av kp rv xv Fb:n_) (i:Nat) (hi:i<9223372036854775807):(g18 prog).wpIn NF m prog (Ends λtm w'=>(∃g,tm=TN 268 (AL g [(0,dv),(4,sv),(12,nv),(13,av),(14,kp),(18,rv),(19,xv),(20,Fb),(21,b_ (i+1:Nat))]))/\Keep No w w') ⟨TN 268 (AL f [(0,dv),(4,sv),(12,nv),(13,av),(14,kp),(18,rv),(19,xv),(20,Fb),(21,b_ (i:Nat))]),[]⟩ w:=by
 unfold g18 gL gq;rw[body8];dsimp only[Tryz.f8,Option.getD,behind,piece];show Code.wpIn (Fence.list LF none) m prog _ _ ⟨sg f (dv) (f 1) (f 2) (f 3) (sv) (f 11) (nv) (av) (kp) (f 15) (f 16) (f 17) (rv) (xv) (Fb) (b_ (i:Nat)) (f 22),[]⟩ _;unfold sg;gi_wp2;exact⟨rfl,rfl,⟨_,C9 rfl (by simp)⟩,p_ _ _⟩
theorem bd4 (dv sv nv av kp rv xv Fb:n_) (i:Nat) (hi:i<9223372036854775807):(g19 prog).wpIn NF m prog (Ends λtm w'=>(∃g,tm=TN 268 (AL g [(0,dv),(4,sv),(12,nv),(13,av),(14,kp),(18,rv),(19,xv),(20,Fb),(21,b_ (i:Nat)),(22,b_ (1+i % 2:Nat))]))/\Keep No w w') ⟨TN 268 (AL f [(0,dv),(4,sv),(12,nv),(13,av),(14,kp),(18,rv),(19,xv),(20,Fb),(21,b_ (i:Nat))]),[]⟩ w:=by
 have a:(i:Int).tmod 2=((i % 2:Nat):Int):=by rw[Int.tmod_eq_emod_of_nonneg (by omega)];omega
 unfold g19 gI gL gq;rw[body8];dsimp only[Tryz.f8,Option.getD,behind,piece];show Code.wpIn (Fence.list LF none) m prog _ _ ⟨sg f (dv) (f 1) (f 2) (f 3) (sv) (f 11) (nv) (av) (kp) (f 15) (f 16) (f 17) (rv) (xv) (Fb) (b_ (i:Nat)) (f 22),[]⟩ _;unfold sg;gi_wp2;exact⟨rfl,rfl,⟨_,C9 rfl (by simp)⟩,p_ _ _⟩
theorem au7 (dv nv av kp rv xv Fb qv:n_) (s:d_ f_) (N c i:Nat) (hi:N<=i):(g20 prog).wpIn NF m prog (Ends λtm w'=>(∃g,tm=TN 268 (AL g [(0,dv),(4,.slice s N c),(12,nv),(13,av),(14,kp),(18,rv),(19,xv),(20,Fb),(21,b_ (i:Nat)),(22,qv)]))/\Keep No w w') ⟨TN 268 (AL f [(0,dv),(4,.slice s N c),(12,nv),(13,av),(14,kp),(18,rv),(19,xv),(20,Fb),(21,b_ (i:Nat)),(22,qv)]),[]⟩ w:=by
 have a:¬(i:Int)<N:=by omega
 unfold g20 gI gL gq;rw[body8];dsimp only[Tryz.f8,Option.getD,behind,piece];show Code.wpIn (Fence.list LF none) m prog _ _ ⟨sg f (dv) (f 1) (f 2) (f 3) (.slice s N c) (f 11) (nv) (av) (kp) (f 15) (f 16) (f 17) (rv) (xv) (Fb) (b_ (i:Nat)) (qv),[]⟩ _;unfold sg;gi_wp2;exact⟨rfl,rfl,⟨_,C9 rfl (by simp)⟩,p_ _ _⟩
theorem bd3 (dv nv av rv xv Fb qv:n_) (b o N c i r4 r2:Nat) (kd pid:Int) (K:KS) (h:A8 K w) (ok:GK 16 40 K) (hi:i<N) (hS:NQ w b o i kd pid) (hr4:Dt kd 4=r4) (hr2:Dt pid 2=r2):(g20 prog).wpIn NF m prog (Ends λtm w'=>∃g K',tm=TN 268 (AL g [(0,dv),(4,.slice (some (T_ b o)) N c),(12,nv),(13,av),(14,ptr K.kb),(18,rv),(19,xv),(20,Fb),(21,b_ (i:Nat)),(22,b_ (1+r2:Nat))])/\A8 K' w'/\GK 16 40 K'/\CG K K'/\BV K.T K'.T w w') ⟨TN 268 (AL f [(0,dv),(4,.slice (some (T_ b o)) N c),(12,nv),(13,av),(14,ptr K.kb),(18,rv),(19,xv),(20,Fb),(21,b_ (i:Nat)),(22,qv)]),[]⟩ w:=by
 obtain⟨⟨a1,a2⟩,⟨u,v⟩,C,D⟩:=hS;have E:(i:Int)<N:=by omega
 have t:=ok.len;have A:=Ie pid (n:=2) (by decide);rw[hr2]at A;have B:=Ie kd (n:=4) (by decide);rw[hr4]at B;have d:=λm=>Q5 m w pid 2 r2 u v (by omega) (by omega) hr2
 have ϥ:=λm=>Q5 m w kd 4 r4 a1 a2 (by omega) (by omega) hr4
 have q:=λm=>bd8 m w K 16 (1+(r2:Int)) h ok.th ok.nd ok.co (by omega)
 have p:=λm=>br8 m w K 16 (1+(r2:Int)) h ok.th ok.nd ok.co (by omega)
 clear hr2 hr4;unfold g20 gI gL gq;rw[body8];dsimp only[Tryz.f8,Option.getD,behind,piece];show Code.wpIn (Fence.list LF none) m prog _ _ ⟨sg f (dv) (f 1) (f 2) (f 3) (.slice (some (T_ b o)) N c) (f 11) (nv) (av) (ptr K.kb) (f 15) (f 16) (f 17) (rv) (xv) (Fb) (b_ (i:Nat)) (qv),[]⟩ _;unfold sg ptr;have y:r4=2\/r4=3\/(((r4:Int)==2)=false/\((r4:Int)==3)=false):=by
  by_cases e:r4=2
  .exact .inl e
  .by_cases x:r4=3
   .exact .inr (.inl x)
   .exact .inr (.inr ⟨by simpa using(by omega:¬(r4:Int)=2),by simpa using(by omega:¬(r4:Int)=3)⟩)
 obtain rfl|rfl|⟨F,G⟩:=y
 .clear p;gi_upto_region 22 with(gi_at_call 16;refine(d _).mono ?_;rintro e w' ⟨rfl,a⟩;have a:=a.symm;subst a);gi_wp2_with (first|(gi_at_call 16;refine(ϥ _).mono ?_;rintro e w' ⟨rfl,a⟩;have a:=a.symm;subst a)|(gi_at_call 17;refine(q _).mono ?_;rintro e w1 ⟨s,rfl,K',r,j,l,k,z⟩));exact⟨rfl,rfl,_,K',C9 rfl (by simp),r,ok.moved j l,j,k⟩
 .clear q;gi_upto_region 22 with(gi_at_call 16;refine(d _).mono ?_;rintro e w' ⟨rfl,a⟩;have a:=a.symm;subst a);gi_wp2_with (first|(gi_at_call 16;refine(ϥ _).mono ?_;rintro e w' ⟨rfl,a⟩;have a:=a.symm;subst a)|(gi_at_call 18;refine(p _).mono ?_;rintro e w1 ⟨s,rfl,K',r,j,l,k,z⟩));exact⟨rfl,rfl,_,K',C9 rfl (by simp),r,ok.moved j l,j,k⟩
 .clear q p;gi_upto_region 22 with(gi_at_call 16;refine(d _).mono ?_;rintro e w' ⟨rfl,a⟩;have a:=a.symm;subst a);gi_wp2_with (gi_at_call 16;refine(ϥ _).mono ?_;rintro e w' ⟨rfl,a⟩;have a:=a.symm;subst a);exact⟨rfl,rfl,_,K,C9 rfl (by simp),h,ok,CG.refl K,BV.no (p_ _ _) h.lt⟩
theorem bd2 (dv sv nv av kp rv xv Fb iv qv told:n_) (e:Int):(g28 prog).wpIn NF m prog (Ends λtm w'=>(∃g,tm=TN 268 (AL g [(0,dv),(4,sv),(12,nv),(13,av),(14,kp),(18,rv),(19,xv),(20,Fb),(21,iv),(22,qv),(16,told),(145,.bool (decide (e≠0)))]))/\Keep No w w') ⟨TN 268 (AL f [(0,dv),(4,sv),(12,nv),(13,av),(14,kp),(18,rv),(19,xv),(20,Fb),(21,iv),(22,qv),(16,told),(17,b_ e)]),[]⟩ w:=by
 unfold g28 gY Ϩ gI gL gq;rw[body8];dsimp only[Tryz.f8,Option.getD,behind,piece];show Code.wpIn (Fence.list LF none) m prog _ _ ⟨sg f (dv) (f 1) (f 2) (f 3) (sv) (f 11) (nv) (av) (kp) (f 15) (told) (b_ e) (rv) (xv) (Fb) (iv) (qv),[]⟩ _;unfold sg;by_cases h:e=0
 .subst h;gi_wp2;exact⟨rfl,rfl,⟨_,C9 rfl (by simp)⟩,p_ _ _⟩
 .have a:(e==0)=false:=by simpa using h
  gi_wp2;exact⟨rfl,rfl,⟨_,C9 rfl (by simp[h])⟩,p_ _ _⟩
theorem au6 (dv sv nv av kp iv:n_) (s:d_ f_) (L c:Nat):(gX prog 14).wpIn NF m prog (XU λtm w'=>(∃g,tm=TN 268 (AL g [(10,.bool true)]))/\Keep No w w') ⟨TN 268 (AL f [(0,dv),(4,sv),(12,nv),(13,av),(14,kp),(18,.slice s L c),(19,b_ (L:Nat)),(20,b_ (2:Nat)),(21,iv)]),[]⟩ w:=by
 unfold gX;rw[body8];dsimp only[Tryz.f8,Option.getD,behind,piece];show Code.wpIn (Fence.list LF none) m prog _ _ ⟨sg f (dv) (f 1) (f 2) (f 3) (sv) (f 11) (nv) (av) (kp) (f 15) (f 16) (f 17) (.slice s L c) (b_ (L:Nat)) (b_ (2:Nat)) (iv) (f 22),[]⟩ _;unfold sg;gi_wp2;exact⟨rfl,rfl,⟨_,C9 rfl (by simp)⟩,p_ _ _⟩
end
theorem VA {w:o_} {rb:Nat} {a b c d:n_} {x y z u:Int} (h:w.heap[rb]?=some (O_ #[a,b,c,d] 59)):∃w',(Instr.storeAt 59 (R_ rb) (.agg #[b_ x,b_ y,b_ z,b_ u])).run prog w=.ok () w'/\Keep (At rb) w w'/\w'.heap[rb]?=some (O_ #[b_ x,b_ y,b_ z,b_ u] 59):=by
 have e:(Instr.storeAt 59 (R_ rb) (.agg #[b_ x,b_ y,b_ z,b_ u])).run prog w=(stores rb 0 [b_ x,b_ y,b_ z,b_ u] (.pure ())).run prog w:=by kernel_rfl
 obtain⟨w',f,g,i⟩:=Iy (P:=prog) (k:=Sem.pure ()) [b_ x,b_ y,b_ z,b_ u] 0 _ w h (by simp) (by simp[Value.oneCell']);refine⟨w',?_,g,?_⟩
 .rw[e,f];rfl
 .rw[i];simp[UJ]
theorem told_none {base:Nat} {T:Tag} {told:n_} {w:o_} (h:O8 base T told w []):∃s c,told=.slice s 0 c:=by
 obtain⟨e,_⟩|⟨g,cap,a,e,_⟩:=h.row.2
 .exact⟨none,0,e⟩
 .exact⟨_,cap,e⟩
section
variable (m:Nat) (w:o_) (f:Y_)
theorem rX (dv sv nv av kp rv xv Fb iv qv:n_) (s:d_ f_) (c:Nat):(gD prog).wpIn NF m prog (Ends λtm w'=>(∃g,tm=TN 268 (AL g [(0,dv),(4,sv),(12,nv),(13,av),(14,kp),(18,rv),(19,xv),(20,Fb),(21,iv)]))/\Keep No w w') ⟨TN 268 (AL f [(0,dv),(4,sv),(12,nv),(13,av),(14,kp),(18,rv),(19,xv),(20,Fb),(21,iv),(22,qv),(16,.slice s 0 c)]),[]⟩ w:=by
 unfold gD gY Ϩ gI gL gq;rw[body8];dsimp only[Tryz.f8,Option.getD,behind,piece];show Code.wpIn (Fence.list LF none) m prog _ _ ⟨sg f (dv) (f 1) (f 2) (f 3) (sv) (f 11) (nv) (av) (kp) (f 15) (.slice s 0 c) (f 17) (rv) (xv) (Fb) (iv) (qv),[]⟩ _;unfold sg;gi_wp2;refine wpIn_loop_once ?_;gi_wp2;exact⟨rfl,rfl,⟨_,C9 rfl (by simp)⟩,p_ _ _⟩
theorem η (dv sv nv av kp rv xv iv:n_) (tg tc p en:Nat) (h0:w.cell? (S_ tg)=some (b_ (p:Nat))) (h1:w.cell? (T_ tg 1)=some (b_ 8)) (h2:w.cell? (T_ tg 2)=some (b_ 0)) (h3:w.cell? (T_ tg 3)=some (b_ 0)):(gD prog).wpIn NF m prog (Ends λtm w'=>(∃g,tm=TN 268 (AL g [(0,dv),(4,sv),(12,nv),(13,av),(14,kp),(18,rv),(19,xv),(20,b_ (en:Nat)),(21,iv)]))/\Keep No w w') ⟨TN 268 (AL f [(0,dv),(4,sv),(12,nv),(13,av),(14,kp),(18,rv),(19,xv),(20,b_ (en:Nat)),(21,iv),(22,b_ (p:Nat)),(16,Q_ tg 1 tc)]),[]⟩ w:=by
 unfold gD gY Ϩ gI gL gq;rw[body8];dsimp only[Tryz.f8,Option.getD,behind,piece];show Code.wpIn (Fence.list LF none) m prog _ _ ⟨sg f (dv) (f 1) (f 2) (f 3) (sv) (f 11) (nv) (av) (kp) (f 15) (Q_ tg 1 tc) (f 17) (rv) (xv) (b_ (en:Nat)) (iv) (b_ (p:Nat)),[]⟩ _;unfold sg;gi_wp2;gi_loopw [18,19,20,23] (λb c a j wr=>∃k:Nat,k<=1/\j=b_ k/\a=b_ (en+0:Nat)/\b=rv/\c=xv/\Keep No w wr) (λ_ _ _ j _=>1-(intOf j).toNat)
 case atStart=>exact⟨0,by omega,rfl,by simp,rfl,rfl,p_ _ _⟩
 case round=>
  obtain⟨k,A,rfl,rfl,rfl,rfl,d⟩:=hrel
  by_cases q:k<1
  .obtain rfl:k=0:=(by omega);have C:=d.has h0;have D:=d.has h1;have E:=d.has h2;have F:=d.has h3;obtain⟨h,l,n,i⟩:=VA (w:=wr.alloc (.cells #[b_ 0,b_ 0,b_ 0,b_ 0] 59)) (rb:=wr.heap.size) (x:=(p:Nat)) (y:=8) (z:=0) (u:=0) (heap_alloc_new rfl);have o:Keep No wr h:=((p_ No wr).alloc (.cells #[b_ 0,b_ 0,b_ 0,b_ 0] 59)).trans n (λx B e=>absurd (show x=wr.heap.size from e) (by omega));have r:h.cell? (S_ wr.heap.size)=some (b_ (p:Nat)):=bce i rfl;have s:h.cell? (T_ wr.heap.size 1)=some (b_ 8):=bce i rfl;have t:h.cell? (T_ wr.heap.size 2)=some (b_ 0):=bce i rfl;have v:h.cell? (T_ wr.heap.size 3)=some (b_ 0):=bce i rfl;gi_wp2_with (refine DU rfl (.tmp 24) (.tmp 155) 59 rfl rfl rfl l ?_);go_roundw
   case rel=>exact⟨1,by omega,by go_num,by go_num,rfl,rfl,d.then o⟩
   case measure=>simp[intOf]
  .obtain rfl:k=1:=(by omega);gi_wp2;exact⟨rfl,rfl,⟨_,C9 rfl (by simp)⟩,d⟩
theorem ae4 (dv sv nv av kp rv xv iv:n_) (tg tc p en:Nat) (hen:en<10) (h0:w.cell? (S_ tg)=some (b_ (p:Nat))) (h1:w.cell? (T_ tg 1)=some (b_ 1)) (h2:w.cell? (T_ tg 2)=some (b_ 0)) (h3:w.cell? (T_ tg 3)=some (b_ 0)):(gD prog).wpIn NF m prog (Ends λtm w'=>(∃g,tm=TN 268 (AL g [(0,dv),(4,sv),(12,nv),(13,av),(14,kp),(18,rv),(19,xv),(20,b_ (en+1:Nat)),(21,iv)]))/\Keep No w w') ⟨TN 268 (AL f [(0,dv),(4,sv),(12,nv),(13,av),(14,kp),(18,rv),(19,xv),(20,b_ (en:Nat)),(21,iv),(22,b_ (p:Nat)),(16,Q_ tg 1 tc)]),[]⟩ w:=by
 unfold gD gY Ϩ gI gL gq;rw[body8];dsimp only[Tryz.f8,Option.getD,behind,piece];show Code.wpIn (Fence.list LF none) m prog _ _ ⟨sg f (dv) (f 1) (f 2) (f 3) (sv) (f 11) (nv) (av) (kp) (f 15) (Q_ tg 1 tc) (f 17) (rv) (xv) (b_ (en:Nat)) (iv) (b_ (p:Nat)),[]⟩ _;unfold sg;gi_wp2;gi_loopw [18,19,20,23] (λb c a j wr=>∃k:Nat,k<=1/\j=b_ k/\a=b_ (en+k:Nat)/\b=rv/\c=xv/\Keep No w wr) (λ_ _ _ j _=>1-(intOf j).toNat)
 case atStart=>exact⟨0,by omega,rfl,by simp,rfl,rfl,p_ _ _⟩
 case round=>
  obtain⟨k,A,rfl,rfl,rfl,rfl,d⟩:=hrel
  by_cases q:k<1
  .obtain rfl:k=0:=(by omega);have C:=d.has h0;have D:=d.has h1;have E:=d.has h2;have F:=d.has h3;obtain⟨h,l,n,i⟩:=VA (w:=wr.alloc (.cells #[b_ 0,b_ 0,b_ 0,b_ 0] 59)) (rb:=wr.heap.size) (x:=(p:Nat)) (y:=1) (z:=0) (u:=0) (heap_alloc_new rfl);have o:Keep No wr h:=((p_ No wr).alloc (.cells #[b_ 0,b_ 0,b_ 0,b_ 0] 59)).trans n (λx B e=>absurd (show x=wr.heap.size from e) (by omega));have r:h.cell? (S_ wr.heap.size)=some (b_ (p:Nat)):=bce i rfl;have s:h.cell? (T_ wr.heap.size 1)=some (b_ 1):=bce i rfl;have t:h.cell? (T_ wr.heap.size 2)=some (b_ 0):=bce i rfl;have v:h.cell? (T_ wr.heap.size 3)=some (b_ 0):=bce i rfl;gi_wp2_with (refine DU rfl (.tmp 24) (.tmp 155) 59 rfl rfl rfl l ?_);go_roundw
   case rel=>exact⟨1,by omega,by go_num,by go_num,rfl,rfl,d.then o⟩
   case measure=>simp[intOf]
  .obtain rfl:k=1:=(by omega);gi_wp2;exact⟨rfl,rfl,⟨_,C9 rfl (by simp)⟩,d⟩
end
def WrI (v0:o_) (K:KS) (l:List Nat) (d:Nat->Nat) (bx p x k:Nat) (a:n_) (wr:o_):Prop:=LS v0 K a (l++(List.range k).map d) wr/\wr.heap[bx]?=some (O_ #[b_ (p:Nat),b_ 7,b_ (x:Nat),b_ 0] 59)
theorem WrI.push {v0:o_} {K:KS} {l:List Nat} {d:Nat->Nat} {bx p x k z:Nat} {a a':n_} {wr w4:o_} (h:WrI v0 K l d bx p x k a wr) (hz:d k=z) (Jp:w4.ownsRow v0.heap.size 3 1 a' ((l++(List.range k).map d).length+1) (((l++(List.range k).map d).map λx:Nat=>b_ (x:Int))++[b_ (z:Int)])) (hg:(wr.alloc (.cells #[b_ (z:Int)] 3)).grownBy w4 a.ownBlock) (hat:a'.ownBlock=a.ownBlock\/a'.ownBlock=some (wr.alloc (.cells #[b_ (z:Int)] 3)).heap.size):WrI v0 K l d bx p x (k+1) a' w4:=by
 have c:Keep No wr (wr.alloc (.cells #[b_ (z:Int)] 3)):=(p_ _ _).alloc _;have j:=(h.1.no c).push Jp hg hat;have f:Keep (λk=>a.ownBlock=some k) (wr.alloc (.cells #[b_ (z:Int)] 3)) w4:=Gw hg (λk m _=>m);refine⟨?_,f.old (c.old h.2 id) λe=>?_⟩
 .rw[List.range_succ,List.map_append,<-List.append_assoc,List.map_singleton,hz];exact j
 .obtain⟨e1,_⟩|⟨g,cap,i,e1,_,b,_⟩:=h.1.own.row.2
  .rw[e1]at e;cases e
  .rw[e1]at e;obtain rfl:g=bx:=x_ e;rw[h.2]at b;cases b
theorem LS.po {v0 w:o_} {K:KS} {rv:n_} {l:List Nat} (h:LS v0 K rv l w) (a:X_):(w.alloc (.cells a 3)).ownsRow v0.heap.size 3 1 rv l.length (l.map λx:Nat=>b_ (x:Int))/\v0.heap.size<=(w.alloc (.cells a 3)).heap.size:=⟨ZJ h.own.row ((p_ _ _).alloc _),Nat.le_trans h.k0.size ((p_ No w).alloc (.cells a 3)).size⟩
section
variable (m:Nat) (w:o_) (f:Y_)
theorem ζ (v0:o_) (K:KS) (dv sv av kp rv xv Fb iv:n_) (N:Nat) (fd:Nat->Int) (l:List Nat) (tg tc p n x:Nat) (hD:TZ v0 dv N fd) (hl:l.length<=100000) (J4:1<=x) (hxn:x<=n) (hn:n<=32) (hS:LS v0 K rv l w) (h0:w.cell? (S_ tg)=some (b_ (p:Nat))) (h1:w.cell? (T_ tg 1)=some (b_ 7)) (h2:w.cell? (T_ tg 2)=some (b_ (x:Nat))) (h3:w.cell? (T_ tg 3)=some (b_ 0)):(gD prog).wpIn NF m prog (Ends λtm w'=>∃g rv',tm=TN 268 (AL g [(0,dv),(4,sv),(12,b_ (n:Nat)),(13,av),(14,kp),(18,rv'),(19,xv),(20,Fb),(21,iv)])/\LS v0 K rv' (l++(List.range x).map (Ej N fd)) w') ⟨TN 268 (AL f [(0,dv),(4,sv),(12,b_ (n:Nat)),(13,av),(14,kp),(18,rv),(19,xv),(20,Fb),(21,iv),(22,b_ (p:Nat)),(16,Q_ tg 1 tc)]),[]⟩ w:=by
 obtain⟨X,D,F,G,H⟩:=info_parts info3;obtain⟨s,c,rfl,W⟩:=hD;unfold gD gY Ϩ gI gL gq;rw[body8];dsimp only[Tryz.f8,Option.getD,behind,piece];show Code.wpIn (Fence.list LF none) m prog _ _ ⟨sg f (.slice s N c) (f 1) (f 2) (f 3) (sv) (f 11) (b_ (n:Nat)) (av) (kp) (f 15) (Q_ tg 1 tc) (f 17) (rv) (xv) (Fb) (iv) (b_ (p:Nat)),[]⟩ _;unfold sg;gi_wp2;gi_loopw [18,19,20,23] (λa b c j wr=>∃k:Nat,k<=1/\j=b_ k/\b=xv/\c=Fb/\Hid ((k=0->a=rv/\wr=w)/\(k=1->LS v0 K a (l++(List.range x).map (Ej N fd)) wr))) (λ_ _ _ j _=>1-(intOf j).toNat)
 case atStart=>exact⟨0,by omega,rfl,rfl,rfl,λ_=>⟨rfl,rfl⟩,λh=>absurd h (by omega)⟩
 case round=>
  obtain⟨k,hk,rfl,rfl,rfl,J⟩:=hrel
  by_cases Y:k<1
  .obtain rfl:k=0:=(by omega);obtain⟨rfl,rfl⟩:=J.out.1 rfl;clear J;obtain⟨C,P,R,A⟩:=VA (w:=wr.alloc (.cells #[b_ 0,b_ 0,b_ 0,b_ 0] 59)) (rb:=wr.heap.size) (x:=(p:Nat)) (y:=7) (z:=(x:Nat)) (u:=0) (heap_alloc_new rfl);have S:Keep No wr C:=((p_ No wr).alloc (.cells #[b_ 0,b_ 0,b_ 0,b_ 0] 59)).trans R (λx hx e=>absurd (show x=wr.heap.size from e) (by omega));have g0:C.cell? (S_ wr.heap.size)=some (b_ (p:Nat)):=bce A rfl;have g1:C.cell? (T_ wr.heap.size 1)=some (b_ 7):=bce A rfl;have V:C.cell? (T_ wr.heap.size 2)=some (b_ (x:Nat)):=bce A rfl;have g3:C.cell? (T_ wr.heap.size 3)=some (b_ 0):=bce A rfl;have ca9:¬(x:Int)<1:=(by omega);have Z:¬(x:Int)>n:=(by omega);have E:WrI v0 K l (Ej N fd) wr.heap.size p x 0 _ C:=⟨by simpa using hS.no S,A⟩;generalize hbx:wr.heap.size=T at*;gi_wp2_with (refine DU rfl (.tmp 24) (.tmp 155) 59 rfl rfl rfl P ?_);gi_loopw [18,25] (λa j wr=>∃k:Nat,k<=x/\j=b_ k/\WrI v0 K l (Ej N fd) T p x k a wr) (λ_ j _=>x-(intOf j).toNat)
   case atStart=>exact⟨0,by omega,rfl,E⟩
   case round=>
    clear E P R A S g0 g1 V g3
    obtain⟨k,hk,rfl,q⟩:=hrel
    have V:wr.cell? (T_ T 2)=some (b_ (x:Nat)):=bce q.2 rfl
    have i:Hid ((l++(List.range k).map (Ej N fd)).length=l.length+k):=by show _=_;simp
    by_cases Y:k<x
    .by_cases O:k<N
     .obtain⟨b,o,rfl,Q⟩:=W (by omega);obtain⟨U,d1,d2⟩:=Q k O;have U:=q.1.k0.has U;clear Q W;obtain⟨z,B⟩:∃z,Dt (fd k) 65536=z:=⟨_,rfl⟩;have M:=λm=>Q5 m wr (fd k) 65536 z d1 d2 (by omega) (by omega) B
      have B:Ej N fd k=z:=(by rw[<-B];unfold Ej;rw[if_pos O]);have I:=q.1.po #[b_ (z:Nat)];gi_wp2_with (first|(gi_at_call 16;refine(M _).mono ?_;rintro e w' ⟨rfl,v⟩;have v:=v.symm;subst v)|(gi_at_builtin;refine wpListIn_append_own_at _ rfl (.tmp 197) (.tmp 199) 22 rfl v0.heap.size 3 X (b_ 0) 1 8 underlying22 D F G H rfl (by decide) _ _ _ rfl I.1 (S_ wr.heap.size) 1 1 [b_ (z:Nat)] rfl rfl Gf (by simp[Value.oneCell']) (by have:=i.out;unfold maxLen;omega) (by have:=i.out;omega) I.2 ?_;intro v' w4 d L _ t));have r:=q.push B d L t;go_roundw
      case rel=>exact⟨k+1,by omega,by go_num,r⟩
      case measure=>simp[intOf];omega
     .have B:Ej N fd k=0:=(by unfold Ej;rw[if_neg O]);have I:=q.1.po #[b_ 0];gi_wp2_with (gi_at_builtin;refine wpListIn_append_own_at _ rfl (.tmp 197) (.tmp 199) 22 rfl v0.heap.size 3 X (b_ 0) 1 8 underlying22 D F G H rfl (by decide) _ _ _ rfl I.1 (S_ wr.heap.size) 1 1 [b_ 0] rfl rfl Gf (by simp[Value.oneCell']) (by have:=i.out;unfold maxLen;omega) (by have:=i.out;omega) I.2 ?_;intro v' w4 d L _ t);have r:=q.push B d L t;go_roundw
      case rel=>exact⟨k+1,by omega,by go_num,r⟩
      case measure=>simp[intOf];omega
    .obtain rfl:k=x:=(by omega);gi_wp2;go_roundw
     case rel=>exact⟨1,by omega,by go_num,rfl,rfl,λh=>absurd h (by omega),λ_=>q.1⟩
     case measure=>simp[intOf]
  .obtain rfl:k=1:=(by omega);have hq:=J.out.2 rfl;clear J;gi_wp2;exact⟨rfl,rfl,_,_,C9 rfl (by simp),hq⟩
end
theorem av8 {base:Nat} {a:d_ f_} {n c:Nat} {Ae:List Nat} {w:o_} (h:Yp base (.slice a n c) (ints Ae) w) (hl:Ae.length=128):n=128/\∃g,a=some (S_ g)/\∀i x,Ae[i]?=some x->w.cell? (T_ g i)=some (b_ (x:Nat)):=by
 obtain⟨s,l,e,d⟩:=h;have b:(ints Ae).length=128:=by simp[ints,hl]
 rw[b]at d;injection e with e1 e2 e3;subst e1;refine⟨e2.trans b,?_⟩;obtain⟨g,m,e4,_,j,f⟩:=d (by omega);refine⟨g,e4,λi x k=>?_⟩;rw[Af j];exact f i x (by unfold ints;rw[List.getElem?_map,k];rfl)
section
variable (m:Nat) (w:o_) (f:Y_)
theorem ae3 (v0:o_) (K:KS) (dv sv nv Fb iv:n_) (ra:d_ f_) (rc:Nat) (l:List Nat) (tg tc x q rd b2:Nat) (r:PR) (hm:b2∈K.AV) (hb:K.ps b2=some r) (hl:l.length<=100000) (hxq:x<=q) (hq:q<=16) (hrd:rd+x<=l.length) (hlen:r.Ae.length=128) (TY:∀i,i<x->r.Ae[112+i]?=l[rd+i]?) (hS:LS v0 K (.slice ra l.length rc) l w) (h0:w.cell? (S_ tg)=some (b_ (r.pid:Nat))) (h1:w.cell? (T_ tg 1)=some (b_ 6)) (h2:w.cell? (T_ tg 2)=some (b_ (x:Nat))) (h3:w.cell? (T_ tg 3)=some (b_ 0)):(gD prog).wpIn NF m prog (Ends λtm w'=>(∃g,tm=TN 268 (AL g [(0,dv),(4,sv),(12,nv),(13,b_ (q:Nat)),(14,ptr K.kb),(18,.slice ra l.length rc),(19,b_ (rd+x:Nat)),(20,Fb),(21,iv)]))/\Keep No w w') ⟨TN 268 (AL f [(0,dv),(4,sv),(12,nv),(13,b_ (q:Nat)),(14,ptr K.kb),(18,.slice ra l.length rc),(19,b_ (rd:Nat)),(20,Fb),(21,iv),(22,b_ (r.pid:Nat)),(16,Q_ tg 1 tc)]),[]⟩ w:=by
 obtain⟨kk,hg⟩:=List.mem_iff_getElem?.1 hm;have TY:=Hid.in TY;unfold gD gY Ϩ gI gL gq;rw[body8];dsimp only[Tryz.f8,Option.getD,behind,piece];show Code.wpIn (Fence.list LF none) m prog _ _ ⟨sg f (dv) (f 1) (f 2) (f 3) (sv) (f 11) (nv) (b_ (q:Nat)) (ptr K.kb) (f 15) (Q_ tg 1 tc) (f 17) (.slice ra l.length rc) (b_ (rd:Nat)) (Fb) (iv) (b_ (r.pid:Nat)),[]⟩ _;unfold sg ptr;gi_wp2;gi_loopw [18,19,20,23] (λa b c j wr=>∃k:Nat,k<=1/\j=b_ k/\a=.slice ra l.length rc/\c=Fb/\Keep No w wr/\Hid ((k=0->b=b_ (rd:Nat))/\(k=1->b=b_ (rd+x:Nat)))) (λ_ _ _ j _=>1-(intOf j).toNat)
 case atStart=>exact⟨0,by omega,rfl,rfl,rfl,p_ _ _,λ_=>rfl,λh=>absurd h (by omega)⟩
 case round=>
  obtain⟨k,hk,rfl,rfl,rfl,p,E⟩:=hrel
  by_cases U:k<1
  .obtain rfl:k=0:=(by omega);obtain rfl:=E.out.1 rfl;clear E;have t0:=p.has h0;have t1:=p.has h1;have t2:=p.has h2;have t3:=p.has h3;obtain⟨v,T,Y,C⟩:=VA (w:=wr.alloc (.cells #[b_ 0,b_ 0,b_ 0,b_ 0] 59)) (rb:=wr.heap.size) (x:=(r.pid:Nat)) (y:=6) (z:=(x:Nat)) (u:=0) (heap_alloc_new rfl);have G:Keep No wr v:=((p_ No wr).alloc (.cells #[b_ 0,b_ 0,b_ 0,b_ 0] 59)).trans Y (λx hx e=>absurd (show x=wr.heap.size from e) (by omega));have g0:v.cell? (S_ wr.heap.size)=some (b_ (r.pid:Nat)):=bce C rfl;have g1:v.cell? (T_ wr.heap.size 1)=some (b_ 6):=bce C rfl;have g2:v.cell? (T_ wr.heap.size 2)=some (b_ (x:Nat)):=bce C rfl;have g3:v.cell? (T_ wr.heap.size 3)=some (b_ 0):=bce C rfl;have f1:decide ((x:Int)<0)=false:=decide_eq_false (by omega);have f2:decide (q<x)=false:=decide_eq_false (by omega);have f3:decide ((l.length:Int)<(rd:Int)+(x:Int))=false:=decide_eq_false (by omega);have f4:decide ((q:Int)<(x:Int))=false:=decide_eq_false (by omega);have o:=hS.no (p.then G);have D:=λm=>(zA m v 16 40 K r.pid o.ka o.ok).mono λe w2 h=>sF o.ok hg hb h
   generalize hbx:wr.heap.size=bx at*;gi_upto_region 50 with(first|refine DU rfl (.tmp 24) (.tmp 155) 59 rfl rfl rfl T ?_|(gi_at_call 20;refine(D _).mono ?_;rintro e w2 ⟨V,st,a7,n7,c7,a8,n8,c8,rfl,L,i7,i8⟩;obtain⟨w3,s,X,Z⟩:=MI (w:=w2.alloc (.cells look0 48)) (rb:=w2.heap.size) (a:=r.pid) (b:=r.par) (c:=st) (d:=r.A) (e:=r.B) (f:=r.P) (g:=r.st) (n7:=n7) (c7:=c7) (n8:=n8) (c8:=c8) (a7:=a7) (a8:=a8) (heap_alloc_new rfl))|refine DU rfl (.tmp 27) (.tmp 207) 48 rfl rfl rfl s ?_);have F:Keep No w2 w3:=((p_ No w2).alloc (.cells look0 48)).trans X (λx hx e=>absurd (show x=w2.heap.size from e) (by omega));obtain⟨rfl,I,rfl,t⟩:=av8 i7 hlen;have K83:Keep No v w3:=V.then F;have e2:=K83.has g2;have H:w3.cell? (T_ w2.heap.size 7)=some (Q_ I 128 c7):=bce Z rfl;have J:=o.no K83;have t:Hid (∀i x,r.Ae[i]?=some x->w3.cell? (T_ I i)=some (b_ (x:Nat))):=λi x hi=>F.has (t i x hi)
   have jC:Keep No w w3:=(p.then G).then K83;generalize w2.heap.size=lb at*;clear t0 t1 t2 t3 h0 h1 h2 h3 s Z X i7 i8 L T Y C g0 g1 g2 g3 D F V K83 G p o;gi_wp2;gi_loopw [29] (λj wr=>∃k:Nat,k<=x/\j=b_ k/\Keep No w3 wr) (λj _=>x-(intOf j).toNat)
   case atStart=>exact⟨0,by omega,rfl,p_ _ _⟩
   case round=>
    obtain⟨k,hk,rfl,n⟩:=hrel
    have e2:=n.has e2
    have H:=n.has H
    by_cases U:k<x
    .obtain⟨y,S⟩:∃y,l[rd+k]?=some y:=⟨_,Lh (by omega)⟩;obtain⟨gs,cs',R,N⟩:=J.at S;injection R with s1 s2 s3;subst s1;subst s3;have O:wr.cell? (T_ I (112+k))=some (b_ (y:Nat)):=n.has (t.out _ y ((TY.out k U).trans S));have Q:wr.cell? (T_ gs (rd+k))=some (b_ (y:Nat)):=n.has N;have q1:((112:Int)+(k:Int)).toNat=112+k:=(by omega);have q2:((rd:Int)+(k:Int)).toNat=rd+k:=(by omega);have q3:(112:Int)+(k:Int)<128:=(by omega);have q4:(rd:Int)+(k:Int)<l.length:=(by omega);clear S;gi_wp2;refine CV 12 268 ?_;gi_wp2;refine Fg ?_ ?_
     .intro W M;have KW:Keep No wr W:=(p_ No wr).drew.then M;have z7:=KW.has H;have z1:=KW.has O;have z2:=KW.has Q
      repeat' (refine Az ?_ ?_)
      all_goals first|exact trivial|gi_wp2
     .intro W M;have KW:Keep No wr W:=(p_ No wr).drew.then M;gi_wp2;go_roundw
      case rel=>exact⟨k+1,by omega,by go_num,n.then KW⟩
      case measure=>simp[intOf];omega
    .obtain rfl:k=x:=(by omega);gi_wp2;go_roundw
     case rel=>exact⟨1,by omega,by go_num,rfl,rfl,jC.then n,λh=>absurd h (by omega),λ_=>by go_num⟩
     case measure=>simp[intOf]
  .obtain rfl:k=1:=(by omega);obtain rfl:=E.out.2 rfl;clear E;gi_wp2;exact⟨rfl,rfl,⟨_,C9 rfl (by simp)⟩,p⟩
end
def RI (v0:o_) (t n q N:Nat) (d:Nat->Nat) (b1 b2 p e1 e2 i:Nat) (K:KS) (rv:n_) (rd en:Nat) (v:o_):Prop:=∃u c l fl,PI t n q d b1 b2 p e1 e2 u c (l.drop rd) K/\LS v0 K rv l v/\rd<=l.length/\en=EN u c/\l.length+32*mu u c (l.drop rd)<=18528/\fl<=1/\(fl=1->0<i/\RS (1+(i-1) % 2) u c (l.drop rd))/\(N<=i->2*mu u c (l.drop rd)+(i-N)<=1158+fl)
theorem RI.stay {v0:o_} {t n q N b1 b2 p e1 e2 i pid u c rd fl:Nat} {d:Nat->Nat} {K':KS} {rv:n_} {l:List Nat} {v:o_} (hp:PI t n q d b1 b2 p e1 e2 u c (l.drop rd) K') (hS:LS v0 K' rv l v) (hrd:rd<=l.length) (hmu:l.length+32*mu u c (l.drop rd)<=18528) (hfl:fl<=1) (BI:fl=1->0<i/\RS (1+(i-1) % 2) u c (l.drop rd)) (hN:N<=i->2*mu u c (l.drop rd)+(i-N)<=1158+fl) (HY:N<=i->pid=1+i % 2) (hs:RS pid u c (l.drop rd)) (hen:EN u c<2):RI v0 t n q N d b1 b2 p e1 e2 (i+1) K' rv rd (EN u c) v:=by
 by_cases h:N<=i
 .have a:fl=0:=by
   obtain e|e:=Nat.eq_zero_or_pos fl
   .exact e
   .obtain⟨a1,a2⟩:=BI (by omega);have e1:=HY h;rw[e1]at hs;have key:u=0/\c=0:=by
     obtain m|m:=Nat.mod_two_eq_zero_or_one i
     .rw[m]at hs;rw[show(i-1) % 2=1 by omega]at a2;exact dK hp hs a2
     .rw[m]at hs;rw[show(i-1) % 2=0 by omega]at a2;exact dK hp a2 hs
    obtain⟨rfl,rfl⟩:=key;unfold EN at hen;simp at hen
  have:=hN h;exact⟨u,c,l,1,hp,hS,hrd,rfl,hmu,by omega,λ_=>⟨by omega,by rw[Nat.add_sub_cancel,<-HY h];exact hs⟩,λ_=>by omega⟩
 .exact⟨u,c,l,0,hp,hS,hrd,rfl,hmu,by omega,λh=>absurd h (by omega),λ_=>by omega⟩
theorem RI.on {v0:o_} {t n q N b1 b2 p e1 e2 i u c u' c' rd rd' fl:Nat} {d:Nat->Nat} {K':KS} {rv':n_} {l l':List Nat} {v:o_} (hp:PI t n q d b1 b2 p e1 e2 u' c' (l'.drop rd') K') (hS:LS v0 K' rv' l' v) (hrd:rd'<=l'.length) (hl:l'.length<=l.length+32) (hmu:l.length+32*mu u c (l.drop rd)<=18528) (hfl:fl<=1) (hN:N<=i->2*mu u c (l.drop rd)+(i-N)<=1158+fl) (Bv:mu u' c' (l'.drop rd')<mu u c (l.drop rd)):RI v0 t n q N d b1 b2 p e1 e2 (i+1) K' rv' rd' (EN u' c') v:=by
 refine⟨u',c',l',0,hp,hS,hrd,rfl,by omega,by omega,λh=>absurd h (by omega),λh=>?_⟩;by_cases a:N<=i
 .have:=hN a;omega
 .omega
section
variable {Od:Old} {v0:o_} {cs:Z_} {R:Frame×Z_->o_->Prop} {dv sv nv av kp rv xv Fb:n_}
theorem WZ {i:Nat} {g:Nat->n_} {v:o_} (hi:i<9223372036854775807) (next:∀f v',Keep No v v'->Goes Od prog (xk dv (b_ (i+1:Nat)) sv kp av rv nv xv Fb cs f) v' R):
  Goes Od prog (Frame.mk 8 (TN 268 (AL g [(0,dv),(4,sv),(12,nv),(13,av),(14,kp),(18,rv),(19,xv),(20,Fb),(21,b_ (i:Nat))])) (.code (g18 prog)::[.inLoop (gL prog),.inBlock 0,.code (gX prog 14)]) [] .run .normal none,cs) v R:=by
 refine Goes.part (m:=0) Yo rfl ai0 (λv1 _=>bd5 0 v1 _ _ _ _ _ _ _ _ _ i hi) λv3 d v4 b ⟨⟨a,e⟩,c⟩=>?_
 subst e;refine Goes.Ar (x:=ltB dv (b_ (i+1:Nat)) sv kp av rv nv xv Fb cs a) (bf1 _ _ _ _ _ _ _ _ _ _ _) ?_;rw[bf0];exact next a v4 (b.then c)
theorem Jw {i:Nat} {g:Nat->n_} {v:o_} (hi:i<9223372036854775807) (next:∀f v',Keep No v v'->Goes Od prog (xk dv (b_ (i+1:Nat)) sv kp av rv nv xv Fb cs f) v' R):
  Goes Od prog (Frame.mk 8 (TN 268 (AL g [(0,dv),(4,sv),(12,nv),(13,av),(14,kp),(18,rv),(19,xv),(20,Fb),(21,b_ (i:Nat))])) (.inBlock 1::.code (g18 prog)::[.inLoop (gL prog),.inBlock 0,.code (gX prog 14)]) [] .run .normal none,cs) v R:=by
 refine Goes.Ar (x:=ltA dv (b_ (i:Nat)) sv kp av rv nv xv Fb cs g) (bf3 _ _ _ _ _ _ _ _ _ _ _) ?_;rw[bf2];exact WZ hi next
end
section
variable (a b c d e f h i j k x y:n_) (g:Y_)
theorem at6:TN 268 (AL g [(0,a),(4,b),(12,c),(13,d),(14,e),(18,f),(19,h),(20,i),(21,j),(22,k),(16,x),(145,y)])=TN 268 (AL (AL g [(22,k),(16,x),(145,y)]) [(0,a),(4,b),(12,c),(13,d),(14,e),(18,f),(19,h),(20,i),(21,j)]):=by kernel_rfl
theorem zl:TN 268 (AL g [(0,a),(4,b),(12,c),(13,d),(14,e),(18,f),(19,h),(20,i),(21,j),(22,k),(16,x),(145,y)])=TN 268 (AL (AL g [(145,y)]) [(0,a),(4,b),(12,c),(13,d),(14,e),(18,f),(19,h),(20,i),(21,j),(22,k),(16,x)]):=by kernel_rfl
end
section
variable {Od:Old} {v0:o_} {cs:Z_} {R:Frame×Z_->o_->Prop} {dv sv:n_} {t n q N M b1 b2 p e1 e2 i u c rd fl pid:Nat} {fd:Nat->Int} {K K':KS} {rv told:n_} {l:List Nat} {e:Int} {v v':o_} {BA:List Ev} {g:Nat->n_}
theorem nR (hP:Uj 16 40 K pid 1 v told e v' K' BA) (hR:lM t n q (Ej M fd) b1 b2 p e1 e2 pid u c (l.drop rd) BA e K') (hD:TZ v0 dv M fd) (hi:i<9223372036854775807) (hS:LS v0 K rv l v) (hrd:rd<=l.length) (hmu:l.length+32*mu u c (l.drop rd)<=18528) (hfl:fl<=1) (BI:fl=1->0<i/\RS (1+(i-1) % 2) u c (l.drop rd)) (hN:N<=i->2*mu u c (l.drop rd)+(i-N)<=1158+fl) (HY:N<=i->pid=1+i % 2) (hen:EN u c<2) (hn:n<=32) (hq:q<=16)
  (next:∀f K rv rd en v,RI v0 t n q N (Ej M fd) b1 b2 p e1 e2 (i+1) K rv rd en v->Goes Od prog (xk dv (b_ (i+1:Nat)) sv (ptr K.kb) (b_ (q:Nat)) rv (b_ (n:Nat)) (b_ (rd:Nat)) (b_ (en:Nat)) cs f) v R):
  Goes Od prog (Frame.mk 8 (TN 268 (AL g [(0,dv),(4,sv),(12,b_ (n:Nat)),(13,b_ (q:Nat)),(14,ptr K.kb),(18,rv),(19,b_ (rd:Nat)),(20,b_ (EN u c:Nat)),(21,b_ (i:Nat)),(22,b_ (pid:Nat)),(16,told),(17,b_ e)])) (.code (gY prog)::.inBlock 1::.code (g18 prog)::[.inLoop (gL prog),.inBlock 0,.code (gX prog 14)]) [] .run .normal none,cs) v' R:=by
 have U:LS v0 K' rv l v':=hS.TL hP.ka hP.ok hP.mv;rw[<-hP.kb,aw3];refine Goes.seq (Goes.seq (Goes.part (m:=0) Yo rfl ah8 (λv1 _=>bd2 0 v1 _ _ _ _ _ _ _ _ _ _ _ _ e) λv1 F v2 K1 ⟨⟨S,e2⟩,K2⟩=>?_));subst e2;have k2:=K1.then K2;have b:=U.no k2;have d:=hP.told.keep k2 (λ_ _ h=>h);have y:∀{v3:o_},PI t n q (Ej M fd) b1 b2 p e1 e2 u c (l.drop rd) K'->RS pid u c (l.drop rd)->Keep No v2 v3->RI v0 t n q N (Ej M fd) b1 b2 p e1 e2 (i+1) K' rv rd (EN u c) v3:=λj P T=>RI.stay j (b.no T) hrd hmu hfl BI hN HY P hen
 obtain⟨he,j,P⟩|⟨rfl,rfl,j,P⟩|⟨rfl,u',c',ws',j,G,hO⟩:=hR
 .rw[decide_eq_true he];refine Goes.Ar (x:=lsA dv (b_ (i:Nat)) sv (ptr K'.kb) told (b_ (q:Nat)) rv (b_ (n:Nat)) (b_ (rd:Nat)) (b_ (EN u c:Nat)) cs S pid true) (bf5 _ _ _ _ _ _ _ _ _ _ _ _ _) ?_;rw[bf4,at6];exact WZ hi λf v3 a=>next f K' rv rd _ v3 (y j P a)
 .rw[show decide ((0:Int)≠0)=false from rfl];refine Goes.Ar (x:=lsA dv (b_ (i:Nat)) sv (ptr K'.kb) told (b_ (q:Nat)) rv (b_ (n:Nat)) (b_ (rd:Nat)) (b_ (EN u c:Nat)) cs S pid false) (an4 _ _ _ _ _ _ _ _ _ _ _ _ _) ?_;obtain⟨s0,Q,rfl⟩:=told_none d;rw[an2,zl];refine Goes.part (m:=0) Yo rfl Uf (λv1 _=>rX 0 v1 _ _ _ _ _ _ _ _ _ _ _ s0 Q) λv3 F v4 a ⟨⟨H,e4⟩,w⟩=>?_
  subst e4;exact Jw hi λf s k=>next f K' rv rd _ s (y j P ((a.then w).then k))
 .rw[show decide ((0:Int)≠0)=false from rfl];refine Goes.Ar (x:=lsA dv (b_ (i:Nat)) sv (ptr K'.kb) told (b_ (q:Nat)) rv (b_ (n:Nat)) (b_ (rd:Nat)) (b_ (EN u c:Nat)) cs S pid false) (an4 _ _ _ _ _ _ _ _ _ _ _ _ _) ?_;rw[an2,zl];have O:l.length<=100000:=by omega
  obtain⟨FW,rfl,o⟩|⟨x,rfl,J4,hxn,rfl,o⟩|⟨x,r,rfl,rfl,hxq,hxl,rfl,hb,L,TY,o⟩|⟨rfl,rfl,o⟩:=hO
  .have nx:∀f v3,Keep No v2 v3->Goes Od prog (xk dv (b_ (i+1:Nat)) sv (ptr K'.kb) (b_ (q:Nat)) rv (b_ (n:Nat)) (b_ (rd:Nat)) (b_ (EN u c:Nat)) cs f) v3 R:=λf v3 T=>next f K' rv rd _ v3 (by rw[<-o];exact RI.on j (b.no T) hrd (by omega) hmu hfl hN G)
   obtain rfl|rfl:=FW
   .obtain⟨s0,Q,rfl⟩:=told_none d;refine Goes.part (m:=0) Yo rfl Uf (λv1 _=>rX 0 v1 _ _ _ _ _ _ _ _ _ _ _ s0 Q) λv3 F v4 a ⟨⟨H,e4⟩,w⟩=>?_
    subst e4;exact Jw hi λf s k=>nx f s ((a.then w).then k)
   .obtain⟨E,D,rfl,z,A,B,C⟩:=Oe d;refine Goes.part (m:=0) Yo rfl Uf (λv1 a=>η 0 v1 _ _ _ _ _ _ _ _ _ E D pid (EN u c) (a.has z) (a.has A) (a.has B) (a.has C)) λv3 F v4 a ⟨⟨H,e4⟩,w⟩=>?_
    subst e4;exact Jw hi λf s k=>nx f s ((a.then w).then k)
  .obtain⟨E,D,rfl,z,A,B,C⟩:=Oe d;refine Goes.part (m:=0) Yo rfl Uf (λv1 a=>ζ 0 v1 _ v0 K' dv sv _ _ rv _ _ _ M fd l E D pid n x hD O J4 hxn hn (b.no a) (a.has z) (a.has A) (a.has B) (a.has C)) λv3 F v4 a ⟨H,rv',e4,V⟩=>?_
   subst e4;have J:(l++(List.range x).map (Ej M fd)).drop rd=l.drop rd++(List.range x).map (Ej M fd):=(by rw[List.drop_append_of_le_length hrd]);exact Jw hi λf s k=>next f K' rv' rd _ s (by rw[<-o];exact RI.on (l:=l) (by rw[J];exact j) (V.no k) (by simp;omega) (by simp;omega) hmu hfl hN (by rw[J];exact G))
  .obtain⟨E,D,rfl,z,A,B,C⟩:=Oe d;obtain⟨ra,rc,rfl⟩:=b.sl;have hdl:(l.drop rd).length=l.length-rd:=List.length_drop;have W:0<c':=by
    obtain e|e:=Nat.eq_zero_or_pos c'
    .exfalso;subst e;unfold EN at o hen;have hf:=j.fin (by omega);rw[hf.1]at o;simp at o;rw[<-o]at hen;simp at hen
    .exact e
   obtain⟨hm,r',I,X⟩:=j.two W;rw[hb]at I;cases I;have Z:=X.pid;rw[show(2:Nat)=r.pid from Z.symm]at z ⊢;refine Goes.part (m:=0) Yo rfl Uf (λv1 a=>ae3 0 v1 _ v0 K' dv sv _ _ _ ra rc l E D x q rd b2 r hm hb O hxq hq (by omega) L (λi hi=>by rw[TY i hi,List.getElem?_drop]) (b.no a) (a.has z) (a.has A) (a.has B) (a.has C)) λv3 F v4 a ⟨⟨H,e4⟩,w⟩=>?_
   subst e4;have Y:(l.drop rd).drop x=l.drop (rd+x):=List.drop_drop;rw[Y]at j G;exact Jw hi λf s k=>next f K' _ (rd+x) _ s (by rw[<-o];exact RI.on (l:=l) (l':=l) j (b.no ((a.then w).then k)) (by omega) (by omega) hmu hfl hN G)
  .obtain⟨E,D,rfl,z,A,B,C⟩:=Oe d;refine Goes.part (m:=0) Yo rfl Uf (λv1 a=>ae4 0 v1 _ _ _ _ _ _ _ _ _ E D pid (EN u c) (by omega) (a.has z) (a.has A) (a.has B) (a.has C)) λv3 F v4 a ⟨⟨H,e4⟩,w⟩=>?_
   subst e4;exact Jw hi λf s k=>next f K' rv rd _ s (by rw[<-o];exact RI.on (l:=l) (l':=l) j (b.no ((a.then w).then k)) hrd (by omega) hmu hfl hN G)
end
end Go.Fxa
