/- What must be ref -/
import Derived.Test.YtmhplpfpcnjekaaGreatA40
namespace Go.Fxa
open Conc Proofs RowKit Proofs.Tryz
set_option maxRecDepth 1000000
set_option maxHeartbeats 0
variable {K:KS}{pid s:Int}{r:PR}{NC NS:Nat}
def mY (K:KS)(pid:Int):Prop:=∀b∈K.Ar,∀r,K.ps b=some r->(r.pid:Int)≠pid
def zu (K:KS)(pid:Int)(b:Nat)(r:PR):Prop:=b∈K.Ar/\K.ps b=some r/\(r.pid:Int)=pid
theorem rP.no (h:rP K pid s)(f:mY K pid):s=2:=by
 obtain⟨e,_⟩|⟨b,r,a,c,d,_⟩:=h
 .exact e
 .exact qx d (f b a r c)
theorem rP.three {b:Nat}(h:rP K pid s)(a:zu K pid b r):s=3:=by
 obtain⟨_,h⟩|⟨_,_,_,_,_,_,e⟩:=h
 .exact qx a.2.2 (h b a.1 r a.2.1)
 .exact e
section
variable (m:Nat)(w:o_)
theorem zX (K:KS)(pid:Int)(h:AY K w)(hT:K.ED)(i:K.Ar.length<=100)(g:∀b r,¬LyB K pid b r):O_ m 17 #[Q_ K.kb,b_ pid] w λe w'=>Aa No w w'/\∃s:Int,e=.returned (b_ s)/\rP K pid s:=by
 have c:=λm=>UT m w K pid h hT i
 gi_enter func17,ntmps17;gi_wp2_with (gi_at_call 51;refine(c _).mono ?_;rintro e w1 ⟨d,⟨s,rfl,f,a⟩|⟨b,r,rfl,a⟩⟩<;>try exact qx a (g b r));go_ret;exact⟨d,s,sJ,a⟩
theorem ak4 (K:KS)(pid:Int)(h:AY K w)(hT:K.ED)(i:K.Ar.length<=100)(g:∀b r,¬LyB K pid b r):O_ m 18 #[Q_ K.kb,b_ pid] w λe w'=>Aa No w w'/\∃s:Int,e=.returned (b_ s)/\rP K pid s:=by
 have c:=λm=>UT m w K pid h hT i
 gi_enter func18,ntmps18;gi_wp2_with (gi_at_call 51;refine(c _).mono ?_;rintro e w1 ⟨d,⟨s,rfl,f,a⟩|⟨b,r,rfl,a⟩⟩<;>try exact qx a (g b r));go_ret;exact⟨d,s,sJ,a⟩
theorem nU (K:KS)(pid n:Int)(h:AY K w)(ok:DU NC NS K)(j:mY K pid):O_ m 19 #[Q_ K.kb,b_ pid,b_ n] w λe w'=>Aa No w w'/\e=.returned (.tuple #[.slice none 0 0,b_ 2]):=by
 have i:=ok.len;have c:=λm=>TQ m w K pid h ok.th wB
 gi_enter func19,ntmps19;gi_wp2_with (gi_at_call 54;refine(c _).mono ?_;rintro e w1 ⟨g,v,rfl,⟨b,r,rfl,a,d,f⟩|⟨rfl,_⟩⟩<;>try exact qx f (j b a r d));go_ret2;exact⟨g,sJ⟩
theorem ap3 (K:KS)(pid n:Int)(b:Nat)(r:PR)(h:AY K w)(ok:DU NC NS K)(k:zu K pid b r)(l:n<1\/1000<n):O_ m 19 #[Q_ K.kb,b_ pid,b_ n] w λe w'=>Aa No w w'/\e=.returned (.tuple #[.slice none 0 0,b_ 4]):=by
 have j:=ok.len;have c:=λm=>(TQ m w K pid h ok.th wB).mono λe w1 f=>(show Aa No w w1/\∃b,e=.returned (Q_ b) by
  obtain⟨a,v,rfl,⟨b,r,rfl,_⟩|⟨_,d⟩⟩:=f
  .exact⟨a,b,rfl⟩
  .exact qx k.2.2 (d b k.1 r k.2.1))
 clear k;by_cases g:n<1
 .clear l;gi_enter func19,ntmps19;gi_wp2_with (gi_at_call 54;refine(c _).mono ?_;rintro e w1 ⟨a,b,rfl⟩);go_ret2;exact⟨a,sJ⟩
 .have i:1000<n:=wB
  clear l;gi_enter func19,ntmps19;gi_wp2_with (gi_at_call 54;refine(c _).mono ?_;rintro e w1 ⟨a,b,rfl⟩);go_ret2;exact⟨a,sJ⟩
theorem ap4 (K:KS)(pid n:Int)(b:Nat)(r:PR)(h:AY K w)(ok:DU NC NS K)(t:zu K pid b r)(x:¬n<1)(y:¬1000<n)(u:Yp (K.BV r≠0)):O_ m 19 #[Q_ K.kb,b_ pid,b_ n] w λe w'=>Aa No w w'/\e=.returned (.tuple #[.slice none 0 0,b_ 3]):=by
 have p:=ok.len;have c:=λm=>(TQ m w K pid h ok.th wB).mono λe w1 d=>(show Aa No w w1/\e=.returned (Q_ b) by
  obtain⟨a,v,rfl,⟨j,o,rfl,q1,l,q⟩|⟨_,f⟩⟩:=d
  .obtain rfl:=ok.one j o b r q1 t.1 l t.2.1 (by have:=t.2.2;omega);exact⟨a,rfl⟩
  .exact qx t.2.2 (f b t.1 r t.2.1))
 have c2:=λm w1 (a:Aa No w w1)=>(jq m w1 K b r (h.no a) ok.th t.2.1 wB).mono λe w2 d=>(show Aa No w1 w2/\∃s:Int,e=.returned (b_ s)/\(s==0)=false by
  obtain⟨a,s,rfl,_,g⟩:=d
  exact⟨a,s,rfl,by simpa using λe=>u.out (g.out.symm.trans e)⟩)
 clear t u;gi_enter func19,ntmps19;gi_wp2_with (first|(gi_at_call 54;refine(c _).mono ?_;rintro e w1 ⟨a,rfl⟩)|(gi_at_call 55;refine(c2 _ _ a).mono ?_;rintro e w2 ⟨i,s,rfl,k⟩));go_ret2;exact⟨a.then i,sJ⟩
theorem uz (K:KS)(pid n:Int)(h:AY K w)(ok:DU NC NS K)(hn:mY K pid):O_ m 66 #[Q_ K.kb,b_ pid,b_ n] w λe w'=>Aa No w w'/\e=.returned (.bool true):=by
 have R:=ok.len;have t:∀b r,¬LyB K pid b r:=λb r p=>hn b p.1 r p.2.1 p.2.2.1
 have D:=λm=>nU m w K pid n h ok hn
 have c2:=λm w1 (j:Aa No w w1)=>(zX m w1 K pid (h.no j) ok.th wB t).mono λe w2 i=>(show Aa No w1 w2/\e=.returned (b_ 2)from let ⟨k,s,e,y⟩:=i;⟨k,y.no hn ▸ e⟩)
 have c3:=λm w1 (j:Aa No w w1)=>(ak4 m w1 K pid (h.no j) ok.th wB t).mono λe w2 i=>(show Aa No w1 w2/\e=.returned (b_ 2)from let ⟨k,s,e,y⟩:=i;⟨k,y.no hn ▸ e⟩)
 have c4:=λm w1 (j:Aa No w w1)=>(QL m w1 NC NS K pid (h.no j) ok).mono λe w2 i=>(show Aa No w1 w2/\e=.returned (.tuple #[.agg Ez,b_ 2])from⟨i.1,i.2.elim (λ⟨b,r,_,_,_,L,M,N,_⟩=>qx N (hn b L r M)) λi=>i.1⟩)
 have E:=λm w1 (j:Aa No w w1)=>(Rt m w1 K NC pid (h.no j) ok.th ok.co wB).mono λe w2 i=>(show Aa No w1 w2/\e=.returned (.tuple #[.agg #[b_ 0,b_ 0,b_ 0],b_ 2]) by
  obtain⟨j,x,y,z,s,rfl,⟨p,rfl,rfl,rfl⟩|⟨_,b,r,p,_⟩⟩:=i
  .rw[p.no hn];exact⟨j,rfl⟩
  .exact qx p (t b r))
 clear t hn;gi_enter func66,ntmps66;gi_wp2_with (first
  |(gi_at_call 19;refine(D _).mono ?_;rintro e w1 ⟨k1,rfl⟩;clear D)
  |(gi_at_call 17;refine(c2 _ _ k1).mono ?_;rintro e w2 ⟨k2,rfl⟩;clear c2;have k2:=k1.then k2)
  |(gi_at_call 18;refine(c3 _ _ k2).mono ?_;rintro e w3 ⟨k3,rfl⟩;clear c3;have k3:=k2.then k3)
  |(gi_at_call 20;refine(c4 _ _ k3).mono ?_;rintro e w4 ⟨P,rfl⟩;clear c4;obtain⟨Q,l,v,C⟩:=EK (w:=w4.alloc (.cells Ez 48)) (rb:=w4.heap.size) (a:=0) (b:=0) (c:=0) (d:=0) (e:=0) (f:=0) (g:=0) (n7:=0) (c7:=0) (n8:=0) (c8:=0) (a7:=none) (a8:=none) (Yw rfl);have I:Aa No w4 Q:=((Aa.refl No w4).alloc (.cells Ez 48)).trans v (λx O e=>qx (show x=w4.heap.size from e) wB);have F:=(k3.then P).then I;clear v)
  |(gi_at_call 22;refine(E _ _ F).mono ?_;rintro e q ⟨G,rfl⟩;clear E;obtain⟨H,u,A,J⟩:=Oq (w:=q.alloc (.cells #[.int .i64 0,.int .i64 0,.int .i64 0] 54)) (rb:=q.heap.size) (x:=0) (y:=0) (z:=0) (Yw rfl);have B:Aa No q H:=((Aa.refl No q).alloc (.cells #[.int .i64 0,.int .i64 0,.int .i64 0] 54)).trans A (λx O e=>qx (show x=q.heap.size from e) wB);have o:=(G.then B).old C id;have S:H.cell? (R_ w4.heap.size)=some (.int .i64 0):=bce o rfl;obtain⟨T,U,_,_,_,_,V,W⟩:=KT o;obtain⟨X,Y,Z⟩:=lV J;clear A l C o)
  |refine BM rfl (.tmp 11) (.tmp 32) 48 rfl rfl rfl l ?_
  |refine BM rfl (.tmp 13) (.tmp 38) 54 rfl rfl rfl u ?_);go_ret;exact⟨(F.then G).then B,sJ⟩
end
theorem ci7:K.BV r=0\/K.BV r=1\/(K.BV r=2/\r.en=true):=by
 unfold KS.BV;cases r.en<;>cases K.blk r<;>simp
theorem ag5 (ok:DU NC NS K)(h:pid<1\/60000<pid):mY K pid:=λb _ r a e=>by
 have:=ok.pid b r a;have:=ok.BG;omega
section
variable (m:Nat)(w:o_)
def Ans (K:KS)(pid ef want st:Int)(w:o_):Prop:=
 (∀m w1,Aa No w w1->O_ m 20 #[Q_ K.kb,b_ pid] w1 λe w2=>Aa No w1 w2/\∃a b c d f g a7 n7 c7 a8 n8 c8,e=.returned (.tuple #[.agg (Jq a b st c d f g (.slice a7 n7 c7) (.slice a8 n8 c8)),b_ ef]))/\
 (∀m w1 n,Aa No w w1->n<1\/1000<n->O_ m 19 #[Q_ K.kb,b_ pid,b_ n] w1 λe w2=>Aa No w1 w2/\e=.returned (.tuple #[.slice none 0 0,b_ want]))/\
 (st≠0->∀m w1 n,Aa No w w1->¬n<1->¬1000<n->O_ m 19 #[Q_ K.kb,b_ pid,b_ n] w1 λe w2=>Aa No w1 w2/\e=.returned (.tuple #[.slice none 0 0,b_ 3]))/\
 (st=2->(∀m w1,Aa No w w1->O_ m 17 #[Q_ K.kb,b_ pid] w1 λe w2=>Aa No w1 w2/\e=.returned (b_ 3))/\(∀m w1,Aa No w w1->O_ m 18 #[Q_ K.kb,b_ pid] w1 λe w2=>Aa No w1 w2/\e=.returned (b_ 3))/\
  ∀m w1,Aa No w w1->O_ m 22 #[Q_ K.kb,b_ pid] w1 λe w2=>Aa No w1 w2/\e=.returned (.tuple #[.agg #[b_ 0,b_ 0,b_ 0],b_ 3]))
theorem answers (K:KS)(pid:Int)(h:AY K w)(ok:DU NC NS K):Ans K pid 2 2 0 w\/Ans K pid 0 4 0 w\/Ans K pid 0 4 1 w\/Ans K pid 0 4 2 w:=by
 have O:=ok.len;by_cases c:∃b r,zu K pid b r
 .obtain⟨b,r,c⟩:=c;obtain⟨k,H⟩:=List.mem_iff_getElem?.1 c.1;have key:∀i,K.BV r=i->(i=2->r.en=true)->Ans K pid 0 4 i w:=λi u p=>by
   have q:i=2->∀l t,¬LyB K pid l t:=λe l t d=>by
    obtain rfl:=ok.one l t b r d.1 c.1 d.2.1 c.2.1 (by have:=c.2.2;have:=d.2.2.1;omega)
    have g:=d.2.1
    rw[c.2.1]at g;cases g
    have:=d.2.2.2
    rw[p e]at this;cases this
   refine⟨λm w1 a=>?_,λm w1 n a j=>ap3 m w1 K pid n b r (h.no a) ok c j,λL m w1 n a g o=>ap4 m w1 K pid n b r (h.no a) ok c g o (show K.BV r≠0 by rw[u];exact L),λe=>⟨λm w1 a=>?_,λm w1 a=>?_,λm w1 a=>?_⟩⟩
   .have e:=c.2.2;subst e;refine(QL m w1 NC NS K r.pid (h.no a) ok).mono λe w2 f=>?_
    obtain⟨A,s,B,M,D,C,N,E,rfl,G,_⟩:=UU ok H c.2.1 f;obtain rfl:s=i:=G.2.out.trans u;exact⟨A,_,_,_,_,_,_,B,M,D,C,N,E,rfl⟩
   .exact(zX m w1 K pid (h.no a) ok.th wB (q e)).mono λe w2 ⟨k,s,e,y⟩=>⟨k,y.three c ▸ e⟩
   .exact(ak4 m w1 K pid (h.no a) ok.th wB (q e)).mono λe w2 ⟨k,s,e,y⟩=>⟨k,y.three c ▸ e⟩
   .refine(Rt m w1 K NC pid (h.no a) ok.th ok.co wB).mono λv w2 f=>?_
    obtain⟨a,x,y,z,s,rfl,⟨d,rfl,rfl,rfl⟩|⟨_,b,r,d,_⟩⟩:=f
    .rw[d.three c];exact⟨a,rfl⟩
    .exact qx d (q e b r)
  obtain e|e|⟨e,v⟩:=ci7 (K:=K) (r:=r)
  .exact .inr (.inl (key 0 e λh=>by cases h))
  .exact .inr (.inr (.inl (key 1 e λh=>by cases h)))
  .exact .inr (.inr (.inr (key 2 e λ_=>v)))
 .have j:mY K pid:=λb I r J e=>c ⟨b,r,I,J,e⟩
  refine .inl ⟨λm w1 a=>?_,λm w1 n a _=>nU m w1 K pid n (h.no a) ok j,λh=>qx rfl h,λh=>by cases h⟩;exact(QL m w1 NC NS K pid (h.no a) ok).mono λe w2 f=>⟨f.1,f.2.elim (λ⟨b,r,_,_,_,g,o,F,_⟩=>qx F (j b g r o)) λf=>⟨0,0,0,0,0,0,none,0,0,none,0,0,f.1⟩⟩
theorem fF (K:KS)(kd pid nn:Int)(h:AY K w)(ok:DU NC NS K)(h1:-9223372036854775808<=nn)(h2:nn<=9223372036854775807):O_ m 29 #[Q_ K.kb,.agg #[b_ kd,b_ pid,b_ nn]] w λe w'=>Aa No w w'/\e=.returned (.bool true):=by
 have KA:Aa No w (w.alloc (.cells #[b_ kd,b_ pid,b_ nn] 38)):=(Aa.refl _ _).alloc _;have S:(w.alloc (.cells #[b_ kd,b_ pid,b_ nn] 38)).heap[w.heap.size]?=some (N_ #[b_ kd,b_ pid,b_ nn] 38):=Yw rfl;have d1:(w.alloc (.cells #[b_ kd,b_ pid,b_ nn] 38)).cell? (S_ w.heap.size 1)=some (b_ pid):=bce S rfl;have d2:(w.alloc (.cells #[b_ kd,b_ pid,b_ nn] 38)).cell? (S_ w.heap.size 2)=some (b_ nn):=bce S rfl;have hr:=NP nn (n:=1000) sN;have M:=λm=>NI m (w.alloc (.cells #[b_ kd,b_ pid,b_ nn] 38)) nn 1000 _ h1 h2 wB wB rfl
 generalize Gw nn 1000=r at hr M;have n1:=λm w1 (p:Aa No w w1)=>uz m w1 K 0 (r:Nat) (h.no p) ok (ag5 ok wB)
 have n2:=λm w1 (p:Aa No w w1)=>uz m w1 K (-1-(r:Int)) ((r:Int)+1) (h.no p) ok (ag5 ok wB)
 have n3:=λm w1 (p:Aa No w w1)=>uz m w1 K (60001+(r:Int)) ((r:Int)+1) (h.no p) ok (ag5 ok wB)
 have hA:=answers w K pid h ok;clear h1 h2 S;gi_enter func29,ntmps29;gi_upto_region 5 with(first
  |(gi_at_call 16;refine(M _).mono ?_;rintro e w1 ⟨rfl,V⟩;have V:=V.symm;subst V;clear M)
  |(gi_at_call 66;refine(n1 _ _ KA).mono ?_;rintro e w2 ⟨k2,rfl⟩;clear n1;have d1:=k2.has d1;have k2:=KA.then k2)
  |(gi_at_call 66;refine(n2 _ _ k2).mono ?_;rintro e w3 ⟨k3,rfl⟩;clear n2;have d1:=k3.has d1;have k3:=k2.then k3)
  |(gi_at_call 66;refine(n3 _ _ k3).mono ?_;rintro e w4 ⟨A,rfl⟩;clear n3;have d1:=A.has d1;have A:=k3.then A));obtain hA|hA|hA|hA:=hA
 all_goals
  obtain⟨C,T,P,D⟩:=hA
  have E:=λm w1 (p:Aa No w w1)=>T m w1 (-(r:Int)) p wB
  have p2:=λm w1 (p:Aa No w w1)=>T m w1 (1001+(r:Int)) p wB
  clear T
 .clear P D;gi_wp2_with (first
   |(gi_at_call 20;refine(C _ _ A).mono ?_;rintro e o ⟨N,a1,a2,G,H,I,J,a7,n7,c7,a8,n8,c8,rfl⟩;clear C;obtain⟨O,L,s,t⟩:=EK (w:=o.alloc (.cells Ez 48)) (rb:=o.heap.size) (a:=a1) (b:=a2) (c:=0) (d:=G) (e:=H) (f:=I) (g:=J) (n7:=n7) (c7:=c7) (n8:=n8) (c8:=c8) (a7:=a7) (a8:=a8) (Yw rfl);have F:Aa No o O:=((Aa.refl No o).alloc (.cells Ez 48)).trans s (λx R e=>qx (show x=o.heap.size from e) wB);have k:=N.then F;have d1:=k.has d1;have k:=A.then k;have l:=(KT t).2.1;clear s t)
   |refine BM rfl (.tmp 9) (.tmp 53) 48 rfl rfl rfl L ?_
   |(gi_at_call 19;refine(E _ _ k).mono ?_;rintro e Z ⟨i,rfl⟩;clear E;have d1:=i.has d1;have l:=i.has l;have i:=k.then i)
   |(gi_at_call 19;refine(p2 _ _ i).mono ?_;rintro e w8 ⟨j,rfl⟩;clear p2;have d1:=j.has d1;have l:=j.has l;have j:=i.then j));go_ret;exact⟨j,sJ⟩
 .clear P D;gi_wp2_with (first
   |(gi_at_call 20;refine(C _ _ A).mono ?_;rintro e o ⟨N,a1,a2,G,H,I,J,a7,n7,c7,a8,n8,c8,rfl⟩;clear C;obtain⟨O,L,s,t⟩:=EK (w:=o.alloc (.cells Ez 48)) (rb:=o.heap.size) (a:=a1) (b:=a2) (c:=0) (d:=G) (e:=H) (f:=I) (g:=J) (n7:=n7) (c7:=c7) (n8:=n8) (c8:=c8) (a7:=a7) (a8:=a8) (Yw rfl);have F:Aa No o O:=((Aa.refl No o).alloc (.cells Ez 48)).trans s (λx R e=>qx (show x=o.heap.size from e) wB);have k:=N.then F;have d1:=k.has d1;have k:=A.then k;have l:=(KT t).2.1;clear s t)
   |refine BM rfl (.tmp 9) (.tmp 53) 48 rfl rfl rfl L ?_
   |(gi_at_call 19;refine(E _ _ k).mono ?_;rintro e Z ⟨i,rfl⟩;clear E;have d1:=i.has d1;have l:=i.has l;have i:=k.then i)
   |(gi_at_call 19;refine(p2 _ _ i).mono ?_;rintro e w8 ⟨j,rfl⟩;clear p2;have d1:=j.has d1;have l:=j.has l;have j:=i.then j));go_ret;exact⟨j,sJ⟩
 .have p3:=λm w1 (p:Aa No w w1)=>P wB m w1 (1+(r:Int)) p wB wB
  clear P D;gi_wp2_with (first
   |(gi_at_call 20;refine(C _ _ A).mono ?_;rintro e o ⟨N,a1,a2,G,H,I,J,a7,n7,c7,a8,n8,c8,rfl⟩;clear C;obtain⟨O,L,s,t⟩:=EK (w:=o.alloc (.cells Ez 48)) (rb:=o.heap.size) (a:=a1) (b:=a2) (c:=1) (d:=G) (e:=H) (f:=I) (g:=J) (n7:=n7) (c7:=c7) (n8:=n8) (c8:=c8) (a7:=a7) (a8:=a8) (Yw rfl);have F:Aa No o O:=((Aa.refl No o).alloc (.cells Ez 48)).trans s (λx R e=>qx (show x=o.heap.size from e) wB);have k:=N.then F;have d1:=k.has d1;have k:=A.then k;have l:=(KT t).2.1;clear s t)
   |refine BM rfl (.tmp 9) (.tmp 53) 48 rfl rfl rfl L ?_
   |(gi_at_call 19;refine(E _ _ k).mono ?_;rintro e Z ⟨i,rfl⟩;clear E;have d1:=i.has d1;have l:=i.has l;have i:=k.then i)
   |(gi_at_call 19;refine(p2 _ _ i).mono ?_;rintro e w8 ⟨j,rfl⟩;clear p2;have d1:=j.has d1;have l:=j.has l;have j:=i.then j)
   |(gi_at_call 19;refine(p3 _ _ j).mono ?_;rintro e w9 ⟨q,rfl⟩;clear p3;have d1:=q.has d1;have l:=q.has l;have q:=j.then q));go_ret;exact⟨q,sJ⟩
 .have p3:=λm w1 (p:Aa No w w1)=>P wB m w1 (1+(r:Int)) p wB wB
  replace D:=D rfl
  clear P;gi_wp2_with (first
   |(gi_at_call 20;refine(C _ _ A).mono ?_;rintro e o ⟨N,a1,a2,G,H,I,J,a7,n7,c7,a8,n8,c8,rfl⟩;clear C;obtain⟨O,L,s,t⟩:=EK (w:=o.alloc (.cells Ez 48)) (rb:=o.heap.size) (a:=a1) (b:=a2) (c:=2) (d:=G) (e:=H) (f:=I) (g:=J) (n7:=n7) (c7:=c7) (n8:=n8) (c8:=c8) (a7:=a7) (a8:=a8) (Yw rfl);have F:Aa No o O:=((Aa.refl No o).alloc (.cells Ez 48)).trans s (λx R e=>qx (show x=o.heap.size from e) wB);have k:=N.then F;have d1:=k.has d1;have k:=A.then k;have l:=(KT t).2.1;clear s t)
   |refine BM rfl (.tmp 9) (.tmp 53) 48 rfl rfl rfl L ?_
   |(gi_at_call 19;refine(E _ _ k).mono ?_;rintro e Z ⟨i,rfl⟩;clear E;have d1:=i.has d1;have l:=i.has l;have i:=k.then i)
   |(gi_at_call 19;refine(p2 _ _ i).mono ?_;rintro e w8 ⟨j,rfl⟩;clear p2;have d1:=j.has d1;have l:=j.has l;have j:=i.then j)
   |(gi_at_call 19;refine(p3 _ _ j).mono ?_;rintro e w9 ⟨q,rfl⟩;clear p3;have d1:=q.has d1;have l:=q.has l;have q:=j.then q)
   |(gi_at_call 17;refine(D.1 _ _ q).mono ?_;rintro e w10 ⟨u,rfl⟩;have d1:=u.has d1;have u:=q.then u)
   |(gi_at_call 18;refine(D.2.1 _ _ u).mono ?_;rintro e w11 ⟨v,rfl⟩;have d1:=v.has d1;have v:=u.then v)
   |(gi_at_call 22;refine(D.2.2 _ _ v).mono ?_;rintro e B ⟨W,rfl⟩;obtain⟨Y,U,lD,Q⟩:=Oq (w:=B.alloc (.cells #[.int .i64 0,.int .i64 0,.int .i64 0] 54)) (rb:=B.heap.size) (x:=0) (y:=0) (z:=0) (Yw rfl);have KC:Aa No B Y:=((Aa.refl No B).alloc (.cells #[.int .i64 0,.int .i64 0,.int .i64 0] 54)).trans lD (λx R e=>qx (show x=B.heap.size from e) wB);obtain⟨y0,y1,y2⟩:=lV Q;have X:=(v.then W).then KC;clear lD Q)
   |refine BM rfl (.tmp 18) (.tmp 132) 54 rfl rfl rfl U ?_);go_ret;exact⟨X,sJ⟩
end
end Go.Fxa
