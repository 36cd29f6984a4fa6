/- What two kernels -/
import Derived.Test.YtmhplpfpcnjekaaGreatA40
namespace Go.Fxa
open Conc Proofs RowKit Proofs.Tryz
set_option maxRecDepth 1000000
set_option maxHeartbeats 0
variable {c:Bool}{t t':Tag}{R S:Nat->Nat->Prop}{K L:KS}{w:o_}{base NC NS QB UA:Nat}{v:n_}{fs:List (Int×Nat×List Nat)}
def lM (K:KS)(i:Nat):Int:=match K.Ar[i]? with|some b=>(match K.ps b with|some r=>(r.pid:Int)|none=>0)|none=>0
theorem bv1 (h:CJ c t t' R S K L):lM L=lM K:=by
 funext i;unfold lM;have e:=h.Ar.get i;cases e1:K.Ar[i]? with
 |none=>rw[e.none.1 e1]
 |some a=>
  obtain⟨b,e2,d⟩:=e.dh e1
  obtain⟨r,s,q1,f,hR⟩:=h.sd a b d
  rw[e2]
  simp only[q1,f,hR.pid]
theorem zV (h:w.ownsRow base 3 1 v K.Ar.length (XB K K.Ar.length))(d:K.Ar.length<=12):SlI w v K.Ar.length (lM K):=by
 obtain⟨e,e2⟩|⟨g,cap,a,e,_,c,_⟩:=id h.2
 .exact⟨wB,none,0,by rw[e,e2],λb=>qx b wB⟩
 .subst e;refine⟨wB,_,_,rfl,λ_=>⟨g,0,rfl,λi hi=>?_⟩⟩;rw[Nat.zero_add];refine(h.cellAt i wB).trans ?_;simp only[XB,lM,List.getElem?_map,List.take_length,JM hi,Option.map_some];cases K.ps K.Ar[i]<;>rfl
theorem ba9 {n b:Nat}{f a:Nat->Int}(e:b=n)(d:a=f)(h:SlI w v b a):SlI w v n f:=by subst e d;exact h
theorem bu1 (b:w.ownsRow base 3 1 v K.Ar.length (XB K K.Ar.length)):∃s c,v=.slice s K.Ar.length c:=by
 obtain⟨e,e2⟩|⟨g,cap,a,e,_⟩:=b.2
 .exact⟨none,0,by rw[e,e2]⟩
 .exact⟨_,_,e⟩
theorem ck4 {r s:PR}(h:Ep c R r s):(ig s).1=(ig r).1/\(ig s).2.2.1=(ig r).2.2.1/\(ig s).2.2.2=(ig r).2.2.2:=by
 unfold ig;rw[h.en];split<;>simp[h.sw,h.Af]
theorem bp1 {c:Bool}{t t':Tag}{R S:Nat->Nat->Prop}{K L:KS}(h:CJ c t t' R S K L):∀k,SK L k=SK K k
 |0=>rfl
 |k+1=>by
  have d:=h.nm k
  simp only[SK,bp1 h k]
  cases e1:K.nm k with
  |none=>rw[d.none.1 e1]
  |some f=>
   obtain⟨a,e2,b⟩:=d.dh e1
   rw[e2]
   simp only[(h.rd f a b).2,(h.rd f a b).1.ws]
theorem bp2 {c:Bool}{t t':Tag}{R S:Nat->Nat->Prop}{K L:KS}(h:CJ c t t' R S K L):∀{l d:List Nat},LR R l d->au L d=au K l
 |[],[],_=>rfl
 |f::l,b::d,a=>by
  have:=bp2 h a.2
  unfold au at this ⊢
  simp only[List.map_cons,this,(h.rd f b a.1).2,(h.rd f b a.1).1.ws]
 |[],_::_,a=>a.elim
 |_::_,[],a=>a.elim
theorem Xm (h:dX w base v fs):∃s c,v=.slice s fs.length c:=by
 obtain⟨xs,h,_⟩:=h;obtain⟨e,e2⟩|⟨g,cap,a,e,_⟩:=h.2
 .exact⟨none,0,by rw[e,e2]⟩
 .exact⟨_,_,e⟩
theorem fV {w':o_}{c k:Nat}{s:d_ f_}{q:Int×Nat×List Nat}(h:dX w base (.slice s fs.length c) fs)(p:Aa No w w')(hq:fs[k]?=some q):∃g a d,s=some (R_ g)/\w'.cell? (S_ g (k*3))=some (b_ q.1)/\w'.cell? (S_ g (k*3+1))=some (b_ (q.2.1:Nat))/\w'.cell? (S_ g (k*3+2))=some (.slice a q.2.2.length d)/\Xy base (.slice a q.2.2.length d) (ints q.2.2) w':=by
 obtain⟨xs,h,m⟩:=h;have n:=(Oc.1 hq).1;obtain⟨f,i,a,d,j,l⟩:=m.get k q hq;obtain⟨_,e2⟩|⟨g,cap,b,e,_,o,_⟩:=id h.2
 .omega
 .cases e;exact⟨g,a,d,rfl,p.has ((h.cellAt (k*3) wB).trans f),p.has ((h.cellAt (k*3+1) wB).trans i),p.has ((h.cellAt (k*3+2) wB).trans j),l.no p⟩
section
variable (m:Nat)(w:o_)
theorem pV (K L:KS)(ka:AY K w)(kb:AY L w)(ok:DU NC NS K)(ol:DU QB UA L)(hI:CJ c t t' R S K L)(hc1:K.core.length<=1000)(hc1':L.core.length<=1000)(hc2:K.swap.length<=1000)(hnl:K.nl.length<=1000)(hws:∀q∈SK K 16++au K K.nl,q.2.2.length<=64)(hfl:(SK K 16++au K K.nl).length<=2000):
  O_ m 24 #[Q_ K.kb,Q_ L.kb] w λe w'=>e=.returned (.bool true)/\Aa No w w':=by
 have hl:=ok.len;have M:=ol.len;have hll:Yp (K.Ar.length=L.Ar.length):=hI.Ar.len;have hpi:Yp (lM L=lM K):=bv1 hI;have p1:=λm=>uw m w K ka ok.th hl
 have p2:=λm w1 (d:Aa No w w1)=>uw m w1 L (kb.no d) ol.th M
 gi_enter func24,ntmps24;gi_wp2_with (first|(gi_at_call 50;refine(p1 _).mono ?_;rintro e w1 ⟨K1,v,rfl,P⟩;clear p1;obtain⟨s,cp,hv⟩:=bu1 P;subst hv)|(gi_at_call 50;refine(p2 _ _ K1).mono ?_;rintro e w2 ⟨K2,v',rfl,f⟩;clear p2;have sp:=λm=>Qe m w2 (.slice s K.Ar.length cp) v' K.Ar.length (lM K) (zV (Rx P K2) hl) (ba9 hll.out.symm hpi.out (zV f M));clear f)|(gi_at_call 21;refine(sp _).mono ?_;rintro e w3 ⟨rfl,K3⟩;clear sp));have K03:Aa No w1 w3:=K2.then K3;gi_loopw [8] (λi wr=>∃k:Nat,k<=K.Ar.length/\i=b_ k/\Aa No w1 wr) (λi _=>K.Ar.length-(intOf i).toNat)
 case atStart=>exact⟨0,wB,rfl,K03⟩
 case round=>
  obtain⟨k,hk,rfl,KK1⟩:=hrel
  have KK:Aa No w wr:=K1.then KK1
  by_cases BL:k<K.Ar.length
  .have E:K.Ar[k]?=some K.Ar[k]:=JM BL;generalize K.Ar[k]=a at E;obtain⟨r,Y⟩:=AY.mem ok.th E;have o:=hI.Ar.get k;rw[E]at o;obtain⟨b,J,hab⟩:=o.dh rfl;obtain⟨s',hs,hR⟩:=hI.get hab Y;obtain⟨g,cap,h,rfl,hgb⟩:∃g cap h,s=some (R_ g)/\w1.heap[g]?=some (N_ h cap):=by
    obtain⟨_,e2⟩|⟨g,cap,h,e,_,hx,_⟩:=P.2
    .omega
    .cases e;exact⟨g,_,h,rfl,hx⟩
   have d0:wr.cell? (S_ g k)=some (b_ r.pid):=KK1.has ((P.cellAt k wB).trans (by simp[XB,E,Y]));have h0:=λm=>wX m wr K L a b k k r s' (ka.no KK) (kb.no KK) ok ol hI hR E Y J hs
   have X:=λm w2 (d:Aa No wr w2)=>(Rt m w2 K NC r.pid ((ka.no KK).no d) ok.th ok.co wB).mono λe w2 hh=>U5 ok (t_ E) Y hh
   have D:=λm w2 (d:Aa No wr w2)=>(Rt m w2 L QB s'.pid ((kb.no KK).no d) ol.th ol.co wB).mono λe w3 hh=>U5 ol (t_ J) hs hh
   obtain⟨z1,z2,z3⟩:=ck4 hR;rw[<-hR.pid,z1,z2,z3]at D;generalize (ig s').2.1=q5 at D;generalize ig r=q at X D;obtain⟨q1,q2,q3,q4⟩:=q;simp only at X D;clear hR o z1 z2 z3;gi_wp2_with (first
    |(gi_at_call 64;refine(h0 _).mono ?_;rintro e w4 ⟨rfl,C⟩;clear h0;have d0:=C.has d0)
    |(gi_at_call 22;refine(X _ _ C).mono ?_;rintro e p ⟨G,rfl⟩;clear X;obtain⟨w6,aT,Q,b6⟩:=Oq (w:=p.alloc (.cells #[.int .i64 0,.int .i64 0,.int .i64 0] 54)) (rb:=p.heap.size) (x:=q1) (y:=q2) (z:=q3) (Yw rfl);have KA:Aa No p w6:=((Aa.refl No p).alloc (.cells #[.int .i64 0,.int .i64 0,.int .i64 0] 54)).trans Q (λx hx e=>qx (show x=p.heap.size from e) wB);have KB:Aa No wr w6:=(C.then G).then KA;have d1:=(G.then KA).has d0;clear Q)
    |(gi_at_call 22;refine(D _ _ KB).mono ?_;rintro e F ⟨T,rfl⟩;clear D;obtain⟨O,AL,H,b8⟩:=Oq (w:=F.alloc (.cells #[.int .i64 0,.int .i64 0,.int .i64 0] 54)) (rb:=F.heap.size) (x:=q1) (y:=q5) (z:=q3) (Yw rfl);have KC:Aa No F O:=((Aa.refl No F).alloc (.cells #[.int .i64 0,.int .i64 0,.int .i64 0] 54)).trans H (λx hx e=>qx (show x=F.heap.size from e) wB);have KD:Aa No w1 O:=(KK1.then KB).then (T.then KC);obtain⟨x0,x1,x2⟩:=lV ((T.then KC).old b6 id);obtain⟨u,A,y2⟩:=lV b8;clear H aT b6 d1)
    |refine BM rfl (.tmp 10) (.tmp 51) 54 rfl rfl rfl aT ?_
    |refine BM rfl (.tmp 12) (.tmp 60) 54 rfl rfl rfl AL ?_);go_roundw
   case rel=>exact⟨k+1,wB,by go_num,KD⟩
   case measure=>simp[intOf];omega
  .have hn2:L.nl.length<=1000:=(by rw[<-hI.nl.len];exact hnl);have f1:=λm=>iW m wr K (ka.no KK) hc1 hc2
   have f2:=λm w2 (d:Aa No wr w2)=>iW m w2 L ((kb.no KK).no d) hc1' (by rw[<-hI.swap];exact hc2)
   rw[<-hI.swap]at f2;have g1:=λm w2 (d:Aa No wr w2)=>Κ m w2 K ((ka.no KK).no d) hnl
   have V:=λm w2 (d:Aa No wr w2)=>Κ m w2 L ((kb.no KK).no d) hn2
   rw[bp1 hI 16,bp2 hI hI.nl]at V;generalize SK K 16++au K K.nl=n at g1 V hws hfl;obtain rfl:k=K.Ar.length:=wB;gi_wp2_with (first|(gi_at_call 59;refine(f1 _).mono ?_;rintro e w4 ⟨C,v1,v2,rfl,r1,r2⟩;clear f1)|(gi_at_call 59;refine(f2 _ _ C).mono ?_;rintro e p ⟨G,v3,v4,rfl,r3,r4⟩;clear f2;have sr:=λm=>ZE m p v2 v4 K.swap (Ya (Rx r2 G)) (Ya r4) wB;clear r1 r2 r3 r4)|(gi_at_call 65;refine(sr _).mono ?_;rintro e w6 ⟨rfl,Q⟩;clear sr;have KF:=(C.then G).then Q)|(gi_at_call 63;refine(g1 _ _ KF).mono ?_;rintro e F ⟨T,u1,rfl,t1⟩;clear g1;obtain⟨s1,c1,hu1⟩:=Xm t1;subst hu1;have KG:=KF.then T)|(gi_at_call 63;refine(V _ _ KG).mono ?_;rintro e O ⟨H,u2,rfl,t2⟩;clear V;obtain⟨s2,c2,hu2⟩:=Xm t2;subst hu2));have KH:Aa No wr O:=KG.then H;gi_loopw [20,21] (λi _ wq=>∃j:Nat,j<=n.length/\i=b_ j/\Aa No O wq) (λi _ _=>n.length-(intOf i).toNat)
   case atStart=>exact⟨0,wB,rfl,Aa.refl _ _⟩
   case round=>
    obtain⟨j,hj,rfl,U⟩:=hrel
    by_cases N:j<n.length
    .have hq:n[j]?=some n[j]:=JM N;generalize n[j]=q at hq;have hb:=hws q (t_ hq);obtain⟨ga,a1,d1,rfl,x0,x1,x2,i1⟩:=fV t1 (H.then U) hq;obtain⟨gb,a2,d2,rfl,u,A,y2,i2⟩:=fV t2 U hq;have Z:(ints q.2.2).length<=1000:=(by simp only[ints,List.length_map];omega);have si:=λm l (d:Aa No _ l)=>Qe m l _ _ _ _ ((i1.no d).sl Z) ((i2.no d).sl Z)
     clear hws t1 t2 i1 i2 Z;gi_wp2;refine Cc 10 154 ?_;gi_wp2;refine Ee ?_ ?_
     .intro W d;have x2:=d.has (w:=wr.drew) x2;have y2:=d.has (w:=wr.drew) y2
      repeat' (refine AA ?_ ?_)
      all_goals first|exact dE|gi_wp2
     .intro W d;have KW:Aa No wr W:=(Aa.refl No wr).drew.then d;have x0:=KW.has x0;have x1:=KW.has x1;have u:=KW.has u;have A:=KW.has A;gi_wp2_with (gi_at_call 21;refine(si _ _ KW).mono ?_;rintro e l ⟨rfl,I⟩;have x0:=I.has x0;have x1:=I.has x1;have u:=I.has u;have A:=I.has A);refine Cc 26 154 ?_;gi_wp2;refine Ee ?_ ?_
      .intro W2 B;have x0:=B.has (w:=l.drew) x0;have x1:=B.has (w:=l.drew) x1;have u:=B.has (w:=l.drew) u;have A:=B.has (w:=l.drew) A
       repeat' (refine AA ?_ ?_)
       all_goals first|exact dE|gi_wp2
      .intro W2 B;gi_wp2;go_roundw
       case rel=>exact⟨j+1,wB,by go_num,U.then ((KW.then I).then ((Aa.refl No l).drew.then B))⟩
       case measure=>simp[intOf];omega
    .obtain rfl:j=n.length:=wB;gi_wp2;go_ret;exact⟨sJ,(KK.then KH).then U⟩
theorem FTw {w:o_}(h:AY K w):∀q∈SK K 16++au K K.nl,q.2.2.length<=64:=by
 have a:∀f,K.T f=(10,0)->(K.ct f).ws.length<=64:=λf j=>by
  obtain⟨v,_,g⟩:=h.fl.file f j
  obtain⟨_,e⟩|⟨_,_,_,_,b,_⟩:=g
  .rw[e];simp
  .exact b
 have key:∀k,k<=16->∀q∈SK K k,q.2.2.length<=64:=λk=>by
  induction k with
  |zero=>intro _ q hq;simp[SK]at hq
  |succ k i=>
   intro l q hq
   simp only[SK]at hq
   obtain hq|hq:=eF.1 hq
   .exact i wB q hq
   .cases e:K.nm k with
    |none=>rw[e]at hq;simp at hq
    |some f=>rw[e]at hq;simp at hq;rw[hq];exact a f ((h.nmc wB).2 f e)
 intro q hq;obtain hq|hq:=eF.1 hq
 .exact key 16 w_ q hq
 .obtain⟨f,d,rfl⟩:=List.mem_map.1 hq;obtain⟨m,_,c⟩:=h.k;obtain⟨_,_,_,hb⟩:=c.nl;exact a f (hb f d)
theorem FTn (ok:DU NC NS K):(SK K 16++au K K.nl).length<=2000:=by
 have key:∀k,(SK K k).length<=k:=λk=>by
  induction k with
  |zero=>exact w_
  |succ k a=>simp only[SK,g_];cases K.nm k<;>simp<;>omega
 have:=key 16;have:=ok.Ei.nl;simp[au];omega
theorem Two.world (h:Two c NC NS QB UA K L w):O_ m 24 #[Q_ K.kb,Q_ L.kb] w λe w'=>e=.returned (.bool true)/\Aa No w w':=by
 obtain⟨t,i,R,S,hI,_⟩:=h.al;have a1:=h.ok.co.fit.1;have a2:=h.ok.co.le;have a:=h.ol.co.fit.1;have b:=h.ol.co.le;have d:=h.ok.sw.fit.1;have f:=h.ok.sw.le;have g:=h.ok.Ei.nl;exact pV m w K L h.ka h.kb h.ok h.ol hI wB wB wB wB (FTw h.ka) (FTn h.ok)
theorem Two.core (h:Two true NC NS QB UA K L w):O_ m 28 #[Q_ K.kb,Q_ L.kb] w λe w'=>e=.returned (.bool true)/\Aa No w w':=by
 obtain⟨t,c,R,S,hI,_⟩:=h.al;have a1:=h.ok.co.fit.1;have a2:=h.ok.co.le;have a:=h.ok.sw.fit.1;have b:=h.ok.sw.le;exact wY m w K L h.ka h.kb h.ok h.ol hI wB wB
end
end Go.Fxa
