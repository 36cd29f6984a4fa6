/- Piped, beside leavers, from it -/
import Derived.Test.YtmhplpfpcnjekaaGreatA37
import Derived.ProofKit
import Derived.ChangeStays
open Go.Proofs.Tryz
namespace Go.Fxa
open Go.Conc Go.Proofs Go.RowKit
set_option maxRecDepth 1000000
set_option maxHeartbeats 0
section
variable (dv sv kp av nv:n_) (cs:Z_) (f:Y_)
def lpZ (P:l_:=prog):Frame×Z_:=run P 19 (Frame.mk 8 (TN 268 (AL f [(0,dv),(4,sv),(12,nv),(13,av),(14,kp)])) [.code (gX P 10)] [] .run .normal none,cs)
theorem bh8:Ar prog 19 (Frame.mk 8 (TN 268 (AL f [(0,dv),(4,sv),(12,nv),(13,av),(14,kp)])) [.code (gX prog 10)] [] .run .normal none,cs)=some []:=by kernel_rfl
theorem bh7:CU (lpZ dv sv kp av nv cs f)=(8,.code (gL prog)::[.inLoop (gL prog),.inBlock 0,.code (gX prog 14)],[],.run,.normal,none,cs):=by kernel_rfl
theorem bh6:slotsOf (lpZ dv sv kp av nv cs f) [0,4,12,13,14,18,19,20,21]=[dv,sv,nv,av,kp,.slice none 0 0,b_ (0:Nat),b_ (0:Nat),b_ (0:Nat)]:=by kernel_rfl
theorem bh5:(lpZ dv sv kp av nv cs f).1.tmps.size=268:=by kernel_rfl
end
section
variable (m:Nat) (w:o_) (f:Y_)
theorem bp7 (dv tv ov iv sv:n_):(gq prog 0).wpIn NF m prog (Ends λtm w'=>(∃g,tm=TN 268 (AL g [(0,dv),(1,tv),(2,ov),(3,iv),(4,sv)]))/\Keep No w w') ⟨TN 268 (AL f [(0,dv),(1,tv),(2,ov),(3,iv),(4,sv)]),[]⟩ w:=by
 unfold gq;rw[body8];dsimp only[Tryz.f8,Option.getD,behind,piece];show Code.wpIn (Fence.list LF none) m prog _ _ ⟨sg f (dv) (tv) (ov) (iv) (sv) (f 11) (f 12) (f 13) (f 14) (f 15) (f 16) (f 17) (f 18) (f 19) (f 20) (f 21) (f 22),[]⟩ _;unfold sg;gi_wp2;exact⟨rfl,rfl,⟨_,C9 rfl (by simp)⟩,p_ _ _⟩
end
section
variable {Od:Old} {v0:o_} {cs:Z_} {R:Frame×Z_->o_->Prop} {dv:n_} {s:d_ f_} {b o t n q N M c b1 b2 p e1 e2:Nat} {fd:Nat->Int}
theorem U7 (hN:N<1000000000000000000) (hs:0<N->s=some (T_ b o)) (BI:∀i,i<N->∃kd pid,NQ v0 b o i kd pid) (hD:TZ v0 dv M fd) (hn:n<=32) (hq:q<=16)
  (hk:∀v' g todo,Keep No v0 v'->Goes Od prog (Frame.mk 8 (TN 268 (AL g [(10,.bool true)])) todo [] .returning .normal none,cs) v' R) {i rd en:Nat} {f:Nat->n_} {K:KS} {rv:n_} {v:o_} (hI:RI v0 t n q N (Ej M fd) b1 b2 p e1 e2 i K rv rd en v)
  (next:i<N+1200->∀f K rv rd en v,RI v0 t n q N (Ej M fd) b1 b2 p e1 e2 (i+1) K rv rd en v->Goes Od prog (xk dv (b_ (i+1:Nat)) (.slice s N c) (ptr K.kb) (b_ (q:Nat)) rv (b_ (n:Nat)) (b_ (rd:Nat)) (b_ (en:Nat)) cs f) v R):
  Goes Od prog (xk dv (b_ (i:Nat)) (.slice s N c) (ptr K.kb) (b_ (q:Nat)) rv (b_ (n:Nat)) (b_ (rd:Nat)) (b_ (en:Nat)) cs f) v R:=by
 obtain⟨u,a,l,fl,T,hS,V,rfl,S,P,D,C⟩:=hI;refine Goes.Ar (bh4 _ _ _ _ _ _ _ _ _ _ _) ?_;rw[show run prog 2 (xk dv (b_ (i:Nat)) (.slice s N c) (ptr K.kb) (b_ (q:Nat)) rv (b_ (n:Nat)) (b_ (rd:Nat)) (b_ (EN u a:Nat)) cs f)=lqB dv (b_ (i:Nat)) (.slice s N c) (ptr K.kb) (b_ (q:Nat)) rv (b_ (n:Nat)) (b_ (rd:Nat)) (b_ (EN u a:Nat)) cs f from rfl,at_toldM (l:=[(0,dv),(4,.slice s N c),(12,b_ (n:Nat)),(13,b_ (q:Nat)),(14,ptr K.kb),(18,rv),(19,b_ (rd:Nat)),(20,b_ (EN u a:Nat)),(21,b_ (i:Nat))]) (bh3 _ _ _ _ _ _ _ _ _ _ _) (bh2 _ _ _ _ _ _ _ _ _ _ _) (bh0 _ _ _ _ _ _ _ _ _ _ _)];refine Goes.part (m:=0) Yo rfl ai1 (λv1 _=>bd6 0 v1 _ _ _ _ _ _ _ s N c i (EN u a) hN) λv1 F v2 k ⟨⟨B,e⟩,K2⟩=>?_
 subst e;have k2:=k.then K2;have w:=hS.no k2;by_cases y:i<N+1200/\EN u a<2
 .rw[decide_eq_true y];refine Goes.Ar (x:=lqC dv (b_ (i:Nat)) (.slice s N c) (ptr K.kb) (b_ (q:Nat)) rv (b_ (n:Nat)) (b_ (rd:Nat)) (b_ (EN u a:Nat)) cs B true) (bg9 _ _ _ _ _ _ _ _ _ _ _) ?_;rw[show run prog 4 (lqC dv (b_ (i:Nat)) (.slice s N c) (ptr K.kb) (b_ (q:Nat)) rv (b_ (n:Nat)) (b_ (rd:Nat)) (b_ (EN u a:Nat)) cs B true)=lqD dv (b_ (i:Nat)) (.slice s N c) (ptr K.kb) (b_ (q:Nat)) rv (b_ (n:Nat)) (b_ (rd:Nat)) (b_ (EN u a:Nat)) cs B from rfl,at_toldM (l:=[(0,dv),(4,.slice s N c),(12,b_ (n:Nat)),(13,b_ (q:Nat)),(14,ptr K.kb),(18,rv),(19,b_ (rd:Nat)),(20,b_ (EN u a:Nat)),(21,b_ (i:Nat))]) (bg8 _ _ _ _ _ _ _ _ _ _ _) (bg7 _ _ _ _ _ _ _ _ _ _ _) (bg6 _ _ _ _ _ _ _ _ _ _ _),aw4];refine Goes.seq (Goes.part (m:=0) Yo rfl ah9 (λv1 _=>bd4 0 v1 _ _ _ _ _ _ _ _ _ i (by omega)) λv3 F v4 G ⟨⟨g4,e⟩,H⟩=>?_);subst e;have d:=w.no (G.then H);have next:=next y.1
  have fin:∀(g:Y_) (k:KS) (pid:Nat) (E:o_),pid=1\/pid=2->(N<=i->pid=1+i % 2)->PI t n q (Ej M fd) b1 b2 p e1 e2 u a (l.drop rd) k->LS v0 k rv l E->k.kb=K.kb->Goes Od prog (Frame.mk 8 (TN 268 (AL g [(0,dv),(4,.slice s N c),(12,b_ (n:Nat)),(13,b_ (q:Nat)),(14,ptr K.kb),(18,rv),(19,b_ (rd:Nat)),(20,b_ (EN u a:Nat)),(21,b_ (i:Nat)),(22,b_ (pid:Nat))])) (.code (Ϩ prog)::.inBlock 1::.code (g18 prog)::[.inLoop (gL prog),.inBlock 0,.code (gX prog 14)]) [] .run .normal none,cs) E R:=λg k pid E HY U z j Q=>by
   rw[<-Q]
   refine Goes.Ar (x:=lrA dv (b_ (i:Nat)) (.slice s N c) (ptr k.kb) (b_ (q:Nat)) rv (b_ (n:Nat)) (b_ (rd:Nat)) (b_ (EN u a:Nat)) cs g pid) (bg1 _ _ _ _ _ _ _ _ _ _ _ _) ?_
   rw[bg0]
   refine Qx (NC:=16) (NS:=40) j.ka j.ok (λb r hm y _ hs=>z.serves hm y hs) λtold e v' Z BA L=>?_
   refine Goes.Ar (bf9 _ _ _ _ _ _ _ _ _ _ _ _ _ _) ?_
   rw[show run prog 6 ((lrB dv (b_ (i:Nat)) (.slice s N c) (ptr k.kb) (b_ (q:Nat)) rv (b_ (n:Nat)) (b_ (rd:Nat)) (b_ (EN u a:Nat)) cs g pid).finish (.tuple #[told,b_ e]),cs)=lrC dv (b_ (i:Nat)) (.slice s N c) (ptr k.kb) told (b_ e) (b_ (q:Nat)) rv (b_ (n:Nat)) (b_ (rd:Nat)) (b_ (EN u a:Nat)) cs g pid from rfl,at_toldM (l:=[(0,dv),(4,.slice s N c),(12,b_ (n:Nat)),(13,b_ (q:Nat)),(14,ptr k.kb),(18,rv),(19,b_ (rd:Nat)),(20,b_ (EN u a:Nat)),(21,b_ (i:Nat)),(22,b_ (pid:Nat)),(16,told),(17,b_ e)]) (bf8 _ _ _ _ _ _ _ _ _ _ _ _ _ _) (bf7 _ _ _ _ _ _ _ _ _ _ _ _ _ _) (bf6 _ _ _ _ _ _ _ _ _ _ _ _ _ _)]
   refine nR L ?_ hD (by omega) j V S P D C U y.2 hn hq next
   obtain rfl|rfl:=HY
   .exact z.au4 j.ok L.x
   .exact z.au3 j.ok L.x
  by_cases hi:i<N
  .obtain rfl:=hs (by omega);obtain⟨kd,pid,O⟩:=BI i hi;have l2:=Ie pid (n:=2) (by decide);refine Goes.seq (Goes.part (m:=0) Yo rfl sN (λv1 A=>bd3 0 v1 _ _ _ _ _ _ _ _ b o N c i _ _ kd pid K (d.ka.no A) d.ok hi (O.no (d.k0.then A)) rfl rfl) λE F v6 A ⟨I,Z,e,X,Y,hM,M1⟩=>?_);subst e;exact fin I Z _ v6 (by omega) (λh=>absurd h (by omega)) (T.moved hM) ((d.no A).TL X Y M1) hM.kb
  .refine Goes.seq (Goes.part (m:=0) Yo rfl sN (λv1 _=>au7 0 v1 _ _ _ _ _ _ _ _ _ s N c i (by omega)) λE F v6 A ⟨⟨I,e⟩,K6⟩=>?_);subst e;exact fin I K _ v6 (by omega) (λ_=>rfl) T (d.no (A.then K6)) rfl
 .rw[decide_eq_false y];have hEN:EN u a<=2:=by unfold EN;split<;>split<;>omega
  have J:¬EN u a<2:=λh=>by
   have:¬i<N+1200:=λh'=>y ⟨h',h⟩
   have:=C (by omega)
   omega
  have W:u=0/\a=0:=by
   unfold EN at J
   split at J<;>split at J<;>first|omega|exact⟨by assumption,by assumption⟩
  obtain⟨rfl,rfl⟩:=W;have hd:=(T.fin (by omega)).2;have hr:rd=l.length:=by
   have:=congrArg List.length hd
   rw[List.length_drop]at this
   simp at this
   omega
  subst hr;refine Goes.Ar (x:=lqC dv (b_ (i:Nat)) (.slice s N c) (ptr K.kb) (b_ (q:Nat)) rv (b_ (n:Nat)) (b_ (l.length:Nat)) (b_ (EN 0 0:Nat)) cs B false) (bg5 _ _ _ _ _ _ _ _ _ _ _) ?_;rw[show run prog 2 (lqC dv (b_ (i:Nat)) (.slice s N c) (ptr K.kb) (b_ (q:Nat)) rv (b_ (n:Nat)) (b_ (l.length:Nat)) (b_ (EN 0 0:Nat)) cs B false)=lqE dv (b_ (i:Nat)) (.slice s N c) (ptr K.kb) (b_ (q:Nat)) rv (b_ (n:Nat)) (b_ (l.length:Nat)) (b_ (EN 0 0:Nat)) cs B from rfl,at_toldM (l:=[(0,dv),(4,.slice s N c),(12,b_ (n:Nat)),(13,b_ (q:Nat)),(14,ptr K.kb),(18,rv),(19,b_ (l.length:Nat)),(20,b_ (EN 0 0:Nat)),(21,b_ (i:Nat))]) (bg4 _ _ _ _ _ _ _ _ _ _ _) (bg3 _ _ _ _ _ _ _ _ _ _ _) (bg2 _ _ _ _ _ _ _ _ _ _ _)];obtain⟨ra,rc,rfl⟩:=w.sl;refine Goes.aa2 (m:=0) Yo rfl ϓ (λv1 _=>au6 0 v1 _ _ _ _ _ _ _ ra l.length rc) λv3 F todo v4 G ⟨⟨g4,e⟩,H⟩=>?_
  subst e;exact hk v4 g4 todo (w.k0.then (G.then H))
theorem nT (hN:N<1000000000000000000) (hs:0<N->s=some (T_ b o)) (BI:∀i,i<N->∃kd pid,NQ v0 b o i kd pid) (hD:TZ v0 dv M fd) (hn:n<=32) (hq:q<=16)
  (hk:∀v' g todo,Keep No v0 v'->Goes Od prog (Frame.mk 8 (TN 268 (AL g [(10,.bool true)])) todo [] .returning .normal none,cs) v' R) (d:Nat):
  ∀(i:Nat) (f:Y_) (K:KS) (rv:n_) (rd en:Nat) (v:o_),N+1200-i=d->RI v0 t n q N (Ej M fd) b1 b2 p e1 e2 i K rv rd en v->Goes Od prog (xk dv (b_ (i:Nat)) (.slice s N c) (ptr K.kb) (b_ (q:Nat)) rv (b_ (n:Nat)) (b_ (rd:Nat)) (b_ (en:Nat)) cs f) v R:=by
 induction d with
 |zero=>exact λi f K rv rd en v j a=>U7 hN hs BI hD hn hq hk a λh=>absurd h (by omega)
 |succ d k=>exact λi f K rv rd en v j a=>U7 hN hs BI hD hn hq hk a λ_ f K rv rd en v e=>k (i+1) f K rv rd en v (by omega) e
theorem nU {Vt out QK:Int} (hD:TZ v0 dv M fd) (hN:N<1000000000000000000) (hs:0<N->s=some (T_ b o)) (BI:∀i,i<N->∃kd pid,NQ v0 b o i kd pid) (ht:-9223372036854775808<=Vt/\Vt<=9223372036854775807) (ho:-9223372036854775808<=out/\out<=9223372036854775807) (hi:-9223372036854775808<=QK/\QK<=9223372036854775807)
  (hk:∀v' g todo,Keep No v0 v'->Goes Od prog (Frame.mk 8 (TN 268 (AL g [(10,.bool true)])) todo [] .returning .normal none,cs) v' R):
  Goes Od prog (Frame.enter prog 8 #[dv,b_ Vt,b_ out,b_ QK,.slice s N c] .normal,cs) v0 R:=by
 have l4:=Ie Vt (n:=4) (by decide);have l32:=Ie out (n:=32) (by decide);have l16:=Ie QK (n:=16) (by decide);refine Goes.Ar (bi9 _ _ _ _ _ _) ?_;rw[show run prog 1 (Frame.enter prog 8 #[dv,b_ Vt,b_ out,b_ QK,.slice s N c] .normal,cs)=hxA dv (b_ Vt) (b_ out) (b_ QK) (.slice s N c) cs from rfl,at_toldM (l:=[(0,dv),(1,b_ Vt),(2,b_ out),(3,b_ QK),(4,.slice s N c)]) (bi8 _ _ _ _ _ _) (bi7 _ _ _ _ _ _) (bi6 _ _ _ _ _ _)];refine Goes.part (m:=0) Yo rfl ah7 (λv1 _=>bp7 0 v1 _ _ _ _ _ _) λv1 v v2 Y ⟨⟨I,e⟩,Z⟩=>?_
 subst e;have k2:=Y.then Z;refine Goes.Ar (x:=hxB dv (b_ Vt) (b_ out) (b_ QK) (.slice s N c) cs I) (bi5 _ _ _ _ _ _ _) ?_;rw[bi4];refine pY λv3 K3=>?_
 have k3:=k2.then K3;refine Goes.Ar (bi3 _ _ _ _ _ _ _) ?_;rw[show run prog 2 ((hxC dv (b_ Vt) (b_ out) (b_ QK) (.slice s N c) cs I).finish (.bool true),cs)=hxD dv (b_ Vt) (b_ out) (b_ QK) (.slice s N c) cs I from rfl,at_toldM (l:=[(0,dv),(1,b_ Vt),(2,b_ out),(3,b_ QK),(4,.slice s N c),(11,.bool true)]) (bi2 _ _ _ _ _ _ _) (bi1 _ _ _ _ _ _ _) (bi0 _ _ _ _ _ _ _),Ue 2 (by omega)];refine Goes.seq (Goes.part (m:=0) Yo rfl ah6 (λv1 _=>bp6 0 v1 _ _ _ _ _ out _ ho.1 ho.2 rfl) λv4 v v5 K4 ⟨⟨g5,e⟩,K5⟩=>?_);subst e;have k5:=k3.then (K4.then K5);rw[Ue 3 (by omega)];refine Goes.seq (Goes.part (m:=0) Yo rfl ah5 (λv1 _=>bp5 0 v1 _ _ _ _ _ QK _ hi.1 hi.2 rfl) λv6 v v7 K6 ⟨⟨g7,e⟩,K7⟩=>?_);subst e;have V:=k5.then (K6.then K7);rw[Ue 4 (by omega)];refine Goes.seq (Goes.part (m:=0) Yo rfl ah4 (λv1 H=>bp4 0 v1 _ _ _ M fd Vt _ _ _ ht.1 ht.2 rfl (by omega) (by omega) (hD.no (V.then H))) λv8 v v9 H ⟨g9,K,e,K9,bb,ib,fb,Ae,ka,ok,B,C,J,S,U,a⟩=>?_);subst e;have W:=V.then H;have k9:=W.then K9;rw[Ue 5 (by omega)];refine Goes.seq (Goes.part (m:=0) Yo rfl ah3 (λv1 _=>bp3 0 v1 _ _ _ _ _ _) λv10 v v11 K10 ⟨⟨f,e⟩,K11⟩=>?_);subst e;have D:=K10.then K11;have a:∀k,K.T k≠(0,0)->v0.heap.size<=k:=λk hk=>Nat.le_trans W.size (a k hk)
 refine Goes.Ar (x:=hpA dv (.slice s N c) (ptr K.kb) (b_ (1+Dt QK 16:Nat)) (b_ (1+Dt out 32:Nat)) cs f) (bk4 _ _ _ _ _ _ _) ?_;rw[bk3];refine Qx (NC:=16) (NS:=40) (ka.no D) ok (λb r O _ _ _=>oh (t:=1+Dt Vt 4) (n:=1+Dt out 32) (m:=1+Dt QK 16) (d:=Ej M fd) B C S U O) λtold e v' G X q=>?_
 obtain⟨rfl,rfl,p,e1,e2,z⟩:=ak8 (t:=1+Dt Vt 4) (n:=1+Dt out 32) (m:=1+Dt QK 16) (d:=Ej M fd) B C J S U (by omega) q.x;have y:=q.mv.low (k9.then D) a;refine Goes.Ar (bk0 _ _ _ _ _ _ _ _ _) ?_;rw[show run prog 6 ((hpB dv (.slice s N c) (ptr K.kb) (b_ (1+Dt QK 16:Nat)) (b_ (1+Dt out 32:Nat)) cs f).finish (.tuple #[told,b_ 0]),cs)=hpC dv (.slice s N c) (ptr K.kb) told (b_ 0) (b_ (1+Dt QK 16:Nat)) (b_ (1+Dt out 32:Nat)) cs f from rfl,at_toldM (l:=[(0,dv),(4,.slice s N c),(12,b_ (1+Dt out 32:Nat)),(13,b_ (1+Dt QK 16:Nat)),(14,ptr K.kb),(16,told),(17,b_ 0)]) (bj9 _ _ _ _ _ _ _ _ _) (bj8 _ _ _ _ _ _ _ _ _) (bj7 _ _ _ _ _ _ _ _ _),Ue 7 (by omega),<-q.kb];refine Goes.seq (Goes.part (m:=0) Yo rfl ah2 (λv1 K12=>bp2 0 v1 _ _ _ _ _ _ _ _ _ (q.told.keep K12 (λ_ _ h=>h))) λv12 v v13 K12 ⟨⟨j,e⟩,K13⟩=>?_);subst e;have E:=K12.then K13;refine Goes.Ar (x:=hqA dv (.slice s N c) (ptr G.kb) (b_ (1+Dt QK 16:Nat)) (b_ (1+Dt out 32:Nat)) cs j) (bj6 _ _ _ _ _ _ _) ?_;rw[bj5];refine Qx (NC:=16) (NS:=40) (q.ka.no E) q.ok (λb r O _ _ _=>z.serves O) λQ e v2' K2' X u=>?_
 obtain⟨rfl,rfl,b2,L⟩:=ak7 z (by omega) u.x;have w:=u.mv.low (y.1.then E) y.2;refine Goes.Ar (bj4 _ _ _ _ _ _ _ _ _) ?_;rw[show run prog 6 ((hqB dv (.slice s N c) (ptr G.kb) (b_ (1+Dt QK 16:Nat)) (b_ (1+Dt out 32:Nat)) cs j).finish (.tuple #[Q,b_ 0]),cs)=hqC dv (.slice s N c) (ptr G.kb) Q (b_ 0) (b_ (1+Dt QK 16:Nat)) (b_ (1+Dt out 32:Nat)) cs j from rfl,at_toldM (l:=[(0,dv),(4,.slice s N c),(12,b_ (1+Dt out 32:Nat)),(13,b_ (1+Dt QK 16:Nat)),(14,ptr G.kb),(16,Q),(17,b_ 0)]) (bj3 _ _ _ _ _ _ _ _ _) (bj2 _ _ _ _ _ _ _ _ _) (bj1 _ _ _ _ _ _ _ _ _),Ue 9 (by omega),<-u.kb];refine Goes.seq (Goes.part (m:=0) Yo rfl ah1 (λv1 K14=>bp1 0 v1 _ _ _ _ _ _ _ _ _ (u.told.keep K14 (λ_ _ h=>h))) λv14 v P K14 ⟨⟨A,e⟩,K15⟩=>?_);subst e;have F:=K14.then K15;refine Goes.Ar (bh8 _ _ _ _ _ _ _) ?_;rw[show run prog 19 (Frame.mk 8 (TN 268 (AL A [(0,dv),(4,.slice s N c),(12,b_ (1+Dt out 32:Nat)),(13,b_ (1+Dt QK 16:Nat)),(14,ptr K2'.kb)])) [.code (gX prog 10)] [] .run .normal none,cs)=lpZ dv (.slice s N c) (ptr K2'.kb) (b_ (1+Dt QK 16:Nat)) (b_ (1+Dt out 32:Nat)) cs A from rfl,at_toldM (l:=[(0,dv),(4,.slice s N c),(12,b_ (1+Dt out 32:Nat)),(13,b_ (1+Dt QK 16:Nat)),(14,ptr K2'.kb),(18,.slice none 0 0),(19,b_ (0:Nat)),(20,b_ (0:Nat)),(21,b_ (0:Nat))]) (bh7 _ _ _ _ _ _ _) (bh6 _ _ _ _ _ _ _) (bh5 _ _ _ _ _ _ _)];have cb4:mu (2*(1+Dt Vt 4)+3) 8 []<=579:=by unfold mu;simp;omega
 refine nT (t:=1+Dt Vt 4) (b1:=bb) (b2:=b2) (p:=p) (e1:=e1) (e2:=e2) hN hs BI hD (by omega) (by omega) hk (N+1200) 0 _ K2' _ 0 0 P (by omega) ⟨2*(1+Dt Vt 4)+3,8,[],0,L,⟨u.ka.no F,u.ok,⟨World.ownsRow_nil _ _ _ _,λg h=>by cases h⟩,w.1.then F,w.2⟩,by simp,rfl,?_,by omega,λh=>absurd h (by omega),λ_=>?_⟩
 .show 0+32*mu _ 8 []<=18528;omega
 .show 2*mu _ 8 []+_<=_;omega
end
end Go.Fxa
namespace Go.Fxa
open Go.Conc Go.Proofs Go.RowKit Go.ChangeShapes
def xO:Obj->Bool
 |.view ..=>true
 |o=>!o.plain
def Odd (W:o_) (r:Nat):Prop:=∃o,W.heap[r]?=some o/\xO o=true
abbrev yC (W:o_):Old:=⟨Odd W,λr=>(W.heap[r]?).getD Dw⟩
section
def Gm (W:o_):o_:={ W with heap:=W.heap.map λo=>if xO o then Dw else o }
theorem KP (W:o_):(Gm W).heap.size=W.heap.size:=by simp[Gm]
theorem U4 {W:o_} {r:Nat} (h:Odd W r):(Gm W).heap[r]?=some Dw:=by
 obtain⟨o,a,b⟩:=h;simp[Gm,a,b]
theorem KQ {W:o_} {r:Nat} (h:¬Odd W r):(Gm W).heap[r]?=W.heap[r]?:=by
 cases e:W.heap[r]? with
 |none=>simp[Gm,e]
 |some o=>
  have a:xO o=false:=by
   cases h3:xO o with
   |false=>rfl
   |true=>exact(h ⟨o,e,h3⟩).elim
  simp[Gm,e,a]
theorem mZ (W:o_):Twin (yC W) (λ_=>False) (Gm W) W:=by
 refine⟨KP W,λr _ a=>KQ a,λ_ h=>h.elim,λr o a=>?_,rfl,rfl,λr a=>U4 a,λr a=>?_,λ_ _ h=>h⟩
 .by_cases h:Odd W r
  .rw[U4 h]at a;cases a
   rfl
  .rw[KQ h]at a;cases e:o.plain with
   |true=>rfl
   |false=>exact(h ⟨o,a,by cases o<;>first|rfl|simp[xO,e]⟩).elim
 .obtain⟨o,b,_⟩:=a;show W.heap[r]?=some ((W.heap[r]?).getD Dw);rw[b]
  rfl
theorem Ro {W:o_} {a:f_} {x:n_} (h:W.cell? a=some x):(Gm W).cell? a=some x:=by
 have ne:¬Odd W a.block:=by
  rintro⟨o,b,d⟩
  unfold World.cell? at h
  rw[b]at h
  cases o with
  |cells c t f=>cases d
  |_=>cases h
 unfold World.cell? at h ⊢;rw[KQ ne];exact h
theorem ξ {W v' w':o_} {Z:Nat->Prop} (T:Twin (yC W) Z v' w') (K:Keep No (Gm W) v'):∀r,r<W.heap.size->w'.heap[r]?=W.heap[r]?:=λr a=>by
 by_cases h:Odd W r
 .have e:=T.kept r h;obtain⟨o,b,_⟩:=h;rw[e];show some ((W.heap[r]?).getD Dw)=W.heap[r]?;rw[b]
  rfl
 .have e1:v'.heap[r]?=W.heap[r]?:=(K.block r (by rw[KP];exact a) id).trans (KQ h);have d:¬Z r:=λc=>by
   have e2:=T.dead r c (Nat.lt_of_lt_of_le a (by have:=K.size;rw[KP]at this;exact this))
   exact h ⟨Dw,e1.symm.trans e2,rfl⟩
  exact(T.same r d h).symm.trans e1
end
def Stood (W:o_) (x:n_) (w':o_):Prop:=x=.bool true/\(∀r,r<W.heap.size->w'.heap[r]?=W.heap[r]?)/\W.heap.size<=w'.heap.size/\w'.os=W.os/\w'.output=W.output
theorem nS (W:o_) {dv:n_} {M:Nat} {fd:Nat->Int} {Vt out QK:Int} {s:d_ f_} {N c b o:Nat} (hD:TZ W dv M fd) (hN:N<1000000000000000000) (hs:0<N->s=some (T_ b o)) (BI:∀i,i<N->∃kd pid,NQ W b o i kd pid) (ht:-9223372036854775808<=Vt/\Vt<=9223372036854775807) (ho:-9223372036854775808<=out/\out<=9223372036854775807) (hi:-9223372036854775808<=QK/\QK<=9223372036854775807):
  ∃N1 last x w' t',runNT prog (N1+1) (solo (G (Frame.enter prog 8 #[dv,b_ Vt,b_ out,b_ QK,.slice s N c] .normal) []) W) #[]=(.ended x w',t')/\
   runN prog N1 (solo (G (Frame.enter prog 8 #[dv,b_ Vt,b_ out,b_ QK,.slice s N c] .normal) []) W)=.next last/\step prog last=.ended x w'/\Conc.Good prog (Stood W) last x w' t':=by
 have l:TZ (Gm W) dv M fd:=let ⟨s,c,e,h2⟩:=hD;⟨s,c,e,λH=>let ⟨b,o,e',h3⟩:=h2 H;⟨b,o,e',λi hi=>⟨Ro (h3 i hi).1,(h3 i hi).2⟩⟩⟩
 have j:∀i,i<N->∃kd pid,NQ (Gm W) b o i kd pid:=λi hi=>let ⟨kd,pid,h1,h2,h3,h4⟩:=BI i hi;⟨kd,pid,h1,h2,Ro h3,Ro h4⟩
 have z:=nU (Od:=yC W) (v0:=Gm W) (cs:=[]) (c:=c) (R:=λy m=>(∃g f,y=(Frame.mk 8 (TN 268 (AL g [(10,.bool true)])) f [] .returning .normal none,[]))/\Keep No (Gm W) m) l hN hs j ht ho hi (λm g f K=>.now ⟨⟨g,f,rfl⟩,K⟩);obtain⟨N1,w,w',u,t',t,S,v,p,y,m,X,⟨q,T,V,E,F,U⟩,C,⟨g,f,rfl⟩,K⟩:=z (λ_=>False) (λ_=>False) W.heap.size #[BD (Frame.enter prog 8 #[dv,b_ Vt,b_ out,b_ QK,.slice s N c] .normal,[])] W none #[] ⟨λ_ h=>h.elim,λ_ h=>h.elim⟩
  ⟨λ_=>0,mZ W,λ_ h=>h.elim,leavers_one _ _,past_nil.mono (Nat.zero_le _),w_ _⟩ rfl;have k:∀d,Stood W (.bool true) (w'.at d):=λd=>⟨rfl,(show ∀r,r<W.heap.size->w'.heap[r]?=W.heap[r]? from ξ T K),by
  have a:=K.size
  rw[KP,T.size]at a
  exact a,T.os.symm.trans K.os,T.output.symm.trans K.output⟩
 obtain⟨A,last,x,w2,Q,I,J,L,O⟩:=beside_ends (P:=prog) (Shun:=v) (B:=p) (D:=λ_ _ _=>False) (Post:=Stood W) (λ_ _ _ h=>h.elim) (sl:=u) (n:=0) C E F (show ∀w1,AtRel w' w1->Conc.AtEnd prog v p (Stood W) _ w1 from λw1 ⟨d,e⟩=>by
  subst e
  exact⟨rfl,_,_,vU g f _,by simp,k d⟩);refine⟨N1+A,last,x,w2,Q,?_,?_,L,O⟩
 .rw[solo_eq_crowd,Nat.add_assoc,runNT_add];erw [t];exact I
 .rw[solo_eq_crowd,runN_add];have e:runN prog N1 (crowd #[BD (Frame.enter prog 8 #[dv,b_ Vt,b_ out,b_ QK,.slice s N c] .normal,[])] W none)=.next (crowd w w' u):=by rw[<-runNT_fst _ _ _ #[],t]
  erw [e];exact J
theorem cells3:prog.cellsOf 3=1:=by kernel_rfl
theorem cells38:prog.cellsOf 38=3:=by kernel_rfl
theorem aj6:prog.bytesOf 38=24:=by kernel_rfl
section
variable {H:Type} {enc:j_×n_->H} {W:o_} {sp:Nat->Bool}
theorem vz {fuel:Nat} {v:n_} {x:DataW H×List MemPlace} (h:DataW.trod enc prog W 0 sp true fuel 22 [v]=some x):∃n fn,TZ W v n fn:=by
 obtain⟨c,_⟩|⟨a,len,cap,b,c,_,o,_,q,_,g,d⟩:=open_ints underlying22 underlying3 cells3 h
 .cases c;exact⟨0,λ_=>0,none,0,rfl,λh=>absurd h (by omega)⟩
 .cases c;have u:len<=b.length:=by rw[q];split<;>omega
  refine⟨len,λi=>b.getD i 0,some a,cap,rfl,λw=>?_⟩;have m:=g 0 (by omega);have e:a.spot=none:=by simpa [Addr.add]using World.cell?_spot m
  obtain⟨j,k,l⟩:=a;simp only at e;subst e;refine⟨j,k,rfl,λi t=>⟨by have:=g i (by omega);rw[Addr.add_lit]at this;exact this,?_⟩⟩;have p:b.getD i 0∈b:=by rw[List.getD_eq_getElem?_getD,Lh (by omega)];exact List.getElem_mem _
  have f:=d _ p;have wr:(IntKind.i64).min<=b.getD i 0/\b.getD i 0<=(IntKind.i64).max:=by simpa only[Lit.wf,Bool.and_eq_true,decide_eq_true_eq]using f
  have r:(IntKind.i64).min=-9223372036854775808:=by decide
  have s:(IntKind.i64).max=9223372036854775807:=by decide
  rw[r,s]at wr;exact wr
theorem open_int {fuel:Nat} {v:n_} {x:DataW H×List MemPlace} (h:DataW.trod enc prog W 0 sp true fuel 3 [v]=some x):∃z,v=b_ z/\-9223372036854775808<=z/\z<=9223372036854775807:=by
 obtain⟨z,e,_,a⟩:=DataW.trod_int underlying3 h;cases e;have wr:(IntKind.i64).min<=z/\z<=(IntKind.i64).max:=by simpa [Lit.wf]using a
 have b:(IntKind.i64).min=-9223372036854775808:=by decide
 have c:(IntKind.i64).max=9223372036854775807:=by decide
 rw[b,c]at wr;exact⟨z,rfl,wr⟩
theorem nZ {fuel:Nat} {v:n_} {x:DataW H×List MemPlace} (h:DataW.trod enc prog W 0 sp true fuel 31 [v]=some x):
  ∃t k d b o,v=.slice t k d/\(k=0\/∃el sp,x.1=.slice el sp/\el.length=k)/\(0<k->t=some (T_ b o))/\∀i,i<k->∃kd pid,NQ W b o i kd pid:=by
 obtain⟨C,_⟩|⟨a,len,cap,B,L,n,_,C,O,_,_,_,r,l,_⟩:=DataW.trod_slice underlying31 h
 .cases C;exact⟨none,0,0,0,0,rfl,.inl rfl,λh=>absurd h (by omega),λi p=>absurd p (by omega)⟩
 .cases C;rw[cells38]at l;have c:∀i,i<len->∃g y,W.cells? 0 (a.add (i*3)) 3=some g/\DataW.trod enc prog W 0 sp true n 38 g=some y:=λi p=>by
   have e:=l i p
   rw[Lh (by omega)]at e
   obtain⟨g,j,u⟩:=Option.bind_eq_some_iff.1 e
   exact⟨g,_,j,u⟩
  have f:0<len->a.spot=none:=λG=>by
   obtain⟨g,y,j,u⟩:=c 0 G
   obtain⟨_,w,D⟩:=World.cells?_some j
   have s:=D 0 (by omega)
   rw[Lh (by omega)]at s
   have e1:=World.cell?_spot s
   simpa [Addr.add]using e1
  refine⟨some a,len,cap,a.block,a.off,rfl,.inr ⟨_,_,by rw[O],by rw[List.length_map];exact r⟩,λG=>?_,λi p=>?_⟩
  .have e:=f G;obtain⟨J,K,z⟩:=a;simp only at e;rw[e]
  .obtain⟨g,y,j,u⟩:=c i p;obtain⟨_,w,D⟩:=World.cells?_some j;have e:=f (by omega);obtain⟨J,K,z⟩:=a;simp only at e;subst e
   match g,w with
   |[M,N,c2],_=>
    obtain⟨xs,m,rfl,rfl,_,w,E⟩:=DataW.trod_struct underlying38 u
    have F:xs.length=3:=w
    match xs,F with
    |[V,X,Y],_=>
     have R:DataW.trod enc prog W 0 sp true m 3 [M]=some V:=by simpa [cells3]using E 0 _ rfl
     have S:DataW.trod enc prog W 0 sp true m 3 [N]=some X:=by simpa [cells3]using E 1 _ rfl
     have T:DataW.trod enc prog W 0 sp true m 3 [c2]=some Y:=by simpa [cells3]using E 2 _ rfl
     obtain⟨kd,s,_,I⟩:=DataW.trod_int underlying3 R
     obtain⟨pid,e1,_,A⟩:=DataW.trod_int underlying3 S
     obtain⟨Q,e2,_⟩:=DataW.trod_int underlying3 T
     cases s
     cases e1
     cases e2
     have wr:(IntKind.i64).min<=kd/\kd<=(IntKind.i64).max:=by simpa [Lit.wf]using I
     have U:(IntKind.i64).min<=pid/\pid<=(IntKind.i64).max:=by simpa [Lit.wf]using A
     have Z:(IntKind.i64).min=-9223372036854775808:=by decide
     have mx:(IntKind.i64).max=9223372036854775807:=by decide
     have go:∀q,q<3->W.cell? (T_ J (K+i*3+q))=([b_ kd,b_ pid,b_ Q]:U_)[q]?:=λq P=>by
      have:=D q P
      rw[Addr.add_lit,Addr.add_lit]at this
      exact this
     exact⟨kd,pid,by omega,by omega,go 0 (by omega),go 1 (by omega)⟩
end
end Go.Fxa
