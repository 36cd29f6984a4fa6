/- A process is admitted. -/
import Derived.Test.YtmhplpfpcnjekaaGreatA30
namespace Go.Fxa
open Conc Proofs RowKit Proofs.Tryz
set_option maxRecDepth 1000000
set_option maxHeartbeats 0
variable {K:KS} {w w':o_} {p n b base:Nat} {r:PR} {T:Tag} {v:n_}
def RV (T:Tag) (p gi gf:Nat):Tag:=Bg (Bg (Bg T p (6,p)) gi (7,p)) gf (8,p)
theorem AV.cj7 {gi gf ci cf:Nat} (h:AV K w) (x:Ac No w w') (F:w.heap.size<=p) (E:w.heap.size<=gi) (lf:w.heap.size<=gf) (u:p≠gi) (s:p≠gf) (q:gi≠gf) (y:w'.heap[p]?=some r.obj) (D:r.en=false) (A:r.bl=.nilFunc) (C:r.im=P_ gi r.Af.length ci) (B:r.fd=P_ gf r.fds.length cf) (o:Rw 123 1 w' gi r.Af.length ci (Az r.Af)) (m:Rw 3 1 w' gf r.fds.length cf (FM r.fds)):AV { K with ps:=C9 K.ps p r,T:=RV K.T p gi gf } w'/\BN K.T (RV K.T p gi gf) w w':=by
 have val:∀k,RV K.T p gi gf k=if k=gf then(8,p)else if k=gi then(7,p)else if k=p then(6,p)else K.T k:=λk=>rfl
 have i:=Dt y;have j:=o.lt;have l:=m.lt;have z:∀k,w.heap.size<=k->K.T k=(0,0):=h.lt;have M:Dh K.T (RV K.T p gi gf) (λt=>t=(6,p)\/t=(7,p)\/t=(8,p)\/t=(9,p)) (λt=>t=(6,p)\/t=(7,p)\/t=(8,p)\/t=(9,p)) w w':=by
  refine⟨x.no,λk d=>?_,λk g f=>?_,λk d=>?_,λk d=>?_⟩
  .rw[val,ru (by rintro rfl;exact d (z _ lf)),ru (by rintro rfl;exact d (z _ E)),ru (by rintro rfl;exact d (z _ F))]
  .rw[val]at f ⊢;split
   .exact .inr (.inr (.inl rfl))
   .split
    .exact .inr (.inl rfl)
    .split
     .exact .inl rfl
     .rename_i a b c;rw[ru a,ru b,ru c]at f;exact ql g f
  .rw[val,ru zD,ru zD,ru zD];exact z k (pV x.size d)
  .rw[val,ru zD,ru zD,ru zD]
 refine⟨h.jF M ⟨?_,y,λ_=>⟨gi,ci,C,o,?_⟩,λ_=>⟨gf,cf,B,m,?_⟩,by rw[A];exact .inl rfl,λe=>ql e (by simp[D])⟩,M.WB (by rintro t (rfl|rfl|rfl|rfl)<;>simp)⟩
 .rw[val,ru s,ru u,rC rfl]
 .rw[val,ru q,rC rfl]
 .rw[val,rC rfl]
theorem AV.bd5 (h:AV { K with ps:=C9 K.ps p r } w) (m:K.ps p=none):AV K w:=by
 obtain⟨⟨d,k1,k2⟩,f,g,pr,ps,c,j,i,l,k,lt,a⟩:=h;refine⟨⟨d,k1,k2.ps K.ps⟩,f,g,pr,λb q e=>ps b q ?_,c,j,i,l,k,lt,a⟩;show C9 K.ps p r b=some q;rw[BH (by rintro rfl;rw[m]at e;cases e)];exact e
theorem cc7 {g c y c2:Nat} {l:List Nat} {ty:j_} (B:Rw 119 1 w g n c (Bj l)) (E:n=l.length) (C:w.cell? (R_ y)=some (ptr b)) (D:n<=1000) (A:T g=(4,0)):∃g' z W,(Builtin.append_ #[100,100] ty #[P_ g n c,P_ y 1 c2]).run prog w=.ok (P_ g' (n+1) z) W/\Rw 119 1 W g' (n+1) z (Bj (l++[b]))/\(T g'=(4,0)\/w.heap.size<=g')/\Ac (On T λt=>t=(4,0)) w W:=by
 have s:∀j u,(Bj [b])[j]?=some u->w.cell? (((R_ y):f_).add j)=some u:=λj u a=>by
  match j,a with
  |0,a=>
   simp[Bj]at a;subst a
   have o:((R_ y):f_).add 0=(R_ y):=by unfold Addr.add;split<;>simp_all
   rw[o];exact C
 have q:∀u∈Bj [b],u.oneCell'=true:=λu h=>by simp[Bj]at h;subst h;rfl
 have p:Bj (l++[b])=Bj l++Bj [b]:=by simp[Bj]
 obtain⟨g',i,v,r,k,f⟩:=jP (ty:=ty) (sCap:=c2) (m:=1) bj3 B (ys:=Bj [b]) rfl s q zD zD;refine⟨g',i,v,r,by rw[p];exact k,?_,?_⟩
 .obtain⟨rfl,_⟩|⟨rfl,_⟩:=f
  .exact .inl A
  .exact .inr (w_ _)
 .obtain⟨rfl,d⟩|⟨rfl,d⟩:=f
  .exact d.on λx _ e=>by subst e;exact A
  .exact d.no
def zC (K:KS) (p:Nat) (r:PR) (w:o_) (e:Ending) (w':o_):Prop:=(e=.returned (.bool false)/\AV K w'/\BN K.T K.T w w'/\(Aq K.swap (Ai r.Af.length)).1=none)\/∃a g c T',e=.returned (.bool true)/\(Aq K.swap (Ai r.Af.length)).1=some a/\AV { K with swap:=(Aq K.swap (Ai r.Af.length)).2,BD:=K.BD+1,Aw:=K.Aw++[p],pg:=g,pc:=c,ps:=C9 K.ps p { r with pid:=K.BD+1,sw:=a,co:=-1 },T:=T' } w'/\BN K.T T' w w'
def bj9 (K:KS) (n:Nat) (w1:o_) (v:n_) (W:o_):Prop:=v=.tuple #[tA (Aq K.swap n).1,tB (Aq K.swap n).1]/\AV { K with swap:=(Aq K.swap n).2 } W/\BN K.T K.T w1 W
section
variable (m:Nat) (w:o_)
theorem bg9 (K:KS) (p NS:Nat) (r:PR) (h:AV K w) (hp:K.ps p=some r) (hL:r.Af.length<=128) (hF:Fit NS K.swap) (hNS:NS<=1000) (xM:K.BD<=100000) (hl:K.Aw.length<=100):
  O_ m 46 #[Q_ K.kb,Q_ p] w (zC K p r w):=by
 obtain⟨a8,c8,q8⟩:=h.im8 hp;have h0:AV K w.drew:=h.no (Ac.refl No w).drew;have bk:p≠K.kb:=λe=>by have:=(h.ps p r hp).t;rw[e,h.tk]at this;simp at this
 have bc:p≠K.sg:=λe=>by have:=(h.ps p r hp).t;rw[e,h.ts]at this;simp at this
 gi_enter func46,ntmps46;gi_wp2;refine Dl (P:=prog) _ rfl rfl sJ 10 49 [0,1,2,3,4] [5,6,7,8,9] sJ (by rfl)
  (Oa (ZA K.kb K.sg) w.drew 5 (bj9 K (Ai r.Af.length) w.drew) [(6,.tuple #[tA (Aq K.swap (Ai r.Af.length)).1,tB (Aq K.swap (Ai r.Af.length)).1]),(7,tA (Aq K.swap (Ai r.Af.length)).1),(8,tB (Aq K.swap (Ai r.Af.length)).1),(9,tA (Aq K.swap (Ai r.Af.length)).1)]) (F7 zF zF) _ _ rfl rfl ?_;gi_wp2_with (gi_at_call 58;refine(EZ _ w.drew p _ _ _ q8 zD).mono ?_;rintro e w1 ⟨rfl,rfl⟩);refine⟨rfl,sJ,Em,?_,?_,?_⟩
 .intro L' u W b;have d8:=(b.1.cell (w:=w.drew) (p:=(S_ p 8)) (h.plt hp) (by rintro(h|h)<;>contradiction)).trans q8
  repeat' (refine Au ?_ ?_)
  all_goals first|exact eu|gi_wp2_with (gi_at_call 58;refine(EZ _ W p _ _ _ d8 zD).mono ?_;rintro e w1 ⟨rfl,rfl⟩)
 .intro i hi L' u W b hLi U;obtain rfl|rfl|rfl|rfl|rfl:=(by simpa using hi:i=5\/i=6\/i=7\/i=8\/i=9)
  .obtain rfl:=b.2.1 hLi;refine BC rfl λKK Nc=>?_
   show wpListIn NF m prog _ _ _ (Act.put (Act.put (Act.put (Act.put (Act.put _ (some 13) (u 5)) (some 7) (u 6)) (some 14) (u 7)) (some 15) (u 8)) (some 5) (u 9)) _;gi_wp2_with fail;refine(af8 _ w.drew K (Ai r.Af.length) NS h0 hF zD (by unfold Ai;omega)).mono ?_;rintro e w1 ⟨rfl,d,M,K1⟩;rw[Uw];gi_wp2;exact⟨_,rfl,F8 b zF K1 ⟨rfl,d,M⟩⟩
  .have O:=(b.2.2.1 (U 5 zF wB)).1;exact jT rfl rfl rfl ⟨_,rfl,FP b wB O zF⟩
  .have z:=b.2.2.2 (6,.tuple #[tA (Aq K.swap (Ai r.Af.length)).1,tB (Aq K.swap (Ai r.Af.length)).1]) zF (U 6 zF wB);exact RX rfl rfl rfl z rfl ⟨_,rfl,Gi b wB zF⟩
  .have z:=b.2.2.2 (6,.tuple #[tA (Aq K.swap (Ai r.Af.length)).1,tB (Aq K.swap (Ai r.Af.length)).1]) zF (U 6 zF wB);exact RX rfl rfl rfl z rfl ⟨_,rfl,Gi b wB zF⟩
  .have E:=b.2.2.2 (7,tA (Aq K.swap (Ai r.Af.length)).1) zF (U 7 zF wB);exact jU rfl rfl rfl ⟨_,rfl,FP b wB E zF⟩
 .intro L' u W b f;obtain⟨O,d,M⟩:=b.2.2.1 (f 5 zF);have X:=b.2.2.2 (8,tB (Aq K.swap (Ai r.Af.length)).1) zF (f 8 zF);have Y:=b.2.2.2 (9,tA (Aq K.swap (Ai r.Af.length)).1) zF (f 9 zF);have z:=b.2.2.2 (6,.tuple #[tA (Aq K.swap (Ai r.Af.length)).1,tB (Aq K.swap (Ai r.Af.length)).1]) zF (f 6 zF);have E:=b.2.2.2 (7,tA (Aq K.swap (Ai r.Af.length)).1) zF (f 7 zF);simp only at z E X Y;show wpListIn NF m prog _ _ _ (Act.put (Act.put (Act.put (Act.put (Act.put _ (some 13) (u 5)) (some 7) (u 6)) (some 14) (u 7)) (some 15) (u 8)) (some 5) (u 9)) _;rw[O,z,E,X,Y];have MW:BN K.T K.T w W:=(BN.no (Ac.refl No w).drew h.lt).trans M;have j:(Aq K.swap (Ai r.Af.length)).1=none->(Aq K.swap (Ai r.Af.length)).2=K.swap:=by
   intro e
   unfold Aq at e ⊢
   split
   .rfl
   .rename_i hh;rw[ru hh]at e;cases hx:K.swap.findIdx? (λr_1=>decide (Ai r.Af.length<=r_1.2))with
    |none=>rfl
    |some i=>rw[hx]at e;simp only at e ⊢;cases hy:K.swap[i]? with
     |none=>rfl
     |some q=>rw[hy]at e;simp at e
  clear b O z E X Y f M;generalize hsw:(Aq K.swap (Ai r.Af.length)).2=l' at*;cases ho:(Aq K.swap (Ai r.Af.length)).1 with
  |none=>
   have hl':=j ho
   simp only[tA,tB,Option.getD_none,Option.isSome_none]
   gi_wp2
   go_ret
   rw[hl']at d
   exact .inl ⟨zF,d,MW,ho⟩
  |some a=>
   clear j
   simp only[tA,tB,Option.getD_some,Option.isSome_some]
   obtain⟨ks,S,Z⟩:=d.k
   have c3:=(Ah S 3).trans Z.c3
   have z3:=BQ S 3
   have V:Dh K.T K.T (λt=>t=(1,0)\/t=(4,0)) (λt=>t=(4,0)) W (W.setCell (S_ K.kb 3) (b_ ((K.BD+1:Nat):Int))):=Dh.of ((Ac.refl _ _).setCell _ λ_=>.inl d.tk) d.lt
   have Kk3:Ac (At K.kb) W (W.setCell (S_ K.kb 3) (b_ ((K.BD+1:Nat):Int))):=(Ac.refl _ _).setCell _ λ_=>rfl
   have hpg:K.kb≠K.pg:=λe=>by have:=d.tk;simp only at this;rw[e]at this;rw[show K.T K.pg=(4,0)from d.tp]at this;simp at this
   have n:AV { K with swap:=l',BD:=K.BD+1 } _:=d.Yk (BD:=K.BD+1) (g:=K.pg) (c:=K.pc) (l:=K.Aw) V Z (Ap S _) (QB (by rw[Hr zD];exact Z.c2)).symm (Rw.keep d.pr Kk3 (λe=>hpg e.symm)) d.tp
   push_cast at n V
   have p2:({ K with swap:=l',BD:=K.BD+1 }:KS).ps p=some r:=hp
   have Q:=n.GH (r':={ r with pid:=K.BD+1 }) (i:=0) (v:=b_ ((K.BD:Int)+1)) p2 ⟨rfl,rfl,rfl,rfl,rfl⟩ rfl (n.ps p r p2).bl
   have N3:=n.Ez p2 (i:=0) (v:=b_ ((K.BD:Int)+1))
   have R:=Q.GH (r':={ r with pid:=K.BD+1,sw:=a }) (i:=10) (v:=b_ (a:Nat)) Aj ⟨rfl,rfl,rfl,rfl,rfl⟩ rfl (Q.ps p _ Aj).bl
   have N4:=Q.Ez Aj (i:=10) (v:=b_ (a:Nat))
   have B:=R.GH (r':={ r with pid:=K.BD+1,sw:=a,co:=-1 }) (i:=11) (v:=b_ (-1)) Aj ⟨rfl,rfl,rfl,rfl,rfl⟩ rfl (R.ps p _ Aj).bl
   have N5:=R.Ez Aj (i:=11) (v:=b_ (-1))
   simp only[Ut]at Q R B
   have q0:=n.Il p2 0
   have q10:=n.Il p2 10
   have q11:=n.Il p2 11
   simp[PR.arr]at q0 q10 q11
   have y0:=n.jy p2 0
   have y10:=n.jy p2 10
   have y11:=n.jy p2 11
   have L:((((W.setCell (S_ K.kb 3) (b_ ((K.BD:Int)+1))).setCell (R_ p) (b_ ((K.BD:Int)+1))).setCell (S_ p 10) (b_ (a:Nat))).setCell (S_ p 11) (b_ (-1))).heap.size=W.heap.size:=zF
   obtain⟨ks5,J,s⟩:=B.k
   have d2:=(Ah J 2).trans s.c2
   have hN:BN K.T K.T W ((((W.setCell (S_ K.kb 3) (b_ ((K.BD:Int)+1))).setCell (R_ p) (b_ ((K.BD:Int)+1))).setCell (S_ p 10) (b_ (a:Nat))).setCell (S_ p 11) (b_ (-1))):=(((V.WB (by rintro t (rfl|rfl)<;>simp)).trans N3).trans N4).trans N5
   have C:Ac No ((((W.setCell (S_ K.kb 3) (b_ ((K.BD:Int)+1))).setCell (R_ p) (b_ ((K.BD:Int)+1))).setCell (S_ p 10) (b_ (a:Nat))).setCell (S_ p 11) (b_ (-1))) (((((W.setCell (S_ K.kb 3) (b_ ((K.BD:Int)+1))).setCell (R_ p) (b_ ((K.BD:Int)+1))).setCell (S_ p 10) (b_ (a:Nat))).setCell (S_ p 11) (b_ (-1))).alloc (.cells #[Q_ p] 119)):=(Ac.refl _ _).alloc _
   have bv:(((((W.setCell (S_ K.kb 3) (b_ ((K.BD:Int)+1))).setCell (R_ p) (b_ ((K.BD:Int)+1))).setCell (S_ p 10) (b_ (a:Nat))).setCell (S_ p 11) (b_ (-1))).alloc (.cells #[Q_ p] 119)).cell? (R_ W.heap.size)=some (ptr p):=by
    have:=Y7 (w:=(((W.setCell (S_ K.kb 3) (b_ ((K.BD:Int)+1))).setCell (R_ p) (b_ ((K.BD:Int)+1))).setCell (S_ p 10) (b_ (a:Nat))).setCell (S_ p 11) (b_ (-1))) (o:=.cells #[Q_ p] 119) rfl
    rw[L]at this
    exact(Ah this 0).trans rfl
   obtain⟨y,D,N,GY,H,I,F⟩:=cc7 (T:=K.T) (ty:=100) (c2:=1) (l:=K.Aw) (Rw.keep B.pr C id) rfl bv (by show K.Aw.length<=1000;omega) B.tp
   have A:=F.old (C.old J id) (by unfold On;rw[show K.T K.kb=(1,0)from d.tk];simp)
   have ca:=(Ah A 2).trans s.c2
   have za:=BQ A 2
   gi_wp2_with (refine Cj rfl (.tmp 43) (.tmp 45) _ rfl rfl rfl GY ?_)
   go_ret
   have hgk:y≠K.kb:=λe=>by
    obtain hg|hg:=I
    .rw[e,show K.T K.kb=(1,0)from d.tk]at hg;simp at hg
    .have:=Dt S;have:=C.size;rw[L]at this;omega
   have KF:Ac (On K.T λt=>t=(1,0)\/t=(4,0)) ((((W.setCell (S_ K.kb 3) (b_ ((K.BD:Int)+1))).setCell (R_ p) (b_ ((K.BD:Int)+1))).setCell (S_ p 10) (b_ (a:Nat))).setCell (S_ p 11) (b_ (-1))) (N.setCell (S_ K.kb 2) (P_ y (K.Aw.length+1) D)):=(C.no.then (F.on λk _ e=>.inr e)).setCell _ λ_=>.inl d.tk
   have G:Ac (At K.kb) N (N.setCell (S_ K.kb 2) (P_ y (K.Aw.length+1) D)):=(Ac.refl _ _).setCell _ λ_=>rfl
   have MF:Dh K.T (Bg K.T y (4,0)) (λt=>t=(1,0)\/t=(4,0)) (λt=>t=(4,0)) _ (N.setCell (S_ K.kb 2) (P_ y (K.Aw.length+1) D)):=Dh.row KF B.lt (I.imp id λx=>pV C.size x) (Nat.lt_of_lt_of_le H.lt G.size) rfl;have el:(K.Aw++[p]).length=K.Aw.length+1:=zF;have h9:=B.Yk (BD:=K.BD+1) (g:=y) (c:=D) (l:=K.Aw++[p]) MF s (Ap A _) (by rw[QB s.c3,el]) (by rw[el];exact H.keep G hgk) AY;exact .inr ⟨a,y,D,Bg K.T y (4,0),zF,ho,by rw[hsw];exact h9,(MW.trans hN).trans (MF.WB (by rintro t (rfl|rfl)<;>simp))⟩
end
theorem ak0 {f:Nat->Nat}:BK f [b]=f b:=by simp[BK]
theorem Eo.born {NC NS:Nat} {K1:KS} {q:PR} (h:Eo NC NS K) (P:K.ps p=none) (X:K.Aw.length<12) (W:K.BD<60000) (U:q.Ok) (R:q.pid=K.BD+1) (Q:q.co=-1) (S:q.Af.length<=128) (O:(Aq K.swap (Ai q.Af.length)).1=some q.sw) (V:EK (λi=>BM K.ps K.Aw i+q.fds.count (i:Int)) K1) (N:K1={ K with swap:=(Aq K.swap (Ai q.Af.length)).2,BD:=K.BD+1,Aw:=K.Aw++[p],ps:=C9 K.ps p q,pg:=K1.pg,pc:=K1.pc,T:=K1.T,desc:=K1.desc }):Eo NC NS K1/\Rel b K K1:=by
 have e1:K1.ps=C9 K.ps p q:=by rw[N]
 have e2:K1.Aw=K.Aw++[p]:=by rw[N]
 have e3:K1.swap=(Aq K.swap (Ai q.Af.length)).2:=by rw[N]
 have e4:K1.BD=K.BD+1:=by rw[N]
 have w:K1.core=K.core:=by rw[N]
 have x:K1.kb=K.kb:=by rw[N]
 have o:p ∉ K.Aw:=λD=>by obtain⟨r,j⟩:=h.th p D;rw[P]at j;cases j
 have s:∀k∈K.Aw,k≠p:=λk c e=>o (e ▸ c)
 have m:∀k r,K.ps k=some r->K1.ps k=some r:=λk r c=>by rw[e1,BH (by rintro rfl;rw[P]at c;cases c)];exact c
 have new:K1.ps p=some q:=by rw[e1];exact Aj
 have d:∀k r,K1.ps k=some r->(k=p/\r=q)\/(k≠p/\K.ps k=some r):=λk r c=>by
  rw[e1]at c
  by_cases e:k=p
  .subst e;rw[Aj]at c;cases c;exact .inl ⟨rfl,rfl⟩
  .rw[BH e]at c;exact .inr ⟨e,c⟩
 have l:∀f g:Nat->Nat,(∀k,k≠p->f k=g k)->BK f K1.Aw=BK g K.Aw+f p:=λf g B=>by
  rw[e2,QA,ak0,BO λk c=>B k (s k c)]
 obtain⟨G,_,H⟩:=Jf (n:=Ai q.Af.length) h.sw.so;obtain⟨L,F,M⟩:=H _ O;have v:K1.EJ:=λk c=>by
  rw[e2]at c
  obtain c|c:=gJ.1 c
  .obtain⟨r,j⟩:=h.th k c;exact⟨r,m k r j⟩
  .obtain rfl:k=p:=(by simpa using c);exact⟨q,new⟩
 refine⟨⟨v,?_,by rw[e2];simp;omega,h.co.same w (λi=>?_) λk r c=>?_,⟨h.sw.le,by rw[e3];exact G,by rw[e3];exact Yh h.sw.ϱ,Nat.zero_le _,λi C=>?_,λk r c=>?_⟩,λk r c=>?_,λk r c=>?_,?_,by rw[e4];omega,V.congr λi _=>?_⟩,⟨λk r y z _=>.inl ⟨by rw[e2];simp[y],r,m k r z,.refl r⟩,λk c=>?_,λk c=>?_,λr j=>⟨r,m b r j,rfl⟩,by rw[e4];omega,x,λ_=>v⟩⟩
 .rw[e2,List.nodup_append];exact⟨h.nd,zF,λa O b A=>by obtain rfl:b=p:=(by simpa using A);exact s a O⟩
 .rw[l (FX i K1.ps) (FX i K.ps) (λk c=>by unfold FX;rw[e1,BH c]),Ej new,rC Q];rfl
 .obtain⟨rfl,rfl⟩|⟨_,c⟩:=d k r c
  .exact⟨S,.inl Q⟩
  .exact h.co.pl k r c
 .rw[l (Nr i K1.ps) (Nr i K.ps) (λk c=>by unfold Nr;rw[e1,BH c]),Jc new,e3];have I:=h.sw.cnt i C;have c2:=Q9 O i;omega
 .obtain⟨rfl,rfl⟩|⟨_,c⟩:=d k r c
  .exact F
  .exact h.sw.pl k r c
 .obtain⟨rfl,rfl⟩|⟨_,c⟩:=d k r c
  .exact U
  .exact h.pr k r c
 .obtain⟨rfl,rfl⟩|⟨_,c⟩:=d k r c
  .rw[R,e4];omega
  .have:=h.pid k r c;rw[e4];omega
 .rw[e2,List.pairwise_append];refine⟨VY.imp h.asc λk r c j=>?_,zF,λk c E t r J j u=>?_⟩
  .obtain⟨rfl,rfl⟩|⟨_,j⟩:=d k r j
   .exact ql c o
   .exact⟨r,j,rfl⟩
  .obtain rfl:E=p:=(by simpa using t);rw[new]at u;cases u;obtain⟨rfl,rfl⟩|⟨_,j⟩:=d k r j
   .exact ql c o
   .have:=(h.pid k r j).2;omega
 .show BK (Ji K1.ps i) K1.Aw=BK (Ji K.ps i) K.Aw+_;rw[l (Ji K1.ps i) (Ji K.ps i) (λk c=>by unfold Ji;rw[e1,BH c]),G8 new]
 .rw[e2]at c;obtain c|c:=gJ.1 c
  .exact .inl c
  .obtain rfl:k=p:=(by simpa using c);refine .inr ⟨P,λr j=>?_⟩;rw[new]at j;cases j;omega
 .cases hx:K.ps k with
  |none=>exact ql hx c
  |some r=>rw[m k r hx];simp
theorem QW {e:j_} {xs:U_} (h:w.ownsRow base e 1 v n xs) (q:0<n) (o:∀x∈xs,x.oneCell'=true):∃g c,v=P_ g n c/\Rw e 1 w g n c xs/\base<=g:=by
 obtain⟨l,⟨_,m⟩|⟨g,cap,j,a,b,c,d,k,f,i⟩⟩:=h
 .omega
 .exact⟨g,cap,a,⟨⟨j,c,f,i⟩,d,k,l,o⟩,b⟩
theorem Y3 (l:List Int):∀x∈FM l,x.oneCell'=true:=by
 intro x a;simp only[FM,List.mem_map]at a;obtain⟨n,_,rfl⟩:=a
 rfl
def Qm (r:PR) (base:Nat) (i:Nat) (v:n_) (W:o_):Prop:=
 if i=14 then ∃g c,v=P_ g r.Af.length c/\Rw 123 1 W g r.Af.length c (Az r.Af)/\base<=g
 else if i=15 then ∃g c,v=.agg #[a_ 0,a_ 0,a_ r.P,P_ g r.Af.length c]/\Rw 123 1 W g r.Af.length c (Az r.Af)/\base<=g
 else ∃g c,v=P_ g r.fds.length c/\Rw 3 1 W g r.fds.length c (FM r.fds)/\base<=g
theorem Qm.mono {i:Nat} {W j:o_} (h:Qm r base i v W) (f:Ac No W j):Qm r base i v j:=by
 unfold Qm at h ⊢;split
 .rename_i e;rw[rC e]at h;obtain⟨g,c,a,b,d⟩:=h;exact⟨g,c,a,b.keep f id,d⟩
 .rename_i e;rw[ru e]at h;split
  .rename_i e;rw[rC e]at h;obtain⟨g,c,a,b,d⟩:=h;exact⟨g,c,a,b.keep f id,d⟩
  .rename_i e;rw[ru e]at h;obtain⟨g,c,a,b,d⟩:=h;exact⟨g,c,a,b.keep f id,d⟩
structure Child (K K6:KS) (p:Nat) (r q:PR):Prop where
 ps:K6.ps p=some q
 en:q.en=false
 fds:q.fds=r.fds
 ok:q.Ok
 pid:q.pid=K.BD+1
 co:q.co=-1
 Af:q.Af=r.Af
 par:q.par=r.pid
 A:q.A=0
 B:q.B=0
 P:q.P=r.P
 st:q.st=0
 bl:q.bl=.nilFunc
 sw:(Aq K.swap (Ai q.Af.length)).1=some q.sw
 eq:K6={ K with swap:=(Aq K.swap (Ai q.Af.length)).2,BD:=K.BD+1,Aw:=K.Aw++[p],ps:=C9 K.ps p q,pg:=K6.pg,pc:=K6.pc,T:=K6.T }
def ar8 (K:KS) (p:Nat) (r:PR) (T:Tag) (w:o_) (e:Ending) (w':o_):Prop:=(e=.returned (.bool false)/\AV { K with T:=T } w'/\BN T T w w'/\ag ((Aq K.swap (Ai r.Af.length)).1=none))\/∃q K6 g c,e=.returned (.bool true)/\Child K K6 p r q/\AV K6 w'/\BN T K6.T w w'/\w'.cell? (S_ p 9)=some (P_ g r.fds.length c)/\q.fd=P_ g r.fds.length c
theorem aq2 {rc:PR} {e:Ending} (o:r.Ok) (J:K.BD<60000) (D:rc.par=r.pid) (u:rc.en=false) (y:r.en=false) (t:rc.fds=r.fds) (z:rc.Af=r.Af) (E:rc.A=0) (F:rc.B=0) (G:rc.P=r.P) (C:rc.st=0) (H:rc.bl=.nilFunc) (I:K.ps p=none) (h:zC { K with ps:=C9 K.ps p rc,T:=T } p rc w e w'):ar8 K p r T w e w':=by
 obtain⟨rfl,i,d,f⟩|⟨a,g,c,s,rfl,i,d,f⟩:=h
 .exact .inl ⟨rfl,AV.bd5 (K:={ K with T:=T }) i I,d,by rw[z]at f;exact f⟩
 .simp only[Ut]at d;obtain⟨m,l,q,_,_,j⟩:=d.pX (b:=p) (r:={ rc with pid:=K.BD+1,sw:=a,co:=-1 }) Aj u;refine .inr ⟨{ rc with pid:=K.BD+1,sw:=a,co:=-1 },_,m,l,rfl,⟨Aj,u,t,?_,rfl,rfl,z,D,E,F,G,C,H,i,rfl⟩,d,f,by rw[<-t];exact q,by rw[<-t];exact j⟩;refine⟨by rw[E];omega,by rw[F];omega,by rw[G];exact o.P,by rw[C];omega,by show K.BD+1<=60000;omega,by show rc.par<=60000;rw[D];exact o.pid,by show ∀x∈rc.Af,_;rw[z];exact o.Af,λ_=>by show rc.fds.length=6;rw[t];exact o.fds y,by show ∀n∈rc.fds,_;rw[t];exact o.fd,λ_=>by show ∃k,rc.Af.length=_/\_;rw[z];exact o.len y,λe=>?_⟩;have e:rc.en=true:=e;rw[u]at e;cases e
def br7 (K K6:KS) (T:Tag) (w:o_) (fds:List Int) (k:Nat) (wr:o_):Prop:=∃d,AV { K6 with desc:=d } wr/\BN T K6.T w wr/\EK (λi=>BM K.ps K.Aw i+(fds.take k).count (i:Int)) { K6 with desc:=d }
def xR (K:KS) (r:PR):KS->Nat->Nat->n_->Prop:=λK' x y f=>((K.Aw.length=12\/K.BD=60000)/\GU K 4 K' x y f)\/(¬(K.Aw.length=12\/K.BD=60000)/\(Aq K.swap (Ai r.Af.length)).1=none/\(∃T',K'={ K with T:=T' })/\x=0/\y=5/\f=.nilFunc)\/(¬(K.Aw.length=12\/K.BD=60000)/\∃p q K6 d1,K.ps p=none/\Child K K6 p r q/\(∀i,i<20->d1 i=K.desc i+r.fds.count (i:Int))/\K'={ K6 with desc:=d1 }/\x=q.pid/\y=0/\f=.nilFunc)
section
variable (m:Nat) (w:o_)
theorem bd4 (K:KS) (NC NS b:Nat) (r:PR) (h:AV K w) (hO:Eo NC NS K) (hm:b∈K.Aw) (hb:K.ps b=some r) (hn:r.en=false):
  O_ m 142 #[Q_ K.kb,Q_ b] w (FO (xR K r) NC NS b K w):=by
 have o:=hO.pr b r hb;have hlen:r.fds.length<=6:=by rw[o.fds hn];omega
 have hlen0:0<r.fds.length:=by rw[o.fds hn];omega
 have hL:=(hO.co.pl b r hb).1;have hL0:0<r.Af.length:=by obtain⟨k,h1,h2,_⟩:=o.len hn;omega
 have hl12:=hO.len;have hc6:=hO.BD;obtain⟨K0,rb,Cb⟩:=Iw w;have I:=h.no K0;have GV:K.T w.heap.size=(0,0):=h.lt _ (w_ _);have q2:=I.kc2;have q3:(w.alloc V_).cell? (S_ K.kb 3)=some (b_ K.BD):=let ⟨_,a,c⟩:=I.k;(Ah a 3).trans c.c3
 obtain⟨gi0,ci0,q8,bu5,cu4,cv3⟩:=I.jm hb hn;obtain⟨gf0,cf0,q9,bu7,cu5,hfd0⟩:=I.pX hb hn;have p0:=I.Il hb 0;have p7:=I.Il hb 7;simp[PR.arr]at p0 p7;by_cases l:K.Aw.length=12\/K.BD=60000
 .have HF:=l;obtain l|l:=l
  .have f1:(12:Int)<=(K.Aw.length:Int):=zD;gi_enter func142,ntmps142;gi_wp2_with (first|(gi_at_call 140;refine(TI 4 rb _).mono ?_;rintro e wz ⟨rfl,F,w8,J,L,M⟩)|refine EX J ?_);refine T_ 0 4 (by simp[results,results142,go_sem,FI M]) rfl ?_;exact BV h hO hm hb K0 Cb F L wB wB (.inl ⟨HF,GU.of⟩)
  .have f2:(60000:Int)<=(K.BD:Int):=zD;by_cases f1:(12:Int)<=(K.Aw.length:Int)
   .gi_enter func142,ntmps142;gi_wp2_with (first|(gi_at_call 140;refine(TI 4 rb _).mono ?_;rintro e wz ⟨rfl,F,w8,J,L,M⟩)|refine EX J ?_);refine T_ 0 4 (by simp[results,results142,go_sem,FI M]) rfl ?_;exact BV h hO hm hb K0 Cb F L wB wB (.inl ⟨HF,GU.of⟩)
   .gi_enter func142,ntmps142;gi_wp2_with (first|(gi_at_call 140;refine(TI 4 rb _).mono ?_;rintro e wz ⟨rfl,F,w8,J,L,M⟩)|refine EX J ?_);refine T_ 0 4 (by simp[results,results142,go_sem,FI M]) rfl ?_;exact BV h hO hm hb K0 Cb F L wB wB (.inl ⟨HF,GU.of⟩)
 .have f1:¬(12:Int)<=(K.Aw.length:Int):=zD
  have f2:¬(60000:Int)<=(K.BD:Int):=zD
  gi_enter func142,ntmps142;gi_wp2;generalize hw0:w.alloc V_=D at*;refine CG (P:=prog) No _ rfl rfl sJ 21 72 [0,1,2,3,4,5,6,7,8,9,10,11,12,13,16,17,18,19] [14,15,20] sJ (by rfl) (Qm r D.heap.size) (λ_ _ _ _ _ h G=>h.mono G) _ _ rfl rfl ?_;gi_wp2;refine⟨rfl,sJ,?_,?_,?_⟩
  .intro W G;have d0:=G.has (w:=D.drew) p0;have d7:=G.has (w:=D.drew) p7;have d8:=G.has (w:=D.drew) q8;have d9:=G.has (w:=D.drew) q9
   repeat' (refine Au ?_ ?_)
   all_goals first|exact eu|gi_wp2
  .intro i Q u W G hu;have KW:Ac No D W:=(Ac.refl No D).drew.then G;obtain rfl|rfl|rfl:=(by simpa using Q:i=14\/i=15\/i=20)
   .refine BC rfl λKK Nc=>?_
    show wpListIn NF m prog _ _ _ (Act.put (Act.put (Act.put _ (some 36) (u 14)) (some 37) (u 15)) (some 42) (u 20)) _;have cc:=λm=>KQ m W (R_ gi0) r.Af.length ci0 (Az r.Af) (by simp[Az]) (bu5.keep KW id).cells (EF _) zD
    gi_wp2_with (gi_at_call 141;refine(cc _).mono ?_;rintro e w1 ⟨K1,v,rfl,Et⟩);obtain⟨g,c,rfl,hR,E⟩:=QW Et hL0 (EF _);exact⟨_,rfl,K1,by unfold Qm;rw[rC rfl];exact⟨g,c,rfl,hR,pV KW.size E⟩⟩
   .obtain⟨g,c,Y,hR,E⟩:∃g c,u 14=P_ g r.Af.length c/\Rw 123 1 W g r.Af.length c (Az r.Af)/\D.heap.size<=g:=by
     have:=hu 14 zF wB
     unfold Qm at this;rwa [rC rfl]at this
    refine BC rfl λKK Nc=>?_
    show wpListIn NF m prog _ _ _ (Act.put (Act.put (Act.put _ (some 36) (u 14)) (some 37) (u 15)) (some 42) (u 20)) _;rw[Y];gi_wp2;rw[<-Y];exact⟨_,rfl,Ac.refl _ _,by unfold Qm;rw[ru wB,rC rfl];exact⟨g,c,by rw[Y],hR,E⟩⟩
   .refine BC rfl λKK Nc=>?_
    show wpListIn NF m prog _ _ _ (Act.put (Act.put (Act.put _ (some 36) (u 14)) (some 37) (u 15)) (some 42) (u 20)) _;have cc:=λm=>Za m W (R_ gf0) r.fds.length cf0 (FM r.fds) (by simp[FM]) (bu7.keep KW id).cells (Y3 _) zD
    gi_wp2_with (gi_at_call 102;refine(cc _).mono ?_;rintro e w1 ⟨K1,v,rfl,Et⟩);obtain⟨g,c,rfl,hR,E⟩:=QW Et hlen0 (Y3 _);exact⟨_,rfl,K1,by unfold Qm;rw[ru wB,ru wB];exact⟨g,c,rfl,hR,pV KW.size E⟩⟩
  .intro u W G hu;have KW:Ac No D W:=(Ac.refl No D).drew.then G;obtain⟨gi,ci,e15,O,hgi⟩:∃g c,u 15=.agg #[a_ 0,a_ 0,a_ r.P,P_ g r.Af.length c]/\Rw 123 1 W g r.Af.length c (Az r.Af)/\D.heap.size<=g:=by
    have:=hu 15 zF
    unfold Qm at this;rwa [ru wB,rC rfl]at this
   obtain⟨gf,cf,e20,N,hgf⟩:∃g c,u 20=P_ g r.fds.length c/\Rw 3 1 W g r.fds.length c (FM r.fds)/\D.heap.size<=g:=by
    have:=hu 20 zF
    unfold Qm at this;rwa [ru wB,ru wB]at this
   show wpListIn NF m prog _ _ _ (Act.put (Act.put (Act.put _ (some 36) (u 14)) (some 37) (u 15)) (some 42) (u 20)) _;rw[e15,e20];generalize u 14=v14;have hif:gi≠gf:=by
    obtain⟨c1,a1,_⟩:=O.blk
    obtain⟨c2,a2,_⟩:=N.blk
    exact BZ a1 a2 wB
   obtain⟨rc,s⟩:∃rc:PR,rc=⟨0,r.pid,0,0,0,r.P,0,false,0,.nilFunc,P_ gi r.Af.length ci,P_ gf r.fds.length cf,r.Af,r.fds⟩:=⟨_,rfl⟩;have oal:W.alloc (.cells #[b_ 0,b_ r.pid,.bool false,a_ 0,.nilFunc,a_ 0,a_ 0,a_ r.P,P_ gi r.Af.length ci,P_ gf r.fds.length cf,b_ 0,b_ 0] 128)=W.alloc rc.obj:=(by rw[s];rfl);have hal:(W.alloc rc.obj).heap[W.heap.size]?=some rc.obj:=Y7 rfl;have Kal:Ac No W (W.alloc rc.obj):=(Ac.refl _ _).alloc _;have bu6:=O.keep Kal id;have bu8:=N.keep Kal id;have xN:rc.Af=r.Af:=(by rw[s]);have U:rc.fds=r.fds:=(by rw[s]);have V:rc.en=false:=(by rw[s]);have X:rc.bl=.nilFunc:=(by rw[s]);have bw1:rc.im=P_ gi rc.Af.length ci:=(by rw[s]);have bw2:rc.fd=P_ gf rc.fds.length cf:=(by rw[s]);have lgi:=O.lt;have lgf:=N.lt;obtain⟨h5,M5⟩:=I.cj7 (r:=rc) (p:=W.heap.size) (gi:=gi) (gf:=gf) (ci:=ci) (cf:=cf) (KW.then Kal) KW.size hgi hgf zD zD hif hal V X bw1 bw2 (by rw[xN];exact bu6) (by rw[U];exact bu8);have R:K.ps W.heap.size=none:=by
    cases hx:K.ps W.heap.size with
    |none=>rfl
    |some q=>
     have:=(I.ps _ q hx).t
     rw[I.lt _ KW.size]at this;simp at this
   have ca:=λm=>bg9 m (W.alloc rc.obj) { K with ps:=C9 K.ps W.heap.size rc,T:=RV K.T W.heap.size gi gf } W.heap.size NS rc h5 Aj (by rw[xN];exact hL) hO.sw.fit hO.sw.le (by show K.BD<=100000;omega) (by show K.Aw.length<=100;omega)
   have ca2:=λm=>(ca m).mono λe w' x=>aq2 (r:=r) o zD (by rw[s]) V hn U xN (by rw[s]) (by rw[s]) (by rw[s]) (by rw[s]) X R x
   clear ca;clear s xN U V X bw1 bw2;have rb5:(W.alloc rc.obj).heap[w.heap.size]?=some (N_ #[a_ 0,a_ 0,.nilFunc] 206):=(KW.then Kal).old rb id;have V5:BN K.T (RV K.T W.heap.size gi gf) D (W.alloc rc.obj):=M5;have tr5:RV K.T W.heap.size gi gf w.heap.size=(0,0):=(Dh.fresh V5 _ Cb).trans GV;clear I M5 KW Kal O N bu6 bu8 q8 q9 bu5 bu7 G hu p0 p7 q2 q3 hgi hgf hal e15 e20;gi_wp2_with (gi_at_call 46;refine(ca2 _).mono ?_;rintro e w6 (⟨rfl,h6,M6,hno⟩|⟨q,C,g6,c6,rfl,A,h6,M6,q9,efd⟩))
   .obtain⟨RS,Ir⟩:=hO.fds (K1:={ K with T:=RV K.T W.heap.size gi gf }) (r':=r) (H:=BM K.ps K.Aw) ⟨rfl⟩ hm hb rfl rfl rfl rfl rfl o ⟨hO.Ef.ho,hO.Ef.le,hO.Ef.op,hO.Ef.nd,hO.Ef.nz,hO.Ef.nm,hO.Ef.dj⟩ λi _=>rfl
    rw[Fj (K:={ K with T:=RV K.T W.heap.size gi gf }) hb]at RS Ir;have V6:=V5.trans M6;have rb6:=M6.old rb5 tr5;gi_wp2_with (first|(gi_at_call 140;refine(TI 5 rb6 _).mono ?_;rintro e wz ⟨rfl,F,w8,J,L,M⟩)|refine EX J ?_);refine T_ 0 5 (by simp[results,results142,go_sem,FI M]) rfl ?_;exact BB (K':={ K with T:=RV K.T W.heap.size gi gf }) (x:=0) (y:=5) h.lt K0 Cb ((V6).then F) ((h6).no F) L zD zD (.inl rfl) (RS) (Ir) hb (λ_=>hm) (.inr (.inl ⟨l,hno.out,⟨_,rfl⟩,rfl,rfl,rfl⟩))
   .have V6:=V5.trans M6;have rb6:=M6.old rb5 tr5;have Z:C.kb=K.kb:=(by rw[A.eq]);have t6:EK (λi=>BM K.ps K.Aw i+(r.fds.take 0).count (i:Int)) C:=by
     have t:=hO.Ef
     refine EK.congr (H:=BM K.ps K.Aw) ?_ λi _=>zF
     rw[A.eq]
     exact⟨t.ho,t.le,t.op,t.nd,t.nz,t.nm,t.dj⟩
    generalize W.heap.size=p at*;clear oal h5 V5 rb5 tr5 lgi lgf ca2 M6;gi_loopw [55] (λi wr=>∃k:Nat,k<=r.fds.length/\i=b_ k/\br7 K C K.T D r.fds k wr) (λi _=>r.fds.length-(intOf i).toNat)
    case atStart=>exact⟨0,zD,rfl,C.desc,h6,V6,t6⟩
    case round=>
     obtain⟨k,hk,rfl,d1,h1,S,B⟩:=hrel
     have JA:({ C with desc:=d1 }:KS).ps p=some q:=A.ps
     obtain⟨g1,c1,p9,hR1,tg1,z⟩:=h1.pX JA A.en
     rw[A.fds]at hR1 z p9
     obtain⟨rfl,rfl⟩:g1=g6/\c1=c6:=by rw[efd]at z;simp at z;exact⟨z.1.symm,z.2.symm⟩
     by_cases BL:k<r.fds.length
     .have hg:r.fds[k]?=some r.fds[k]:=IG BL;generalize r.fds[k]=n at hg;have d:=hR1.OZ rfl hg;obtain rfl|⟨i,rfl,Q⟩:=o.fd n (t_ hg)
      .gi_wp2;go_roundw
       case rel=>
        refine⟨k+1,zD,by go_num,d1,h1,S,B.congr λi _=>?_⟩
        rw[JV hg,ru zD];rfl
       case measure=>simp[intOf];omega
      .have E:=TE (p:=K.ps) (i:=i) hm hb;have hcp:0<r.fds.count (i:Int):=List.count_pos_iff.2 (t_ hg);have hct:=JV (i:=i) hg;rw[rC rfl]at hct;have hle:=λj=>hO.Y5 j
       have hcl:∀j,(r.fds.take k).count j<=6:=λj=>pV List.count_le_length (by simp;omega)
       have hd1:0<d1 i:=(by have:=B.ho i Q;simp only at this;omega);have hd2:d1 i<=1000:=(by have t:=B.ho i Q;simp only at t;have:=hle i;have:=hcl i;omega);have cs:=λm=>kP m wr { C with desc:=d1 } i h1 Q hd1 hd2
       rw[show({ C with desc:=d1 }:KS).kb=K.kb from Z]at cs;have f1:((i:Int) !=-1)=true:=zF;gi_wp2_with (gi_at_call 193;refine(cs _).mono ?_;rintro e w2 ⟨rfl,h2,M2⟩);go_roundw
       case rel=>
        refine⟨k+1,zD,by go_num,Ag d1 i (d1 i+1),by rw[<-Z]at h2;exact h2,S.trans M2,(B.share hd1 (λj hj=>?_) Q).congr λj _=>?_⟩
        .have a1:=hle j;have a2:=hcl j;have a3:=hle i;have a4:=hcl i;simp only[Ag];split<;>omega
        .unfold Ag;split
         .rename_i e;subst e;rw[hct];omega
         .rename_i e;rw[JV hg,ru zD];rfl
       case measure=>simp[intOf];omega
     .obtain rfl:k=r.fds.length:=zD;rw[List.take_length]at B;rw[<-A.fds]at B;obtain⟨RS,Ir⟩:=hO.born (b:=b) (q:=q) (K1:={ C with desc:=d1 }) R zD zD A.ok A.pid A.co (by rw[A.Af];exact hL) A.sw B (by have:=A.eq;rw[this]);have p0:=h1.Il JA 0;simp[PR.arr]at p0;have hpq:=A.ok.pid;have hbb:({ C with desc:=d1 }:KS).ps b=some r:=(by show C.ps b=_;rw[A.eq];exact(BH (by rintro rfl;rw[R]at hb;cases hb)).trans hb);have hmb:b∈({ C with desc:=d1 }:KS).Aw:=(by show b∈C.Aw;rw[A.eq];simp[hm]);have rb7:=S.old rb GV;clear p9 hR1 Z efd z q9;gi_wp2_with (first|(gi_at_call 152;refine(Ed _ _ q.pid zD).mono ?_;rintro e wz ⟨rfl,F⟩;obtain⟨w8,J,L,M⟩:=AA (x:=q.pid) (y:=0) (f:=.nilFunc) (F.old (rb7) id) rfl)|refine EX J ?_);refine T_ q.pid 0 (by simp[results,results142,go_sem,FI M]) rfl ?_;exact BB (K':={ C with desc:=d1 }) (x:=q.pid) (y:=0) h.lt K0 Cb ((S).then F) ((h1).no F) L zD zD (.inl rfl) (RS) (Ir) hbb (λ_=>hmb) (.inr (.inr ⟨l,p,q,C,d1,R,A,λi Q=>by rw[hO.Ef.ho i Q,<-A.fds];exact B.ho i Q,rfl,rfl,rfl,rfl⟩))
theorem wV (u:FrameMode) (K:KS) (b N:Nat) (r:PR) (h:AV K w) (d:K.EJ) (f:K.ps b=some r) (i:b∈K.Aw) (c:K.Aw.Nodup) (a:BU N (0,0) K) (g:K.Aw.length<=100):
  CallsDIn NF m prog 53 #[Q_ K.kb,Q_ b] u w λe j w'=>j=u/\(e=.returned (.tuple #[])/\∃K',AV K' w'/\BR K K'/\BU N (0,0) K'/\BN K.T K'.T w w'/\XZ N b r K'/\Ϭ b K K'):=(Zc m w K b N r h d f i c a g).2 u
end
end Go.Fxa
