/- A process is admitted. -/
import Derived.Test.YtmhplpfpcnjekaaGreatA28
namespace Go.Fxa
open Conc Proofs RowKit Proofs.Tryz
set_option maxRecDepth 1000000
set_option maxHeartbeats 0
def QM (T:Tag) (p gi gf:Nat):Tag:=DZ (DZ (DZ T p (6,p)) gi (7,p)) gf (8,p)
theorem A8.br4 {K:KS} {w w':o_} {p gi gf ci cf:Nat} {r:PR} (h:A8 K w) (hK:Keep No w w') (lp:w.heap.size<=p) (li:w.heap.size<=gi) (lf:w.heap.size<=gf) (hpi:p≠gi) (hpf:p≠gf) (hif:gi≠gf) (ho:w'.heap[p]?=some r.obj) (hn:r.en=false) (IV:r.bl=.nilFunc) (hi:r.im=Q_ gi r.Ae.length ci) (hf:r.fd=Q_ gf r.fds.length cf) (hRi:Rw 123 1 w' gi r.Ae.length ci (AB r.Ae)) (hRf:Rw 3 1 w' gf r.fds.length cf (Fh r.fds)):A8 { K with ps:=BX K.ps p r,T:=QM K.T p gi gf } w'/\BV K.T (QM K.T p gi gf) w w':=by
 have val:∀k,QM K.T p gi gf k=if k=gf then(8,p)else if k=gi then(7,p)else if k=p then(6,p)else K.T k:=λk=>rfl
 have i:=DN ho;have j:=hRi.lt;have l:=hRf.lt;have z:∀k,w.heap.size<=k->K.T k=(0,0):=h.lt;have M:DY K.T (QM K.T p gi gf) (λt=>t=(6,p)\/t=(7,p)\/t=(8,p)\/t=(9,p)) (λt=>t=(6,p)\/t=(7,p)\/t=(8,p)\/t=(9,p)) w w':=by
  refine⟨hK.no,λk d=>?_,λk g f=>?_,λk d=>?_,λk d=>?_⟩
  .rw[val,if_neg (by rintro rfl;exact d (z _ lf)),if_neg (by rintro rfl;exact d (z _ li)),if_neg (by rintro rfl;exact d (z _ lp))]
  .rw[val]at f ⊢;split
   .exact .inr (.inr (.inl rfl))
   .split
    .exact .inr (.inl rfl)
    .split
     .exact .inl rfl
     .rename_i a b c;rw[if_neg a,if_neg b,if_neg c]at f;exact absurd g f
  .rw[val,if_neg (by omega),if_neg (by omega),if_neg (by omega)];exact z k (Nat.le_trans hK.size d)
  .rw[val,if_neg (by omega),if_neg (by omega),if_neg (by omega)]
 refine⟨h.um M ⟨?_,ho,λ_=>⟨gi,ci,hi,hRi,?_⟩,λ_=>⟨gf,cf,hf,hRf,?_⟩,by rw[IV];exact .inl rfl,λe=>absurd e (by simp[hn])⟩,M.TL (by rintro t (rfl|rfl|rfl|rfl)<;>simp)⟩
 .rw[val,if_neg hpf,if_neg hpi,if_pos rfl]
 .rw[val,if_neg hif,if_pos rfl]
 .rw[val,if_pos rfl]
theorem A8.ai3 {K:KS} {w:o_} {p:Nat} {r:PR} (h:A8 { K with ps:=BX K.ps p r } w) (hp:K.ps p=none):A8 K w:=by
 obtain⟨⟨d,k1,k2⟩,f,g,pr,ps,c,j,i,l,k,lt,a⟩:=h;refine⟨⟨d,k1,k2.ps K.ps⟩,f,g,pr,λb q e=>ps b q ?_,c,j,i,l,k,lt,a⟩;show BX K.ps p r b=some q;rw[Bg (by rintro rfl;rw[hp]at e;cases e)];exact e
theorem bl6 {T:Tag} {w:o_} {g c n b vb c2:Nat} {l:List Nat} {ty:j_} (hR:Rw 119 1 w g n c (BH l)) (hn:n=l.length) (hb:w.cell? (S_ vb)=some (ptr b)) (hl:n<=1000) (tg:T g=(4,0)):∃g' c' W,(Builtin.append_ #[100,100] ty #[Q_ g n c,Q_ vb 1 c2]).run prog w=.ok (Q_ g' (n+1) c') W/\Rw 119 1 W g' (n+1) c' (BH (l++[b]))/\(T g'=(4,0)\/w.heap.size<=g')/\Keep (On T λt=>t=(4,0)) w W:=by
 have s:∀j u,(BH [b])[j]?=some u->w.cell? (((S_ vb):f_).add j)=some u:=λj u a=>by
  match j,a with
  |0,a=>
   simp[BH]at a;subst a
   have o:((S_ vb):f_).add 0=(S_ vb):=by unfold Addr.add;split<;>simp_all
   rw[o];exact hb
 have q:∀u∈BH [b],u.oneCell'=true:=λu h=>by simp[BH]at h;subst h;rfl
 have p:BH (l++[b])=BH l++BH [b]:=by simp[BH]
 obtain⟨g',i,v,r,k,f⟩:=qH (ty:=ty) (sCap:=c2) (m:=1) ao2 hR (ys:=BH [b]) rfl s q (by omega) (by omega);refine⟨g',i,v,r,by rw[p];exact k,?_,?_⟩
 .obtain⟨rfl,_⟩|⟨rfl,_⟩:=f
  .exact .inl tg
  .exact .inr (w_ _)
 .obtain⟨rfl,d⟩|⟨rfl,d⟩:=f
  .exact d.on λx _ e=>by subst e;exact tg
  .exact d.no
def tX (K:KS) (p:Nat) (r:PR) (w:o_) (e:Ending) (w':o_):Prop:=(e=.returned (.bool false)/\A8 K w'/\BV K.T K.T w w'/\(Aw K.swap (Am r.Ae.length)).1=none)\/∃a g c T',e=.returned (.bool true)/\(Aw K.swap (Am r.Ae.length)).1=some a/\A8 { K with swap:=(Aw K.swap (Am r.Ae.length)).2,BK:=K.BK+1,AV:=K.AV++[p],pg:=g,pc:=c,ps:=BX K.ps p { r with pid:=K.BK+1,sw:=a,co:=-1 },T:=T' } w'/\BV K.T T' w w'
def bm3 (K:KS) (n:Nat) (w1:o_) (v:n_) (W:o_):Prop:=v=.tuple #[tA (Aw K.swap n).1,tB (Aw K.swap n).1]/\A8 { K with swap:=(Aw K.swap n).2 } W/\BV K.T K.T w1 W
section
variable (m:Nat) (w:o_)
theorem al8 (K:KS) (p NS:Nat) (r:PR) (h:A8 K w) (hp:K.ps p=some r) (hL:r.Ae.length<=128) (hF:Fit NS K.swap) (hNS:NS<=1000) (qO:K.BK<=100000) (hl:K.AV.length<=100):
  P_ m 46 #[R_ K.kb,R_ p] w (tX K p r w):=by
 obtain⟨a8,c8,q8⟩:=h.im8 hp;have h0:A8 K w.drew:=h.no (p_ No w).drew;have bk:p≠K.kb:=λe=>by have:=(h.ps p r hp).t;rw[e,h.tk]at this;simp at this
 have bc:p≠K.sg:=λe=>by have:=(h.ps p r hp).t;rw[e,h.ts]at this;simp at this
 gi_enter func46,ntmps46;gi_wp2;refine DT (P:=prog) _ rfl rfl (by kernel_rfl) 10 49 [0,1,2,3,4] [5,6,7,8,9] (by kernel_rfl) (by rfl)
  (NJ (At2 K.kb K.sg) w.drew 5 (bm3 K (Am r.Ae.length) w.drew) [(6,.tuple #[tA (Aw K.swap (Am r.Ae.length)).1,tB (Aw K.swap (Am r.Ae.length)).1]),(7,tA (Aw K.swap (Am r.Ae.length)).1),(8,tB (Aw K.swap (Am r.Ae.length)).1),(9,tA (Aw K.swap (Am r.Ae.length)).1)]) (F8 (by simp) (by simp)) _ _ rfl rfl ?_;gi_wp2_with (gi_at_call 58;refine(Gg _ w.drew p _ _ _ q8 (by omega)).mono ?_;rintro e w1 ⟨rfl,rfl⟩);refine⟨rfl,by kernel_rfl,En,?_,?_,?_⟩
 .intro L' u W b;have d8:=(b.1.cell (w:=w.drew) (p:=(T_ p 8)) (h.plt hp) (by rintro(h|h)<;>contradiction)).trans q8
  repeat' (refine Az ?_ ?_)
  all_goals first|exact trivial|gi_wp2_with (gi_at_call 58;refine(Gg _ W p _ _ _ d8 (by omega)).mono ?_;rintro e w1 ⟨rfl,rfl⟩)
 .intro i hi L' u W b hLi U;obtain rfl|rfl|rfl|rfl|rfl:=(by simpa using hi:i=5\/i=6\/i=7\/i=8\/i=9)
  .obtain rfl:=b.2.1 hLi;refine BJ rfl λKK Qj=>?_
   show wpListIn NF m prog _ _ _ (Act.put (Act.put (Act.put (Act.put (Act.put _ (some 13) (u 5)) (some 7) (u 6)) (some 14) (u 7)) (some 15) (u 8)) (some 5) (u 9)) _;gi_wp2_with fail;refine(as7 _ w.drew K (Am r.Ae.length) NS h0 hF (by omega) (by unfold Am;omega)).mono ?_;rintro e w1 ⟨rfl,d,M,K1⟩;rw[Wn];gi_wp2;exact⟨_,rfl,F9 b (by simp) K1 ⟨rfl,d,M⟩⟩
  .have O:=(b.2.2.1 (U 5 (by simp) (by decide))).1;exact qK rfl rfl rfl ⟨_,rfl,Gu b (by decide) O (by simp)⟩
  .have z:=b.2.2.2 (6,.tuple #[tA (Aw K.swap (Am r.Ae.length)).1,tB (Aw K.swap (Am r.Ae.length)).1]) (by simp) (U 6 (by simp) (by decide));exact UL rfl rfl rfl z rfl ⟨_,rfl,GZ b (by decide) (by simp)⟩
  .have z:=b.2.2.2 (6,.tuple #[tA (Aw K.swap (Am r.Ae.length)).1,tB (Aw K.swap (Am r.Ae.length)).1]) (by simp) (U 6 (by simp) (by decide));exact UL rfl rfl rfl z rfl ⟨_,rfl,GZ b (by decide) (by simp)⟩
  .have E:=b.2.2.2 (7,tA (Aw K.swap (Am r.Ae.length)).1) (by simp) (U 7 (by simp) (by decide));exact qL rfl rfl rfl ⟨_,rfl,Gu b (by decide) E (by simp)⟩
 .intro L' u W b f;obtain⟨O,d,M⟩:=b.2.2.1 (f 5 (by simp));have X:=b.2.2.2 (8,tB (Aw K.swap (Am r.Ae.length)).1) (by simp) (f 8 (by simp));have Y:=b.2.2.2 (9,tA (Aw K.swap (Am r.Ae.length)).1) (by simp) (f 9 (by simp));have z:=b.2.2.2 (6,.tuple #[tA (Aw K.swap (Am r.Ae.length)).1,tB (Aw K.swap (Am r.Ae.length)).1]) (by simp) (f 6 (by simp));have E:=b.2.2.2 (7,tA (Aw K.swap (Am r.Ae.length)).1) (by simp) (f 7 (by simp));simp only at z E X Y;show wpListIn NF m prog _ _ _ (Act.put (Act.put (Act.put (Act.put (Act.put _ (some 13) (u 5)) (some 7) (u 6)) (some 14) (u 7)) (some 15) (u 8)) (some 5) (u 9)) _;rw[O,z,E,X,Y];have MW:BV K.T K.T w W:=(BV.no (p_ No w).drew h.lt).trans M;have j:(Aw K.swap (Am r.Ae.length)).1=none->(Aw K.swap (Am r.Ae.length)).2=K.swap:=by
   intro e
   unfold Aw at e ⊢
   split
   .rfl
   .rename_i hh;rw[if_neg hh]at e;cases hx:K.swap.findIdx? (λr_1=>decide (Am r.Ae.length<=r_1.2))with
    |none=>rfl
    |some i=>rw[hx]at e;simp only at e ⊢;cases hy:K.swap[i]? with
     |none=>rfl
     |some q=>rw[hy]at e;simp at e
  clear b O z E X Y f M;generalize hsw:(Aw K.swap (Am r.Ae.length)).2=l' at*;cases ho:(Aw K.swap (Am r.Ae.length)).1 with
  |none=>
   have hl':=j ho
   simp only[tA,tB,Option.getD_none,Option.isSome_none]
   gi_wp2
   go_ret
   rw[hl']at d
   exact .inl ⟨by simp,d,MW,ho⟩
  |some a=>
   clear j
   simp only[tA,tB,Option.getD_some,Option.isSome_some]
   obtain⟨ks,S,Z⟩:=d.k
   have c3:=(Af S 3).trans Z.c3
   have z3:=BN S 3
   have V:DY K.T K.T (λt=>t=(1,0)\/t=(4,0)) (λt=>t=(4,0)) W (W.setCell (T_ K.kb 3) (b_ ((K.BK+1:Nat):Int))):=DY.of ((p_ _ _).setCell _ λ_=>.inl d.tk) d.lt
   have Kk3:Keep (At K.kb) W (W.setCell (T_ K.kb 3) (b_ ((K.BK+1:Nat):Int))):=(p_ _ _).setCell _ λ_=>rfl
   have hpg:K.kb≠K.pg:=λe=>by have:=d.tk;simp only at this;rw[e]at this;rw[show K.T K.pg=(4,0)from d.tp]at this;simp at this
   have n:A8 { K with swap:=l',BK:=K.BK+1 } _:=d.Wu (BK:=K.BK+1) (g:=K.pg) (c:=K.pc) (l:=K.AV) V Z (Ak S _) (PQ (by rw[IB (by omega)];exact Z.c2)).symm (Rw.keep d.pr Kk3 (λe=>hpg e.symm)) d.tp
   push_cast at n V
   have p2:({ K with swap:=l',BK:=K.BK+1 }:KS).ps p=some r:=hp
   have Q:=n.like (r':={ r with pid:=K.BK+1 }) (i:=0) (v:=b_ ((K.BK:Int)+1)) p2 ⟨rfl,rfl,rfl,rfl,rfl⟩ rfl (n.ps p r p2).bl
   have N3:=n.FI p2 (i:=0) (v:=b_ ((K.BK:Int)+1))
   have R:=Q.like (r':={ r with pid:=K.BK+1,sw:=a }) (i:=10) (v:=b_ (a:Nat)) Ah ⟨rfl,rfl,rfl,rfl,rfl⟩ rfl (Q.ps p _ Ah).bl
   have N4:=Q.FI Ah (i:=10) (v:=b_ (a:Nat))
   have B:=R.like (r':={ r with pid:=K.BK+1,sw:=a,co:=-1 }) (i:=11) (v:=b_ (-1)) Ah ⟨rfl,rfl,rfl,rfl,rfl⟩ rfl (R.ps p _ Ah).bl
   have N5:=R.FI Ah (i:=11) (v:=b_ (-1))
   simp only[Wj]at Q R B
   have q0:=n.JK p2 0
   have q10:=n.JK p2 10
   have q11:=n.JK p2 11
   simp[PR.arr]at q0 q10 q11
   have y0:=n.tZ p2 0
   have y10:=n.tZ p2 10
   have y11:=n.tZ p2 11
   have L:((((W.setCell (T_ K.kb 3) (b_ ((K.BK:Int)+1))).setCell (S_ p) (b_ ((K.BK:Int)+1))).setCell (T_ p 10) (b_ (a:Nat))).setCell (T_ p 11) (b_ (-1))).heap.size=W.heap.size:=by simp
   obtain⟨ks5,J,s⟩:=B.k
   have d2:=(Af J 2).trans s.c2
   have hN:BV K.T K.T W ((((W.setCell (T_ K.kb 3) (b_ ((K.BK:Int)+1))).setCell (S_ p) (b_ ((K.BK:Int)+1))).setCell (T_ p 10) (b_ (a:Nat))).setCell (T_ p 11) (b_ (-1))):=(((V.TL (by rintro t (rfl|rfl)<;>simp)).trans N3).trans N4).trans N5
   have C:Keep No ((((W.setCell (T_ K.kb 3) (b_ ((K.BK:Int)+1))).setCell (S_ p) (b_ ((K.BK:Int)+1))).setCell (T_ p 10) (b_ (a:Nat))).setCell (T_ p 11) (b_ (-1))) (((((W.setCell (T_ K.kb 3) (b_ ((K.BK:Int)+1))).setCell (S_ p) (b_ ((K.BK:Int)+1))).setCell (T_ p 10) (b_ (a:Nat))).setCell (T_ p 11) (b_ (-1))).alloc (.cells #[R_ p] 119)):=(p_ _ _).alloc _
   have bv:(((((W.setCell (T_ K.kb 3) (b_ ((K.BK:Int)+1))).setCell (S_ p) (b_ ((K.BK:Int)+1))).setCell (T_ p 10) (b_ (a:Nat))).setCell (T_ p 11) (b_ (-1))).alloc (.cells #[R_ p] 119)).cell? (S_ W.heap.size)=some (ptr p):=by
    have:=heap_alloc_new (w:=(((W.setCell (T_ K.kb 3) (b_ ((K.BK:Int)+1))).setCell (S_ p) (b_ ((K.BK:Int)+1))).setCell (T_ p 10) (b_ (a:Nat))).setCell (T_ p 11) (b_ (-1))) (o:=.cells #[R_ p] 119) rfl
    rw[L]at this
    exact(Af this 0).trans rfl
   obtain⟨y,D,N,Ho,H,I,F⟩:=bl6 (T:=K.T) (ty:=100) (c2:=1) (l:=K.AV) (Rw.keep B.pr C id) rfl bv (by show K.AV.length<=1000;omega) B.tp
   have A:=F.old (C.old J id) (by unfold On;rw[show K.T K.kb=(1,0)from d.tk];simp)
   have ca:=(Af A 2).trans s.c2
   have za:=BN A 2
   gi_wp2_with (refine Cc rfl (.tmp 43) (.tmp 45) _ rfl rfl rfl Ho ?_)
   go_ret
   have hgk:y≠K.kb:=λe=>by
    obtain hg|hg:=I
    .rw[e,show K.T K.kb=(1,0)from d.tk]at hg;simp at hg
    .have:=DN S;have:=C.size;rw[L]at this;omega
   have KF:Keep (On K.T λt=>t=(1,0)\/t=(4,0)) ((((W.setCell (T_ K.kb 3) (b_ ((K.BK:Int)+1))).setCell (S_ p) (b_ ((K.BK:Int)+1))).setCell (T_ p 10) (b_ (a:Nat))).setCell (T_ p 11) (b_ (-1))) (N.setCell (T_ K.kb 2) (Q_ y (K.AV.length+1) D)):=(C.no.then (F.on λk _ e=>.inr e)).setCell _ λ_=>.inl d.tk
   have G:Keep (At K.kb) N (N.setCell (T_ K.kb 2) (Q_ y (K.AV.length+1) D)):=(p_ _ _).setCell _ λ_=>rfl
   have MF:DY K.T (DZ K.T y (4,0)) (λt=>t=(1,0)\/t=(4,0)) (λt=>t=(4,0)) _ (N.setCell (T_ K.kb 2) (Q_ y (K.AV.length+1) D)):=DY.row KF B.lt (I.imp id λx=>Nat.le_trans C.size x) (Nat.lt_of_lt_of_le H.lt G.size) rfl;have el:(K.AV++[p]).length=K.AV.length+1:=(by simp);have h9:=B.Wu (BK:=K.BK+1) (g:=y) (c:=D) (l:=K.AV++[p]) MF s (Ak A _) (by rw[PQ s.c3,el]) (by rw[el];exact H.keep G hgk) CX;exact .inr ⟨a,y,D,DZ K.T y (4,0),by simp,ho,by rw[hsw];exact h9,(MW.trans hN).trans (MF.TL (by rintro t (rfl|rfl)<;>simp))⟩
end
theorem Η {f:Nat->Nat} {b:Nat}:BF f [b]=f b:=by simp[BF]
theorem GK.born {NC NS b p:Nat} {K K1:KS} {q:PR} (h:GK NC NS K) (hp:K.ps p=none) (hl:K.AV.length<12) (hc:K.BK<60000) (ho:q.Ok) (HY:q.pid=K.BK+1) (Ip:q.co=-1) (hL:q.Ae.length<=128) (ha:(Aw K.swap (Am q.Ae.length)).1=some q.sw) (ht:EH (λi=>BP K.ps K.AV i+q.fds.count (i:Int)) K1) (hK:K1={ K with swap:=(Aw K.swap (Am q.Ae.length)).2,BK:=K.BK+1,AV:=K.AV++[p],ps:=BX K.ps p q,pg:=K1.pg,pc:=K1.pc,T:=K1.T,desc:=K1.desc }):GK NC NS K1/\Rel b K K1:=by
 have e1:K1.ps=BX K.ps p q:=by rw[hK]
 have e2:K1.AV=K.AV++[p]:=by rw[hK]
 have e3:K1.swap=(Aw K.swap (Am q.Ae.length)).2:=by rw[hK]
 have e4:K1.BK=K.BK+1:=by rw[hK]
 have w:K1.core=K.core:=by rw[hK]
 have x:K1.kb=K.kb:=by rw[hK]
 have o:p ∉ K.AV:=λD=>by obtain⟨r,j⟩:=h.th p D;rw[hp]at j;cases j
 have s:∀k∈K.AV,k≠p:=λk c e=>o (e ▸ c)
 have m:∀k r,K.ps k=some r->K1.ps k=some r:=λk r c=>by rw[e1,Bg (by rintro rfl;rw[hp]at c;cases c)];exact c
 have new:K1.ps p=some q:=by rw[e1];exact Ah
 have d:∀k r,K1.ps k=some r->(k=p/\r=q)\/(k≠p/\K.ps k=some r):=λk r c=>by
  rw[e1]at c
  by_cases e:k=p
  .subst e;rw[Ah]at c;cases c;exact .inl ⟨rfl,rfl⟩
  .rw[Bg e]at c;exact .inr ⟨e,c⟩
 have l:∀f g:Nat->Nat,(∀k,k≠p->f k=g k)->BF f K1.AV=BF g K.AV+f p:=λf g B=>by
  rw[e2,SH,Η,BQ λk c=>B k (s k c)]
 obtain⟨G,_,H⟩:=P9 (n:=Am q.Ae.length) h.sw.so;obtain⟨L,F,M⟩:=H _ ha;have v:K1.EZ:=λk c=>by
  rw[e2]at c
  obtain c|c:=List.mem_append.1 c
  .obtain⟨r,j⟩:=h.th k c;exact⟨r,m k r j⟩
  .obtain rfl:k=p:=(by simpa using c);exact⟨q,new⟩
 refine⟨⟨v,?_,by rw[e2];simp;omega,h.co.same w (λi=>?_) λk r c=>?_,⟨h.sw.le,by rw[e3];exact G,by rw[e3];exact cu h.sw.Ϣ,Nat.zero_le _,λi C=>?_,λk r c=>?_⟩,λk r c=>?_,λk r c=>?_,?_,by rw[e4];omega,ht.congr λi _=>?_⟩,⟨λk r y z _=>.inl ⟨by rw[e2];simp[y],r,m k r z,.refl r⟩,λk c=>?_,λk c=>?_,λr j=>⟨r,m b r j,rfl⟩,by rw[e4];omega,x,λ_=>v⟩⟩
 .rw[e2,List.nodup_append];exact⟨h.nd,by simp,λa ha b A=>by obtain rfl:b=p:=(by simpa using A);exact s a ha⟩
 .rw[l (FX i K1.ps) (FX i K.ps) (λk c=>by unfold FX;rw[e1,Bg c]),EF new,if_pos Ip];rfl
 .obtain⟨rfl,rfl⟩|⟨_,c⟩:=d k r c
  .exact⟨hL,.inl Ip⟩
  .exact h.co.pl k r c
 .rw[l (LP i K1.ps) (LP i K.ps) (λk c=>by unfold LP;rw[e1,Bg c]),IM new,e3];have I:=h.sw.cnt i C;have c2:=YL ha i;omega
 .obtain⟨rfl,rfl⟩|⟨_,c⟩:=d k r c
  .exact F
  .exact h.sw.pl k r c
 .obtain⟨rfl,rfl⟩|⟨_,c⟩:=d k r c
  .exact ho
  .exact h.pr k r c
 .obtain⟨rfl,rfl⟩|⟨_,c⟩:=d k r c
  .rw[HY,e4];omega
  .have:=h.pid k r c;rw[e4];omega
 .rw[e2,List.pairwise_append];refine⟨UT.imp h.asc λk r c j=>?_,by simp,λk c E t r J j u=>?_⟩
  .obtain⟨rfl,rfl⟩|⟨_,j⟩:=d k r j
   .exact absurd c o
   .exact⟨r,j,rfl⟩
  .obtain rfl:E=p:=(by simpa using t);rw[new]at u;cases u;obtain⟨rfl,rfl⟩|⟨_,j⟩:=d k r j
   .exact absurd c o
   .have:=(h.pid k r j).2;omega
 .show BF (I4 K1.ps i) K1.AV=BF (I4 K.ps i) K.AV+_;rw[l (I4 K1.ps i) (I4 K.ps i) (λk c=>by unfold I4;rw[e1,Bg c]),Gv new]
 .rw[e2]at c;obtain c|c:=List.mem_append.1 c
  .exact .inl c
  .obtain rfl:k=p:=(by simpa using c);refine .inr ⟨hp,λr j=>?_⟩;rw[new]at j;cases j;omega
 .cases hx:K.ps k with
  |none=>exact absurd hx c
  |some r=>rw[m k r hx];simp
theorem VD {w:o_} {base n:Nat} {e:j_} {v:n_} {xs:U_} (h:w.ownsRow base e 1 v n xs) (hn:0<n) (ho:∀x∈xs,x.oneCell'=true):∃g c,v=Q_ g n c/\Rw e 1 w g n c xs/\base<=g:=by
 obtain⟨l,⟨_,m⟩|⟨g,cap,j,a,b,c,d,k,f,i⟩⟩:=h
 .omega
 .exact⟨g,cap,a,⟨⟨j,c,f,i⟩,d,k,l,ho⟩,b⟩
theorem Xl (l:List Int):∀x∈Fh l,x.oneCell'=true:=by
 intro x a;simp only[Fh,List.mem_map]at a;obtain⟨n,_,rfl⟩:=a
 rfl
def Py (r:PR) (base:Nat) (i:Nat) (v:n_) (W:o_):Prop:=
 if i=14 then ∃g c,v=Q_ g r.Ae.length c/\Rw 123 1 W g r.Ae.length c (AB r.Ae)/\base<=g
 else if i=15 then ∃g c,v=.agg #[a_ 0,a_ 0,a_ r.P,Q_ g r.Ae.length c]/\Rw 123 1 W g r.Ae.length c (AB r.Ae)/\base<=g
 else ∃g c,v=Q_ g r.fds.length c/\Rw 3 1 W g r.fds.length c (Fh r.fds)/\base<=g
theorem Py.mono {r:PR} {base i:Nat} {v:n_} {W W':o_} (h:Py r base i v W) (hK:Keep No W W'):Py r base i v W':=by
 unfold Py at h ⊢;split
 .rename_i e;rw[if_pos e]at h;obtain⟨g,c,a,b,d⟩:=h;exact⟨g,c,a,b.keep hK id,d⟩
 .rename_i e;rw[if_neg e]at h;split
  .rename_i e;rw[if_pos e]at h;obtain⟨g,c,a,b,d⟩:=h;exact⟨g,c,a,b.keep hK id,d⟩
  .rename_i e;rw[if_neg e]at h;obtain⟨g,c,a,b,d⟩:=h;exact⟨g,c,a,b.keep hK id,d⟩
structure Child (K K6:KS) (p:Nat) (r q:PR):Prop where
 ps:K6.ps p=some q
 en:q.en=false
 fds:q.fds=r.fds
 ok:q.Ok
 pid:q.pid=K.BK+1
 co:q.co=-1
 Ae:q.Ae=r.Ae
 par:q.par=r.pid
 A:q.A=0
 B:q.B=0
 P:q.P=r.P
 st:q.st=0
 bl:q.bl=.nilFunc
 sw:(Aw K.swap (Am q.Ae.length)).1=some q.sw
 eq:K6={ K with swap:=(Aw K.swap (Am q.Ae.length)).2,BK:=K.BK+1,AV:=K.AV++[p],ps:=BX K.ps p q,pg:=K6.pg,pc:=K6.pc,T:=K6.T }
def ϡ (K:KS) (p:Nat) (r:PR) (T:Tag) (w:o_) (e:Ending) (w':o_):Prop:=(e=.returned (.bool false)/\A8 { K with T:=T } w'/\BV T T w w'/\Hid ((Aw K.swap (Am r.Ae.length)).1=none))\/∃q K6 g c,e=.returned (.bool true)/\Child K K6 p r q/\A8 K6 w'/\BV T K6.T w w'/\w'.cell? (T_ p 9)=some (Q_ g r.fds.length c)/\q.fd=Q_ g r.fds.length c
theorem ϔ {K:KS} {p:Nat} {r rc:PR} {T:Tag} {w w':o_} {e:Ending} (o:r.Ok) (hc:K.BK<60000) (Zd:rc.par=r.pid) (hen:rc.en=false) (hrn:r.en=false) (jK:rc.fds=r.fds) (TY:rc.Ae=r.Ae) (hA:rc.A=0) (hB:rc.B=0) (hP:rc.P=r.P) (BI:rc.st=0) (IV:rc.bl=.nilFunc) (hp:K.ps p=none) (h:tX { K with ps:=BX K.ps p rc,T:=T } p rc w e w'):ϡ K p r T w e w':=by
 obtain⟨rfl,i,d,f⟩|⟨a,g,c,s,rfl,i,d,f⟩:=h
 .exact .inl ⟨rfl,A8.ai3 (K:={ K with T:=T }) i hp,d,by rw[TY]at f;exact f⟩
 .simp only[Wj]at d;obtain⟨m,l,q,_,_,j⟩:=d.qx (b:=p) (r:={ rc with pid:=K.BK+1,sw:=a,co:=-1 }) Ah hen;refine .inr ⟨{ rc with pid:=K.BK+1,sw:=a,co:=-1 },_,m,l,rfl,⟨Ah,hen,jK,?_,rfl,rfl,TY,Zd,hA,hB,hP,BI,IV,i,rfl⟩,d,f,by rw[<-jK];exact q,by rw[<-jK];exact j⟩;refine⟨by rw[hA];omega,by rw[hB];omega,by rw[hP];exact o.P,by rw[BI];omega,by show K.BK+1<=60000;omega,by show rc.par<=60000;rw[Zd];exact o.pid,by show ∀x∈rc.Ae,_;rw[TY];exact o.Ae,λ_=>by show rc.fds.length=6;rw[jK];exact o.fds hrn,by show ∀n∈rc.fds,_;rw[jK];exact o.fd,λ_=>by show ∃k,rc.Ae.length=_/\_;rw[TY];exact o.len hrn,λe=>?_⟩;have e:rc.en=true:=e;rw[hen]at e;cases e
def ax6 (K K6:KS) (T:Tag) (w:o_) (fds:List Int) (k:Nat) (wr:o_):Prop:=∃d,A8 { K6 with desc:=d } wr/\BV T K6.T w wr/\EH (λi=>BP K.ps K.AV i+(fds.take k).count (i:Int)) { K6 with desc:=d }
def yX (K:KS) (r:PR):KS->Nat->Nat->n_->Prop:=λK' x y f=>((K.AV.length=12\/K.BK=60000)/\O6 K 4 K' x y f)\/(¬(K.AV.length=12\/K.BK=60000)/\(Aw K.swap (Am r.Ae.length)).1=none/\(∃T',K'={ K with T:=T' })/\x=0/\y=5/\f=.nilFunc)\/(¬(K.AV.length=12\/K.BK=60000)/\∃p q K6 d1,K.ps p=none/\Child K K6 p r q/\(∀i,i<20->d1 i=K.desc i+r.fds.count (i:Int))/\K'={ K6 with desc:=d1 }/\x=q.pid/\y=0/\f=.nilFunc)
section
variable (m:Nat) (w:o_)
theorem ai2 (K:KS) (NC NS b:Nat) (r:PR) (h:A8 K w) (hO:GK NC NS K) (hm:b∈K.AV) (hb:K.ps b=some r) (hn:r.en=false):
  P_ m 142 #[R_ K.kb,R_ b] w (Kr (yX K r) NC NS b K w):=by
 have o:=hO.pr b r hb;have hlen:r.fds.length<=6:=by rw[o.fds hn];omega
 have hlen0:0<r.fds.length:=by rw[o.fds hn];omega
 have hL:=(hO.co.pl b r hb).1;have hL0:0<r.Ae.length:=by obtain⟨k,h1,h2,_⟩:=o.len hn;omega
 have hl12:=hO.len;have hc6:=hO.BK;obtain⟨K0,rb,Cj⟩:=Oa w;have I:=h.no K0;have MR:K.T w.heap.size=(0,0):=h.lt _ (w_ _);have q2:=I.kc2;have q3:(w.alloc V_).cell? (T_ K.kb 3)=some (b_ K.BK):=let ⟨_,a,c⟩:=I.k;(Af a 3).trans c.c3
 obtain⟨gi0,ci0,q8,az7,bz9,cc0⟩:=I.qw hb hn;obtain⟨gf0,cf0,q9,az9,ca4,hfd0⟩:=I.qx hb hn;have p0:=I.JK hb 0;have p7:=I.JK hb 7;simp[PR.arr]at p0 p7;by_cases l:K.AV.length=12\/K.BK=60000
 .have HF:=l;obtain l|l:=l
  .have f1:(12:Int)<=(K.AV.length:Int):=(by omega);gi_enter func142,ntmps142;gi_wp2_with (first|(gi_at_call 140;refine(wr8 4 rb _).mono ?_;rintro e wz ⟨rfl,F,w8,J,L,M⟩)|refine Io J ?_);refine TR 0 4 (by simp[results,results142,go_sem,Jj M]) rfl ?_;exact DX h hO hm hb K0 Cj F L (by decide) (by decide) (.inl ⟨HF,O6.of⟩)
  .have f2:(60000:Int)<=(K.BK:Int):=(by omega);by_cases f1:(12:Int)<=(K.AV.length:Int)
   .gi_enter func142,ntmps142;gi_wp2_with (first|(gi_at_call 140;refine(wr8 4 rb _).mono ?_;rintro e wz ⟨rfl,F,w8,J,L,M⟩)|refine Io J ?_);refine TR 0 4 (by simp[results,results142,go_sem,Jj M]) rfl ?_;exact DX h hO hm hb K0 Cj F L (by decide) (by decide) (.inl ⟨HF,O6.of⟩)
   .gi_enter func142,ntmps142;gi_wp2_with (first|(gi_at_call 140;refine(wr8 4 rb _).mono ?_;rintro e wz ⟨rfl,F,w8,J,L,M⟩)|refine Io J ?_);refine TR 0 4 (by simp[results,results142,go_sem,Jj M]) rfl ?_;exact DX h hO hm hb K0 Cj F L (by decide) (by decide) (.inl ⟨HF,O6.of⟩)
 .have f1:¬(12:Int)<=(K.AV.length:Int):=by omega
  have f2:¬(60000:Int)<=(K.BK:Int):=by omega
  gi_enter func142,ntmps142;gi_wp2;generalize hw0:w.alloc V_=D at*;refine CP (P:=prog) No _ rfl rfl (by kernel_rfl) 21 72 [0,1,2,3,4,5,6,7,8,9,10,11,12,13,16,17,18,19] [14,15,20] (by kernel_rfl) (by rfl) (Py r D.heap.size) (λ_ _ _ _ _ h G=>h.mono G) _ _ rfl rfl ?_;gi_wp2;refine⟨rfl,by kernel_rfl,?_,?_,?_⟩
  .intro W G;have d0:=G.has (w:=D.drew) p0;have d7:=G.has (w:=D.drew) p7;have d8:=G.has (w:=D.drew) q8;have d9:=G.has (w:=D.drew) q9
   repeat' (refine Az ?_ ?_)
   all_goals first|exact trivial|gi_wp2
  .intro i Q u W G hu;have KW:Keep No D W:=(p_ No D).drew.then G;obtain rfl|rfl|rfl:=(by simpa using Q:i=14\/i=15\/i=20)
   .refine BJ rfl λKK Qj=>?_
    show wpListIn NF m prog _ _ _ (Act.put (Act.put (Act.put _ (some 36) (u 14)) (some 37) (u 15)) (some 42) (u 20)) _;have cc:=λm=>Qb m W (S_ gi0) r.Ae.length ci0 (AB r.Ae) (by simp[AB]) (az7.keep KW id).cells (F5 _) (by omega)
    gi_wp2_with (gi_at_call 141;refine(cc _).mono ?_;rintro e w1 ⟨K1,v,rfl,Jp⟩);obtain⟨g,c,rfl,hR,E⟩:=VD Jp hL0 (F5 _);exact⟨_,rfl,K1,by unfold Py;rw[if_pos rfl];exact⟨g,c,rfl,hR,Nat.le_trans KW.size E⟩⟩
   .obtain⟨g,c,X,hR,E⟩:∃g c,u 14=Q_ g r.Ae.length c/\Rw 123 1 W g r.Ae.length c (AB r.Ae)/\D.heap.size<=g:=by
     have:=hu 14 (by simp) (by decide)
     unfold Py at this;rwa [if_pos rfl]at this
    refine BJ rfl λKK Qj=>?_
    show wpListIn NF m prog _ _ _ (Act.put (Act.put (Act.put _ (some 36) (u 14)) (some 37) (u 15)) (some 42) (u 20)) _;rw[X];gi_wp2;rw[<-X];exact⟨_,rfl,p_ _ _,by unfold Py;rw[if_neg (by decide),if_pos rfl];exact⟨g,c,by rw[X],hR,E⟩⟩
   .refine BJ rfl λKK Qj=>?_
    show wpListIn NF m prog _ _ _ (Act.put (Act.put (Act.put _ (some 36) (u 14)) (some 37) (u 15)) (some 42) (u 20)) _;have cc:=λm=>Xp m W (S_ gf0) r.fds.length cf0 (Fh r.fds) (by simp[Fh]) (az9.keep KW id).cells (Xl _) (by omega)
    gi_wp2_with (gi_at_call 102;refine(cc _).mono ?_;rintro e w1 ⟨K1,v,rfl,Jp⟩);obtain⟨g,c,rfl,hR,E⟩:=VD Jp hlen0 (Xl _);exact⟨_,rfl,K1,by unfold Py;rw[if_neg (by decide),if_neg (by decide)];exact⟨g,c,rfl,hR,Nat.le_trans KW.size E⟩⟩
  .intro u W G hu;have KW:Keep No D W:=(p_ No D).drew.then G;obtain⟨gi,ci,e15,O,hgi⟩:∃g c,u 15=.agg #[a_ 0,a_ 0,a_ r.P,Q_ g r.Ae.length c]/\Rw 123 1 W g r.Ae.length c (AB r.Ae)/\D.heap.size<=g:=by
    have:=hu 15 (by simp)
    unfold Py at this;rwa [if_neg (by decide),if_pos rfl]at this
   obtain⟨gf,cf,e20,N,hgf⟩:∃g c,u 20=Q_ g r.fds.length c/\Rw 3 1 W g r.fds.length c (Fh r.fds)/\D.heap.size<=g:=by
    have:=hu 20 (by simp)
    unfold Py at this;rwa [if_neg (by decide),if_neg (by decide)]at this
   show wpListIn NF m prog _ _ _ (Act.put (Act.put (Act.put _ (some 36) (u 14)) (some 37) (u 15)) (some 42) (u 20)) _;rw[e15,e20];generalize u 14=v14;have hif:gi≠gf:=by
    obtain⟨c1,a1,_⟩:=O.blk
    obtain⟨c2,a2,_⟩:=N.blk
    exact BL a1 a2 (by decide)
   obtain⟨rc,s⟩:∃rc:PR,rc=⟨0,r.pid,0,0,0,r.P,0,false,0,.nilFunc,Q_ gi r.Ae.length ci,Q_ gf r.fds.length cf,r.Ae,r.fds⟩:=⟨_,rfl⟩;have oal:W.alloc (.cells #[b_ 0,b_ r.pid,.bool false,a_ 0,.nilFunc,a_ 0,a_ 0,a_ r.P,Q_ gi r.Ae.length ci,Q_ gf r.fds.length cf,b_ 0,b_ 0] 128)=W.alloc rc.obj:=(by rw[s];rfl);have hal:(W.alloc rc.obj).heap[W.heap.size]?=some rc.obj:=heap_alloc_new rfl;have Kal:Keep No W (W.alloc rc.obj):=(p_ _ _).alloc _;have az8:=O.keep Kal id;have ba0:=N.keep Kal id;have qP:rc.Ae=r.Ae:=(by rw[s]);have yG:rc.fds=r.fds:=(by rw[s]);have U:rc.en=false:=(by rw[s]);have V:rc.bl=.nilFunc:=(by rw[s]);have bb6:rc.im=Q_ gi rc.Ae.length ci:=(by rw[s]);have bb7:rc.fd=Q_ gf rc.fds.length cf:=(by rw[s]);have lgi:=O.lt;have lgf:=N.lt;obtain⟨h5,M5⟩:=I.br4 (r:=rc) (p:=W.heap.size) (gi:=gi) (gf:=gf) (ci:=ci) (cf:=cf) (KW.then Kal) KW.size hgi hgf (by omega) (by omega) hif hal U V bb6 bb7 (by rw[qP];exact az8) (by rw[yG];exact ba0);have R:K.ps W.heap.size=none:=by
    cases hx:K.ps W.heap.size with
    |none=>rfl
    |some q=>
     have:=(I.ps _ q hx).t
     rw[I.lt _ KW.size]at this;simp at this
   have ca:=λm=>al8 m (W.alloc rc.obj) { K with ps:=BX K.ps W.heap.size rc,T:=QM K.T W.heap.size gi gf } W.heap.size NS rc h5 Ah (by rw[qP];exact hL) hO.sw.fit hO.sw.le (by show K.BK<=100000;omega) (by show K.AV.length<=100;omega)
   have ca2:=λm=>(ca m).mono λe w' x=>ϔ (r:=r) o (by omega) (by rw[s]) U hn yG qP (by rw[s]) (by rw[s]) (by rw[s]) (by rw[s]) V R x
   clear ca;clear s qP yG U V bb6 bb7;have rb5:(W.alloc rc.obj).heap[w.heap.size]?=some (O_ #[a_ 0,a_ 0,.nilFunc] 206):=(KW.then Kal).old rb id;have V5:BV K.T (QM K.T W.heap.size gi gf) D (W.alloc rc.obj):=M5;have tr5:QM K.T W.heap.size gi gf w.heap.size=(0,0):=(DY.fresh V5 _ Cj).trans MR;clear I M5 KW Kal O N az8 ba0 q8 q9 az7 az9 G hu p0 p7 q2 q3 hgi hgf hal e15 e20;gi_wp2_with (gi_at_call 46;refine(ca2 _).mono ?_;rintro e w6 (⟨rfl,h6,M6,hno⟩|⟨q,C,g6,c6,rfl,A,h6,M6,q9,efd⟩))
   .obtain⟨TP,Jn⟩:=hO.fds (K1:={ K with T:=QM K.T W.heap.size gi gf }) (r':=r) (H:=BP K.ps K.AV) ⟨rfl⟩ hm hb rfl rfl rfl rfl rfl o ⟨hO.Eh.ho,hO.Eh.le,hO.Eh.op,hO.Eh.nd,hO.Eh.nz,hO.Eh.nm,hO.Eh.dj⟩ λi _=>rfl
    rw[GX (K:={ K with T:=QM K.T W.heap.size gi gf }) hb]at TP Jn;have V6:=V5.trans M6;have rb6:=M6.old rb5 tr5;gi_wp2_with (first|(gi_at_call 140;refine(wr8 5 rb6 _).mono ?_;rintro e wz ⟨rfl,F,w8,J,L,M⟩)|refine Io J ?_);refine TR 0 5 (by simp[results,results142,go_sem,Jj M]) rfl ?_;exact Ci (K':={ K with T:=QM K.T W.heap.size gi gf }) (x:=0) (y:=5) h.lt K0 Cj ((V6).then F) ((h6).no F) L (by omega) (by omega) (.inl rfl) (TP) (Jn) hb (λ_=>hm) (.inr (.inl ⟨l,hno.out,⟨_,rfl⟩,rfl,rfl,rfl⟩))
   .have V6:=V5.trans M6;have rb6:=M6.old rb5 tr5;have xA:C.kb=K.kb:=(by rw[A.eq]);have t6:EH (λi=>BP K.ps K.AV i+(r.fds.take 0).count (i:Int)) C:=by
     have t:=hO.Eh
     refine EH.congr (H:=BP K.ps K.AV) ?_ λi _=>by simp
     rw[A.eq]
     exact⟨t.ho,t.le,t.op,t.nd,t.nz,t.nm,t.dj⟩
    generalize W.heap.size=p at*;clear oal h5 V5 rb5 tr5 lgi lgf ca2 M6;gi_loopw [55] (λi wr=>∃k:Nat,k<=r.fds.length/\i=b_ k/\ax6 K C K.T D r.fds k wr) (λi _=>r.fds.length-(intOf i).toNat)
    case atStart=>exact⟨0,by omega,rfl,C.desc,h6,V6,t6⟩
    case round=>
     obtain⟨k,hk,rfl,d1,h1,S,B⟩:=hrel
     have J6:({ C with desc:=d1 }:KS).ps p=some q:=A.ps
     obtain⟨g1,c1,p9,Y,tg1,z⟩:=h1.qx J6 A.en
     rw[A.fds]at Y z p9
     obtain⟨rfl,rfl⟩:g1=g6/\c1=c6:=by rw[efd]at z;simp at z;exact⟨z.1.symm,z.2.symm⟩
     by_cases Bv:k<r.fds.length
     .have hg:r.fds[k]?=some r.fds[k]:=Lh Bv;generalize r.fds[k]=n at hg;have d:=Y.O7 rfl hg;obtain rfl|⟨i,rfl,Q⟩:=o.fd n (t_ hg)
      .gi_wp2;go_roundw
       case rel=>
        refine⟨k+1,by omega,by go_num,d1,h1,S,B.congr λi _=>?_⟩
        rw[Jz hg,if_neg (by omega)];rfl
       case measure=>simp[intOf];omega
      .have E:=Rz (p:=K.ps) (i:=i) hm hb;have hcp:0<r.fds.count (i:Int):=List.count_pos_iff.2 (t_ hg);have hct:=Jz (i:=i) hg;rw[if_pos rfl]at hct;have hle:=λj=>hO.oO j
       have Z:∀j,(r.fds.take k).count j<=6:=λj=>Nat.le_trans List.count_le_length (by simp;omega)
       have hd1:0<d1 i:=(by have:=B.ho i Q;simp only at this;omega);have hd2:d1 i<=1000:=(by have t:=B.ho i Q;simp only at t;have:=hle i;have:=Z i;omega);have cs:=λm=>Κ m wr { C with desc:=d1 } i h1 Q hd1 hd2
       rw[show({ C with desc:=d1 }:KS).kb=K.kb from xA]at cs;have f1:((i:Int) !=-1)=true:=(by simp);gi_wp2_with (gi_at_call 193;refine(cs _).mono ?_;rintro e w2 ⟨rfl,h2,M2⟩);go_roundw
       case rel=>
        refine⟨k+1,by omega,by go_num,Aj d1 i (d1 i+1),by rw[<-xA]at h2;exact h2,S.trans M2,(B.share hd1 (λj hj=>?_) Q).congr λj _=>?_⟩
        .have a1:=hle j;have a2:=Z j;have a3:=hle i;have a4:=Z i;simp only[Aj];split<;>omega
        .unfold Aj;split
         .rename_i e;subst e;rw[hct];omega
         .rename_i e;rw[Jz hg,if_neg (by omega)];rfl
       case measure=>simp[intOf];omega
     .obtain rfl:k=r.fds.length:=(by omega);rw[List.take_length]at B;rw[<-A.fds]at B;obtain⟨TP,Jn⟩:=hO.born (b:=b) (q:=q) (K1:={ C with desc:=d1 }) R (by omega) (by omega) A.ok A.pid A.co (by rw[A.Ae];exact hL) A.sw B (by have:=A.eq;rw[this]);have p0:=h1.JK J6 0;simp[PR.arr]at p0;have hpq:=A.ok.pid;have hbb:({ C with desc:=d1 }:KS).ps b=some r:=(by show C.ps b=_;rw[A.eq];exact(Bg (by rintro rfl;rw[R]at hb;cases hb)).trans hb);have hmb:b∈({ C with desc:=d1 }:KS).AV:=(by show b∈C.AV;rw[A.eq];simp[hm]);have rb7:=S.old rb MR;clear p9 Y xA efd z q9;gi_wp2_with (first|(gi_at_call 152;refine(KT _ _ q.pid (by omega)).mono ?_;rintro e wz ⟨rfl,F⟩;obtain⟨w8,J,L,M⟩:=AU (x:=q.pid) (y:=0) (f:=.nilFunc) (F.old (rb7) id) rfl)|refine Io J ?_);refine TR q.pid 0 (by simp[results,results142,go_sem,Jj M]) rfl ?_;exact Ci (K':={ C with desc:=d1 }) (x:=q.pid) (y:=0) h.lt K0 Cj ((S).then F) ((h1).no F) L (by omega) (by omega) (.inl rfl) (TP) (Jn) hbb (λ_=>hmb) (.inr (.inr ⟨l,p,q,C,d1,R,A,λi Q=>by rw[hO.Eh.ho i Q,<-A.fds];exact B.ho i Q,rfl,rfl,rfl,rfl⟩))
end
section
variable (m:Nat) (w:o_)
end
section
variable (m:Nat) (w:o_)
end
section
variable (m:Nat) (w:o_)
end
section
variable (m:Nat) (w:o_)
end
def Others (call:Nat):Prop:=¬(call:Int)=1/\¬(call:Int)=2/\¬(call:Int)=3/\¬(call:Int)=4/\¬(call:Int)=5/\¬(call:Int)=6/\¬(call:Int)=7/\¬(call:Int)=8/\¬(call:Int)=9/\¬(call:Int)=10/\¬(call:Int)=11/\¬(call:Int)=12/\¬(call:Int)=13/\¬(call:Int)=14
def UQ:Nat->Nat
 |1=>1|3=>1|4=>1|5=>1|6=>3|7=>3|8=>1|9=>1|10=>2|11=>1|13=>1|14=>2|_=>0
def Gi (r:PR) (j:Nat):Nat:=(r.Ae[r.A+j]?).getD 0
theorem VM {r:PR} {j a:Nat} (h:r.Ae[r.A+j]?=some a):Hid (Gi r j=a):=by unfold Hid Gi;rw[h];rfl
def zh (K:KS) (b:Nat) (r:PR):Nat->KS->Nat->Nat->n_->Prop
 |1=>λK' x y f=>x=Gi r 0/\y=0/\f=.nilFunc/\bn K b r (Gi r 0) K'
 |2=>yX K r|3=>NX|4=>NX
 |5=>qW K b r (Gi r 0)
 |6=>qV K b r (Gi r 0) (Gi r 1) (Gi r 2)
 |7=>Zt K r (Gi r 0) (Gi r 1) (Gi r 2)
 |8=>Zu K b r (Gi r 0)
 |9=>bw5 K b r (Gi r 0)
 |10=>NX|11=>NX
 |12=>λK' x y f=>K'=K/\x=r.pid/\y=0/\f=.nilFunc
 |13=>NX
 |14=>bl7 K r (Gi r 0) (Gi r 1)
 |_=>O6 K 12
def LY (K:KS) (b:Nat) (r:PR) (call:Nat):KS->Nat->Nat->n_->Prop:=λK' x y f=>(¬(UQ call=0\/r.A+UQ call<=r.Ae.length)/\O6 K 1 K' x y f)\/((UQ call=0\/r.A+UQ call<=r.Ae.length)/\zh K b r call K' x y f)
theorem θ {K:KS} {b:Nat} {r:PR} {call:Nat} (h:Others call):LY K b r call K 0 12 .nilFunc:=by
 obtain⟨g,i,j,k,l,m,n,o,p,a,c,d,e,f⟩:=h;refine .inr ⟨.inl ?_,?_⟩
 .unfold UQ;split<;>first|rfl|(exfalso;omega)
 .unfold zh;split<;>first|exact O6.of|(exfalso;omega)
section
variable (m:Nat) (w:o_)
theorem rG (K:KS) (NC NS b call:Nat) (r:PR) (h:A8 K w) (hO:GK NC NS K) (hm:b∈K.AV) (hb:K.ps b=some r) (hn:r.en=false) (ca:∀m w,P_ m 139 #[a_ (call:Nat)] w fun e w'=>e=.returned (b_ 0)/\w'=w) (hc:call=2\/call=12\/Others call):
  P_ m 96 #[R_ K.kb,R_ b,a_ (call:Nat)] w (Kr (LY K b r call) NC NS b K w):=by
 have o:=hO.pr b r hb;obtain⟨n,H,q⟩:=Oa w;have j:=h.no n;have N:K.T w.heap.size=(0,0):=h.lt _ (w_ _);obtain⟨gi,ci,G,t,tgi,S⟩:=j.qw hb hn;have C:=j.JK hb 5;simp[PR.arr]at C;gi_enter func96,ntmps96;gi_wp2;generalize U:w.alloc V_=a at*;refine CV 15 155 ?_;gi_wp2_with (first|(gi_at_call 139;refine(ca _ a.drew).mono ?_;rintro e w1 ⟨rfl,rfl⟩)|(gi_at_call 138;refine(OJ b r.A _ a.drew).mono ?_;rintro e w1 ⟨rfl,rfl⟩));refine Fg ?_ ?_
 .intro W k;have d5:=k.has (w:=a.drew) C;have d8:=k.has (w:=a.drew) G
  repeat' (refine Az ?_ ?_)
  all_goals first|exact trivial|gi_wp2_with (first|(gi_at_call 139;refine(ca _ W).mono ?_;rintro e w1 ⟨rfl,rfl⟩)|(gi_at_call 138;refine(OJ b r.A _ W).mono ?_;rintro e w1 ⟨rfl,rfl⟩))
 .intro W k;have KW:Keep No a W:=(p_ No a).drew.then k;gi_wp2_with fail;refine(clone_nil _ W).mono ?_;rintro e w1 ⟨rfl,D⟩;have c:Keep No a w1:=KW.then D;have l:=c.old H id;clear t D KW k C G;obtain rfl|rfl|hc:=hc
  .have P:=λm=>ai2 m w1 K NC NS b r (j.no c) hO hm hb hn
   gi_wp2_with (first|(gi_at_call 142;refine(P _).mono ?_;rintro e w2 ⟨J,x,y,f,rfl,V,X,F,R,s,O,M,⟨r2,L,z⟩,u⟩;have E:=(BV.no c j.lt).trans M;obtain⟨I,d,g,i⟩:=AU (x:=x) (y:=y) (f:=f) (E.old H N) F.one)|refine Io d ?_);refine bodyPost_ret (v:=.agg #[a_ x,a_ y,f]) (by simp[results,results96,go_sem,Jj i]) rfl ?_;exact Ci (K':=J) (x:=x) (y:=y) h.lt n q E R g V X F s O L z (.inr ⟨.inl rfl,u⟩)
  .have Q:=(j.no c).JK hb 0;simp[PR.arr]at Q;have hp:=o.pid;gi_wp2_with (first|(gi_at_call 152;refine(KT _ _ r.pid (by omega)).mono ?_;rintro e wz ⟨rfl,p⟩;obtain⟨I,d,g,i⟩:=AU (x:=r.pid) (y:=0) (f:=.nilFunc) (p.old (l) id) rfl)|refine Io d ?_);refine TR r.pid 0 (by simp[results,results96,go_sem,Jj i]) rfl ?_;exact DX h hO hm hb n q (c.then p) g (by omega) (by decide) (.inr ⟨.inl rfl,rfl,rfl,rfl,rfl⟩)
  .have B:=θ (K:=K) (b:=b) (r:=r) hc;obtain⟨n1,n2,n3,n4,n5,n6,n7,n8,n9,Y,Z,n12,n13,n14⟩:=hc;gi_wp2_with (first|(gi_at_call 140;refine(wr8 12 l _).mono ?_;rintro e wz ⟨rfl,p,I,d,g,i⟩)|refine Io d ?_);refine TR 0 12 (by simp[results,results96,go_sem,Jj i]) rfl ?_;exact DX h hO hm hb n q (c.then p) g (by decide) (by decide) B
end
section
variable (m:Nat) (w:o_)
end
section
variable (m:Nat) (w:o_)
theorem rF (K:KS) (NC NS b call:Nat) (r:PR) (h:A8 K w) (hO:GK NC NS K) (hm:b∈K.AV) (hb:K.ps b=some r) (hn:r.en=false) (ca:∀m w,P_ m 139 #[a_ (call:Nat)] w fun e w'=>e=.returned (b_ 3)/\w'=w) (hc:call=6\/call=7):
  P_ m 96 #[R_ K.kb,R_ b,a_ (call:Nat)] w (Kr (LY K b r call) NC NS b K w):=by
 have o:=hO.pr b r hb;have hL:=(hO.co.pl b r hb).1;have J:=o.A;obtain⟨I,rb,Q⟩:=Oa w;have z:=h.no I;have MR:K.T w.heap.size=(0,0):=h.lt _ (w_ _);obtain⟨l,ci,H,d,tgi,him⟩:=z.qw hb hn;have jw:=d.le;have P:=z.JK hb 5;simp[PR.arr]at P;by_cases t:r.A+3<=r.Ae.length
 .obtain⟨a0,M⟩:∃v,r.Ae[r.A+0]?=some v:=⟨_,Lh (by omega)⟩;have b0:=o.Ae a0 (t_ M);have j0:(w.alloc V_).cell? (T_ l (r.A+0))=some (a_ (a0:Nat)):=(d.cell (by omega)).trans (by rw[AB,List.getElem?_map,M];rfl);obtain⟨a1,N⟩:∃v,r.Ae[r.A+1]?=some v:=⟨_,Lh (by omega)⟩;have b1:=o.Ae a1 (t_ N);have j1:(w.alloc V_).cell? (T_ l (r.A+1))=some (a_ (a1:Nat)):=(d.cell (by omega)).trans (by rw[AB,List.getElem?_map,N];rfl);obtain⟨a2,O⟩:∃v,r.Ae[r.A+2]?=some v:=⟨_,Lh (by omega)⟩;have b2:=o.Ae a2 (t_ O);have j2:(w.alloc V_).cell? (T_ l (r.A+2))=some (a_ (a2:Nat)):=(d.cell (by omega)).trans (by rw[AB,List.getElem?_map,O];rfl);have v0:=VM M;have v1:=VM N;have v2:=VM O;clear M N O;gi_enter func96,ntmps96;gi_wp2;generalize Z:w.alloc V_=a at*;refine CV 15 155 ?_;gi_wp2_with (first|(gi_at_call 139;refine(ca _ a.drew).mono ?_;rintro e w1 ⟨rfl,rfl⟩)|(gi_at_call 138;refine(GV b l ci r.Ae.length 3 r.A _ a.drew H (by omega) J hL jw t).mono ?_;rintro e w1 ⟨rfl,rfl⟩));refine Fg ?_ ?_
  .intro W i;have d5:=i.has (w:=a.drew) P;have X:=i.has (w:=a.drew) H
   repeat' (refine Az ?_ ?_)
   all_goals first|exact trivial|gi_wp2_with (first|(gi_at_call 139;refine(ca _ W).mono ?_;rintro e w1 ⟨rfl,rfl⟩)|(gi_at_call 138;refine(GV b l ci r.Ae.length 3 r.A _ W X (by omega) J hL jw t).mono ?_;rintro e w1 ⟨rfl,rfl⟩))
  .intro W i;have KW:Keep No a W:=(p_ No a).drew.then i;gi_wp2_with fail;refine(Qb _ W (T_ l r.A) 3 3 [a_ (a0:Nat),a_ (a1:Nat),a_ (a2:Nat)] rfl (λj u k=>by
    match j,k with
    |0,k=>simp at k;subst k;exact KW.has j0
    |1,k=>simp at k;subst k;exact KW.has j1
    |2,k=>simp at k;subst k;exact KW.has j2
    ) (by simp[Value.oneCell']) (by omega)).mono ?_;rintro e w1 ⟨K1,v,rfl,Jp⟩;obtain⟨g,cap,rfl,L,_⟩:=VD Jp (by omega) (by simp[Value.oneCell']);have jk:Keep No a w1:=KW.then K1;have d0:w1.cell? (S_ g)=some (a_ (a0:Nat)):=(L.cell (by omega)).trans rfl;have d1:w1.cell? (T_ g 1)=some (a_ (a1:Nat)):=(L.cell (by omega)).trans rfl;have d2:w1.cell? (T_ g 2)=some (a_ (a2:Nat)):=(L.cell (by omega)).trans rfl;clear Jp d L K1 KW i P H j0 j1 j2;obtain rfl|rfl:=hc
   .gi_wp2;refine CV 11 155 ?_;gi_wp2;refine Fg ?_ ?_
    .intro n c;have e0:=c.has (w:=w1.drew) d0;have e1:=c.has (w:=w1.drew) d1;have e2:=c.has (w:=w1.drew) d2
     repeat' (refine Az ?_ ?_)
     all_goals first|exact trivial|gi_wp2
    .intro n c;have KW2:Keep No a n:=jk.then ((p_ No w1).drew.then c);have V:=λm=>ad4 m n K NC NS b a0 a1 a2 r (z.no KW2) hO hm hb hn b0 b1 b2
     gi_wp2_with (first|(gi_at_call 146;refine(V _).mono ?_;rintro e w2 ⟨C,x,y,f,rfl,hx,hy,G,Y,p,U,S,⟨r2,R,s⟩,q⟩;have E:=(BV.no KW2 z.lt).trans S;obtain⟨w8,B,D,F⟩:=AU (x:=x) (y:=y) (f:=f) (E.old rb MR) G.one)|refine Io B ?_);refine bodyPost_ret (v:=.agg #[a_ x,a_ y,f]) (by simp[results,results96,go_sem,Jj F]) rfl ?_;exact Ci (K':=C) (x:=x) (y:=y) h.lt I Q E Y D hx hy G p U R s (.inr ⟨.inr t,by show qV K b r (Gi r 0) (Gi r 1) (Gi r 2) C x y f;rw[v0.out,v1.out,v2.out];exact q⟩)
   .gi_wp2;refine CV 11 155 ?_;gi_wp2;refine Fg ?_ ?_
    .intro n c;have e0:=c.has (w:=w1.drew) d0;have e1:=c.has (w:=w1.drew) d1;have e2:=c.has (w:=w1.drew) d2
     repeat' (refine Az ?_ ?_)
     all_goals first|exact trivial|gi_wp2
    .intro n c;have KW2:Keep No a n:=jk.then ((p_ No w1).drew.then c);have V:=λm=>zV m n K NC NS b a0 a1 a2 r (z.no KW2) hO hm hb hn b0 b1 b2
     gi_wp2_with (first|(gi_at_call 147;refine(V _).mono ?_;rintro e w2 ⟨C,x,y,f,rfl,hx,hy,G,Y,p,U,S,⟨r2,R,s⟩,q⟩;have E:=(BV.no KW2 z.lt).trans S;obtain⟨w8,B,D,F⟩:=AU (x:=x) (y:=y) (f:=f) (E.old rb MR) G.one)|refine Io B ?_);refine bodyPost_ret (v:=.agg #[a_ x,a_ y,f]) (by simp[results,results96,go_sem,Jj F]) rfl ?_;exact Ci (K':=C) (x:=x) (y:=y) h.lt I Q E Y D hx hy G p U R s (.inr ⟨.inr t,by show Zt K r (Gi r 0) (Gi r 1) (Gi r 2) C x y f;rw[v0.out,v1.out,v2.out];exact q⟩)
 .gi_enter func96,ntmps96;gi_wp2;generalize Z:w.alloc V_=a at*;refine CV 15 155 ?_;gi_wp2_with (first|(gi_at_call 139;refine(ca _ a.drew).mono ?_;rintro e w1 ⟨rfl,rfl⟩)|(gi_at_call 138;refine(MB b l ci r.Ae.length 3 r.A _ a.drew H (by omega) (by omega) J t).mono ?_;rintro e w1 ⟨rfl,rfl⟩));refine Fg ?_ ?_
  .intro W i;have d5:=i.has (w:=a.drew) P;have X:=i.has (w:=a.drew) H
   repeat' (refine Az ?_ ?_)
   all_goals first|exact trivial|gi_wp2_with (first|(gi_at_call 139;refine(ca _ W).mono ?_;rintro e w1 ⟨rfl,rfl⟩)|(gi_at_call 138;refine(MB b l ci r.Ae.length 3 r.A _ W X (by omega) (by omega) J t).mono ?_;rintro e w1 ⟨rfl,rfl⟩))
  .intro W i;have KW:Keep No a W:=(p_ No a).drew.then i;have rbW:=KW.old rb id;gi_wp2_with (first|(gi_at_call 140;refine(wr8 1 rbW _).mono ?_;rintro e wz ⟨rfl,Kz,w8,B,D,F⟩)|refine Io B ?_);refine TR 0 1 (by simp[results,results96,go_sem,Jj F]) rfl ?_;exact DX h hO hm hb I Q (KW.then Kz) D (by decide) (by decide) (.inl ⟨by rw[show UQ call=3 by obtain rfl|rfl:=hc<;>rfl];omega,O6.of⟩)
end
section
variable (m:Nat) (w:o_)
theorem OE (call n:Nat) (h:(call,n)∈[(1,1),(2,0),(3,1),(4,1),(5,1),(6,3),(7,3),(8,1),(9,1),(10,2),(11,1),(12,0),(13,1),(14,2)]):P_ m 139 #[a_ (call:Nat)] w λe w'=>e=.returned (b_ n)/\w'=w:=by
 simp only[r_,Prod.mk.injEq,List.not_mem_nil,or_false]at h;obtain⟨rfl,rfl⟩|⟨rfl,rfl⟩|⟨rfl,rfl⟩|⟨rfl,rfl⟩|⟨rfl,rfl⟩|⟨rfl,rfl⟩|⟨rfl,rfl⟩|⟨rfl,rfl⟩|⟨rfl,rfl⟩|⟨rfl,rfl⟩|⟨rfl,rfl⟩|⟨rfl,rfl⟩|⟨rfl,rfl⟩|⟨rfl,rfl⟩:=h
 all_goals
  gi_enter func139,ntmps139
  gi_wp2
  go_ret
  exact⟨by simp,rfl⟩
end
end Go.Fxa
