/- A process gets another image. -/
import Derived.Test.YtmhplpfpcnjekaaGreatA31
namespace Go.Fxa
open Conc Proofs RowKit Proofs.Tryz
set_option maxRecDepth 1000000
set_option maxHeartbeats 0
variable {T:Tag} {w:o_} {g b a:Nat} {K:KS} {r:PR} {Af:List Nat}
theorem BN.bk9 {T':Tag} {w0:o_} {t:Nat×Nat} (h:BN T T' w0 w) (d:w0.heap.size<=g) (e:g<w.heap.size) (c:T' g=(0,0)):BN T (Bg T' g t) w0 w:=by
 refine⟨Dh.keep h,λb a=>?_,λ_ _ _=>trivial,λb a=>?_,λb a=>?_⟩
 .have:=Dh.old h b a;rw[AP (by rintro rfl;rw[c]at this;exact a this.symm)];exact this
 .rw[AP zD];exact Dh.lt h b a
 .rw[AP zD];exact Dh.fresh h b a
theorem AV.bk9 {p:Nat} (h:AV K w) (V:K.T g=(0,0)) (W:g<w.heap.size):AV { K with T:=Bg K.T g (7,p) } w:=by
 have tag:∀{b t},K.T b=t->t≠(0,0)->Bg K.T g (7,p) b=t:=fun {b t} k s=>by rw[AP (by rintro rfl;exact s (k.symm.trans V))];exact k
 have j:∀{b t},Bg K.T g (7,p) b=t->t.1≠7->K.T b=t:=fun {b t} k s=>by
  by_cases e:b=g
  .subst e;rw[AY]at k;subst k;exact ql rfl s
  .rwa [AP e]at k
 have C:∀{b M v l},RU K.T w b M v l->RU (Bg K.T g (7,p)) w b M v l:=fun {b M v l} h=>by
  obtain h|⟨x,c,a1,a2,m,D,E⟩:=h
  .exact .inl h
  .exact .inr ⟨x,c,a1,a2,m,D,tag E zF⟩
 have op:∀{v o},O3 K.T v o->O3 (Bg K.T g (7,p)) v o:=fun {v o} ⟨b,h⟩=>⟨b,h.imp (λ⟨h,f,k,s⟩=>⟨h,f,tag k zF,s⟩) (Or.imp (λh=>⟨h.1,tag h.2.1 zF,h.2.2⟩) (λh=>⟨h.1,tag h.2.1 zF,h.2.2⟩))⟩
 obtain⟨⟨J,k1,k2⟩,L,N,pr,O,u,R,Q,U,S,lt,F⟩:=h;refine⟨⟨J,k1,⟨k2.c0,k2.c1,k2.c2,k2.c3,λi A=>⟨(k2.nm i A).1,λb e=>tag ((k2.nm i A).2 b e) zF⟩,?_,λi A=>let ⟨a,b,c,d⟩:=k2.en i A;⟨a,b,c,λe=>op (d e)⟩⟩⟩,L,N,pr,λb r e=>?_,⟨λb e=>?_,λb e=>?_,λb c e=>?_,λb e=>?_,λb e=>?_⟩,tag R zF,tag Q zF,tag U zF,tag S zF,λb z=>?_,F.to λb n e=>⟨j e zF,id⟩⟩
 .obtain⟨v,a,b⟩:=k2.nl;obtain⟨b|⟨x,c,a1,a2,m⟩,B⟩:=b
  .exact⟨v,a,.inl b,λb z=>tag (B b z) zF⟩
  .exact⟨v,a,.inr ⟨x,c,a1,a2,tag m zF⟩,λb z=>tag (B b z) zF⟩
 .have P:=O b r e;refine⟨tag P.t zF,P.o,λe=>?_,λe=>?_,?_,P.no⟩
  .obtain⟨x,c,a1,a2,m⟩:=P.im e;exact⟨x,c,a1,a2,tag m zF⟩
  .obtain⟨x,c,a1,a2,m⟩:=P.fd e;exact⟨x,c,a1,a2,tag m zF⟩
  .obtain h|⟨x,y,k,s,G,H,I⟩|⟨q,k,s⟩:=P.bl
   .exact .inl h
   .exact .inr (.inl ⟨x,y,k,s,G,tag H zF,tag I zF⟩)
   .exact .inr (.inr ⟨q,k,tag s zF⟩)
 .obtain⟨x,a1,a2⟩:=u.file b (j e zF);exact⟨x,a1,C a2⟩
 .obtain⟨x,a1,a2⟩:=u.pipe b (j e zF);exact⟨x,a1,C a2⟩
 .obtain⟨a1,a2,m⟩:=u.GI b c (j e zF);exact⟨a1,tag a2 zF,m⟩
 .obtain⟨a1,a2⟩:=u.rend b (j e zF);exact⟨a1,tag a2 zF⟩
 .obtain⟨a1,a2⟩:=u.TM b (j e zF);exact⟨a1,tag a2 zF⟩
 .exact(AP zD).trans (lt b z)
theorem AV.by9 {c:Nat} (h:AV K w) (s:K.ps b=some r) (u:r.en=false) (q:Rw 123 1 w g Af.length c (Az Af)) (p:K.T g=(7,b)):AV (K.Bi b { r with im:=P_ g Af.length c,Af:=Af }) (w.setCell (S_ b 8) (P_ g Af.length c)):=by
 have a:=h.ps b r s;have j:g≠b:=λe=>by rw[e,a.t]at p;simp at p
 have KS:Ac (At b) w (w.setCell (S_ b 8) (P_ g Af.length c)):=(Ac.refl _ _).setCell _ λ_=>rfl
 have M:Dh K.T K.T (λt=>t=(6,b)\/t=(7,b)\/t=(8,b)\/t=(9,b)) (λt=>t=(6,b)\/t=(7,b)\/t=(8,b)\/t=(9,b)) w (w.setCell (S_ b 8) (P_ g Af.length c)):=Dh.of (KS.on λk _ e=>by subst e;exact .inl a.t) h.lt;refine h.jF M ⟨a.t,?_,λe=>⟨g,c,rfl,q.keep KS j,p⟩,λe=>?_,?_,λe=>ql (show r.en=true from e) (by simp[u])⟩
 .exact Ap a.o _
 .obtain⟨x,c,a1,a2,d⟩:=a.fd e;exact⟨x,c,a1,a2.keep KS (λe=>by rw[show x=b from e,a.t]at d;simp at d),d⟩
 .obtain h|⟨x,y,l,m,n,f,i⟩|h:=a.bl
  .exact .inl h
  .exact .inr (.inl ⟨x,y,l,KS.old m (λe=>by rw[show x=b from e,a.t]at f;simp at f),KS.old n (λe=>by rw[show y=b from e,a.t]at i;simp at i),f,i⟩)
  .exact .inr (.inr h)
theorem Eo.become {NC NS g3 c3:Nat} {v:n_} {O:KS} (h:Eo NC NS K) (U:b∈K.Aw) (R:K.ps b=some r) (W:r.en=false) (S:(Aq K.swap (Ai Af.length)).1=some a) (Z:∀x∈Af,x<65536) (Y:∃k,Af.length=8*k/\1<=k/\k<=16) (Q:BR { K with swap:=(Aq K.swap (Ai Af.length)).2 } O) (V:BU NC (0,0) O) (X:O.ps b=some { r with co:=-1 }):
  Eo NC NS ({ (O.swap' (BX O.swap r.sw (Ai r.Af.length)) g3 c3)with T:=T }.Bi b { r with co:=-1,sw:=a,im:=v,Af:=Af })/\Rel b K ({ (O.swap' (BX O.swap r.sw (Ai r.Af.length)) g3 c3)with T:=T }.Bi b { r with co:=-1,sw:=a,im:=v,Af:=Af }):=by
 have e2:O.Aw=K.Aw:=Q.Aw;have e3:O.swap=(Aq K.swap (Ai Af.length)).2:=by rw[Q.eq]
 have d:JL b K.ps (C9 O.ps b { r with co:=-1,sw:=a,im:=v,Af:=Af }):=(Q.else b:JL b K.ps O.ps).trans JL.set;have o:=h.pr b r R;obtain⟨L,I,J,_⟩:=o.len W;obtain⟨F,g,l,m⟩:=Y;have u:1<=Ai r.Af.length:=by unfold Ai;omega
 have p:=h.sw.pl b r R;obtain⟨z,_,H⟩:=Jf (n:=Ai Af.length) h.sw.so;obtain⟨M,G,N⟩:=H _ S;have C:=QO (a:=r.sw) (n:=Ai r.Af.length) z u p;refine h.step (b:=b) (r:=r) (r':={ r with co:=-1,sw:=a,im:=v,Af:=Af }) e2 (by show O.BD=K.BD;rw[Q.eq]) (by show O.kb=K.kb;rw[Q.eq]) d R Aj ⟨o.A,o.B,o.P,o.st,o.pid,o.par,Z,o.fds,o.fd,λ_=>⟨F,g,l,m⟩,λe=>ql (show r.en=true from e) (by simp[W])⟩ rfl ?_ ?_ ?_
 .refine V.same rfl (λi=>BO λk _=>?_) λk q c=>?_
  .show FX i (C9 O.ps b _) k=_;by_cases e:k=b
   .subst e;rw[Ej Aj,Ej X];simp
   .unfold FX;rw[BH e]
  .have c:C9 O.ps b _ k=some q:=c;by_cases e:k=b
   .subst e;rw[Aj]at c;cases c;exact⟨by show Af.length<=128;omega,.inl rfl⟩
   .rw[BH e]at c;exact V.pl k q c
 .refine h.sw.step (b:=b) e2 h.nd U d R Aj ?_ ?_ (Nat.zero_le _) G λi=>?_
  .show Sound NS (BX O.swap r.sw (Ai r.Af.length));rw[e3];exact C.1
  .show Zu (BX O.swap r.sw (Ai r.Af.length));rw[e3];exact Yi u z (Yh h.sw.ϱ) λy D E=>by have:=h.sw.mine U R y D E;have:=Q9 S y;omega
  .show D5 i (BX O.swap r.sw (Ai r.Af.length))+OU i a (Ai Af.length)+_=_;have:=Q9 S i;rw[e3,VI u];omega
 .have t:=h.Ef;have s:EK (BM K.ps K.Aw) ({ (O.swap' (BX O.swap r.sw (Ai r.Af.length)) g3 c3)with T:=T }.Bi b { r with co:=-1,sw:=a,im:=v,Af:=Af }):=by
   have d1:O.desc=K.desc:=by rw[Q.eq]
   have d2:O.op=K.op:=by rw[Q.eq]
   have d3:O.ef=K.ef:=by rw[Q.eq]
   have d4:O.nl=K.nl:=by rw[Q.eq]
   have w:O.nm=K.nm:=by rw[Q.eq]
   refine⟨?_,t.le,?_,?_,?_,?_,?_⟩
   .show ∀i,i<20->O.desc i=_;rw[d1];exact t.ho
   .show ∀f,O.op f=DI O.desc O.ef f;rw[d1,d2,d3];exact t.op
   .show O.nl.Nodup;rw[d4];exact t.nd
   .show ∀f∈O.nl,1<=O.op f;rw[d4,d2];exact t.nz
   .show ∀i j f,i<16->j<16->O.nm i=some f->O.nm j=some f->i=j;rw[w];exact t.nm
   .show ∀i f,i<16->O.nm i=some f->f ∉ O.nl;rw[w,d4];exact t.dj
  refine s.congr λi _=>?_
  have:=QN (i:=i) h.nd U d R Aj;show BM (C9 O.ps b _) O.Aw i=_;rw[e2];simp only at this;omega
theorem bb6 (w:o_) (n:Nat) (c:n<=1000):Rw 123 1 (w.alloc (.cells (madeCells #[a_ 0] n) 123)) w.heap.size n n (Az (List.replicate n 0)):=by
 refine⟨⟨madeCells #[a_ 0] n,Y7 rfl,by simp[madeCells],?_⟩,w_ _,by unfold maxLen;omega,by simp[Az],EF _⟩;apply List.ext_getElem?;intro i;by_cases a:i<n
 .simp[madeCells,a,Nat.mod_one,Az]
 .rw[List.getElem?_eq_none (by simp[madeCells];omega),List.getElem?_eq_none (by simp[Az];omega)]
def ak (ws:List Nat) (n:Nat):List Nat:=ws.take n++(List.replicate n 0).drop (ws.take n).length
def ZI (K:KS) (b:Nat) (r:PR) (Af:List Nat) (K':KS):Prop:=∃a K2 g c T v,(Aq K.swap (Ai Af.length)).1=some a/\dW b { K with swap:=(Aq K.swap (Ai Af.length)).2 } K2/\Ϭ b (KS.Bi { (K2.swap' (BX K2.swap r.sw (Ai r.Af.length)) g c)with T:=T } b { r with co:=-1,sw:=a,im:=v,Af:=Af }) K'
section
variable (m:Nat) (w:o_)
theorem bT (a:f_) (L c A:Nat) (ws:List Nat) (C:ws.length=L) (B:∀j u,(Az ws)[j]?=some u->w.cell? (a.add j)=some u) (E:∀x∈ws,x<65536) (D:1<=A) (F:A<=16):
  O_ m 47 #[.slice (some a) L c,b_ (A:Nat)] w λe w'=>Ac No w w'/\e=.returned (P_ w.heap.size (8*A) (8*A))/\∃Af:List Nat,Af.length=8*A/\(∀x∈Af,x<65536)/\Rw 123 1 w' w.heap.size (8*A) (8*A) (Az Af)/\ag (Af=ak ws (8*A)):=by
 obtain⟨y,s,i,l,n⟩:=info_parts Uk;obtain⟨b,q⟩:∃b,b=8*A:=⟨_,rfl⟩;have f:=run_make (P:=prog) w 116 123 y (a_ 0) underlying116 s i .i64 .i64 b b zD zD (by rw[n];omega) zD;rw[l]at f;simp only[Int.toNat_natCast,Nat.mul_one,Value.cells]at f;have r0:=bb6 w b zD;have p:Ac No w (w.alloc (.cells (madeCells #[a_ 0] b) 123)):=(Ac.refl _ _).alloc _;generalize w.alloc (.cells (madeCells #[a_ 0] b) 123)=w1 at*;have z:(A:Int)*8=b:=zD
 rw[<-q];obtain⟨w2,h,r,R2⟩:=UH (ty:=3) (IQ:=b) (Hu:=b) (CV:=L) (sCap:=c) (o:=0) (ws:=ws.take b) (a:=a) r0 zF (λj v g=>p.has (B j v (by
  simp only[Az,List.getElem?_map,List.getElem?_take]at g ⊢
  split at g
  .exact g
  .simp at g))) (by rw[ed,C];exact Nat.min_comm _ _) (by simp;omega)
 clear q;gi_enter func47,ntmps47;gi_wp2_with (refine MZ rfl (.tmp 9) (.tmp 10) _ rfl rfl rfl h ?_);go_ret;refine⟨p.trans r (λk t e=>ql t (by rw[show k=w.heap.size from e];exact Nat.lt_irrefl _)),zF,_,?_,λx d=>?_,R2,by unfold ag ak;simp⟩
 .simp;omega
 .simp only[List.take_zero,List.nil_append,gJ]at d;obtain d|d:=d
  .exact E x (List.mem_of_mem_take d)
  .have:=List.mem_of_mem_drop d;rw[List.eq_of_mem_replicate this];omega
def bh3 (NC NS b:Nat) (K:KS) (r:PR) (Af:List Nat) (w0:o_) (e:Ending) (w':o_):Prop:=(e=.returned (.bool false)/\AV K w'/\BN K.T K.T w0 w'/\ag ((Aq K.swap (Ai Af.length)).1=none))\/∃K' v a c,e=.returned (.bool true)/\AV K' w'/\Eo NC NS K'/\Rel b K K'/\BN K.T K'.T w0 w'/\K'.ps b=some { r with im:=v,Af:=Af,sw:=a,co:=c }/\b∈K'.Aw/\ag (ZI K b r Af K')
theorem dC (w0:o_) (K:KS) (NC NS b g c:Nat) (r:PR) (Af:List Nat) (h:AV K w) (hO:Eo NC NS K) (hm:b∈K.Aw) (hb:K.ps b=some r) (hn:r.en=false) (hV:BN K.T K.T w0 w) (hg:w0.heap.size<=g) (hg0:K.T g=(0,0)) (hR:Rw 123 1 w g Af.length c (Az Af)) (hw:∀x∈Af,x<65536) (hl:∃k,Af.length=8*k/\1<=k/\k<=16):
  O_ m 197 #[Q_ K.kb,Q_ b,P_ g Af.length c] w (bh3 NC NS b K r Af w0):=by
 have hL:=(hO.co.pl b r hb).1;have h0:AV K w.drew:=h.no (Ac.refl No w).drew;have hNS:=hO.sw.le;have hF:=hO.sw.fit;gi_enter_defers func197,ntmps197;gi_wp2;refine Dl (P:=prog) _ rfl rfl sJ 11 45 [0,1,2,3,4,5] [6,7,8,9,10] sJ (by rfl)
  (Oa (ZA K.kb K.sg) w.drew 6 (bj9 K (Ai Af.length) w.drew) [(7,.tuple #[tA (Aq K.swap (Ai Af.length)).1,tB (Aq K.swap (Ai Af.length)).1]),(8,tA (Aq K.swap (Ai Af.length)).1),(9,tB (Aq K.swap (Ai Af.length)).1),(10,tA (Aq K.swap (Ai Af.length)).1)]) (F7 zF zF) _ _ rfl rfl ?_;gi_wp2_with (gi_at_call 48;refine(F9 _ _ Af.length zD).mono ?_;rintro e w1 ⟨rfl,rfl⟩);refine⟨rfl,sJ,Em,?_,?_,?_⟩
 .intro L' u W j
  repeat' (refine Au ?_ ?_)
  all_goals first|exact eu|gi_wp2_with (gi_at_call 48;refine(F9 _ W Af.length zD).mono ?_;rintro e w1 ⟨rfl,rfl⟩)
 .intro i hi L' u W j hLi hu;obtain rfl|rfl|rfl|rfl|rfl:=(by simpa using hi:i=6\/i=7\/i=8\/i=9\/i=10)
  .obtain rfl:=j.2.1 hLi;refine BC rfl λKK Nc=>?_
   show wpListIn NF m prog _ _ _ (Act.put (Act.put (Act.put (Act.put (Act.put _ (some 16) (u 6)) (some 9) (u 7)) (some 17) (u 8)) (some 18) (u 9)) (some 7) (u 10)) _;gi_wp2_with fail;refine(af8 _ w.drew K (Ai Af.length) NS h0 hF zD (by unfold Ai;omega)).mono ?_;rintro e w1 ⟨rfl,J,M,K1⟩;rw[Uw];gi_wp2;exact⟨_,rfl,F8 j zF K1 ⟨rfl,J,M⟩⟩
  .have e5:=(j.2.2.1 (hu 6 zF wB)).1;exact jT rfl rfl rfl ⟨_,rfl,FP j wB e5 zF⟩
  .have D:=j.2.2.2 (7,.tuple #[tA (Aq K.swap (Ai Af.length)).1,tB (Aq K.swap (Ai Af.length)).1]) zF (hu 7 zF wB);exact RX rfl rfl rfl D rfl ⟨_,rfl,Gi j wB zF⟩
  .have D:=j.2.2.2 (7,.tuple #[tA (Aq K.swap (Ai Af.length)).1,tB (Aq K.swap (Ai Af.length)).1]) zF (hu 7 zF wB);exact RX rfl rfl rfl D rfl ⟨_,rfl,Gi j wB zF⟩
  .have O:=j.2.2.2 (8,tA (Aq K.swap (Ai Af.length)).1) zF (hu 8 zF wB);exact jU rfl rfl rfl ⟨_,rfl,FP j wB O zF⟩
 .intro L' u W j q;obtain⟨e5,J,M⟩:=j.2.2.1 (q 6 zF);have e8:=j.2.2.2 (9,tB (Aq K.swap (Ai Af.length)).1) zF (q 9 zF);have e9:=j.2.2.2 (10,tA (Aq K.swap (Ai Af.length)).1) zF (q 10 zF);have D:=j.2.2.2 (7,.tuple #[tA (Aq K.swap (Ai Af.length)).1,tB (Aq K.swap (Ai Af.length)).1]) zF (q 7 zF);have O:=j.2.2.2 (8,tA (Aq K.swap (Ai Af.length)).1) zF (q 8 zF);simp only at D O e8 e9;show wpListIn NF m prog _ _ _ (Act.put (Act.put (Act.put (Act.put (Act.put _ (some 16) (u 6)) (some 9) (u 7)) (some 17) (u 8)) (some 18) (u 9)) (some 7) (u 10)) _;rw[e5,D,O,e8,e9];have MW:BN K.T K.T w0 W:=(hV.then (Ac.refl No w).drew).trans M;have E:Rw 123 1 W g Af.length c (Az Af):=(hR.keep (Ac.refl No w).drew id).keep (Dh.keep M) (by unfold On;rw[hg0];simp);have ts:=(Jf (n:=Ai Af.length) hO.sw.so).2.1;clear j e5 D O e8 e9 q M;cases ho:(Aq K.swap (Ai Af.length)).1 with
  |none=>
   have hl':=ts ho
   simp only[tA,tB,Option.getD_none,Option.isSome_none]
   gi_wp2
   rw[hl']at J
   refine⟨_,by simp[results,results197,go_sem];rfl,?_⟩
   exact .inl ⟨rfl,J,MW,ho⟩
  |some a=>
   simp only[tA,tB,Option.getD_some,Option.isSome_some]
   have ct:=λm=>Q8 m W { K with swap:=(Aq K.swap (Ai Af.length)).2 } b NC (0,0) r J hb hm hO.nd (hO.co.same rfl (λ_=>rfl) hO.co.pl)
   gi_wp2_with (gi_at_call 52;refine(ct _).mono ?_;rintro e w2 ⟨rfl,d,h2,s,U,C,L,_,B⟩);replace B:ag _:=B
   have qA:d.kb=K.kb:=s.kb
   obtain⟨a8,c8,q8⟩:=h2.im8 L
   have I:=h2.Il L 10
   simp[PR.arr]at q8 I
   have Z:=MW.trans C
   refine BP 9 45 ?_
   gi_wp2_with (gi_at_call 58;refine(EZ _ w2.drew b _ _ _ q8 zD).mono ?_;rintro e w1 ⟨rfl,rfl⟩)
   refine Eb ?_ ?_
   .intro W Y;have d10:=Y.has (w:=w2.drew) I;have d8:=Y.has (w:=w2.drew) q8
    repeat' (refine Au ?_ ?_)
    all_goals first|exact eu|gi_wp2_with (gi_at_call 58;refine(EZ _ W b _ _ _ d8 zD).mono ?_;rintro e w1 ⟨rfl,rfl⟩)
   .intro W2 Y;have KW:Ac No w2 W2:=(Ac.refl No w2).drew.then Y;have R:=h2.no KW;have eS:d.swap=(Aq K.swap (Ai Af.length)).2:=(by rw[s.eq]);have hpl:=hO.sw.pl b r hb;have tk:=Jf (n:=Ai Af.length) hO.sw.so;have hsum:=tk.2.2 a ho;have hsl:d.swap.length+1<=NS:=by
     rw[eS]
     have a1:=tk.1.len
     have a2:=hO.sw.sum
     have a3:=Oe (f:=onS K.ps) hm
     rw[lD hb]at a3
     have o:=(hO.pr b r hb).len hn
     obtain⟨kk,o1,o2,o3⟩:=o
     have:1<=Ai r.Af.length:=by unfold Ai;omega
     omega
    have X:Fit NS d.swap:=(by rw[eS];exact tk.1.fit (by have:=hO.sw.sum;omega));have cg:=λm=>ah0 m W2 d r.sw (Ai r.Af.length) NS R X zD hpl hsl
    rw[qA]at cg;have hV3:=Z.then KW;have hE:=λg3 c3 T v=>hO.become (g3:=g3) (c3:=c3) (T:=T) (v:=v) hm hb hn ho hw hl s U L
    have Gv:Rw 123 1 W2 g Af.length c (Az Af):=(E.keep (Dh.keep C) (by unfold On;rw[show K.T g=(0,0)from hg0];simp)).keep KW id;have G:d.T g=(0,0):=(Dh.fresh C g E.lt).trans hg0;have cn7:d.Aw=K.Aw:=s.Aw;clear X hsl hsum tk eS ct J E MW C U s q8 I ts;gi_wp2_with fail;refine(cg _).mono ?_;rintro e w3 ⟨rfl,g3,c3,z,M3⟩;have LC:BN K.T (Bg d.T g3 (3,0)) w0 w3:=hV3.trans M3;have WW:Rw 123 1 w3 g Af.length c (Az Af):=Gv.keep (Dh.keep M3) (by unfold On;rw[G];simp);have H:(d.swap' (BX d.swap r.sw (Ai r.Af.length)) g3 c3).T g=(0,0):=(Dh.fresh M3 g Gv.lt).trans G;have l:(d.swap' (BX d.swap r.sw (Ai r.Af.length)) g3 c3).ps b=some { r with co:=-1 }:=L;have co2:(d.swap' (BX d.swap r.sw (Ai r.Af.length)) g3 c3).kb=K.kb:=qA;have N:(d.swap' (BX d.swap r.sw (Ai r.Af.length)) g3 c3).Aw=K.Aw:=cn7;have Q:(d.swap' (BX d.swap r.sw (Ai r.Af.length)) g3 c3).T=Bg d.T g3 (3,0):=rfl;rw[<-Q]at LC;have V:=λT v=>hE g3 c3 T v
    clear cg hV3 Z R KW Y h2 M3 hE Gv G L Q;have F:=λT v K' (hx:Ϭ b (KS.Bi { (d.swap' (BX d.swap r.sw (Ai r.Af.length)) g3 c3)with T:=T } b { r with co:=-1,sw:=a,im:=v,Af:=Af }) K')=>(show ZI K b r Af K' from⟨a,d,g3,c3,T,v,ho,B,hx⟩)
    replace F:ag _:=F
    clear B;generalize d.swap' (BX d.swap r.sw (Ai r.Af.length)) g3 c3=y at*;have p8:=z.Il l 8;have p10:=z.Il l 10;simp[PR.arr]at p8 p10;have z8:=z.jy l 8;have z10:=z.jy l 10;have h4:=z.GH (r':={ r with co:=-1,sw:=a }) (i:=10) (v:=b_ (a:Nat)) l ⟨rfl,rfl,rfl,rfl,rfl⟩ rfl (z.ps b _ l).bl;have N4:=z.Ez l (i:=10) (v:=b_ (a:Nat));have hgb:g≠b:=λe=>by have:=(z.ps b _ l).t;rw[<-e,H]at this;simp at this
    have Ϸ:=WW.keep (S:=At b) ((Ac.refl _ _).setCell (p:=(S_ b 10)) (b_ (a:Nat)) λ_=>rfl) hgb;have h5:=h4.bk9 (p:=b) (g:=g) H Ϸ.lt;have V5:=(LC.trans N4).bk9 (t:=(7,b)) hg Ϸ.lt H;have h6:=h5.by9 (b:=b) (r:={ r with co:=-1,sw:=a }) Aj hn Ϸ AY;have V6:=V5.trans (h5.Ez (b:=b) Aj (i:=8) (v:=P_ g Af.length c));have h6:AV ({ y with T:=Bg y.T g (7,b) }.Bi b { r with co:=-1,sw:=a,im:=P_ g Af.length c,Af:=Af }) ((w3.setCell (S_ b 10) (b_ (a:Nat))).setCell (S_ b 8) (P_ g Af.length c)):=(by simp only[KS.Bi,Ut]at h6 ⊢;exact h6);obtain⟨Ϲ,hR6⟩:=V (Bg y.T g (7,b)) (P_ g Af.length c);have cb:=λm u=>wV m _ u ({ y with T:=Bg y.T g (7,b) }.Bi b { r with co:=-1,sw:=a,im:=P_ g Af.length c,Af:=Af }) b NC _ h6 Ϲ.th Aj (by show b∈y.Aw;rw[N];exact hm) Ϲ.nd Ϲ.co (by have:=Ϲ.len;omega)
    rw[show(KS.Bi ({ y with T:=Bg y.T g (7,b) }:KS) b ({ r with co:=-1,sw:=a,im:=P_ g Af.length c,Af:=Af }:PR)).kb=K.kb from co2]at cb;clear z h4 h5 V WW Ϸ LC V5 N4;gi_wp2;refine leavesIn_cons (f:=53) (args:=#[Q_ K.kb,Q_ b]) zF (by intro hh;cases hh) (by simp[go_sem]) (by intro f hf;cases hf;simp) ?_;refine(cb _ _).mono ?_;rintro e u' w' ⟨rfl,rfl,K7,h7,A,hC7,hv7,_,hXi⟩;refine⟨_,by simp[results,results197,go_sem];rfl,?_⟩;obtain⟨co7,hb7⟩:=A.get (b:=b) Aj;exact .inr ⟨K7,_,a,co7,rfl,h7,Ϲ.Ku A hC7,hR6.trans (A.rel b) (by rw[hb];simp) hO.th,V6.trans hv7,hb7,by rw[A.Aw];show b∈y.Aw;rw[N];exact hm,F.out _ _ _ hXi⟩
end
def XK (K:KS) (b:Nat) (r:PR) (n:Nat):KS->Nat->Nat->n_->Prop:=λK' x y f=>(¬(1<=n/\n<=16)/\GU K 13 K' x y f)\/((1<=n/\n<=16)/\(((Aq K.swap (Ai (ak r.Af (8*n)).length)).1=none/\GU K 5 K' x y f)\/(x=0/\y=0/\f=.nilFunc/\ZI K b r (ak r.Af (8*n)) K')))
section
variable (m:Nat) (w:o_)
theorem bd2 (K:KS) (NC NS b n:Nat) (r:PR) (h:AV K w) (hO:Eo NC NS K) (hm:b∈K.Aw) (hb:K.ps b=some r) (hn:r.en=false) (hx:n<65536):
  O_ m 144 #[Q_ K.kb,Q_ b,a_ (n:Nat)] w (FO (XK K b r n) NC NS b K w):=by
 have o:=hO.pr b r hb;obtain⟨j,t,p⟩:=Iw w;have q:=h.no j;have G:K.T w.heap.size=(0,0):=h.lt _ (w_ _);obtain⟨Q,ci,Y,A,Z,S⟩:=q.jm hb hn;by_cases X:n<1
 .have O:(n:Int)<1:=zD
  gi_enter func144,ntmps144;gi_wp2_with (first|(gi_at_call 140;refine(TI 13 t _).mono ?_;rintro e F ⟨rfl,a,E,c,d,g⟩)|refine EX c ?_);refine T_ 0 13 (by simp[results,results144,go_sem,FI g]) rfl ?_;exact BV h hO hm hb j p a d wB wB (.inl ⟨zD,GU.of⟩)
 .have O:¬(n:Int)<1:=zD
  by_cases c2:16<n
  .have P:(16:Int)<(n:Int):=zD;gi_enter func144,ntmps144;gi_wp2_with (first|(gi_at_call 140;refine(TI 13 t _).mono ?_;rintro e F ⟨rfl,a,E,c,d,g⟩)|refine EX c ?_);refine T_ 0 13 (by simp[results,results144,go_sem,FI g]) rfl ?_;exact BV h hO hm hb j p a d wB wB (.inl ⟨zD,GU.of⟩)
  .have P:¬(16:Int)<(n:Int):=zD;gi_enter func144,ntmps144;gi_wp2_with fail;generalize W:w.alloc V_=D at*;have u:=λm=>bT m D (R_ Q) r.Af.length ci n r.Af rfl A.cells o.Af zD zD
   gi_wp2_with (first|(gi_at_call 47;refine(u _).mono ?_;rintro e w1 ⟨H,rfl,J,s,V,R,l⟩;have I:=λm=>dC m w1 D K NC NS b D.heap.size (8*n) r J (q.no H) hO hm hb hn (BN.no H q.lt) (w_ _) (q.lt _ (w_ _)) (by rw[s];exact R) V ⟨n,s,zD,zD⟩;rw[s]at I;clear s)|(gi_at_call 197;refine(I _).mono ?_;rintro e w2 (⟨rfl,v,k,U⟩|⟨N,v2,a2,c2,rfl,v,z,L,k,M,C,B⟩)))
   .have i:=k.old t G;gi_wp2_with (first|(gi_at_call 140;refine(TI 5 i _).mono ?_;rintro e F ⟨rfl,a,E,c,d,g⟩)|refine EX c ?_);refine T_ 0 5 (by simp[results,results144,go_sem,FI g]) rfl ?_;exact BB (K':=K) (x:=0) (y:=5) h.lt j p ((k).then a) ((v).no a) d zD zD (.inl rfl) (hO) (Rel.refl b K) hb (λ_=>hm) (.inr ⟨zD,.inl ⟨by rw[<-l.out];exact U.out,GU.of⟩⟩)
   .have i:=k.old t G;gi_wp2_with (first|(gi_at_call 152;refine(Ed _ _ 0 zD).mono ?_;rintro e F ⟨rfl,a⟩;obtain⟨E,c,d,g⟩:=AA (x:=0) (y:=0) (f:=.nilFunc) (a.old (i) id) rfl)|refine EX c ?_);refine T_ 0 0 (by simp[results,results144,go_sem,FI g]) rfl ?_;exact BB (K':=N) (x:=0) (y:=0) h.lt j p ((k).then a) ((v).no a) d zD zD (.inl rfl) (z) (L) M (λ_=>C) (.inr ⟨zD,.inr ⟨rfl,rfl,rfl,by rw[<-l.out];exact B.out⟩⟩)
end
def br6 (K:KS) (f:Nat) (v:n_) (w:o_):Prop:=(∃a c,v=.slice a 0 c/\ag ((K.ct f).ws=[]))\/∃g c ws,v=P_ g ws.length c/\Rw 123 1 w g ws.length c (Az ws)/\1<=ws.length/\ws.length<=64/\(∀x∈ws,x<65536)/\ag ((K.ct f).ws=ws)
def aH (K:KS) (b:Nat) (r:PR) (i:Nat):KS->Nat->Nat->n_->Prop:=λK' x y f=>
 (i<16/\∃fl ws,K.nm i=some fl/\(K.ct fl).ws=ws/\((ws=[]/\GU K 13 K' x y f)\/(ws≠[]/\(((Aq K.swap (Ai (ak ws (8*Ai ws.length)).length)).1=none/\GU K 5 K' x y f)\/(x=0/\y=0/\f=.nilFunc/\∃K2 r2,ZI K b r (ak ws (8*Ai ws.length)) K2/\K2.ps b=some r2/\K'=K2.Bi b { r2 with P:=0 })))))
 \/(i<16/\K.nm i=none/\GU K 6 K' x y f)\/(16<=i/\GU K 13 K' x y f)
section
variable (m:Nat) (w:o_)
theorem ai7 (K:KS) (i f:Nat) (h:AV K w) (G:i<16) (F:K.nm i=some f):O_ m 207 #[.pointer (some (S_ K.kb 4)),b_ (i:Nat)] w λe w'=>Ac No w w'/\∃v,e=.returned v/\br6 K f v w':=by
 have q:=(h.ϲ G).1;have B:=(h.ϲ G).2 f F;rw[F]at q;simp only[U8,ptr]at q;have C:(i:Int)<16:=zD
 obtain⟨v,z,r⟩:=h.fl.file f B;have D:w.cell? (R_ f)=some v:=(Ah z 0).trans rfl;clear F;obtain⟨a,b⟩:∃a,ag ((K.ct f).ws=a):=⟨_,rfl⟩;rw[b.out]at r;obtain⟨rfl,n⟩|⟨g,c,rfl,y,l,A,E⟩:=r
 .gi_enter func207,ntmps207;gi_wp2_with (gi_at_call 141;refine(di _ w).mono ?_;rintro e w1 ⟨rfl,j⟩);go_ret;exact⟨j,_,rfl,.inl ⟨_,_,rfl,b.out.trans n⟩⟩
 .have u:=λm=>KQ m w (R_ g) a.length c (Az a) (by simp[Az]) y.cells (EF _) zD
  gi_enter func207,ntmps207;gi_wp2_with (gi_at_call 141;refine(u _).mono ?_;rintro e w1 ⟨j,v,rfl,d⟩);go_ret;refine⟨j,v,rfl,?_⟩;by_cases p:0<a.length
  .obtain⟨o,t,rfl,s,_⟩:=QW d p (EF _);exact .inr ⟨o,t,a,rfl,s,p,l,A,b⟩
  .have k:a.length=0:=zD;rw[k]at d;obtain⟨_,⟨rfl,_⟩|⟨o,cap,x,rfl,_⟩⟩:=d
   .exact .inl ⟨_,_,rfl,b.out.trans (List.eq_nil_of_length_eq_zero k)⟩
   .exact .inl ⟨_,_,rfl,b.out.trans (List.eq_nil_of_length_eq_zero k)⟩
theorem be0 (K:KS) (NC NS b i:Nat) (r:PR) (h:AV K w) (hO:Eo NC NS K) (hm:b∈K.Aw) (hb:K.ps b=some r) (hn:r.en=false) (hx:i<65536):
  O_ m 151 #[Q_ K.kb,Q_ b,a_ (i:Nat)] w (FO (aH K b r i) NC NS b K w):=by
 obtain⟨E,H,I⟩:=Iw w;have F:=h.no E;have V:K.T w.heap.size=(0,0):=h.lt _ (w_ _);have cn:=λm=>QL m (w.alloc V_) K i F hx
 gi_enter func151,ntmps151;gi_wp2_with (gi_at_call 205;refine(cn _).mono ?_;rintro e w1 ⟨s,x,rfl,⟨rfl,p,f,G⟩|⟨rfl,hx⟩|⟨rfl,hx⟩⟩)
 .generalize hw0:w.alloc V_=w0 at*;have h1:=F.no s;have cw:=λm=>ai7 m w1 K i f h1 p G
  replace G:ag _:=G
  gi_wp2_with (gi_at_call 207;refine(cw _).mono ?_;rintro e w2 ⟨O,v,rfl,⟨a,c,rfl,q⟩|⟨g,c,t,rfl,hR,l1,l2,hw,q⟩⟩)
  .have rb2:=(s.then O).old H id;gi_wp2_with (first|(gi_at_call 140;refine(TI 13 rb2 _).mono ?_;rintro e U ⟨rfl,j,S,l,n,o⟩)|refine EX l ?_);refine T_ 0 13 (by simp[results,results151,go_sem,FI o]) rfl ?_;exact BB (K':=K) (x:=0) (y:=13) h.lt E I ((BN.no (s.then O) F.lt).then j) ((h1.no O).no j) n zD zD (.inl rfl) (hO) (Rel.refl b K) hb (λ_=>hm) (.inl ⟨p,f,_,G.out,q.out,.inl ⟨rfl,GU.of⟩⟩)
  .have l3:¬(t.length:Int)=0:=zD;have Q:=s.then O;have Z:=λm=>bT m w2 (R_ g) t.length c (Ai t.length) t rfl hR.cells hw (by unfold Ai;omega) (by unfold Ai;omega)
   have n1:1<=Ai t.length/\Ai t.length<=16:=(by unfold Ai;omega);gi_wp2_with (first|(gi_at_call 48;refine(F9 _ _ t.length zD).mono ?_;rintro e w9 ⟨rfl,C⟩;have C:=C.symm;subst C)|(gi_at_call 47;refine(Z _).mono ?_;rintro e w4 ⟨K4,rfl,Af,R,hw4,Ϸ,L⟩;have cb:=λm=>dC m w4 w0 K NC NS b w2.heap.size (8*Ai t.length) r Af (F.no (Q.then K4)) hO hm hb hn (BN.no (Q.then K4) F.lt) Q.size (F.lt _ Q.size) (by rw[R];exact Ϸ) hw4 ⟨_,R,n1.1,n1.2⟩;rw[R]at cb;clear R)|(gi_at_call 197;refine(cb _).mono ?_;rintro e w5 (⟨rfl,u,J,ht⟩|⟨W,v5,X,Y,rfl,u,z,hR5,J,d,M,hXb⟩)<;>try (have p7:=u.Il d 7;simp[PR.arr]at p7;have z7:=u.jy d 7)))
   .have N:=J.old H V;gi_wp2_with (first|(gi_at_call 140;refine(TI 5 N _).mono ?_;rintro e U ⟨rfl,j,S,l,n,o⟩)|refine EX l ?_);refine T_ 0 5 (by simp[results,results151,go_sem,FI o]) rfl ?_;exact BB (K':=K) (x:=0) (y:=5) h.lt E I ((J).then j) ((u).no j) n zD zD (.inl rfl) (hO) (Rel.refl b K) hb (λ_=>hm) (.inl ⟨p,f,_,G.out,q.out,.inr ⟨by rintro rfl;simp at l1,.inl ⟨by rw[<-L.out];exact ht.out,GU.of⟩⟩⟩)
   .have N:=J.old H V;have h6:=u.GH (r':={ r with im:=v5,Af:=Af,sw:=X,co:=Y,P:=0 }) (i:=7) (v:=a_ 0) d ⟨rfl,rfl,rfl,rfl,rfl⟩ rfl (u.ps b _ d).bl;have M6:=J.trans (u.Ez d (i:=7) (v:=a_ 0));have k:=z.pr b _ d;obtain⟨Ϲ,hR6⟩:=z.fds (r':={ r with im:=v5,Af:=Af,sw:=X,co:=Y,P:=0 }) (aI.refl W) M d rfl rfl rfl rfl rfl ⟨k.A,k.B,(by show 0<65536;omega),k.st,k.pid,k.par,k.Af,k.fds,k.fd,k.len,k.off⟩ z.Ef (λi _=>rfl);have hR7:=hR5.trans hR6 (by rw[hb];simp) hO.th;have rb6:=M6.old H V;gi_wp2_with (first|(gi_at_call 152;refine(Ed _ _ 0 zD).mono ?_;rintro e U ⟨rfl,j⟩;obtain⟨S,l,n,o⟩:=AA (x:=0) (y:=0) (f:=.nilFunc) (j.old (rb6) id) rfl)|refine EX l ?_);refine T_ 0 0 (by simp[results,results151,go_sem,FI o]) rfl ?_;exact BB (K':=W.Bi b { r with im:=v5,Af:=Af,sw:=X,co:=Y,P:=0 }) (x:=0) (y:=0) h.lt E I ((M6).then j) ((h6).no j) n zD zD (.inl rfl) (Ϲ) (hR7) (Aj) (λ_=>M) (.inl ⟨p,f,_,G.out,q.out,.inr ⟨by rintro rfl;simp at l1,.inr ⟨rfl,rfl,rfl,W,_,by rw[<-L.out];exact hXb.out,d,rfl⟩⟩⟩)
 .have D:=s.old H id;gi_wp2_with (first|(gi_at_call 140;refine(TI 6 D _).mono ?_;rintro e U ⟨rfl,j,S,l,n,o⟩)|refine EX l ?_);refine T_ 0 6 (by simp[results,results151,go_sem,FI o]) rfl ?_;exact BV h hO hm hb E I (s.then j) n wB wB (.inr (.inl ⟨hx.1,hx.2,GU.of⟩))
 .have D:=s.old H id;gi_wp2_with (first|(gi_at_call 140;refine(TI 13 D _).mono ?_;rintro e U ⟨rfl,j,S,l,n,o⟩)|refine EX l ?_);refine T_ 0 13 (by simp[results,results151,go_sem,FI o]) rfl ?_;exact BV h hO hm hb E I (s.then j) n wB wB (.inr (.inr ⟨hx,GU.of⟩))
end
def sV (call:Nat):Prop:=¬(call:Int)=1/\¬(call:Int)=2/\¬(call:Int)=3/\¬(call:Int)=4/\¬(call:Int)=5/\¬(call:Int)=6/\¬(call:Int)=7/\¬(call:Int)=8/\¬(call:Int)=9/\¬(call:Int)=10/\¬(call:Int)=11/\¬(call:Int)=12/\¬(call:Int)=13/\¬(call:Int)=14
def VV:Nat->Nat
 |1=>1|3=>1|4=>1|5=>1|6=>3|7=>3|8=>1|9=>1|10=>2|11=>1|13=>1|14=>2|_=>0
def DZ (r:PR) (j:Nat):Nat:=(r.Af[r.A+j]?).getD 0
theorem QZ {j:Nat} (h:r.Af[r.A+j]?=some a):ag (DZ r j=a):=by unfold ag DZ;rw[h];rfl
def yc (K:KS) (b:Nat) (r:PR):Nat->KS->Nat->Nat->n_->Prop
 |1=>λK' x y f=>x=DZ r 0/\y=0/\f=.nilFunc/\ab6 K b r (DZ r 0) K'
 |2=>xR K r
 |3=>az K b r (DZ r 0)
 |4=>XK K b r (DZ r 0)
 |5=>aG K b r (DZ r 0)
 |6=>aF K b r (DZ r 0) (DZ r 1) (DZ r 2)
 |7=>Vm K r (DZ r 0) (DZ r 1) (DZ r 2)
 |8=>Vo K b r (DZ r 0)
 |9=>zZ K b r (DZ r 0)
 |10=>RZ K b r (DZ r 0) (DZ r 1)
 |11=>aH K b r (DZ r 0)
 |12=>λK' x y f=>K'=K/\x=r.pid/\y=0/\f=.nilFunc
 |13=>Q4 K (DZ r 0)
 |14=>aC K r (DZ r 0) (DZ r 1)
 |_=>GU K 12
def Ue (K:KS) (b:Nat) (r:PR) (call:Nat):KS->Nat->Nat->n_->Prop:=λK' x y f=>(¬(VV call=0\/r.A+VV call<=r.Af.length)/\GU K 1 K' x y f)\/((VV call=0\/r.A+VV call<=r.Af.length)/\yc K b r call K' x y f)
theorem al8 {call:Nat} (h:sV call):Ue K b r call K 0 12 .nilFunc:=by
 obtain⟨g,i,j,k,l,m,n,o,p,a,c,d,e,f⟩:=h;refine .inr ⟨.inl ?_,?_⟩
 .unfold VV;split<;>first|rfl|(exfalso;omega)
 .unfold yc;split<;>first|exact GU.of|(exfalso;omega)
section
variable (m:Nat) (w:o_)
theorem gp (K:KS) (NC NS b call:Nat) (r:PR) (h:AV K w) (hO:Eo NC NS K) (hm:b∈K.Aw) (hb:K.ps b=some r) (hn:r.en=false) (ca:∀m w,O_ m 139 #[a_ (call:Nat)] w fun e w'=>e=.returned (b_ 0)/\w'=w) (hc:call=2\/call=12\/sV call):
  O_ m 96 #[Q_ K.kb,Q_ b,a_ (call:Nat)] w (FO (Ue K b r call) NC NS b K w):=by
 have o:=hO.pr b r hb;obtain⟨n,H,q⟩:=Iw w;have j:=h.no n;have J:K.T w.heap.size=(0,0):=h.lt _ (w_ _);obtain⟨gi,ci,G,t,xn,S⟩:=j.jm hb hn;have C:=j.Il hb 5;simp[PR.arr]at C;gi_enter func96,ntmps96;gi_wp2;generalize U:w.alloc V_=a at*;refine BP 15 155 ?_;gi_wp2_with (first|(gi_at_call 139;refine(ca _ a.drew).mono ?_;rintro e w1 ⟨rfl,rfl⟩)|(gi_at_call 138;refine(Tn b r.A _ a.drew).mono ?_;rintro e w1 ⟨rfl,rfl⟩));refine Eb ?_ ?_
 .intro W k;have d5:=k.has (w:=a.drew) C;have d8:=k.has (w:=a.drew) G
  repeat' (refine Au ?_ ?_)
  all_goals first|exact eu|gi_wp2_with (first|(gi_at_call 139;refine(ca _ W).mono ?_;rintro e w1 ⟨rfl,rfl⟩)|(gi_at_call 138;refine(Tn b r.A _ W).mono ?_;rintro e w1 ⟨rfl,rfl⟩))
 .intro W k;have KW:Ac No a W:=(Ac.refl No a).drew.then k;gi_wp2_with fail;refine(di _ W).mono ?_;rintro e w1 ⟨rfl,D⟩;have c:Ac No a w1:=KW.then D;have l:=c.old H id;clear t D KW k C G;obtain rfl|rfl|hc:=hc
  .have P:=λm=>bd4 m w1 K NC NS b r (j.no c) hO hm hb hn
   gi_wp2_with (first|(gi_at_call 142;refine(P _).mono ?_;rintro e w2 ⟨N,x,y,f,rfl,V,X,F,R,s,L,O,⟨r2,M,z⟩,u⟩;have E:=(BN.no c j.lt).trans O;obtain⟨I,d,g,i⟩:=AA (x:=x) (y:=y) (f:=f) (E.old H J) F.one)|refine EX d ?_);refine bodyPost_ret (v:=.agg #[a_ x,a_ y,f]) (by simp[results,results96,go_sem,FI i]) rfl ?_;exact BB (K':=N) (x:=x) (y:=y) h.lt n q E R g V X F s L M z (.inr ⟨.inl rfl,u⟩)
  .have Q:=(j.no c).Il hb 0;simp[PR.arr]at Q;have hp:=o.pid;gi_wp2_with (first|(gi_at_call 152;refine(Ed _ _ r.pid zD).mono ?_;rintro e wz ⟨rfl,p⟩;obtain⟨I,d,g,i⟩:=AA (x:=r.pid) (y:=0) (f:=.nilFunc) (p.old (l) id) rfl)|refine EX d ?_);refine T_ r.pid 0 (by simp[results,results96,go_sem,FI i]) rfl ?_;exact BV h hO hm hb n q (c.then p) g zD wB (.inr ⟨.inl rfl,rfl,rfl,rfl,rfl⟩)
  .have B:=al8 (K:=K) (b:=b) (r:=r) hc;obtain⟨n1,n2,n3,n4,n5,n6,n7,n8,n9,Y,Z,n12,n13,n14⟩:=hc;gi_wp2_with (first|(gi_at_call 140;refine(TI 12 l _).mono ?_;rintro e wz ⟨rfl,p,I,d,g,i⟩)|refine EX d ?_);refine T_ 0 12 (by simp[results,results96,go_sem,FI i]) rfl ?_;exact BV h hO hm hb n q (c.then p) g wB wB B
theorem Og (K:KS) (NC NS b call:Nat) (r:PR) (h:AV K w) (hO:Eo NC NS K) (hm:b∈K.Aw) (hb:K.ps b=some r) (hn:r.en=false) (ca:∀m w,O_ m 139 #[a_ (call:Nat)] w fun e w'=>e=.returned (b_ 1)/\w'=w) (hc:call=1\/call=3\/call=4\/call=5\/call=8\/call=9\/call=11\/call=13):
  O_ m 96 #[Q_ K.kb,Q_ b,a_ (call:Nat)] w (FO (Ue K b r call) NC NS b K w):=by
 have o:=hO.pr b r hb;have hL:=(hO.co.pl b r hb).1;have X:=o.A;obtain⟨J,O,M⟩:=Iw w;have n:=h.no J;have P:K.T w.heap.size=(0,0):=h.lt _ (w_ _);obtain⟨U,ci,V,R,xn,him⟩:=n.jm hb hn;have VN:=R.le;have q5:=n.Il hb 5;simp[PR.arr]at q5;by_cases I:r.A+1<=r.Af.length
 .obtain⟨a0,Z⟩:∃v,r.Af[r.A+0]?=some v:=⟨_,IG zD⟩;have N:=o.Af a0 (t_ Z);have j0:(w.alloc V_).cell? (S_ U (r.A+0))=some (a_ (a0:Nat)):=(R.cell zD).trans (by rw[Az,List.getElem?_map,Z];rfl);have v0:=QZ Z;clear Z;gi_enter func96,ntmps96;gi_wp2;generalize hw0:w.alloc V_=F at*;refine BP 15 155 ?_;gi_wp2_with (first|(gi_at_call 139;refine(ca _ F.drew).mono ?_;rintro e w1 ⟨rfl,rfl⟩)|(gi_at_call 138;refine(Gh b U ci r.Af.length 1 r.A _ F.drew V zD X hL VN I).mono ?_;rintro e w1 ⟨rfl,rfl⟩));refine Eb ?_ ?_
  .intro W L;have d5:=L.has (w:=F.drew) q5;have d8:=L.has (w:=F.drew) V
   repeat' (refine Au ?_ ?_)
   all_goals first|exact eu|gi_wp2_with (first|(gi_at_call 139;refine(ca _ W).mono ?_;rintro e w1 ⟨rfl,rfl⟩)|(gi_at_call 138;refine(Gh b U ci r.Af.length 1 r.A _ W d8 zD X hL VN I).mono ?_;rintro e w1 ⟨rfl,rfl⟩))
  .intro W L;have KW:Ac No F W:=(Ac.refl No F).drew.then L;gi_wp2_with fail;refine(KQ _ W (S_ U r.A) 1 1 [a_ (a0:Nat)] rfl (λj u Y=>by
    match j,Y with
    |0,Y=>simp at Y;subst Y;exact KW.has j0
    ) (by simp[Value.oneCell']) zD).mono ?_;rintro e w1 ⟨K1,v,rfl,Et⟩;obtain⟨g,cap,rfl,hR,_⟩:=QW Et zD (by simp[Value.oneCell']);have t:Ac No F w1:=KW.then K1;have d0:w1.cell? (R_ g)=some (a_ (a0:Nat)):=(hR.cell zD).trans rfl;clear Et R hR K1 KW L q5 V j0;obtain rfl|rfl|rfl|rfl|rfl|rfl|rfl|rfl:=hc
   .have D:=λm=>ah6 m w1 K NC NS b a0 r (n.no t) hO hm hb hn N
    gi_wp2_with (first|(gi_at_call 100;refine(D _).mono ?_;rintro e w2 ⟨rfl,k,E,a,z,C,⟨S,B,hn2⟩,hXe⟩;have i:=(BN.no t n.lt).trans C;obtain⟨Q,p,q,s⟩:=AA (x:=a0) (y:=0) (f:=.nilFunc) (i.old O P) rfl)|refine EX p ?_);refine T_ a0 0 (by simp[results,results96,go_sem,FI s]) rfl ?_;exact BB (K':=k) (x:=a0) (y:=0) h.lt J M i E q N zD (.inl rfl) a z B (λe=>ql e (by simp[hn2])) (.inr ⟨.inr I,v0.out.symm,rfl,rfl,by rw[v0.out];exact hXe⟩)
   .have D:=λm=>av4 m w1 K NC NS b a0 r (n.no t) hO hm hb hn N
    gi_wp2_with (first|(gi_at_call 143;refine(D _).mono ?_;rintro e w2 ⟨k,x,y,f,rfl,G,H,l,E,a,z,C,⟨S,B,d⟩,c⟩;have i:=(BN.no t n.lt).trans C;obtain⟨Q,p,q,s⟩:=AA (x:=x) (y:=y) (f:=f) (i.old O P) l.one)|refine EX p ?_);refine bodyPost_ret (v:=.agg #[a_ x,a_ y,f]) (by simp[results,results96,go_sem,FI s]) rfl ?_;exact BB (K':=k) (x:=x) (y:=y) h.lt J M i E q G H l a z B d (.inr ⟨.inr I,by show az K b r (DZ r 0) k x y f;rw[v0.out];exact c⟩)
   .have D:=λm=>bd2 m w1 K NC NS b a0 r (n.no t) hO hm hb hn N
    gi_wp2_with (first|(gi_at_call 144;refine(D _).mono ?_;rintro e w2 ⟨k,x,y,f,rfl,G,H,l,E,a,z,C,⟨S,B,d⟩,c⟩;have i:=(BN.no t n.lt).trans C;obtain⟨Q,p,q,s⟩:=AA (x:=x) (y:=y) (f:=f) (i.old O P) l.one)|refine EX p ?_);refine bodyPost_ret (v:=.agg #[a_ x,a_ y,f]) (by simp[results,results96,go_sem,FI s]) rfl ?_;exact BB (K':=k) (x:=x) (y:=y) h.lt J M i E q G H l a z B d (.inr ⟨.inr I,by show XK K b r (DZ r 0) k x y f;rw[v0.out];exact c⟩)
   .have D:=λm=>ψ m w1 K NC NS b a0 r (n.no t) hO hm hb hn N
    gi_wp2_with (first|(gi_at_call 145;refine(D _).mono ?_;rintro e w2 ⟨k,x,y,f,rfl,G,H,l,E,a,z,C,⟨S,B,d⟩,c⟩;have i:=(BN.no t n.lt).trans C;obtain⟨Q,p,q,s⟩:=AA (x:=x) (y:=y) (f:=f) (i.old O P) l.one)|refine EX p ?_);refine bodyPost_ret (v:=.agg #[a_ x,a_ y,f]) (by simp[results,results96,go_sem,FI s]) rfl ?_;exact BB (K':=k) (x:=x) (y:=y) h.lt J M i E q G H l a z B d (.inr ⟨.inr I,by show aG K b r (DZ r 0) k x y f;rw[v0.out];exact c⟩)
   .have D:=λm=>ar0 m w1 K NC NS b a0 r (n.no t) hO hm hb hn N
    gi_wp2_with (first|(gi_at_call 148;refine(D _).mono ?_;rintro e w2 ⟨k,x,y,f,rfl,G,H,l,E,a,z,C,⟨S,B,d⟩,c⟩;have i:=(BN.no t n.lt).trans C;obtain⟨Q,p,q,s⟩:=AA (x:=x) (y:=y) (f:=f) (i.old O P) l.one)|refine EX p ?_);refine bodyPost_ret (v:=.agg #[a_ x,a_ y,f]) (by simp[results,results96,go_sem,FI s]) rfl ?_;exact BB (K':=k) (x:=x) (y:=y) h.lt J M i E q G H l a z B d (.inr ⟨.inr I,by show Vo K b r (DZ r 0) k x y f;rw[v0.out];exact c⟩)
   .have D:=λm=>br0 m w1 K NC NS b a0 r (n.no t) hO hm hb hn N
    gi_wp2_with (first|(gi_at_call 149;refine(D _).mono ?_;rintro e w2 ⟨k,x,y,f,rfl,G,H,l,E,a,z,C,⟨S,B,d⟩,c⟩;have i:=(BN.no t n.lt).trans C;obtain⟨Q,p,q,s⟩:=AA (x:=x) (y:=y) (f:=f) (i.old O P) l.one)|refine EX p ?_);refine bodyPost_ret (v:=.agg #[a_ x,a_ y,f]) (by simp[results,results96,go_sem,FI s]) rfl ?_;exact BB (K':=k) (x:=x) (y:=y) h.lt J M i E q G H l a z B d (.inr ⟨.inr I,by show zZ K b r (DZ r 0) k x y f;rw[v0.out];exact c⟩)
   .have D:=λm=>be0 m w1 K NC NS b a0 r (n.no t) hO hm hb hn N
    gi_wp2_with (first|(gi_at_call 151;refine(D _).mono ?_;rintro e w2 ⟨k,x,y,f,rfl,G,H,l,E,a,z,C,⟨S,B,d⟩,c⟩;have i:=(BN.no t n.lt).trans C;obtain⟨Q,p,q,s⟩:=AA (x:=x) (y:=y) (f:=f) (i.old O P) l.one)|refine EX p ?_);refine bodyPost_ret (v:=.agg #[a_ x,a_ y,f]) (by simp[results,results96,go_sem,FI s]) rfl ?_;exact BB (K':=k) (x:=x) (y:=y) h.lt J M i E q G H l a z B d (.inr ⟨.inr I,by show aH K b r (DZ r 0) k x y f;rw[v0.out];exact c⟩)
   .have D:=λm=>Ι m w1 K NC NS b a0 r (n.no t) hO hm hb N
    gi_wp2_with (first|(gi_at_call 153;refine(D _).mono ?_;rintro e w2 ⟨k,x,y,f,rfl,G,H,l,E,a,z,C,⟨S,B,d⟩,c⟩;have i:=(BN.no t n.lt).trans C;obtain⟨Q,p,q,s⟩:=AA (x:=x) (y:=y) (f:=f) (i.old O P) l.one)|refine EX p ?_);refine bodyPost_ret (v:=.agg #[a_ x,a_ y,f]) (by simp[results,results96,go_sem,FI s]) rfl ?_;exact BB (K':=k) (x:=x) (y:=y) h.lt J M i E q G H l a z B d (.inr ⟨.inr I,by show Q4 K (DZ r 0) k x y f;rw[v0.out];exact c⟩)
 .gi_enter func96,ntmps96;gi_wp2;generalize hw0:w.alloc V_=F at*;refine BP 15 155 ?_;gi_wp2_with (first|(gi_at_call 139;refine(ca _ F.drew).mono ?_;rintro e w1 ⟨rfl,rfl⟩)|(gi_at_call 138;refine(IA b U ci r.Af.length 1 r.A _ F.drew V zD zD X I).mono ?_;rintro e w1 ⟨rfl,rfl⟩));refine Eb ?_ ?_
  .intro W L;have d5:=L.has (w:=F.drew) q5;have d8:=L.has (w:=F.drew) V
   repeat' (refine Au ?_ ?_)
   all_goals first|exact eu|gi_wp2_with (first|(gi_at_call 139;refine(ca _ W).mono ?_;rintro e w1 ⟨rfl,rfl⟩)|(gi_at_call 138;refine(IA b U ci r.Af.length 1 r.A _ W d8 zD zD X I).mono ?_;rintro e w1 ⟨rfl,rfl⟩))
  .intro W L;have KW:Ac No F W:=(Ac.refl No F).drew.then L;have rbW:=KW.old O id;gi_wp2_with (first|(gi_at_call 140;refine(TI 1 rbW _).mono ?_;rintro e wz ⟨rfl,Kz,Q,p,q,s⟩)|refine EX p ?_);refine T_ 0 1 (by simp[results,results96,go_sem,FI s]) rfl ?_;exact BV h hO hm hb J M (KW.then Kz) q wB wB (.inl ⟨by rw[show VV call=1 by obtain rfl|rfl|rfl|rfl|rfl|rfl|rfl|rfl:=hc<;>rfl];omega,GU.of⟩)
end
end Go.Fxa
