/- A kernel of many processes: a -/
import Derived.Test.YtmhplpfpcnjekaaGreatA24
import Derived.Laws.EntriesVeiled
namespace Go.Fxa
open Conc Proofs RowKit Proofs.Tryz
set_option maxRecDepth 1000000
set_option maxHeartbeats 0
variable {l:List Int} {k n i NC NS b g c size rb y p IQ Hu CV sCap:Nat} {r r':PR} {ad:f_} {e ty:j_} {w w0 w7 w8:o_} {f a:n_} {x:Int} {H:Nat->Nat}
structure LU (K K':KS):Prop where
 eq:K'={ K with desc:=K'.desc,ef:=K'.ef,op:=K'.op,nl:=K'.nl,ct:=K'.ct,tv:=K'.tv }
theorem LU.refl (K:KS):LU K K:=⟨rfl⟩
theorem LU.drop {K K':KS} (h:LU K K') (i:Nat):LU K (K'.drop i):=by
 have e:=h.eq;refine⟨?_⟩;unfold KS.drop;split
 .split
  .rw[e]
  .rw[e]
 .rw[e]
theorem LU.ps {K K':KS} (h:LU K K'):K'.ps=K.ps:=by rw[h.eq]
theorem LU.Aw {K K':KS} (h:LU K K'):K'.Aw=K.Aw:=by rw[h.eq]
theorem LU.T {K K':KS} (h:LU K K'):K'.T=K.T:=by rw[h.eq]
theorem LU.kb {K K':KS} (h:LU K K'):K'.kb=K.kb:=by rw[h.eq]
theorem LU.core {K K':KS} (h:LU K K') {N:Nat} {x:Nat×Nat} (d:BU N x K):BU N x K':=by
 have e1:=h.ps;have e2:=h.Aw;have e3:K'.core=K.core:=by rw[h.eq]
 exact d.same e3 (λi=>by rw[e1,e2]) (by rw[e1];exact d.pl)
theorem JV {n:Int} (h:l[k]?=some n):(l.take (k+1)).count (i:Int)=(l.take k).count (i:Int)+(if n=i then 1 else 0):=by
 rw[List.take_add_one,h,List.count_append];simp[List.count_singleton]
theorem count_le:(l.take k).count (i:Int)<=l.count (i:Int):=(List.take_sublist k l).count_le _
def KS.Kv (K:KS) (l:List Int):KS:=l.foldl (λK n=>if n=-1 then K else K.drop n.toNat) K
theorem aq7 {K K1:KS} (h:ag (K1=K.Kv (l.take k))) (d:l[k]?=some (-1)):ag (K1=K.Kv (l.take (k+1))):=by
 unfold ag at*;rw[List.take_add_one,d];simp only[KS.Kv,Option.toList_some,List.foldl_append,List.foldl_cons,List.foldl_nil,if_true];exact h
theorem ϙ {K K1:KS} (h:ag (K1=K.Kv (l.take k))) (d:l[k]?=some (i:Int)):ag (K1.drop i=K.Kv (l.take (k+1))):=by
 unfold ag at*;rw[List.take_add_one,d];simp only[KS.Kv,Option.toList_some,List.foldl_append,List.foldl_cons,List.foldl_nil];rw[ru zD,h]
 rfl
def ab6 (K:KS) (b:Nat) (r:PR) (st:Nat) (K':KS):Prop:=∃K2 g c K6,BR (K.Kv r.fds) K2/\Nu ((K2.swap' (BX K2.swap r.sw (Ai r.Af.length)) g c).Bi b (EP { r with co:=-1 } st)) K6/\K'=K6.Qg/\dW b (K.Kv r.fds) K2/\bn8 r.pid ((K2.swap' (BX K2.swap r.sw (Ai r.Af.length)) g c).Bi b (EP { r with co:=-1 } st)) K6
def cd7 (K:KS) (w:o_) (fds:List Int) (k:Nat) (wr:o_):Prop:=∃K1,AV K1 wr/\LU K K1/\BN K.T K.T w wr/\EK (λi=>BM K.ps K.Aw i-(fds.take k).count (i:Int)) K1/\ag (K1=K.Kv (fds.take k))
theorem Eo.end_ {E:Nat} {K K1 C:KS} (h:Eo NC NS K) (J:b∈K.Aw) (G:K.ps b=some r) (M:r.en=false) (N:E<65536) (I:LU K K1) (F:EK (fun i=>BM K.ps K.Aw i-r.fds.count (i:Int)) K1) (D:BR K1 C) (L:BU NC (0,0) C) (O:C.ps b=some { r with co:=-1 }):
  Eo NC NS ((C.swap' (BX C.swap r.sw (Ai r.Af.length)) g c).Bi b (EP { r with co:=-1 } E))/\Rel b K ((C.swap' (BX C.swap r.sw (Ai r.Af.length)) g c).Bi b (EP { r with co:=-1 } E)):=by
 have u:((C.swap' (BX C.swap r.sw (Ai r.Af.length)) g c).Bi b (EP { r with co:=-1 } E)).ps=C9 C.ps b (EP { r with co:=-1 } E):=rfl;have e2:C.Aw=K.Aw:=D.Aw.trans I.Aw;have e3:C.swap=K.swap:=by rw[D.eq,I.eq]
 have l:JL b K.ps (C9 C.ps b (EP { r with co:=-1 } E)):=(by rw[<-I.ps];exact D.else b:JL b K.ps C.ps).trans JL.set;have o:=h.pr b r G;obtain⟨y,w,x,_⟩:=o.len M;have s:1<=Ai r.Af.length:=by unfold Ai;omega
 have m:=h.sw.pl b r G;have v:=QO (a:=r.sw) (n:=Ai r.Af.length) h.sw.so s m;refine h.step (b:=b) (r:=r) (r':=EP { r with co:=-1 } E) e2 (by show C.BD=K.BD;rw[D.eq,I.eq]) (by show C.kb=K.kb;rw[D.eq,I.eq]) l G Aj (aq8 (r:={ r with co:=-1 }) ⟨o.A,o.B,o.P,o.st,o.pid,o.par,o.Af,o.fds,o.fd,o.len,λe=>ql e (by simp[M])⟩ N) rfl ?_ ?_ ?_
 .refine L.same rfl (λi=>BO λk _=>?_) λk q d=>?_
  .show FX i (C9 C.ps b _) k=_;by_cases e:k=b
   .subst e;rw[Ej Aj,Ej O];simp[EP]
   .unfold FX;rw[BH e]
  .have d:C9 C.ps b _ k=some q:=d;by_cases e:k=b
   .subst e;rw[Aj]at d;cases d;exact⟨by simp[EP],.inl rfl⟩
   .rw[BH e]at d;exact L.pl k q d
 .refine h.sw.step (b:=b) e2 h.nd J l G Aj ?_ ?_ (Nat.zero_le _) (by simp[EP,Ai]) λi=>?_
  .show Sound NS (BX C.swap r.sw (Ai r.Af.length));rw[e3];exact v.1
  .show Zu (BX C.swap r.sw (Ai r.Af.length));rw[e3];exact Yi s h.sw.so h.sw.ϱ (h.sw.mine J G)
  .show D5 i (BX C.swap r.sw (Ai r.Af.length))+OU i 0 (Ai ([]:List Nat).length)+OU i 0 0=_;rw[e3,VI s,show Ai ([]:List Nat).length=0 by simp[Ai],SY]
 .have p:EK (λi=>BM K.ps K.Aw i-r.fds.count (i:Int)) ((C.swap' (BX C.swap r.sw (Ai r.Af.length)) g c).Bi b (EP { r with co:=-1 } E)):=by
   have d1:C.desc=K1.desc:=by rw[D.eq]
   have d2:C.op=K1.op:=by rw[D.eq]
   have d3:C.ef=K1.ef:=by rw[D.eq]
   have d4:C.nl=K1.nl:=by rw[D.eq]
   have t:C.nm=K1.nm:=by rw[D.eq]
   refine⟨?_,F.le,?_,?_,?_,?_,?_⟩
   .show ∀i,i<20->C.desc i=_;rw[d1];exact F.ho
   .show ∀f,C.op f=DI C.desc C.ef f;rw[d1,d2,d3];exact F.op
   .show C.nl.Nodup;rw[d4];exact F.nd
   .show ∀f∈C.nl,1<=C.op f;rw[d4,d2];exact F.nz
   .show ∀i j f,i<16->j<16->C.nm i=some f->C.nm j=some f->i=j;rw[t];exact F.nm
   .show ∀i f,i<16->C.nm i=some f->f ∉ C.nl;rw[t,d4];exact F.dj
  refine p.congr λi _=>?_
  have:=QN (i:=i) h.nd J l G Aj;show BM (C9 C.ps b _) C.Aw i=_;rw[e2];have z:(EP { r with co:=-1 } E).fds.count (i:Int)=0:=rfl;omega
section
variable (m:Nat) (w:o_)
theorem ah6 (K:KS) (NC NS b st:Nat) (r:PR) (h:AV K w) (hO:Eo NC NS K) (hm:b∈K.Aw) (hb:K.ps b=some r) (hn:r.en=false) (Cc:st<65536):
  O_ m 100 #[Q_ K.kb,Q_ b,a_ (st:Nat)] w λe w'=>e=.returned (.agg #[a_ st,a_ 0,.nilFunc])/\∃K',AV K' w'/\Eo NC NS K'/\Rel b K K'/\BN K.T K'.T w w'/\(∃r',K'.ps b=some r'/\r'.en=true)/\ag (ab6 K b r st K'):=by
 have o:=hO.pr b r hb;have hlen:r.fds.length<=6:=by rw[o.fds hn];omega
 obtain⟨n1,hL⟩:1<=Ai r.Af.length/\r.Af.length<=128:=by
  obtain⟨kk,OW,Xv,hk3⟩:=o.len hn
  unfold Ai;omega
 obtain⟨K0,rb,Cb⟩:=Iw w;have h0:=h.no K0;have GV:K.T w.heap.size=(0,0):=h.lt _ (w_ _);obtain⟨g,c,q9,hR,tg,hfd⟩:=h0.pX hb hn;gi_enter func100,ntmps100;gi_wp2;generalize hw0:w.alloc V_=w0 at*;gi_loopw [14] (λi wr=>∃k:Nat,k<=r.fds.length/\i=b_ k/\cd7 K w0 r.fds k wr) (λi _=>r.fds.length-(intOf i).toNat)
 case atStart=>exact⟨0,zD,rfl,K,h0,LU.refl K,BN.no (Ac.refl _ _) h0.lt,hO.Ef.congr λi _=>zF,by unfold ag;simp[KS.Kv]⟩
 case round=>
  obtain⟨k,hk,rfl,Q,X,a,F,q,C⟩:=hrel
  have JA:Q.ps b=some r:=by rw[a.ps];exact hb
  obtain⟨g1,V,p9,Z,tg1,t⟩:=X.pX JA hn
  have M:=a.kb
  obtain⟨rfl,rfl⟩:g1=g/\V=c:=by rw[hfd]at t;simp at t;exact⟨t.1.symm,t.2.symm⟩
  by_cases BL:k<r.fds.length
  .have H:r.fds[k]?=some r.fds[k]:=IG BL;generalize r.fds[k]=n at H;have d:=Z.OZ rfl H;obtain rfl|⟨i,rfl,S⟩:=o.fd n (t_ H)
   .gi_wp2;go_roundw
    case rel=>
     refine⟨k+1,zD,by go_num,Q,X,a,F,q.congr λi _=>?_,aq7 C H⟩
     rw[JV H,ru zD];rfl
    case measure=>simp[intOf];omega
   .have hge:=TE (p:=K.ps) (i:=i) hm hb;have hcl:=count_le (l:=r.fds) (k:=k+1) (i:=i);have hct:=JV (i:=i) H;rw[rC rfl]at hct;have hH:0<BM K.ps K.Aw i-(r.fds.take k).count (i:Int):=zD;have hd1:0<Q.desc i:=(by rw[q.ho i S];exact hH);have cd:=λm=>yZ m wr Q i X S hd1 (by rw[q.ho i S];exact q.le i S) (by have:=q.nl;omega) (λf hf=>q.eff S hd1 hf)
    rw[M]at cd;have f1:((i:Int) !=-1)=true:=zF;gi_wp2_with (gi_at_call 155;refine(cd _).mono ?_;rintro e w2 ⟨rfl,R,M2⟩);go_roundw
    case rel=>
     rw[a.T]at M2
     refine⟨k+1,zD,by go_num,Q.drop i,R,a.drop i,F.trans M2,(q.drop S hH).congr λj _=>?_,ϙ C H⟩
     unfold Ag
     split
     .rename_i e;subst e;rw[hct];omega
     .rename_i e;rw[JV H,ru zD];rfl
    case measure=>simp[intOf];omega
  .obtain rfl:k=r.fds.length:=zD;rw[List.take_length]at q C;have ct:=λm=>Q8 m wr Q b NC (0,0) r X JA (by rw[a.Aw];exact hm) (by rw[a.Aw];exact hO.nd) (a.core hO.co)
   rw[M]at ct;gi_wp2_with (gi_at_call 52;refine(ct _).mono ?_;rintro e w2 ⟨rfl,s,R,D,hC2,hv2,Ii,_,hXo⟩);have qA:s.kb=K.kb:=D.kb.trans M;obtain⟨a8,c8,q8⟩:=R.im8 Ii;have P:=R.Il Ii 10;simp[PR.arr]at q8 P;have hV2:=F.trans (a.T ▸ hv2);refine BP 9 58 ?_;gi_wp2_with (gi_at_call 58;refine(EZ _ w2.drew b _ _ _ q8 zD).mono ?_;rintro e w1 ⟨rfl,rfl⟩);refine Eb ?_ ?_
   .intro W v;have d10:=v.has (w:=w2.drew) P;have d8:=v.has (w:=w2.drew) q8
    repeat' (refine Au ?_ ?_)
    all_goals first|exact eu|gi_wp2_with (gi_at_call 58;refine(EZ _ W b _ _ _ d8 zD).mono ?_;rintro e w1 ⟨rfl,rfl⟩)
   .intro W v;have KW:Ac No w2 W:=(Ac.refl No w2).drew.then v;have Y:=R.no KW;have eS:s.swap=K.swap:=(by rw[D.eq,a.eq]);have hpl:=hO.sw.pl b r hb;have hsl:s.swap.length+1<=NS:=by
     rw[eS]
     have a1:=hO.sw.so.len
     have a2:=hO.sw.sum
     have a3:=Oe (f:=onS K.ps) hm
     rw[lD hb]at a3
     omega
    have cg:=λm=>ah0 m W s r.sw (Ai r.Af.length) NS Y (by rw[eS];exact hO.sw.fit) (by have:=hO.sw.le;omega) hpl hsl
    rw[qA]at cg;have hV3:=hV2.then KW;gi_wp2_with fail;refine(cg _).mono ?_;rintro e w3 ⟨rfl,G,c3,h3,M3⟩;have B:(s.swap' (BX s.swap r.sw (Ai r.Af.length)) G c3).ps b=some { r with co:=-1 }:=Ii;have LC:BN K.T (Bg s.T G (3,0)) w0 w3:=hV3.trans M3;have hE:=hO.end_ (g:=G) (c:=c3) hm hb hn Cc a q D hC2 Ii;have tK3:(s.swap' (BX s.swap r.sw (Ai r.Af.length)) G c3).T=Bg s.T G (3,0):=rfl;rw[<-tK3]at LC;clear cg hV3 hV2 Y KW v q8 P ct R hv2 M3 X F Z p9 tK3;generalize z:s.swap' (BX s.swap r.sw (Ai r.Af.length)) G c3=J at*
    replace z:ag (s.swap' (BX s.swap r.sw (Ai r.Af.length)) G c3=J):=z
    have c0:=h3.Il B 0;have V:=h3.Il B 1;simp[PR.arr]at c0 V;gi_wp2;refine BP 11 58 ?_;gi_wp2;refine Eb ?_ ?_
    .intro W v;have d0:=v.has (w:=w3.drew) c0;have d1:=v.has (w:=w3.drew) V
     repeat' (refine Au ?_ ?_)
     all_goals first|exact eu|gi_wp2
    .intro W v;have KW:Ac No w3 W:=(Ac.refl No w3).drew.then v;have N:=h3.no KW;obtain⟨w5,I,K5,p5⟩:=uw (r':=EP { r with co:=-1 } st) (N.ps b _ B).o rfl rfl rfl;simp only[EP,PR.arr]at I;obtain⟨h4,M4⟩:=N.dead B K5 p5;have hV5:BN K.T J.T w0 w5:=(LC.then KW).trans M4;have eT:(J.Bi b (EP { r with co:=-1 } st)).T=J.T:=rfl;have hb4:(J.Bi b (EP { r with co:=-1 } st)).ps b=some (EP { r with co:=-1 } st):=Aj;rw[<-eT]at hV5;clear LC KW v N M4 K5 p5 c0 V h3 B eT;generalize A:J.Bi b (EP { r with co:=-1 } st)=K4 at*
     replace A:ag (J.Bi b (EP { r with co:=-1 } st)=K4):=A
     obtain⟨E,Ϸ⟩:=hE;have U:K4.kb=K.kb:=Ϸ.kb;have co:=λm=>σ m w5 K4 b _ h4 E.th hb4 (by have:=E.len;omega) E.nd
     rw[U]at co;gi_wp2_with (first|(gi_at_call 157;refine(co _).mono ?_;rintro e w6 ⟨rfl,hh,hH6,L,h6,u,hv6,hp6,hX6⟩)|refine Dw rfl (.tmp 50) (.tmp 49) 128 rfl rfl rfl I ?_);have Ϲ:=E.au1 u hp6;have co1:L.kb=K.kb:=(by rw[u.eq];exact U);have cb:=λm=>zx m w6 L h6 Ϲ.th (by have:=Ϲ.len;omega)
     rw[co1]at cb;obtain⟨cu6,hb6⟩:=u.get hb4;gi_wp2_with (first|(gi_at_call 158;refine(cb _).mono ?_;rintro e w7 ⟨rfl,h7,M7⟩;have O:BN K.T L.T w0 w7:=(hV5.trans hv6).trans M7;obtain⟨w8,AL,K8,b8⟩:=Υ (x:=st) (y:=0) (O.old rb GV))|refine Dw rfl (.tmp 6) (.tmp 57) 206 rfl rfl rfl AL ?_);have t7:L.T w.heap.size=(0,0):=(Dh.fresh O _ Cb).trans GV;have zK:w8.cell? (R_ w.heap.size)=some (a_ st):=bce b8 rfl;have zJ:w8.cell? (S_ w.heap.size 1)=some (a_ 0):=bce b8 rfl;have zI:w8.cell? (S_ w.heap.size 2)=some .nilFunc:=bce b8 rfl;refine T_ st 0 (by simp[results,results100,go_sem,zK,zJ,zI]) rfl ?_;refine⟨rfl,L.Qg,h7.own K8 t7,Ϲ.Qg,((Ϸ.trans (u.rel b) (by rw[hb];simp) hO.th).trans (kU L b) (by rw[hb];simp) hO.th),((BN.no K0 h.lt).trans O).own K8 (λk e=>by rw[show k=w.heap.size from e];exact w_ _),⟨_,hb6,rfl⟩,s,G,c3,L,by rw[<-C.out];exact D,by rw[z.out,A.out];exact u,rfl,by rw[<-C.out];exact hXo,hh,by rw[z.out,A.out];exact hH6,by rw[z.out,A.out];rw[List.take_length]at hX6;rw[u.eq,hX6.out];rfl⟩
theorem Om (x:Nat):O_ m 140 #[a_ x] w λe w'=>e=.returned (.agg #[a_ 0,a_ x,.nilFunc])/\Ac No w w':=by
 gi_enter func140,ntmps140;gi_wp2;refine T_ 0 x (by simp[results,results140,go_sem]) rfl ?_;exact⟨rfl,by repeat (first|exact Ac.refl _ _|refine Ac.drew ?_|refine Ac.alloc ?_ _)⟩
theorem Ed (x:Nat) (d:x<65536):O_ m 152 #[b_ x] w λe w'=>e=.returned (.agg #[a_ x,a_ 0,.nilFunc])/\Ac No w w':=by
 gi_enter func152,ntmps152;gi_wp2;refine T_ x 0 (by simp[results,results152,go_sem]) rfl ?_;exact⟨rfl,by repeat (first|exact Ac.refl _ _|refine Ac.drew ?_|refine Ac.alloc ?_ _)⟩
theorem bq9:(binOp .eql 116 (.slice (some ad) n c) (.slice none 0 0)).run prog w=.ok (.bool false) w:=sJ
theorem bq8:(binOp .eql 116 (.slice none 0 0) (.slice none 0 0)).run prog w=.ok (.bool true) w:=sJ
theorem di:O_ m 141 #[.slice none 0 0] w λe w'=>e=.returned (.slice none 0 0)/\Ac No w w':=by
 have a:=bq8 w;gi_enter func141,ntmps141;gi_wp2;go_ret;exact⟨zF,Ac.refl _ _⟩
theorem Uk:(prog.info? 123).map (λi=>(i.zero,i.size,i.bytes))=some (some (a_ 0),1,2):=sJ
theorem DD {w w':o_} {row:d_ Nat} {S:Nat->Prop} (h:w.grownBy w' row) (d:∀k,row=some k->k<w.heap.size->S k):Ac S w w':=⟨h.os,h.output,h.size,λk a b=>h.block k a λe=>b (d k e.symm a)⟩
theorem PQ {w:o_}:(w.alloc (.cells #[] e)).ownsRow w.heap.size e size (P_ w.heap.size 0 0) 0 []:=
 ⟨zF,.inr ⟨w.heap.size,0,#[],rfl,w_ _,Y7 rfl,w_ _,Nat.zero_le _,zF,zF⟩⟩
theorem bG {w:o_} {base j:Nat} {v:n_} {xs:U_} (h:w.ownsRow base e size v n xs) (o:j<=base):w.ownsRow j e size v n xs:=by
 obtain⟨i,f⟩:=h;refine⟨i,?_⟩;obtain f|⟨g,cap,d,a,b,c⟩:=f
 .exact .inl f
 .exact .inr ⟨g,cap,d,a,pV o b,c⟩
theorem KQ (ad:f_) (n c:Nat) (xs:U_) (z:xs.length=n) (t:∀j u,xs[j]?=some u->w.cell? (ad.add j)=some u) (s:∀u∈xs,u.oneCell'=true) (A:n<=1000):O_ m 141 #[.slice (some ad) n c] w λe w'=>Ac No w w'/\∃v,e=.returned v/\w'.ownsRow w.heap.size 123 1 v n xs:=by
 obtain⟨p,i,a,b,d⟩:=info_parts Uk;have r:=bq9 w (ad:=ad) (n:=n) (c:=c);gi_enter func141,ntmps141;gi_wp2_with (gi_at_builtin;refine wpListIn_append_own _ rfl (.tmp 5) (.tmp 6) 116 rfl w.heap.size 123 p (a_ 0) 1 2 underlying116 i a b d rfl wB _ 0 [] rfl PQ ad n c xs rfl zD (λj u l=>((Ac.refl No w).alloc _).has (t j u l)) s (by unfold maxLen;omega) zD zF ?_;intro q w1 f g _);go_ret;refine⟨((Ac.refl No w).alloc (.cells #[] 123)).trans (DD (S:=At w.heap.size) g (λk h _=>(x_ (show some w.heap.size=some k from h)).symm)) (λk o h=>ql o (by rw[show k=w.heap.size from h];exact Nat.lt_irrefl _)),q,rfl,?_⟩;simpa using f
theorem MK (x:Nat):O_ m 273 #[a_ x] w λe w'=>e=.returned (.agg #[a_ 0,a_ x,.nilFunc])/\Ac No w w':=by
 gi_enter func273,ntmps273;gi_wp2;refine T_ 0 x (by simp[results,results273,go_sem]) rfl ?_;exact⟨rfl,by repeat (first|exact Ac.refl _ _|refine Ac.drew ?_|refine Ac.alloc ?_ _)⟩
theorem Dk (x:Nat) (d:x<65536):O_ m 272 #[b_ x] w λe w'=>e=.returned (.agg #[a_ x,a_ 0,.nilFunc])/\Ac No w w':=by
 gi_enter func272,ntmps272;gi_wp2;refine T_ x 0 (by simp[results,results272,go_sem]) rfl ?_;exact⟨rfl,by repeat (first|exact Ac.refl _ _|refine Ac.drew ?_|refine Ac.alloc ?_ _)⟩
theorem XF:(prog.info? 3).map (λi=>(i.zero,i.size,i.bytes))=some (some (b_ 0),1,8):=sJ
theorem cc5:(binOp .eql 22 (.slice (some ad) n c) (.slice none 0 0)).run prog w=.ok (.bool false) w:=sJ
theorem cc2:(binOp .eql 22 (.slice none 0 0) (.slice none 0 0)).run prog w=.ok (.bool true) w:=sJ
theorem wF:O_ m 102 #[.slice none 0 0] w λe w'=>e=.returned (.slice none 0 0)/\Ac No w w':=by
 have a:=cc2 w;gi_enter func102,ntmps102;gi_wp2;go_ret;exact⟨zF,Ac.refl _ _⟩
theorem Za (ad:f_) (n c:Nat) (xs:U_) (z:xs.length=n) (t:∀j u,xs[j]?=some u->w.cell? (ad.add j)=some u) (s:∀u∈xs,u.oneCell'=true) (A:n<=1000):O_ m 102 #[.slice (some ad) n c] w λe w'=>Ac No w w'/\∃v,e=.returned v/\w'.ownsRow w.heap.size 3 1 v n xs:=by
 obtain⟨p,i,a,b,d⟩:=info_parts XF;have r:=cc5 w (ad:=ad) (n:=n) (c:=c);gi_enter func102,ntmps102;gi_wp2_with (gi_at_builtin;refine wpListIn_append_own _ rfl (.tmp 5) (.tmp 6) 22 rfl w.heap.size 3 p (b_ 0) 1 8 underlying22 i a b d rfl wB _ 0 [] rfl PQ ad n c xs rfl zD (λj u l=>((Ac.refl No w).alloc _).has (t j u l)) s (by unfold maxLen;omega) zD zF ?_;intro q w1 f g _);go_ret;refine⟨((Ac.refl No w).alloc (.cells #[] 3)).trans (DD (S:=At w.heap.size) g (λk h _=>(x_ (show some w.heap.size=some k from h)).symm)) (λk o h=>ql o (by rw[show k=w.heap.size from h];exact Nat.lt_irrefl _)),q,rfl,?_⟩;simpa using f
end
theorem LW.one {T:Tag} {kb:Nat} (h:LW T w kb b f):f.oneCell'=true:=by
 obtain rfl|⟨_,_,rfl,_⟩|⟨_,rfl|rfl,_⟩:=h<;>rfl
theorem AA {b c:n_} {y:Int} (h:w.heap[rb]?=some (N_ #[a,b,c] 206)) (j:f.oneCell'=true):∃w',(Instr.storeAt 206 (Q_ rb) (.agg #[a_ x,a_ y,f])).run prog w=.ok () w'/\Ac (At rb) w w'/\w'.heap[rb]?=some (N_ #[a_ x,a_ y,f] 206):=by
 have e:(Instr.storeAt 206 (Q_ rb) (.agg #[a_ x,a_ y,f])).run prog w=(OE rb 0 [a_ x,a_ y,f] (.pure ())).run prog w:=sJ
 obtain⟨w',d,g,i⟩:=G7 (P:=prog) (k:=Sem.pure ()) [a_ x,a_ y,f] 0 _ w h zF (by simp[j];exact⟨rfl,rfl⟩);refine⟨w',?_,g,?_⟩
 .rw[e,d];rfl
 .rw[i];simp[TY]
def St8 (rb:Nat) (y:Int) (w:o_):Prop:=∃w8,(Instr.storeAt 206 (Q_ rb) (.agg #[a_ 0,a_ y,.nilFunc])).run prog w=.ok () w8/\Ac (At rb) w w8/\w8.heap[rb]?=some (N_ #[a_ 0,a_ y,.nilFunc] 206)
theorem TI {b c:n_} (y:Nat) (h:w.heap[rb]?=some (N_ #[a,b,c] 206)) (m:Nat):O_ m 140 #[a_ y] w λe w'=>e=.returned (.agg #[a_ 0,a_ y,.nilFunc])/\Ac No w w'/\St8 rb y w':=(Om m w y).mono λ_ _ ⟨e,K⟩=>⟨e,K,AA (K.old h id) rfl⟩
theorem fw8 {b c:n_} (y:Nat) (h:w.heap[rb]?=some (N_ #[a,b,c] 206)) (m:Nat):O_ m 273 #[a_ y] w λe w'=>e=.returned (.agg #[a_ 0,a_ y,.nilFunc])/\Ac No w w'/\St8 rb y w':=(MK m w y).mono λ_ _ ⟨e,K⟩=>⟨e,K,AA (K.old h id) rfl⟩
def GU (K:KS) (y:Nat):KS->Nat->Nat->n_->Prop:=λK' x z f=>K'=K/\x=0/\z=y/\f=.nilFunc
theorem GU.of {K:KS}:GU K y K 0 y .nilFunc:=⟨rfl,rfl,rfl,rfl⟩
def FO (X:KS->Nat->Nat->n_->Prop) (NC NS b:Nat) (K:KS) (w:o_) (e:Ending) (w':o_):Prop:=∃(K':KS) (x y:Nat) (f:n_),e=.returned (.agg #[a_ x,a_ y,f])/\x<65536/\y<65536/\LW K'.T w' K'.kb b f/\AV K' w'/\Eo NC NS K'/\Rel b K K'/\BN K.T K'.T w w'/\(∃r',K'.ps b=some r'/\(r'.en=false->b∈K'.Aw))/\X K' x y f
theorem BB {X:KS->Nat->Nat->n_->Prop} {x:Nat} {K K':KS} (h:∀k,w.heap.size<=k->K.T k=(0,0)) (q:Ac No w w0) (m:w.heap.size<w0.heap.size) (j:BN K.T K'.T w0 w7) (s:AV K' w7) (d:Ac (At w.heap.size) w7 w8) (C:x<65536) (D:y<65536) (A:LW K'.T w7 K'.kb b f) (u:Eo NC NS K') (v:Rel b K K') (B:K'.ps b=some r') (o:r'.en=false->b∈K'.Aw) (z:X K' x y f):FO X NC NS b K w (.returned (.agg #[a_ x,a_ y,f])) w8:=by
 have a:K'.T w.heap.size=(0,0):=(Dh.fresh j _ m).trans (h _ (w_ _));have c:Ac (On K'.T λt=>t=(0,0)) w7 w8:=d.on λk _ e=>by rw[show k=w.heap.size from e];exact a
 exact⟨K',x,y,f,rfl,C,D,A.keep c zF,s.own d a,u,v,((BN.no q h).trans j).own d (λk e=>by rw[show k=w.heap.size from e];exact w_ _),⟨r',B,o⟩,z⟩
structure aI (K K':KS):Prop where
 eq:K'={ K with desc:=K'.desc,ef:=K'.ef,op:=K'.op,nl:=K'.nl,nm:=K'.nm,T:=K'.T,ct:=K'.ct,tv:=K'.tv }
theorem LU.tt {K K':KS} (h:LU K K'):aI K K':=⟨by rw[h.eq]⟩
theorem aI.refl (K:KS):aI K K:=⟨rfl⟩
theorem Eo.fds {K K1:KS} (h:Eo NC NS K) (m:aI K K1) (v:b∈K.Aw) (o:K.ps b=some r) (B:r'.pid=r.pid) (_:r'.en=r.en) (u:r'.co=r.co) (t:r'.sw=r.sw) (s:r'.Af.length=r.Af.length) (A:r'.Ok) (j:EK H K1) (z:∀i,i<20->H i+r.fds.count (i:Int)=BM K.ps K.Aw i+r'.fds.count (i:Int)):Eo NC NS (K1.Bi b r')/\Rel b K (K1.Bi b r'):=by
 have e1:K1.ps=K.ps:=by rw[m.eq]
 have e2:K1.Aw=K.Aw:=by rw[m.eq]
 have e3:K1.core=K.core:=by rw[m.eq]
 have e4:K1.swap=K.swap:=by rw[m.eq]
 have c:JL b K.ps (C9 K1.ps b r'):=by rw[e1];exact JL.set
 refine h.step (b:=b) (r:=r) (r':=r') e2 (by show K1.BD=K.BD;rw[m.eq]) (by show K1.kb=K.kb;rw[m.eq]) c o Aj A B ?_ ?_ ?_
 .refine h.co.same e3 (λi=>?_) λk q a=>?_
  .show BK (FX i (C9 K1.ps b r')) K1.Aw=_;rw[e1,e2];refine BO λk _=>?_
   by_cases e:k=b
   .subst e;rw[Ej Aj,Ej o,u,s]
   .unfold FX;rw[BH e]
  .have a:C9 K1.ps b _ k=some q:=a;by_cases e:k=b
   .subst e;rw[Aj]at a;cases a;rw[s,u];exact h.co.pl _ r o
   .rw[BH e,e1]at a;exact h.co.pl k q a
 .refine h.sw.step (b:=b) e2 h.nd v c o Aj ?_ ?_ (Nat.zero_le _) ?_ λi=>?_
  .show Sound NS K1.swap;rw[e4];exact h.sw.so
  .show Zu K1.swap;rw[e4];exact h.sw.ϱ
  .rw[t,s];exact h.sw.pl b r o
  .show D5 i K1.swap+_+_=_;rw[e4,s,t]
 .have d:EK H (K1.Bi b r'):=⟨j.ho,j.le,j.op,j.nd,j.nz,j.nm,j.dj⟩;refine d.congr λi s=>?_
  have:=QN (i:=i) h.nd v c o Aj;show BM (C9 K1.ps b r') K1.Aw i=_;rw[e2];have:=z i s;omega
theorem PK {n m a:Int} (h:l[k]?=some n):(l.set k m).count a+(if n=a then 1 else 0)=l.count a+(if m=a then 1 else 0):=by
 have b:=(KT.1 h).1;have c:=Qs h;have e:l.set k m=l.take k++m::l.drop (k+1):=List.set_eq_take_append_cons_drop.trans (rC b);rw[e]
 conv=>rhs;rw[c]
 simp only[List.count_append,List.count_cons];simp only[beq_iff_eq];omega
theorem BV {X:KS->Nat->Nat->n_->Prop} {x:Nat} {K:KS} (h:AV K w) (q:Eo NC NS K) (u:b∈K.Aw) (t:K.ps b=some r) (d:Ac No w w0) (m:w.heap.size<w0.heap.size) (j:Ac No w0 w7) (o:Ac (At w.heap.size) w7 w8) (v:x<65536) (z:y<65536) (s:X K x y .nilFunc):FO X NC NS b K w (.returned (.agg #[a_ x,a_ y,.nilFunc])) w8:=
 BB (K':=K) (x:=x) (y:=y) h.lt d m (BN.no j (h.no d).lt) ((h.no d).no j) o v z (.inl rfl) q (Rel.refl b K) t (λ_=>u) s
theorem eX (o:r.Ok) (d:r.en=false->l.length=6) (h:∀n∈l,n=-1\/∃i:Nat,n=i/\i<20) (j:r.en=false):PR.Ok { r with fds:=l }:=⟨o.A,o.B,o.P,o.st,o.pid,o.par,o.Af,d,h,o.len,λe=>ql e (by simp[j])⟩
theorem Vg (h:∀n∈l,n=-1\/∃i:Nat,n=i/\i<20) (d:x=-1\/∃i:Nat,x=i/\i<20):∀n∈l.set k x,n=-1\/∃i:Nat,n=i/\i<20:=λn b=>by
 obtain a|rfl:=List.mem_or_eq_of_mem_set b
 .exact h n a
 .exact d
theorem Eo.close {K:KS} (h:Eo NC NS K) (u:b∈K.Aw) (q:K.ps b=some r) (v:r.en=false) (t:i<20) (s:r.fds[k]?=some (i:Int)):0<K.desc i/\Eo NC NS ((K.drop i).Bi b { r with fds:=r.fds.set k (-1) })/\Rel b K ((K.drop i).Bi b { r with fds:=r.fds.set k (-1) }):=by
 have o:=h.pr b r q;have f:0<r.fds.count (i:Int):=List.count_pos_iff.2 (t_ s);have d:0<BM K.ps K.Aw i:=Nat.lt_of_lt_of_le f (TE u q);refine⟨by rw[h.Ef.ho i t];exact d,h.fds ((LU.refl K).drop i).tt u q rfl rfl rfl rfl rfl (eX o (λe=>by simp[o.fds e]) (Vg o.fd (.inl rfl)) v) (h.Ef.drop t d) λj _=>?_⟩;have:=PK (m:=-1) (a:=(j:Int)) s;rw[ru (c:=(-1:Int)=(j:Int)) zD]at this;simp only[Ag];split
 .rename_i e;subst e;rw[rC rfl]at this;omega
 .rename_i e;rw[ru zD]at this;omega
theorem EK.share {K:KS} (h:EK H K) (m:0<K.desc i) (d:∀j,j<20->Ag H i (H i+1) j<=1000) (o:i<20):EK (Ag H i (H i+1)) { K with desc:=Ag K.desc i (K.desc i+1) }:=by
 refine⟨λj a=>?_,d,λf=>?_,h.nd,h.nz,h.nm,h.dj⟩
 .show Ag K.desc i (K.desc i+1) j=_;unfold Ag;split
  .rw[h.ho i o]
  .exact h.ho j a
 .rw[h.op f];unfold DI;refine BO λj _=>?_
  show _=if 0<Ag K.desc i (K.desc i+1) j/\K.ef j=some f then 1 else 0
  unfold Ag;by_cases e:j=i
  .subst e;simp[m]
  .simp[e]
theorem YM {f:Nat->Nat} {c:Nat}:∀{l:List Nat},(∀b∈l,f b<=c)->BK f l<=c*l.length
 |[],_=>by simp[BK]
 |b::l,h=>by
  have d:=h b zF
  have e:=YM (f:=f) (l:=l) λx a=>h x (by simp[a])
  simp only[BK,List.length_cons,Nat.mul_add];omega
theorem Eo.Y5 {K:KS} (h:Eo NC NS K) (i:Nat):BM K.ps K.Aw i<=72:=by
 have:=YM (f:=Ji K.ps i) (c:=6) (l:=K.Aw) λb _=>by
  unfold Ji
  cases hb:K.ps b with
  |none=>simp
  |some r=>
   have o:=h.pr b r hb
   have a:r.fds.count (i:Int)<=r.fds.length:=List.count_le_length
   cases he:r.en with
   |false=>rw[o.fds he]at a;exact a
   |true=>rw[(o.off he).1]at a;simp at a;simp[(o.off he).1]
 have:=h.len;unfold BM;omega
theorem Eo.dup {K:KS} (h:Eo NC NS K) (v:b∈K.Aw) (q:K.ps b=some r) (z:r.en=false) (s:i<20) (t:0<K.desc i) (u:r.fds[k]?=some (-1)):Eo NC NS (KS.Bi { K with desc:=Ag K.desc i (K.desc i+1) } b { r with fds:=r.fds.set k (i:Int) })/\Rel b K (KS.Bi { K with desc:=Ag K.desc i (K.desc i+1) } b { r with fds:=r.fds.set k (i:Int) }):=by
 have o:=h.pr b r q;have d:=h.Y5;refine h.fds (K1:={ K with desc:=Ag K.desc i (K.desc i+1) }) ⟨rfl⟩ v q rfl rfl rfl rfl rfl (eX o (λe=>by simp[o.fds e]) (Vg o.fd (.inr ⟨i,rfl,s⟩)) z) (h.Ef.share t (λj f=>by unfold Ag;split;have:=d i;omega;have:=d j;omega) s) λj _=>?_
 have:=PK (m:=(i:Int)) (a:=(j:Int)) u;rw[ru (c:=(-1:Int)=(j:Int)) zD]at this;simp only[Ag];split
 .rename_i e;subst e;rw[rC rfl]at this;omega
 .rename_i e;rw[ru zD]at this;omega
def Vo (K:KS) (b:Nat) (r:PR) (fd:Nat):KS->Nat->Nat->n_->Prop:=λK' x y f=>(r.has fd=false/\GU K 2 K' x y f)\/∃i:Nat,r.fds[fd]?=some (i:Int)/\i<20/\K'=(K.drop i).Bi b { r with fds:=r.fds.set fd (-1) }/\x=0/\y=0/\f=.nilFunc
section
variable (m:Nat) (w:o_)
theorem ar0 (K:KS) (NC NS b fd:Nat) (r:PR) (h:AV K w) (hO:Eo NC NS K) (hm:b∈K.Aw) (hb:K.ps b=some r) (hn:r.en=false) (hfd:fd<65536):
  O_ m 148 #[Q_ K.kb,Q_ b,a_ (fd:Nat)] w (FO (Vo K b r fd) NC NS b K w):=by
 have o:=hO.pr b r hb;obtain⟨u,L,F⟩:=Iw w;have B:=h.no u;have O:K.T w.heap.size=(0,0):=h.lt _ (w_ _);have V:=λm=>XV m _ K b fd r B hb hn hfd
 gi_enter func148,ntmps148;gi_wp2_with (gi_at_call 202;refine(V _).mono ?_;rintro e w1 ⟨p,x,rfl,hx,D⟩;generalize hw0:w.alloc V_=w0 at *;cases x)
 .skip
  gi_wp2_with (first|(gi_at_call 140;refine(TI 2 (p.old L id) _).mono ?_;rintro e wz ⟨rfl,k,w8,s,v,z⟩)|refine EX s ?_);refine T_ 0 2 (by simp[results,results148,go_sem,FI z]) rfl ?_;exact BV h hO hm hb u F (p.then k) v wB wB (.inl ⟨D.out.symm,GU.of⟩)
 .obtain⟨n,a,N⟩:=hx (by first|rfl|trivial);obtain⟨i,rfl,j⟩:=(o.fd n (t_ a)).resolve_left N;obtain⟨J,R,P⟩:=hO.close hm hb hn j a;have H:=B.no p;obtain⟨g,c,q9,C,tg,S⟩:=H.pX hb hn;have hfl:=(KT.1 a).1;have f1:(fd:Int)<(r.fds.length:Int):=zD
  have d:=C.OZ rfl a;gi_wp2;refine BP 10 30 ?_;gi_wp2;refine Eb ?_ ?_
  .intro W q;have d9:=q.has (w:=w1.drew) q9;have dd:=q.has (w:=w1.drew) d
   repeat' (refine Au ?_ ?_)
   all_goals first|exact eu|gi_wp2
  .intro W q;have KW:Ac No w1 W:=(Ac.refl No w1).drew.then q;have Z:=H.no KW;have U:=λm=>yZ m W K i Z j J (by have:=hO.Ef.le i j;rw[hO.Ef.ho i j];exact this) (by have:=hO.Ef.nl;omega) (λf hf=>hO.Ef.eff j J hf)
   have G:(K.drop i).ps b=some r:=(by rw[((LU.refl K).drop i).ps];exact hb);gi_wp2_with (gi_at_call 155;refine(U _).mono ?_;rintro e w2 ⟨rfl,I,Q⟩;obtain⟨g2,c2,p9,t,E,A⟩:=I.pX G hn;have d2:=t.OZ rfl a;have Y:=t.fz fd);have M:=I.bi1 (i:=fd) (x:=-1) G hn A t E;have X:(K.drop i).T=K.T:=((LU.refl K).drop i).T;have l:BN K.T (K.drop i).T w0 _:=((BN.no (p.then KW) B.lt).trans (by rw[X];exact Q)).trans M.2;gi_wp2_with (first|(gi_at_call 152;refine(Ed _ _ 0 zD).mono ?_;rintro e wz ⟨rfl,k⟩;obtain⟨w8,s,v,z⟩:=AA (x:=0) (y:=0) (f:=.nilFunc) (k.old (l.old L O) id) rfl)|refine EX s ?_);refine T_ 0 0 (by simp[results,results148,go_sem,FI z]) rfl ?_;exact BB (K':=(K.drop i).Bi b { r with fds:=r.fds.set fd (-1) }) (x:=0) (y:=0) h.lt u F ((l).then k) ((M.1).no k) v zD zD (.inl rfl) (R) (P) Aj (λ_=>by show b∈(K.drop i).Aw;rw[((LU.refl K).drop i).Aw];exact hm) (.inr ⟨i,a,j,rfl,rfl,rfl,rfl⟩)
end
def zZ (K:KS) (b:Nat) (r:PR) (fd:Nat):KS->Nat->Nat->n_->Prop:=λK' x y f=>(r.has fd=false/\GU K 2 K' x y f)\/(r.has fd=true/\DC r.fds=0/\GU K 7 K' x y f)\/∃i j:Nat,r.fds[fd]?=some (i:Int)/\i<20/\IK r.fds j/\K'=KS.Bi { K with desc:=Ag K.desc i (K.desc i+1) } b { r with fds:=r.fds.set j (i:Int) }/\x=j/\y=0/\f=.nilFunc
section
variable (m:Nat) (w:o_)
theorem br0 (K:KS) (NC NS b fd:Nat) (r:PR) (h:AV K w) (hO:Eo NC NS K) (hm:b∈K.Aw) (hb:K.ps b=some r) (hn:r.en=false) (hfd:fd<65536):
  O_ m 149 #[Q_ K.kb,Q_ b,a_ (fd:Nat)] w (FO (zZ K b r fd) NC NS b K w):=by
 have o:=hO.pr b r hb;have S:r.fds.length<=6:=by rw[o.fds hn];omega
 obtain⟨D,M,F⟩:=Iw w;have p:=h.no D;have Y:K.T w.heap.size=(0,0):=h.lt _ (w_ _);have ch:=λm=>XV m _ K b fd r p hb hn hfd
 gi_enter func149,ntmps149;gi_wp2_with (gi_at_call 202;refine(ch _).mono ?_;rintro e w1 ⟨k,x,rfl,hx,C⟩;generalize hw0:w.alloc V_=w0 at *;cases x)
 .skip
  gi_wp2_with (first|(gi_at_call 140;refine(TI 2 (k.old M id) _).mono ?_;rintro e V ⟨rfl,a,U,u,z,A⟩)|refine EX u ?_);refine T_ 0 2 (by simp[results,results149,go_sem,FI A]) rfl ?_;exact BV h hO hm hb D F (k.then a) z wB wB (.inl ⟨C.out.symm,GU.of⟩)
 .obtain⟨n,q,X⟩:=hx (by first|rfl|trivial);obtain⟨i,rfl,t⟩:=(o.fd n (t_ q)).resolve_left X;obtain⟨Q,_⟩:=hO.close hm hb hn t q;have h1:=p.no k;have G:=λm=>kN m w1 K b r h1 hb hn zD
  have L:=YQ (l:=r.fds);obtain⟨s,I⟩:∃s,ag (DC r.fds=s):=⟨_,rfl⟩;rw[I.out]at G L;by_cases J:s=0
  .subst J;gi_wp2_with (gi_at_call 204;refine(G _).mono ?_;rintro e w2 ⟨v,rfl⟩);gi_wp2_with (first|(gi_at_call 140;refine(TI 7 ((k.then v).old M id) _).mono ?_;rintro e V ⟨rfl,a,U,u,z,A⟩)|refine EX u ?_);refine T_ 0 7 (by simp[results,results149,go_sem,FI A]) rfl ?_;exact BB (K':=K) (x:=0) (y:=7) h.lt D F (((BN.no (k.then v) p.lt)).then a) ((p.no (k.then v)).no a) z zD zD (.inl rfl) (hO) (Rel.refl b K) hb (λ_=>hm) (.inr (.inl ⟨C.out.symm,I.out,GU.of⟩))
  .have f0:((s:Int)==0)=false:=(by simp;omega);gi_wp2_with (gi_at_call 204;refine(G _).mono ?_;rintro e w2 ⟨v,rfl⟩);have KK:=k.then v;have O:=p.no KK;obtain⟨g,c,q9,H,tg,as9⟩:=O.pX hb hn;have hfl:=(KT.1 q).1;have f1:(fd:Int)<(r.fds.length:Int):=zD;have d:=H.OZ rfl q;refine BP 10 37 ?_;gi_wp2;refine Eb ?_ ?_
   .intro W E;have d9:=E.has (w:=w2.drew) q9;have dd:=E.has (w:=w2.drew) d
    repeat' (refine Au ?_ ?_)
    all_goals first|exact eu|gi_wp2
   .intro W E;have KW:Ac No w2 W:=(Ac.refl No w2).drew.then E;have hW:=O.no KW;have cd:=λm=>kP m W K i hW t Q (by have:=hO.Ef.le i t;rw[hO.Ef.ho i t];exact this)
    gi_wp2_with (gi_at_call 193;refine(cd _).mono ?_;rintro e w3 ⟨rfl,P,M3⟩;obtain⟨g2,c2,p9,Z,tg2,bu1⟩:=P.pX (b:=b) hb hn;have d2:=Z.OZ rfl q;have ce:=λm=>Ul m w3 _ b (i:Int) r P hb hn zD (by rw[I.out];omega));gi_wp2_with (gi_at_call 200;refine(ce _).mono ?_;rintro e w4 ⟨j,B,rfl,h4,M4⟩);have R:=B.1;have hjl:=(KT.1 R).1;obtain⟨RS,Ir⟩:=hO.dup hm hb hn t Q R;have N:BN K.T K.T w0 w4:=((BN.no (KK.then KW) p.lt).trans M3).trans M4;gi_wp2_with (first|(gi_at_call 152;refine(Ed _ _ j zD).mono ?_;rintro e V ⟨rfl,a⟩;obtain⟨U,u,z,A⟩:=AA (x:=j) (y:=0) (f:=.nilFunc) (a.old (N.old M Y) id) rfl)|refine EX u ?_);refine T_ j 0 (by simp[results,results149,go_sem,FI A]) rfl ?_;exact BB (K':=KS.Bi { K with desc:=Ag K.desc i (K.desc i+1) } b { r with fds:=r.fds.set j (i:Int) }) (x:=j) (y:=0) h.lt D F ((N).then a) ((h4).no a) z zD zD (.inl rfl) (RS) (Ir) Aj (λ_=>hm) (.inr (.inr ⟨i,j,q,t,B,rfl,rfl,rfl,rfl⟩))
end
theorem u333:(prog.underlying 333).map (λd=>match d with | .struct fs=>fs[0]?.map (λf=>(f.type,f.offset,f.byteOffset))|_=>none)=some (some (331,0,0)):=sJ
theorem bw4:prog.cellsOf 333=1:=sJ
theorem bw3:prog.cellsOf 335=1:=sJ
theorem bw6:byteOfCell prog prog.depth 333 0=some 0:=sJ
theorem az5 {T:j_} (h:w.heap[b]?=some (N_ #[ptr p] T)) (j:prog.cellsOf T=1) (d:byteOfCell prog prog.depth T 0=some 0):(partAt (R_ b) 0 0).run prog w=.ok (R_ b) w:=by
 have a:w.shape? b=some (T,1):=by simp[World.shape?,h]
 simp[partAt,byteOf,noView,viewAt,a,j,d,Result.andThen]
theorem UE {t S:j_} {name:String} {f:h_} (q:((prog.info? t).bind fun i=>(i.methods.find? fun m=>m.name==name).map fun m=>(m.path.toList,m.func))=some ([⟨S,0,true⟩],some (f,false))) (o:(prog.underlying S).map (fun d=>match d with | .struct fs=>fs[0]?.map (fun f=>(f.type,f.offset,f.byteOffset))|_=>none)=some (some (331,0,0))) (h:w.heap[b]?=some (N_ #[ptr p] S)) (u:prog.cellsOf S=1) (s:byteOfCell prog prog.depth S 0=some 0):
  (method 468 t (Q_ b) name).run prog w=.ok (f,.agg #[]) w:=by
 cases hi:prog.info? t with
 |none=>rw[hi]at q;cases q
 |some i=>
  rw[hi]at q
  simp only[Option.bind_some]at q
  cases hf:i.methods.find? (λm=>m.name==name)with
  |none=>rw[hf]at q;cases q
  |some M=>
   rw[hf]at q
   simp only[Option.map_some,qx,lJ]at q
   obtain⟨m1,m2⟩:=q
   cases hd:prog.underlying S with
   |none=>rw[hd]at o;cases o
   |some d=>
    rw[hd]at o
    cases d with
    |struct fs=>
     simp only[Option.map_some,qx]at o
     cases hx:fs[0]? with
     |none=>rw[hx]at o;cases o
     |some F=>
      rw[hx]at o
      simp only[Option.map_some,qx,lJ]at o
      obtain⟨e,g,j⟩:=o
      have c:=az5 h u s
      have a:prog.underlying 331=some (.struct #[]):=sJ
      rw[show(468:Nat)=467+1 from rfl]
      unfold method
      simp[typeInfo,hi,hf,m1,m2,follow,run_underlying hd,hx,e,g,j,Place.get,asAddr,fieldPlace,c,receiverAt,run_underlying a,loadVar,loadCells,loadCellsFrom,Result.andThen]
    |_=>simp at o
theorem u335:(prog.underlying 335).map (λd=>match d with | .struct fs=>fs[0]?.map (λf=>(f.type,f.offset,f.byteOffset))|_=>none)=some (some (331,0,0)):=sJ
theorem bw5:byteOfCell prog prog.depth 335 0=some 0:=sJ
theorem am6 {w:World} (h:w.heap[b]?=some (.cells #[ptr p] 333 (0,0))):(method 468 330 (.pointer (some ⟨b,0,none⟩)) "Write").run prog w=.ok (268,.agg #[]) w:=UE (by kernel_rfl) u333 h bw4 bw6
theorem am9 {w:World} (h:w.heap[b]?=some (.cells #[ptr p] 333 (0,0))):(method 468 330 (.pointer (some ⟨b,0,none⟩)) "Seek").run prog w=.ok (267,.agg #[]) w:=UE (by kernel_rfl) u333 h bw4 bw6
theorem am8 {w:World} (h:w.heap[b]?=some (.cells #[ptr p] 335 (0,0))):(method 468 334 (.pointer (some ⟨b,0,none⟩)) "Seek").run prog w=.ok (267,.agg #[]) w:=UE (by kernel_rfl) u335 h bw3 bw5
theorem an1 {w:World} (h:w.heap[b]?=some (.cells #[ptr p] 335 (0,0))):(method 468 334 (.pointer (some ⟨b,0,none⟩)) "Read").run prog w=.ok (274,.agg #[]) w:=UE (by kernel_rfl) u335 h bw3 bw5
theorem an2 (b:Nat):∀w:World,(method 468 330 (.pointer (some ⟨b,0,none⟩)) "Read").run prog w=.ok (266,.pointer (some ⟨b,0,none⟩)) w:=λw=>by kernel_rfl
theorem am5 (b:Nat):∀w:World,(method 468 334 (.pointer (some ⟨b,0,none⟩)) "Write").run prog w=.ok (275,.pointer (some ⟨b,0,none⟩)) w:=λw=>by kernel_rfl
theorem am4 (b:Nat):∀w:World,(method 468 337 (.pointer (some ⟨b,0,none⟩)) "Write").run prog w=.ok (279,.pointer (some ⟨b,0,none⟩)) w:=λw=>by kernel_rfl
theorem am7 (b:Nat):∀w:World,(method 468 337 (.pointer (some ⟨b,0,none⟩)) "Seek").run prog w=.ok (278,.pointer (some ⟨b,0,none⟩)) w:=λw=>by kernel_rfl
theorem an0 (b:Nat):∀w:World,(method 468 337 (.pointer (some ⟨b,0,none⟩)) "Read").run prog w=.ok (277,.pointer (some ⟨b,0,none⟩)) w:=λw=>by kernel_rfl
section
variable (m:Nat) (w:o_)
theorem ϗ (v:n_):O_ m 268 #[.agg #[],v] w λe w'=>e=.returned (.agg #[a_ 0,a_ 2,.nilFunc])/\Ac No w w':=by
 have c:=λm w=>MK m w 2
 have h:Ac No w ((w.alloc (.cells #[] 331)).alloc V_):=((Ac.refl _ _).alloc _).alloc _;have l:((w.alloc (.cells #[] 331)).alloc V_).heap[w.heap.size+1]?=some (N_ #[a_ 0,a_ 0,.nilFunc] 206):=by
  have:=Y7 (w:=w.alloc (.cells #[] 331)) (o:=.cells #[a_ 0,a_ 0,.nilFunc] 206) rfl
  simpa using this
 gi_enter func268,ntmps268;gi_wp2_with (first|(gi_at_call 273;refine(c _ _).mono ?_;rintro e w1 ⟨rfl,d⟩;obtain⟨b,g,i,a⟩:=AA (x:=0) (y:=2) (f:=.nilFunc) (d.old l id) rfl)|refine EX g ?_);have q:b.cell? (R_ (w.heap.size+1))=some (a_ 0):=bce a rfl;have p:b.cell? (S_ (w.heap.size+1) 1)=some (a_ 2):=bce a rfl;have n:b.cell? (S_ (w.heap.size+1) 2)=some .nilFunc:=bce a rfl;refine T_ 0 2 (by simp[results,results268,go_sem,q,p,n]) rfl ?_;exact⟨rfl,(h.then d).trans i (λk j e=>ql j (by rw[show k=w.heap.size+1 from e];omega))⟩
theorem lX (v:n_):O_ m 267 #[.agg #[],v] w λe w'=>e=.returned (.agg #[a_ 0,a_ 2,.nilFunc])/\Ac No w w':=by
 have c:=λm w=>MK m w 2
 have h:Ac No w ((w.alloc (.cells #[] 331)).alloc V_):=((Ac.refl _ _).alloc _).alloc _;have l:((w.alloc (.cells #[] 331)).alloc V_).heap[w.heap.size+1]?=some (N_ #[a_ 0,a_ 0,.nilFunc] 206):=by
  have:=Y7 (w:=w.alloc (.cells #[] 331)) (o:=.cells #[a_ 0,a_ 0,.nilFunc] 206) rfl
  simpa using this
 gi_enter func267,ntmps267;gi_wp2_with (first|(gi_at_call 273;refine(c _ _).mono ?_;rintro e w1 ⟨rfl,d⟩;obtain⟨b,g,i,a⟩:=AA (x:=0) (y:=2) (f:=.nilFunc) (d.old l id) rfl)|refine EX g ?_);have q:b.cell? (R_ (w.heap.size+1))=some (a_ 0):=bce a rfl;have p:b.cell? (S_ (w.heap.size+1) 1)=some (a_ 2):=bce a rfl;have n:b.cell? (S_ (w.heap.size+1) 2)=some .nilFunc:=bce a rfl;refine T_ 0 2 (by simp[results,results267,go_sem,q,p,n]) rfl ?_;exact⟨rfl,(h.then d).trans i (λk j e=>ql j (by rw[show k=w.heap.size+1 from e];omega))⟩
theorem aq6 (v:n_):O_ m 274 #[.agg #[],v] w λe w'=>e=.returned (.agg #[a_ 0,a_ 2,.nilFunc])/\Ac No w w':=by
 have c:=λm w=>MK m w 2
 have h:Ac No w ((w.alloc (.cells #[] 331)).alloc V_):=((Ac.refl _ _).alloc _).alloc _;have l:((w.alloc (.cells #[] 331)).alloc V_).heap[w.heap.size+1]?=some (N_ #[a_ 0,a_ 0,.nilFunc] 206):=by
  have:=Y7 (w:=w.alloc (.cells #[] 331)) (o:=.cells #[a_ 0,a_ 0,.nilFunc] 206) rfl
  simpa using this
 gi_enter func274,ntmps274;gi_wp2_with (first|(gi_at_call 273;refine(c _ _).mono ?_;rintro e w1 ⟨rfl,d⟩;obtain⟨b,g,i,a⟩:=AA (x:=0) (y:=2) (f:=.nilFunc) (d.old l id) rfl)|refine EX g ?_);have q:b.cell? (R_ (w.heap.size+1))=some (a_ 0):=bce a rfl;have p:b.cell? (S_ (w.heap.size+1) 1)=some (a_ 2):=bce a rfl;have n:b.cell? (S_ (w.heap.size+1) 2)=some .nilFunc:=bce a rfl;refine T_ 0 2 (by simp[results,results274,go_sem,q,p,n]) rfl ?_;exact⟨rfl,(h.then d).trans i (λk j e=>ql j (by rw[show k=w.heap.size+1 from e];omega))⟩
end
theorem JI:Ob prog 116 123 (a_ 0) 1 2:=⟨underlying116,sJ,by rfl,wB,by intro x a;simp[Value.cells]at a;subst a;rfl⟩
theorem EF (l:List Nat):∀x∈Az l,x.oneCell'=true:=by
 intro x a;simp only[Az,List.mem_map]at a;obtain⟨n,_,rfl⟩:=a
 rfl
theorem UH {o:Nat} {l ws:List Nat} {a:f_} (C:Rw 123 1 w g n c (Az l)) (F:l.length=n) (B:∀j v,(Az ws)[j]?=some v->w.cell? (a.add j)=some v) (D:ws.length=Nat.min CV IQ) (E:o+ws.length<=n):∃w',(Builtin.copy_ #[116,116] ty #[.slice (some (S_ g o)) IQ Hu,.slice (some a) CV sCap]).run prog w=.ok (goInt (Nat.min CV IQ)) w'/\Ac (At g) w w'/\Rw 123 1 w' g n c (Az (l.take o++ws++l.drop (o+ws.length))):=by
 obtain⟨d,y,p,z⟩:=C.blk;have s:=C.le;have b:(Az ws).length=ws.length:=by simp[Az]
 have k:d.toList.length=c*1:=by simpa using p
 have q:=xP (ty:=ty) (sT:=116) (IQ:=IQ) (Hu:=Hu) (CV:=CV) (sCap:=sCap) JI y (cs:=Az ws) (o:=o) (by rw[b,D];simp) B (by rw[b,p];omega) (EF ws);have t:(RG d.toList o (Az ws)).length=c*1:=by rw[Oh (by rw[b,k];omega)];simpa using p
 refine⟨_,q,(Ac.refl _ _).setRow _ _ λ_=>rfl,Vb C t s ?_ (EF _)⟩;apply List.ext_getElem?;intro j;have m:=Ug (l:=d.toList) (cs:=Az ws) (o:=o) (i:=j) (by rw[b,k];omega);have f:∀j,j<n->d.toList[j]?=(Az l)[j]?:=λj r=>by rw[<-z,List.getElem?_take,rC zD]
 rw[List.getElem?_take];by_cases r:j<n*1
 .rw[rC r,m,b];have e:(Az (l.take o++ws++l.drop (o+ws.length)))[j]?=((l.take o++ws++l.drop (o+ws.length))[j]?).map λx:Nat=>Value.int .u16 (x:Int):=by simp only[Az,List.getElem?_map]
  rw[e,List.append_assoc,List.getElem?_append,List.getElem?_append];simp only[ed,List.getElem?_take,List.getElem?_drop];have A:min o l.length=o:=zD
  rw[A];by_cases h:j<o
  .rw[rC h,rC h,rC h,f j zD];simp[Az]
  .rw[ru h,ru h];by_cases u:j<o+ws.length
   .rw[rC u,rC zD];simp[Az]
   .rw[ru u,ru zD,f j zD];have e2:o+ws.length+(j-o-ws.length)=j:=zD;rw[e2];simp only[Az,List.getElem?_map]
 .rw[ru r,List.getElem?_eq_none];simp[Az];omega
theorem bf0 {d a:d_ f_} (h:Nat.min CV IQ=0):(Builtin.copy_ #[116,116] ty #[.slice d IQ Hu,.slice a CV sCap]).run prog w=.ok (goInt 0) w:=vZ JI h
section
variable (m:Nat) (w:o_)
theorem ϛ (g n cap i j:Nat) (xs:U_) (z:Rw 123 1 w g n cap xs) (u:i<j) (v:j<=n):
  O_ m 271 #[P_ g n cap,b_ (i:Nat),b_ (j:Nat)] w λe w'=>e=.returned (P_ g (i+(n-j)) cap)/\Ac (At g) w w'/\Rw 123 1 w' g (i+(n-j)) cap (xs.take (i*1)++xs.drop (j*1)):=by
 have p:=z.le;have r:¬((j:Int)<(i:Int)):=zD
 have s:¬((n:Int)<(j:Int)):=zD
 have t:¬((cap:Int)<(n:Int)):=zD
 by_cases a:cap=j
 all_goals
  gi_enter func271,ntmps271
  gi_wp2
  refine BP 6 33 ?_
  gi_wp2
  refine Eb ?_ ?_
  .intro W f
   repeat' (refine Au ?_ ?_)
   all_goals first|exact eu|gi_wp2
  .intro W f;obtain⟨w1,b,h,l⟩:=rE (w:=W) (ty:=116) JI (z.keep ((Ac.refl No w).drew.then f) id) u v;obtain⟨w2,d,k,o⟩:=QF (c:=cap-(i+(n-j))) (q:=n-(i+(n-j))) (ty:=0) JI l zD;simp only[Nat.mul_one]at b d
   first|(rw[rC a]at b;simp only[a,Nat.sub_self]at b d)|rw[ru a]at b
   refine Cj rfl (.tmp 22) (.tmp 25) _ rfl rfl rfl b ?_;gi_wp2;go_ret;exact⟨by simp[a],(((Ac.refl _ _).drew.then f.no).then h).then k,o⟩
theorem U3 (a:d_ f_) (n cap:Nat) (d:n<=cap):O_ m 271 #[.slice a n cap,b_ 0,b_ 0] w λe w'=>e=.returned (.slice a n cap)/\Ac No w w':=by
 cases a with
 |none=>
  gi_enter func271,ntmps271
  gi_wp2
  go_ret
  exact⟨zF,Ac.refl _ _⟩
 |some a=>
  gi_enter func271,ntmps271
  gi_wp2
  go_ret
  exact⟨zF,Ac.refl _ _⟩
end
end Go.Fxa
