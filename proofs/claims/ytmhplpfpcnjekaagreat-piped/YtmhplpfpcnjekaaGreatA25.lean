/- A kernel of many processes: a -/
import Derived.Test.YtmhplpfpcnjekaaGreatA24
import Derived.Laws.EntriesVeiled
namespace Go.Fxa
open Conc Proofs RowKit Proofs.Tryz
set_option maxRecDepth 1000000
set_option maxHeartbeats 0
structure Tabs (K K':KS):Prop where
 eq:K'={ K with desc:=K'.desc,ef:=K'.ef,op:=K'.op,nl:=K'.nl,ct:=K'.ct,tv:=K'.tv }
theorem Tabs.refl (K:KS):Tabs K K:=⟨rfl⟩
theorem Tabs.drop {K K':KS} (h:Tabs K K') (i:Nat):Tabs K (K'.drop i):=by
 have e:=h.eq;refine⟨?_⟩;unfold KS.drop;split
 .split
  .rw[e]
  .rw[e]
 .rw[e]
theorem Tabs.ps {K K':KS} (h:Tabs K K'):K'.ps=K.ps:=by rw[h.eq]
theorem Tabs.AV {K K':KS} (h:Tabs K K'):K'.AV=K.AV:=by rw[h.eq]
theorem Tabs.T {K K':KS} (h:Tabs K K'):K'.T=K.T:=by rw[h.eq]
theorem Tabs.kb {K K':KS} (h:Tabs K K'):K'.kb=K.kb:=by rw[h.eq]
theorem Tabs.core {K K':KS} (h:Tabs K K') {N:Nat} {x:Nat×Nat} (hc:BU N x K):BU N x K':=by
 have e1:=h.ps;have e2:=h.AV;have e3:K'.core=K.core:=by rw[h.eq]
 exact hc.same e3 (λi=>by rw[e1,e2]) (by rw[e1];exact hc.pl)
theorem Jz {l:List Int} {k:Nat} {n:Int} {i:Nat} (h:l[k]?=some n):(l.take (k+1)).count (i:Int)=(l.take k).count (i:Int)+(if n=i then 1 else 0):=by
 rw[List.take_add_one,h,List.count_append];simp[List.count_singleton]
theorem count_le {l:List Int} {k i:Nat}:(l.take k).count (i:Int)<=l.count (i:Int):=(List.take_sublist k l).count_le _
def KS.drops (K:KS) (l:List Int):KS:=l.foldl (λK n=>if n=-1 then K else K.drop n.toNat) K
theorem ϙ {K K1:KS} {l:List Int} {k:Nat} (h:Hid (K1=K.drops (l.take k))) (hg:l[k]?=some (-1)):Hid (K1=K.drops (l.take (k+1))):=by
 unfold Hid at*;rw[List.take_add_one,hg];simp only[KS.drops,Option.toList_some,List.foldl_append,List.foldl_cons,List.foldl_nil,if_true];exact h
theorem vW {K K1:KS} {l:List Int} {k i:Nat} (h:Hid (K1=K.drops (l.take k))) (hg:l[k]?=some (i:Int)):Hid (K1.drop i=K.drops (l.take (k+1))):=by
 unfold Hid at*;rw[List.take_add_one,hg];simp only[KS.drops,Option.toList_some,List.foldl_append,List.foldl_cons,List.foldl_nil];rw[if_neg (by omega),h]
 rfl
def bn (K:KS) (b:Nat) (r:PR) (st:Nat) (K':KS):Prop:=∃K2 g c K6,CG (K.drops r.fds) K2/\Nc ((K2.swap' (DF K2.swap r.sw (Am r.Ae.length)) g c).AP b (FQ { r with co:=-1 } st)) K6/\K'=K6.Zi
def bm7 (K:KS) (w:o_) (fds:List Int) (k:Nat) (wr:o_):Prop:=∃K1,A8 K1 wr/\Tabs K K1/\BV K.T K.T w wr/\EH (λi=>BP K.ps K.AV i-(fds.take k).count (i:Int)) K1/\Hid (K1=K.drops (fds.take k))
theorem GK.end_ {NC NS b st g c:Nat} {K K1 K2:KS} {r:PR} (h:GK NC NS K) (hm:b∈K.AV) (hb:K.ps b=some r) (hn:r.en=false) (BI:st<65536) (h1:Tabs K K1) (ht:EH (fun i=>BP K.ps K.AV i-r.fds.count (i:Int)) K1) (h2:CG K1 K2) (hc:BU NC (0,0) K2) (LJ:K2.ps b=some { r with co:=-1 }):
  GK NC NS ((K2.swap' (DF K2.swap r.sw (Am r.Ae.length)) g c).AP b (FQ { r with co:=-1 } st))/\Rel b K ((K2.swap' (DF K2.swap r.sw (Am r.Ae.length)) g c).AP b (FQ { r with co:=-1 } st)):=by
 have u:((K2.swap' (DF K2.swap r.sw (Am r.Ae.length)) g c).AP b (FQ { r with co:=-1 } st)).ps=BX K2.ps b (FQ { r with co:=-1 } st):=rfl;have e2:K2.AV=K.AV:=h2.AV.trans h1.AV;have e3:K2.swap=K.swap:=by rw[h2.eq,h1.eq]
 have l:KG b K.ps (BX K2.ps b (FQ { r with co:=-1 } st)):=(by rw[<-h1.ps];exact h2.else b:KG b K.ps K2.ps).trans KG.set;have o:=h.pr b r hb;obtain⟨y,w,x,_⟩:=o.len hn;have s:1<=Am r.Ae.length:=by unfold Am;omega
 have m:=h.sw.pl b r hb;have v:=Vd (a:=r.sw) (n:=Am r.Ae.length) h.sw.so s m;refine h.step (b:=b) (r:=r) (r':=FQ { r with co:=-1 } st) e2 (by show K2.BK=K.BK;rw[h2.eq,h1.eq]) (by show K2.kb=K.kb;rw[h2.eq,h1.eq]) l hb Ah (Ϛ (r:={ r with co:=-1 }) ⟨o.A,o.B,o.P,o.st,o.pid,o.par,o.Ae,o.fds,o.fd,o.len,λe=>absurd e (by simp[hn])⟩ BI) rfl ?_ ?_ ?_
 .refine hc.same rfl (λi=>BQ λk _=>?_) λk q d=>?_
  .show FX i (BX K2.ps b _) k=_;by_cases e:k=b
   .subst e;rw[EF Ah,EF LJ];simp[FQ]
   .unfold FX;rw[Bg e]
  .have d:BX K2.ps b _ k=some q:=d;by_cases e:k=b
   .subst e;rw[Ah]at d;cases d;exact⟨by simp[FQ],.inl rfl⟩
   .rw[Bg e]at d;exact hc.pl k q d
 .refine h.sw.step (b:=b) e2 h.nd hm l hb Ah ?_ ?_ (Nat.zero_le _) (by simp[FQ,Am]) λi=>?_
  .show Sound NS (DF K2.swap r.sw (Am r.Ae.length));rw[e3];exact v.1
  .show XM (DF K2.swap r.sw (Am r.Ae.length));rw[e3];exact cO s h.sw.so h.sw.Ϣ (h.sw.mine hm hb)
  .show D5 i (DF K2.swap r.sw (Am r.Ae.length))+NY i 0 (Am ([]:List Nat).length)+NY i 0 0=_;rw[e3,Y0 s,show Am ([]:List Nat).length=0 by simp[Am],Q8]
 .have p:EH (λi=>BP K.ps K.AV i-r.fds.count (i:Int)) ((K2.swap' (DF K2.swap r.sw (Am r.Ae.length)) g c).AP b (FQ { r with co:=-1 } st)):=by
   have d1:K2.desc=K1.desc:=by rw[h2.eq]
   have d2:K2.op=K1.op:=by rw[h2.eq]
   have d3:K2.ef=K1.ef:=by rw[h2.eq]
   have d4:K2.nl=K1.nl:=by rw[h2.eq]
   have t:K2.nm=K1.nm:=by rw[h2.eq]
   refine⟨?_,ht.le,?_,?_,?_,?_,?_⟩
   .show ∀i,i<20->K2.desc i=_;rw[d1];exact ht.ho
   .show ∀f,K2.op f=EM K2.desc K2.ef f;rw[d1,d2,d3];exact ht.op
   .show K2.nl.Nodup;rw[d4];exact ht.nd
   .show ∀f∈K2.nl,1<=K2.op f;rw[d4,d2];exact ht.nz
   .show ∀i j f,i<16->j<16->K2.nm i=some f->K2.nm j=some f->i=j;rw[t];exact ht.nm
   .show ∀i f,i<16->K2.nm i=some f->f ∉ K2.nl;rw[t,d4];exact ht.dj
  refine p.congr λi _=>?_
  have:=Vb (i:=i) h.nd hm l hb Ah;show BP (BX K2.ps b _) K2.AV i=_;rw[e2];have z:(FQ { r with co:=-1 } st).fds.count (i:Int)=0:=rfl;omega
section
variable (m:Nat) (w:o_)
theorem zJ (K:KS) (NC NS b st:Nat) (r:PR) (h:A8 K w) (hO:GK NC NS K) (hm:b∈K.AV) (hb:K.ps b=some r) (hn:r.en=false) (BI:st<65536):
  P_ m 100 #[R_ K.kb,R_ b,a_ (st:Nat)] w λe w'=>e=.returned (.agg #[a_ st,a_ 0,.nilFunc])/\∃K',A8 K' w'/\GK NC NS K'/\Rel b K K'/\BV K.T K'.T w w'/\(∃r',K'.ps b=some r'/\r'.en=true)/\Hid (bn K b r st K'):=by
 have o:=hO.pr b r hb;have hlen:r.fds.length<=6:=by rw[o.fds hn];omega
 obtain⟨n1,hL⟩:1<=Am r.Ae.length/\r.Ae.length<=128:=by
  obtain⟨kk,MX,Pm,hk3⟩:=o.len hn
  unfold Am;omega
 obtain⟨K0,rb,Cj⟩:=Oa w;have h0:=h.no K0;have MR:K.T w.heap.size=(0,0):=h.lt _ (w_ _);obtain⟨g,c,q9,hR,tg,hfd⟩:=h0.qx hb hn;gi_enter func100,ntmps100;gi_wp2;generalize hw0:w.alloc V_=w0 at*;gi_loopw [14] (λi wr=>∃k:Nat,k<=r.fds.length/\i=b_ k/\bm7 K w0 r.fds k wr) (λi _=>r.fds.length-(intOf i).toNat)
 case atStart=>exact⟨0,by omega,rfl,K,h0,Tabs.refl K,BV.no (p_ _ _) h0.lt,hO.Eh.congr λi _=>(by simp),by unfold Hid;simp[KS.drops]⟩
 case round=>
  obtain⟨k,hk,rfl,Q,X,a,C,q,B⟩:=hrel
  have J6:Q.ps b=some r:=by rw[a.ps];exact hb
  obtain⟨g1,V,p9,Z,tg1,t⟩:=X.qx J6 hn
  have xA:=a.kb
  obtain⟨rfl,rfl⟩:g1=g/\V=c:=by rw[hfd]at t;simp at t;exact⟨t.1.symm,t.2.symm⟩
  by_cases Bv:k<r.fds.length
  .have E:r.fds[k]?=some r.fds[k]:=Lh Bv;generalize r.fds[k]=n at E;have d:=Z.O7 rfl E;obtain rfl|⟨i,rfl,S⟩:=o.fd n (t_ E)
   .gi_wp2;go_roundw
    case rel=>
     refine⟨k+1,by omega,by go_num,Q,X,a,C,q.congr λi _=>?_,ϙ B E⟩
     rw[Jz E,if_neg (by omega)];rfl
    case measure=>simp[intOf];omega
   .have hge:=Rz (p:=K.ps) (i:=i) hm hb;have hcl:=count_le (l:=r.fds) (k:=k+1) (i:=i);have hct:=Jz (i:=i) E;rw[if_pos rfl]at hct;have hH:0<BP K.ps K.AV i-(r.fds.take k).count (i:Int):=(by omega);have hd1:0<Q.desc i:=(by rw[q.ho i S];exact hH);have cd:=λm=>sS m wr Q i X S hd1 (by rw[q.ho i S];exact q.le i S) (by have:=q.nl;omega) (λf hf=>q.eff S hd1 hf)
    rw[xA]at cd;have f1:((i:Int) !=-1)=true:=(by simp);gi_wp2_with (gi_at_call 155;refine(cd _).mono ?_;rintro e w2 ⟨rfl,R,M2⟩);go_roundw
    case rel=>
     rw[a.T]at M2
     refine⟨k+1,by omega,by go_num,Q.drop i,R,a.drop i,C.trans M2,(q.drop S hH).congr λj _=>?_,vW B E⟩
     unfold Aj
     split
     .rename_i e;subst e;rw[hct];omega
     .rename_i e;rw[Jz E,if_neg (by omega)];rfl
    case measure=>simp[intOf];omega
  .obtain rfl:k=r.fds.length:=(by omega);rw[List.take_length]at q B;have ct:=λm=>Um m wr Q b NC (0,0) r X J6 (by rw[a.AV];exact hm) (by rw[a.AV];exact hO.nd) (a.core hO.co)
   rw[xA]at ct;gi_wp2_with (gi_at_call 52;refine(ct _).mono ?_;rintro e w2 ⟨rfl,s,R,A,hC2,hv2,LJ,_⟩);have aa8:s.kb=K.kb:=A.kb.trans xA;obtain⟨a8,c8,q8⟩:=R.im8 LJ;have P:=R.JK LJ 10;simp[PR.arr]at q8 P;have hV2:=C.trans (a.T ▸ hv2);refine CV 9 58 ?_;gi_wp2_with (gi_at_call 58;refine(Gg _ w2.drew b _ _ _ q8 (by omega)).mono ?_;rintro e w1 ⟨rfl,rfl⟩);refine Fg ?_ ?_
   .intro W v;have d10:=v.has (w:=w2.drew) P;have d8:=v.has (w:=w2.drew) q8
    repeat' (refine Az ?_ ?_)
    all_goals first|exact trivial|gi_wp2_with (gi_at_call 58;refine(Gg _ W b _ _ _ d8 (by omega)).mono ?_;rintro e w1 ⟨rfl,rfl⟩)
   .intro W v;have KW:Keep No w2 W:=(p_ No w2).drew.then v;have Y:=R.no KW;have eS:s.swap=K.swap:=(by rw[A.eq,a.eq]);have hpl:=hO.sw.pl b r hb;have hsl:s.swap.length+1<=NS:=by
     rw[eS]
     have a1:=hO.sw.so.len
     have a2:=hO.sw.sum
     have a3:=Ox (f:=onS K.ps) hm
     rw[ν hb]at a3
     omega
    have cg:=λm=>aw2 m W s r.sw (Am r.Ae.length) NS Y (by rw[eS];exact hO.sw.fit) (by have:=hO.sw.le;omega) hpl hsl
    rw[aa8]at cg;have hV3:=hV2.then KW;gi_wp2_with fail;refine(cg _).mono ?_;rintro e w3 ⟨rfl,D,c3,h3,M3⟩;have z:(s.swap' (DF s.swap r.sw (Am r.Ae.length)) D c3).ps b=some { r with co:=-1 }:=LJ;have ND:BV K.T (DZ s.T D (3,0)) w0 w3:=hV3.trans M3;have hE:=hO.end_ (g:=D) (c:=c3) hm hb hn BI a q A hC2 LJ;have tK3:(s.swap' (DF s.swap r.sw (Am r.Ae.length)) D c3).T=DZ s.T D (3,0):=rfl;rw[<-tK3]at ND;clear cg hV3 hV2 Y KW v q8 P ct R hv2 M3 X C Z p9 tK3;generalize J:s.swap' (DF s.swap r.sw (Am r.Ae.length)) D c3=G at*
    replace J:Hid (s.swap' (DF s.swap r.sw (Am r.Ae.length)) D c3=G):=J
    have c0:=h3.JK z 0;have V:=h3.JK z 1;simp[PR.arr]at c0 V;gi_wp2;refine CV 11 58 ?_;gi_wp2;refine Fg ?_ ?_
    .intro W v;have d0:=v.has (w:=w3.drew) c0;have d1:=v.has (w:=w3.drew) V
     repeat' (refine Az ?_ ?_)
     all_goals first|exact trivial|gi_wp2
    .intro W v;have KW:Keep No w3 W:=(p_ No w3).drew.then v;have I:=h3.no KW;obtain⟨w5,F,K5,p5⟩:=mV (r':=FQ { r with co:=-1 } st) (I.ps b _ z).o rfl rfl rfl;simp only[FQ,PR.arr]at F;obtain⟨h4,M4⟩:=I.dead z K5 p5;have hV5:BV K.T G.T w0 w5:=(ND.then KW).trans M4;have eT:(G.AP b (FQ { r with co:=-1 } st)).T=G.T:=rfl;have hb4:(G.AP b (FQ { r with co:=-1 } st)).ps b=some (FQ { r with co:=-1 } st):=Ah;rw[<-eT]at hV5;clear ND KW v I M4 K5 p5 c0 V h3 z eT;generalize L:G.AP b (FQ { r with co:=-1 } st)=K4 at*
     replace L:Hid (G.AP b (FQ { r with co:=-1 } st)=K4):=L
     obtain⟨M,hR4⟩:=hE;have U:K4.kb=K.kb:=hR4.kb;have co:=λm=>vk m w5 K4 b _ h4 M.th hb4 (by have:=M.len;omega)
     rw[U]at co;gi_wp2_with (first|(gi_at_call 157;refine(co _).mono ?_;rintro e w6 ⟨rfl,H,h6,u,hv6,hp6⟩)|refine DU rfl (.tmp 50) (.tmp 49) 128 rfl rfl rfl F ?_);have N:=M.bu4 u hp6;have bu9:H.kb=K.kb:=(by rw[u.eq];exact U);have cb:=λm=>aj7 m w6 H h6 N.th (by have:=N.len;omega)
     rw[bu9]at cb;obtain⟨ca5,hb6⟩:=u.get hb4;gi_wp2_with (first|(gi_at_call 158;refine(cb _).mono ?_;rintro e w7 ⟨rfl,h7,M7⟩;have O:BV K.T H.T w0 w7:=(hV5.trans hv6).trans M7;obtain⟨w8,AZ,K8,b8⟩:=uM (x:=st) (y:=0) (O.old rb MR))|refine DU rfl (.tmp 6) (.tmp 57) 206 rfl rfl rfl AZ ?_);have t7:H.T w.heap.size=(0,0):=(DY.fresh O _ Cj).trans MR;have xE:w8.cell? (S_ w.heap.size)=some (a_ st):=bce b8 rfl;have xC:w8.cell? (T_ w.heap.size 1)=some (a_ 0):=bce b8 rfl;have xB:w8.cell? (T_ w.heap.size 2)=some .nilFunc:=bce b8 rfl;refine TR st 0 (by simp[results,results100,go_sem,xE,xC,xB]) rfl ?_;refine⟨rfl,H.Zi,h7.own K8 t7,N.Zi,((hR4.trans (u.rel b) (by rw[hb];simp) hO.th).trans (Ρ H b) (by rw[hb];simp) hO.th),((BV.no K0 h.lt).trans O).own K8 (λk e=>by rw[show k=w.heap.size from e];exact w_ _),⟨_,hb6,rfl⟩,s,D,c3,H,by rw[<-B.out];exact A,by rw[J.out,L.out];exact u,rfl⟩
end
section
variable (m:Nat) (w:o_)
theorem UW (x:Nat):P_ m 140 #[a_ x] w λe w'=>e=.returned (.agg #[a_ 0,a_ x,.nilFunc])/\Keep No w w':=by
 gi_enter func140,ntmps140;gi_wp2;refine TR 0 x (by simp[results,results140,go_sem]) rfl ?_;exact⟨rfl,by repeat (first|exact p_ _ _|refine Keep.drew ?_|refine Keep.alloc ?_ _)⟩
theorem KT (x:Nat) (hx:x<65536):P_ m 152 #[b_ x] w λe w'=>e=.returned (.agg #[a_ x,a_ 0,.nilFunc])/\Keep No w w':=by
 gi_enter func152,ntmps152;gi_wp2;refine TR x 0 (by simp[results,results152,go_sem]) rfl ?_;exact⟨rfl,by repeat (first|exact p_ _ _|refine Keep.drew ?_|refine Keep.alloc ?_ _)⟩
theorem aw8 {ad:f_} {n c:Nat}:(binOp .eql 116 (.slice (some ad) n c) (.slice none 0 0)).run prog w=.ok (.bool false) w:=by kernel_rfl
theorem aw7:(binOp .eql 116 (.slice none 0 0) (.slice none 0 0)).run prog w=.ok (.bool true) w:=by kernel_rfl
theorem clone_nil:P_ m 141 #[.slice none 0 0] w λe w'=>e=.returned (.slice none 0 0)/\Keep No w w':=by
 have a:=aw7 w;gi_enter func141,ntmps141;gi_wp2;go_ret;exact⟨by simp,p_ _ _⟩
theorem VH:(prog.info? 123).map (λi=>(i.zero,i.size,i.bytes))=some (some (a_ 0),1,2):=by kernel_rfl
theorem Gw {w w':o_} {row:d_ Nat} {S:Nat->Prop} (h:w.grownBy w' row) (hr:∀k,row=some k->k<w.heap.size->S k):Keep S w w':=⟨h.os,h.output,h.size,λk a b=>h.block k a λe=>b (hr k e.symm a)⟩
theorem Xf {w:o_} {e:j_} {size:Nat}:(w.alloc (.cells #[] e)).ownsRow w.heap.size e size (Q_ w.heap.size 0 0) 0 []:=
 ⟨by simp,.inr ⟨w.heap.size,0,#[],rfl,w_ _,heap_alloc_new rfl,w_ _,Nat.zero_le _,by simp,by simp⟩⟩
theorem YS {w:o_} {base base':Nat} {e:j_} {size:Nat} {v:n_} {n:Nat} {xs:U_} (h:w.ownsRow base e size v n xs) (hb:base'<=base):w.ownsRow base' e size v n xs:=by
 obtain⟨i,f⟩:=h;refine⟨i,?_⟩;obtain f|⟨g,cap,d,a,b,c⟩:=f
 .exact .inl f
 .exact .inr ⟨g,cap,d,a,Nat.le_trans hb b,c⟩
theorem Qb (ad:f_) (n c:Nat) (xs:U_) (hl:xs.length=n) (hc:∀j u,xs[j]?=some u->w.cell? (ad.add j)=some u) (h1:∀u∈xs,u.oneCell'=true) (hn:n<=1000):P_ m 141 #[.slice (some ad) n c] w λe w'=>Keep No w w'/\∃v,e=.returned v/\w'.ownsRow w.heap.size 123 1 v n xs:=by
 obtain⟨p,i,a,b,d⟩:=info_parts VH;have r:=aw8 w (ad:=ad) (n:=n) (c:=c);gi_enter func141,ntmps141;gi_wp2_with (gi_at_builtin;refine wpListIn_append_own _ rfl (.tmp 5) (.tmp 6) 116 rfl w.heap.size 123 p (a_ 0) 1 2 underlying116 i a b d rfl (by decide) _ 0 [] rfl Xf ad n c xs rfl (by omega) (λj u l=>((p_ No w).alloc _).has (hc j u l)) h1 (by unfold maxLen;omega) (by omega) (by simp) ?_;intro q w1 g f _);go_ret;refine⟨((p_ No w).alloc (.cells #[] 123)).trans (Gw (S:=At w.heap.size) f (λk h _=>(x_ (show some w.heap.size=some k from h)).symm)) (λk o h=>absurd o (by rw[show k=w.heap.size from h];exact Nat.lt_irrefl _)),q,rfl,?_⟩;simpa using g
theorem OZ (x:Nat):P_ m 273 #[a_ x] w λe w'=>e=.returned (.agg #[a_ 0,a_ x,.nilFunc])/\Keep No w w':=by
 gi_enter func273,ntmps273;gi_wp2;refine TR 0 x (by simp[results,results273,go_sem]) rfl ?_;exact⟨rfl,by repeat (first|exact p_ _ _|refine Keep.drew ?_|refine Keep.alloc ?_ _)⟩
theorem CZ (x:Nat) (hx:x<65536):P_ m 272 #[b_ x] w λe w'=>e=.returned (.agg #[a_ x,a_ 0,.nilFunc])/\Keep No w w':=by
 gi_enter func272,ntmps272;gi_wp2;refine TR x 0 (by simp[results,results272,go_sem]) rfl ?_;exact⟨rfl,by repeat (first|exact p_ _ _|refine Keep.drew ?_|refine Keep.alloc ?_ _)⟩
theorem info3:(prog.info? 3).map (λi=>(i.zero,i.size,i.bytes))=some (some (b_ 0),1,8):=by kernel_rfl
theorem bl1 {ad:f_} {n c:Nat}:(binOp .eql 22 (.slice (some ad) n c) (.slice none 0 0)).run prog w=.ok (.bool false) w:=by kernel_rfl
theorem bl0:(binOp .eql 22 (.slice none 0 0) (.slice none 0 0)).run prog w=.ok (.bool true) w:=by kernel_rfl
theorem pI:P_ m 102 #[.slice none 0 0] w λe w'=>e=.returned (.slice none 0 0)/\Keep No w w':=by
 have a:=bl0 w;gi_enter func102,ntmps102;gi_wp2;go_ret;exact⟨by simp,p_ _ _⟩
theorem Xp (ad:f_) (n c:Nat) (xs:U_) (hl:xs.length=n) (hc:∀j u,xs[j]?=some u->w.cell? (ad.add j)=some u) (h1:∀u∈xs,u.oneCell'=true) (hn:n<=1000):P_ m 102 #[.slice (some ad) n c] w λe w'=>Keep No w w'/\∃v,e=.returned v/\w'.ownsRow w.heap.size 3 1 v n xs:=by
 obtain⟨p,i,a,b,d⟩:=info_parts info3;have r:=bl1 w (ad:=ad) (n:=n) (c:=c);gi_enter func102,ntmps102;gi_wp2_with (gi_at_builtin;refine wpListIn_append_own _ rfl (.tmp 5) (.tmp 6) 22 rfl w.heap.size 3 p (b_ 0) 1 8 underlying22 i a b d rfl (by decide) _ 0 [] rfl Xf ad n c xs rfl (by omega) (λj u l=>((p_ No w).alloc _).has (hc j u l)) h1 (by unfold maxLen;omega) (by omega) (by simp) ?_;intro q w1 g f _);go_ret;refine⟨((p_ No w).alloc (.cells #[] 3)).trans (Gw (S:=At w.heap.size) f (λk h _=>(x_ (show some w.heap.size=some k from h)).symm)) (λk o h=>absurd o (by rw[show k=w.heap.size from h];exact Nat.lt_irrefl _)),q,rfl,?_⟩;simpa using g
end
theorem Nj.one {T:Tag} {w:o_} {kb b:Nat} {f:n_} (h:Nj T w kb b f):f.oneCell'=true:=by
 obtain rfl|⟨_,_,rfl,_⟩|⟨_,rfl|rfl,_⟩:=h<;>rfl
theorem AU {w:o_} {rb:Nat} {a b c f:n_} {x y:Int} (h:w.heap[rb]?=some (O_ #[a,b,c] 206)) (hf:f.oneCell'=true):∃w',(Instr.storeAt 206 (R_ rb) (.agg #[a_ x,a_ y,f])).run prog w=.ok () w'/\Keep (At rb) w w'/\w'.heap[rb]?=some (O_ #[a_ x,a_ y,f] 206):=by
 have e:(Instr.storeAt 206 (R_ rb) (.agg #[a_ x,a_ y,f])).run prog w=(stores rb 0 [a_ x,a_ y,f] (.pure ())).run prog w:=by kernel_rfl
 obtain⟨w',d,g,i⟩:=Iy (P:=prog) (k:=Sem.pure ()) [a_ x,a_ y,f] 0 _ w h (by simp) (by simp[hf];exact⟨rfl,rfl⟩);refine⟨w',?_,g,?_⟩
 .rw[e,d];rfl
 .rw[i];simp[UJ]
def St8 (rb:Nat) (y:Int) (w:o_):Prop:=∃w8,(Instr.storeAt 206 (R_ rb) (.agg #[a_ 0,a_ y,.nilFunc])).run prog w=.ok () w8/\Keep (At rb) w w8/\w8.heap[rb]?=some (O_ #[a_ 0,a_ y,.nilFunc] 206)
theorem wr8 {w:o_} {rb:Nat} {a b c:n_} (y:Nat) (h:w.heap[rb]?=some (O_ #[a,b,c] 206)) (m:Nat):P_ m 140 #[a_ y] w λe w'=>e=.returned (.agg #[a_ 0,a_ y,.nilFunc])/\Keep No w w'/\St8 rb y w':=(UW m w y).mono λ_ _ ⟨e,K⟩=>⟨e,K,AU (K.old h id) rfl⟩
theorem fw8 {w:o_} {rb:Nat} {a b c:n_} (y:Nat) (h:w.heap[rb]?=some (O_ #[a,b,c] 206)) (m:Nat):P_ m 273 #[a_ y] w λe w'=>e=.returned (.agg #[a_ 0,a_ y,.nilFunc])/\Keep No w w'/\St8 rb y w':=(OZ m w y).mono λ_ _ ⟨e,K⟩=>⟨e,K,AU (K.old h id) rfl⟩
def NX:KS->Nat->Nat->n_->Prop:=λ_ _ _ _=>True
def O6 (K:KS) (y:Nat):KS->Nat->Nat->n_->Prop:=λK' x z f=>K'=K/\x=0/\z=y/\f=.nilFunc
theorem O6.of {K:KS} {y:Nat}:O6 K y K 0 y .nilFunc:=⟨rfl,rfl,rfl,rfl⟩
def Kr (X:KS->Nat->Nat->n_->Prop) (NC NS b:Nat) (K:KS) (w:o_) (e:Ending) (w':o_):Prop:=∃(K':KS) (x y:Nat) (f:n_),e=.returned (.agg #[a_ x,a_ y,f])/\x<65536/\y<65536/\Nj K'.T w' K'.kb b f/\A8 K' w'/\GK NC NS K'/\Rel b K K'/\BV K.T K'.T w w'/\(∃r',K'.ps b=some r'/\(r'.en=false->b∈K'.AV))/\X K' x y f
theorem Ci {X:KS->Nat->Nat->n_->Prop} {NC NS b x y:Nat} {K K':KS} {w w0 w7 w8:o_} {f:n_} {r':PR} (Bv:∀k,w.heap.size<=k->K.T k=(0,0)) (K0:Keep No w w0) (Cj:w.heap.size<w0.heap.size) (hV:BV K.T K'.T w0 w7) (h7:A8 K' w7) (K8:Keep (At w.heap.size) w7 w8) (hx:x<65536) (hy:y<65536) (hf:Nj K'.T w7 K'.kb b f) (hO:GK NC NS K') (hR:Rel b K K') (hr:K'.ps b=some r') (Gq:r'.en=false->b∈K'.AV) (hX:X K' x y f):Kr X NC NS b K w (.returned (.agg #[a_ x,a_ y,f])) w8:=by
 have a:K'.T w.heap.size=(0,0):=(DY.fresh hV _ Cj).trans (Bv _ (w_ _));have c:Keep (On K'.T λt=>t=(0,0)) w7 w8:=K8.on λk _ e=>by rw[show k=w.heap.size from e];exact a
 exact⟨K',x,y,f,rfl,hx,hy,hf.keep c (by simp),h7.own K8 a,hO,hR,((BV.no K0 Bv).trans hV).own K8 (λk e=>by rw[show k=w.heap.size from e];exact w_ _),⟨r',hr,Gq⟩,hX⟩
structure ao7 (K K':KS):Prop where
 eq:K'={ K with desc:=K'.desc,ef:=K'.ef,op:=K'.op,nl:=K'.nl,nm:=K'.nm,T:=K'.T,ct:=K'.ct,tv:=K'.tv }
theorem Tabs.tt {K K':KS} (h:Tabs K K'):ao7 K K':=⟨by rw[h.eq]⟩
theorem GK.fds {NC NS b:Nat} {K K1:KS} {r r':PR} {H:Nat->Nat} (h:GK NC NS K) (hT:ao7 K K1) (hm:b∈K.AV) (hb:K.ps b=some r) (hp:r'.pid=r.pid) (_:r'.en=r.en) (Ip:r'.co=r.co) (hsw:r'.sw=r.sw) (hi:r'.Ae.length=r.Ae.length) (ho:r'.Ok) (ht:EH H K1) (hH:∀i,i<20->H i+r.fds.count (i:Int)=BP K.ps K.AV i+r'.fds.count (i:Int)):GK NC NS (K1.AP b r')/\Rel b K (K1.AP b r'):=by
 have e1:K1.ps=K.ps:=by rw[hT.eq]
 have e2:K1.AV=K.AV:=by rw[hT.eq]
 have e3:K1.core=K.core:=by rw[hT.eq]
 have e4:K1.swap=K.swap:=by rw[hT.eq]
 have c:KG b K.ps (BX K1.ps b r'):=by rw[e1];exact KG.set
 refine h.step (b:=b) (r:=r) (r':=r') e2 (by show K1.BK=K.BK;rw[hT.eq]) (by show K1.kb=K.kb;rw[hT.eq]) c hb Ah ho hp ?_ ?_ ?_
 .refine h.co.same e3 (λi=>?_) λk q a=>?_
  .show BF (FX i (BX K1.ps b r')) K1.AV=_;rw[e1,e2];refine BQ λk _=>?_
   by_cases e:k=b
   .subst e;rw[EF Ah,EF hb,Ip,hi]
   .unfold FX;rw[Bg e]
  .have a:BX K1.ps b _ k=some q:=a;by_cases e:k=b
   .subst e;rw[Ah]at a;cases a;rw[hi,Ip];exact h.co.pl _ r hb
   .rw[Bg e,e1]at a;exact h.co.pl k q a
 .refine h.sw.step (b:=b) e2 h.nd hm c hb Ah ?_ ?_ (Nat.zero_le _) ?_ λi=>?_
  .show Sound NS K1.swap;rw[e4];exact h.sw.so
  .show XM K1.swap;rw[e4];exact h.sw.Ϣ
  .rw[hsw,hi];exact h.sw.pl b r hb
  .show D5 i K1.swap+_+_=_;rw[e4,hi,hsw]
 .have d:EH H (K1.AP b r'):=⟨ht.ho,ht.le,ht.op,ht.nd,ht.nz,ht.nm,ht.dj⟩;refine d.congr λi hi=>?_
  have:=Vb (i:=i) h.nd hm c hb Ah;show BP (BX K1.ps b r') K1.AV i=_;rw[e2];have:=hH i hi;omega
theorem VK {l:List Int} {k:Nat} {n m a:Int} (h:l[k]?=some n):(l.set k m).count a+(if n=a then 1 else 0)=l.count a+(if m=a then 1 else 0):=by
 have b:=(O5.1 h).1;have c:=PH h;have e:l.set k m=l.take k++m::l.drop (k+1):=List.set_eq_take_append_cons_drop.trans (if_pos b);rw[e]
 conv=>rhs;rw[c]
 simp only[List.count_append,List.count_cons];simp only[beq_iff_eq];omega
theorem DX {X:KS->Nat->Nat->n_->Prop} {NC NS b x y:Nat} {K:KS} {r:PR} {w w0 w7 w8:o_} (h:A8 K w) (hO:GK NC NS K) (hm:b∈K.AV) (hb:K.ps b=some r) (K0:Keep No w w0) (Cj:w.heap.size<w0.heap.size) (hK:Keep No w0 w7) (K8:Keep (At w.heap.size) w7 w8) (hx:x<65536) (hy:y<65536) (hX:X K x y .nilFunc):Kr X NC NS b K w (.returned (.agg #[a_ x,a_ y,.nilFunc])) w8:=
 Ci (K':=K) (x:=x) (y:=y) h.lt K0 Cj (BV.no hK (h.no K0).lt) ((h.no K0).no hK) K8 hx hy (.inl rfl) hO (Rel.refl b K) hb (λ_=>hm) hX
theorem au0 {r:PR} {l:List Int} (o:r.Ok) (h6:r.en=false->l.length=6) (h:∀n∈l,n=-1\/∃i:Nat,n=i/\i<20) (hn:r.en=false):PR.Ok { r with fds:=l }:=⟨o.A,o.B,o.P,o.st,o.pid,o.par,o.Ae,h6,h,o.len,λe=>absurd e (by simp[hn])⟩
theorem kH {l:List Int} {k:Nat} {x:Int} (h:∀n∈l,n=-1\/∃i:Nat,n=i/\i<20) (hx:x=-1\/∃i:Nat,x=i/\i<20):∀n∈l.set k x,n=-1\/∃i:Nat,n=i/\i<20:=λn b=>by
 obtain a|rfl:=List.mem_or_eq_of_mem_set b
 .exact h n a
 .exact hx
theorem GK.close {NC NS b i k:Nat} {K:KS} {r:PR} (h:GK NC NS K) (hm:b∈K.AV) (hb:K.ps b=some r) (hn:r.en=false) (hi:i<20) (hg:r.fds[k]?=some (i:Int)):0<K.desc i/\GK NC NS ((K.drop i).AP b { r with fds:=r.fds.set k (-1) })/\Rel b K ((K.drop i).AP b { r with fds:=r.fds.set k (-1) }):=by
 have o:=h.pr b r hb;have f:0<r.fds.count (i:Int):=List.count_pos_iff.2 (t_ hg);have d:0<BP K.ps K.AV i:=Nat.lt_of_lt_of_le f (Rz hm hb);refine⟨by rw[h.Eh.ho i hi];exact d,h.fds ((Tabs.refl K).drop i).tt hm hb rfl rfl rfl rfl rfl (au0 o (λe=>by simp[o.fds e]) (kH o.fd (.inl rfl)) hn) (h.Eh.drop hi d) λj _=>?_⟩;have:=VK (m:=-1) (a:=(j:Int)) hg;rw[if_neg (c:=(-1:Int)=(j:Int)) (by omega)]at this;simp only[Aj];split
 .rename_i e;subst e;rw[if_pos rfl]at this;omega
 .rename_i e;rw[if_neg (by omega)]at this;omega
theorem EH.share {H:Nat->Nat} {K:KS} (h:EH H K) {i:Nat} (hd:0<K.desc i) (hle:∀j,j<20->Aj H i (H i+1) j<=1000) (hi:i<20):EH (Aj H i (H i+1)) { K with desc:=Aj K.desc i (K.desc i+1) }:=by
 refine⟨λj a=>?_,hle,λf=>?_,h.nd,h.nz,h.nm,h.dj⟩
 .show Aj K.desc i (K.desc i+1) j=_;unfold Aj;split
  .rw[h.ho i hi]
  .exact h.ho j a
 .rw[h.op f];unfold EM;refine BQ λj _=>?_
  show _=if 0<Aj K.desc i (K.desc i+1) j/\K.ef j=some f then 1 else 0
  unfold Aj;by_cases e:j=i
  .subst e;simp[hd]
  .simp[e]
theorem WT {f:Nat->Nat} {c:Nat}:∀{l:List Nat},(∀b∈l,f b<=c)->BF f l<=c*l.length
 |[],_=>by simp[BF]
 |b::l,h=>by
  have d:=h b (by simp)
  have e:=WT (f:=f) (l:=l) λx a=>h x (by simp[a])
  simp only[BF,List.length_cons,Nat.mul_add];omega
theorem GK.oO {NC NS:Nat} {K:KS} (h:GK NC NS K) (i:Nat):BP K.ps K.AV i<=72:=by
 have:=WT (f:=I4 K.ps i) (c:=6) (l:=K.AV) λb _=>by
  unfold I4
  cases hb:K.ps b with
  |none=>simp
  |some r=>
   have o:=h.pr b r hb
   have a:r.fds.count (i:Int)<=r.fds.length:=List.count_le_length
   cases he:r.en with
   |false=>rw[o.fds he]at a;exact a
   |true=>rw[(o.off he).1]at a;simp at a;simp[(o.off he).1]
 have:=h.len;unfold BP;omega
def Zu (K:KS) (b:Nat) (r:PR) (fd:Nat):KS->Nat->Nat->n_->Prop:=λK' x y f=>(r.has fd=false/\O6 K 2 K' x y f)\/∃i:Nat,r.fds[fd]?=some (i:Int)/\i<20/\K'=(K.drop i).AP b { r with fds:=r.fds.set fd (-1) }/\x=0/\y=0/\f=.nilFunc
section
variable (m:Nat) (w:o_)
theorem Ϝ (K:KS) (NC NS b fd:Nat) (r:PR) (h:A8 K w) (hO:GK NC NS K) (hm:b∈K.AV) (hb:K.ps b=some r) (hn:r.en=false) (hfd:fd<65536):
  P_ m 148 #[R_ K.kb,R_ b,a_ (fd:Nat)] w (Kr (Zu K b r fd) NC NS b K w):=by
 have o:=hO.pr b r hb;obtain⟨t,J,E⟩:=Oa w;have B:=h.no t;have P:K.T w.heap.size=(0,0):=h.lt _ (w_ _);have U:=λm=>kG m _ K b fd r B hb hn hfd
 gi_enter func148,ntmps148;gi_wp2_with (gi_at_call 202;refine(U _).mono ?_;rintro e w1 ⟨p,x,rfl,hx,C⟩;generalize hw0:w.alloc V_=w0 at *;cases x)
 .skip
  gi_wp2_with (first|(gi_at_call 140;refine(wr8 2 (p.old J id) _).mono ?_;rintro e wz ⟨rfl,k,w8,s,u,z⟩)|refine Io s ?_);refine TR 0 2 (by simp[results,results148,go_sem,Jj z]) rfl ?_;exact DX h hO hm hb t E (p.then k) u (by decide) (by decide) (.inl ⟨C.out.symm,O6.of⟩)
 .obtain⟨n,a,M⟩:=hx (by first|rfl|trivial);obtain⟨i,rfl,j⟩:=(o.fd n (t_ a)).resolve_left M;obtain⟨I,Q,N⟩:=hO.close hm hb hn j a;have G:=B.no p;obtain⟨g,c,q9,ϴ,tg,R⟩:=G.qx hb hn;have hfl:=(O5.1 a).1;have f1:(fd:Int)<(r.fds.length:Int):=by omega
  have d:=ϴ.O7 rfl a;gi_wp2;refine CV 10 30 ?_;gi_wp2;refine Fg ?_ ?_
  .intro W q;have d9:=q.has (w:=w1.drew) q9;have dd:=q.has (w:=w1.drew) d
   repeat' (refine Az ?_ ?_)
   all_goals first|exact trivial|gi_wp2
  .intro W q;have KW:Keep No w1 W:=(p_ No w1).drew.then q;have Y:=G.no KW;have S:=λm=>sS m W K i Y j I (by have:=hO.Eh.le i j;rw[hO.Eh.ho i j];exact this) (by have:=hO.Eh.nl;omega) (λf Z=>hO.Eh.eff j I Z)
   have F:(K.drop i).ps b=some r:=(by rw[((Tabs.refl K).drop i).ps];exact hb);gi_wp2_with (gi_at_call 155;refine(S _).mono ?_;rintro e w2 ⟨rfl,H,O⟩;obtain⟨g2,c2,p9,v,D,A⟩:=H.qx F hn;have d2:=v.O7 rfl a;have X:=v.fz fd);have L:=H.am8 (i:=fd) (x:=-1) F hn A v D;have V:(K.drop i).T=K.T:=((Tabs.refl K).drop i).T;have l:BV K.T (K.drop i).T w0 _:=((BV.no (p.then KW) B.lt).trans (by rw[V];exact O)).trans L.2;gi_wp2_with (first|(gi_at_call 152;refine(KT _ _ 0 (by omega)).mono ?_;rintro e wz ⟨rfl,k⟩;obtain⟨w8,s,u,z⟩:=AU (x:=0) (y:=0) (f:=.nilFunc) (k.old (l.old J P) id) rfl)|refine Io s ?_);refine TR 0 0 (by simp[results,results148,go_sem,Jj z]) rfl ?_;exact Ci (K':=(K.drop i).AP b { r with fds:=r.fds.set fd (-1) }) (x:=0) (y:=0) h.lt t E ((l).then k) ((L.1).no k) u (by omega) (by omega) (.inl rfl) (Q) (N) Ah (λ_=>by show b∈(K.drop i).AV;rw[((Tabs.refl K).drop i).AV];exact hm) (.inr ⟨i,a,j,rfl,rfl,rfl,rfl⟩)
end
def bw5 (K:KS) (b:Nat) (r:PR) (fd:Nat):KS->Nat->Nat->n_->Prop:=λK' x y f=>(r.has fd=false/\O6 K 2 K' x y f)\/(r.has fd=true/\EI r.fds=0/\O6 K 7 K' x y f)\/∃i j:Nat,r.fds[fd]?=some (i:Int)/\i<20/\OH r.fds j/\K'=KS.AP { K with desc:=Aj K.desc i (K.desc i+1) } b { r with fds:=r.fds.set j (i:Int) }/\x=j/\y=0/\f=.nilFunc
section
variable (m:Nat) (w:o_)
end
theorem u333:(prog.underlying 333).map (λd=>match d with | .struct fs=>fs[0]?.map (λf=>(f.type,f.offset,f.byteOffset))|_=>none)=some (some (331,0,0)):=by kernel_rfl
theorem bv1:prog.cellsOf 333=1:=by kernel_rfl
theorem bv0:prog.cellsOf 335=1:=by kernel_rfl
theorem bw4:byteOfCell prog prog.depth 333 0=some 0:=by kernel_rfl
theorem ae5 {w:o_} {b p:Nat} {T:j_} (h:w.heap[b]?=some (O_ #[ptr p] T)) (hs:prog.cellsOf T=1) (hb:byteOfCell prog prog.depth T 0=some 0):(partAt (S_ b) 0 0).run prog w=.ok (S_ b) w:=by
 have a:w.shape? b=some (T,1):=by simp[World.shape?,h]
 simp[partAt,byteOf,noView,viewAt,a,hs,hb,Result.andThen]
theorem dN {w:o_} {b p:Nat} {t S:j_} {name:String} {f:h_} (hm:((prog.info? t).bind fun i=>(i.methods.find? fun m=>m.name==name).map fun m=>(m.path.toList,m.func))=some ([⟨S,0,true⟩],some (f,false))) (hu:(prog.underlying S).map (fun d=>match d with | .struct fs=>fs[0]?.map (fun f=>(f.type,f.offset,f.byteOffset))|_=>none)=some (some (331,0,0))) (h:w.heap[b]?=some (O_ #[ptr p] S)) (hs:prog.cellsOf S=1) (hb:byteOfCell prog prog.depth S 0=some 0):
  (method 468 t (R_ b) name).run prog w=.ok (f,.agg #[]) w:=by
 cases hi:prog.info? t with
 |none=>rw[hi]at hm;cases hm
 |some i=>
  rw[hi]at hm
  simp only[Option.bind_some]at hm
  cases hf:i.methods.find? (λm=>m.name==name)with
  |none=>rw[hf]at hm;cases hm
  |some M=>
   rw[hf]at hm
   simp only[Option.map_some,Option.some.injEq,Prod.mk.injEq]at hm
   obtain⟨m1,m2⟩:=hm
   cases hd:prog.underlying S with
   |none=>rw[hd]at hu;cases hu
   |some d=>
    rw[hd]at hu
    cases d with
    |struct fs=>
     simp only[Option.map_some,Option.some.injEq]at hu
     cases hx:fs[0]? with
     |none=>rw[hx]at hu;cases hu
     |some F=>
      rw[hx]at hu
      simp only[Option.map_some,Option.some.injEq,Prod.mk.injEq]at hu
      obtain⟨e,g,j⟩:=hu
      have c:=ae5 h hs hb
      have a:prog.underlying 331=some (.struct #[]):=by kernel_rfl
      rw[show(468:Nat)=467+1 from rfl]
      unfold method
      simp[typeInfo,hi,hf,m1,m2,follow,run_underlying hd,hx,e,g,j,Place.get,asAddr,fieldPlace,c,receiverAt,run_underlying a,loadVar,loadCells,loadCellsFrom,Result.andThen]
    |_=>simp at hu
theorem u335:(prog.underlying 335).map (λd=>match d with | .struct fs=>fs[0]?.map (λf=>(f.type,f.offset,f.byteOffset))|_=>none)=some (some (331,0,0)):=by kernel_rfl
theorem bw3:byteOfCell prog prog.depth 335 0=some 0:=by kernel_rfl
theorem dU {w:World} {b p:Nat} (h:w.heap[b]?=some (.cells #[ptr p] 333 (0,0))):(method 468 330 (.pointer (some ⟨b,0,none⟩)) "Write").run prog w=.ok (268,.agg #[]) w:=dN (by kernel_rfl) u333 h bv1 bw4
theorem dW {w:World} {b p:Nat} (h:w.heap[b]?=some (.cells #[ptr p] 335 (0,0))):(method 468 334 (.pointer (some ⟨b,0,none⟩)) "Read").run prog w=.ok (274,.agg #[]) w:=dN (by kernel_rfl) u335 h bv0 bw3
theorem dX (b:Nat):∀w:World,(method 468 330 (.pointer (some ⟨b,0,none⟩)) "Read").run prog w=.ok (266,.pointer (some ⟨b,0,none⟩)) w:=λw=>by kernel_rfl
theorem dQ (b:Nat):∀w:World,(method 468 334 (.pointer (some ⟨b,0,none⟩)) "Write").run prog w=.ok (275,.pointer (some ⟨b,0,none⟩)) w:=λw=>by kernel_rfl
theorem dO (b:Nat):∀w:World,(method 468 337 (.pointer (some ⟨b,0,none⟩)) "Write").run prog w=.ok (279,.pointer (some ⟨b,0,none⟩)) w:=λw=>by kernel_rfl
theorem dV (b:Nat):∀w:World,(method 468 337 (.pointer (some ⟨b,0,none⟩)) "Read").run prog w=.ok (277,.pointer (some ⟨b,0,none⟩)) w:=λw=>by kernel_rfl
section
variable (m:Nat) (w:o_)
theorem Y5 (v:n_):P_ m 268 #[.agg #[],v] w λe w'=>e=.returned (.agg #[a_ 0,a_ 2,.nilFunc])/\Keep No w w':=by
 have c:=λm w=>OZ m w 2
 have h:Keep No w ((w.alloc (.cells #[] 331)).alloc V_):=((p_ _ _).alloc _).alloc _;have l:((w.alloc (.cells #[] 331)).alloc V_).heap[w.heap.size+1]?=some (O_ #[a_ 0,a_ 0,.nilFunc] 206):=by
  have:=heap_alloc_new (w:=w.alloc (.cells #[] 331)) (o:=.cells #[a_ 0,a_ 0,.nilFunc] 206) rfl
  simpa using this
 gi_enter func268,ntmps268;gi_wp2_with (first|(gi_at_call 273;refine(c _ _).mono ?_;rintro e w1 ⟨rfl,d⟩;obtain⟨b,g,i,a⟩:=AU (x:=0) (y:=2) (f:=.nilFunc) (d.old l id) rfl)|refine Io g ?_);have q:b.cell? (S_ (w.heap.size+1))=some (a_ 0):=bce a rfl;have p:b.cell? (T_ (w.heap.size+1) 1)=some (a_ 2):=bce a rfl;have n:b.cell? (T_ (w.heap.size+1) 2)=some .nilFunc:=bce a rfl;refine TR 0 2 (by simp[results,results268,go_sem,q,p,n]) rfl ?_;exact⟨rfl,(h.then d).trans i (λk j e=>absurd j (by rw[show k=w.heap.size+1 from e];omega))⟩
theorem fC (v:n_):P_ m 274 #[.agg #[],v] w λe w'=>e=.returned (.agg #[a_ 0,a_ 2,.nilFunc])/\Keep No w w':=by
 have c:=λm w=>OZ m w 2
 have h:Keep No w ((w.alloc (.cells #[] 331)).alloc V_):=((p_ _ _).alloc _).alloc _;have l:((w.alloc (.cells #[] 331)).alloc V_).heap[w.heap.size+1]?=some (O_ #[a_ 0,a_ 0,.nilFunc] 206):=by
  have:=heap_alloc_new (w:=w.alloc (.cells #[] 331)) (o:=.cells #[a_ 0,a_ 0,.nilFunc] 206) rfl
  simpa using this
 gi_enter func274,ntmps274;gi_wp2_with (first|(gi_at_call 273;refine(c _ _).mono ?_;rintro e w1 ⟨rfl,d⟩;obtain⟨b,g,i,a⟩:=AU (x:=0) (y:=2) (f:=.nilFunc) (d.old l id) rfl)|refine Io g ?_);have q:b.cell? (S_ (w.heap.size+1))=some (a_ 0):=bce a rfl;have p:b.cell? (T_ (w.heap.size+1) 1)=some (a_ 2):=bce a rfl;have n:b.cell? (T_ (w.heap.size+1) 2)=some .nilFunc:=bce a rfl;refine TR 0 2 (by simp[results,results274,go_sem,q,p,n]) rfl ?_;exact⟨rfl,(h.then d).trans i (λk j e=>absurd j (by rw[show k=w.heap.size+1 from e];omega))⟩
end
theorem Jm:Nh prog 116 123 (a_ 0) 1 2:=⟨underlying116,by kernel_rfl,by rfl,by decide,by intro x a;simp[Value.cells]at a;subst a;rfl⟩
theorem F5 (l:List Nat):∀x∈AB l,x.oneCell'=true:=by
 intro x a;simp only[AB,List.mem_map]at a;obtain⟨n,_,rfl⟩:=a
 rfl
theorem WG {w:o_} {g n c o IW Hq CQ sCap:Nat} {l ws:List Nat} {a:f_} {ty:j_} (hR:Rw 123 1 w g n c (AB l)) (hl:l.length=n) (hsrc:∀j v,(AB ws)[j]?=some v->w.cell? (a.add j)=some v) (hk:ws.length=Nat.min CQ IW) (Dk:o+ws.length<=n):∃w',(Builtin.copy_ #[116,116] ty #[.slice (some (T_ g o)) IW Hq,.slice (some a) CQ sCap]).run prog w=.ok (goInt (Nat.min CQ IW)) w'/\Keep (At g) w w'/\Rw 123 1 w' g n c (AB (l.take o++ws++l.drop (o+ws.length))):=by
 obtain⟨d,y,p,z⟩:=hR.blk;have s:=hR.le;have b:(AB ws).length=ws.length:=by simp[AB]
 have k:d.toList.length=c*1:=by simpa using p
 have q:=qR (ty:=ty) (sT:=116) (IW:=IW) (Hq:=Hq) (CQ:=CQ) (sCap:=sCap) Jm y (cs:=AB ws) (o:=o) (by rw[b,hk];simp) hsrc (by rw[b,p];omega) (F5 ws);have t:(QG d.toList o (AB ws)).length=c*1:=by rw[Nl (by rw[b,k];omega)];simpa using p
 refine⟨_,q,(p_ _ _).setRow _ _ λ_=>rfl,Ua hR t s ?_ (F5 _)⟩;apply List.ext_getElem?;intro j;have m:=RY (l:=d.toList) (cs:=AB ws) (o:=o) (i:=j) (by rw[b,k];omega);have f:∀j,j<n->d.toList[j]?=(AB l)[j]?:=λj r=>by rw[<-z,List.getElem?_take,if_pos (by omega)]
 rw[List.getElem?_take];by_cases r:j<n*1
 .rw[if_pos r,m,b];have e:(AB (l.take o++ws++l.drop (o+ws.length)))[j]?=((l.take o++ws++l.drop (o+ws.length))[j]?).map λx:Nat=>Value.int .u16 (x:Int):=by simp only[AB,List.getElem?_map]
  rw[e,List.append_assoc,List.getElem?_append,List.getElem?_append];simp only[List.length_take,List.getElem?_take,List.getElem?_drop];have A:min o l.length=o:=by omega
  rw[A];by_cases h:j<o
  .rw[if_pos h,if_pos h,if_pos h,f j (by omega)];simp[AB]
  .rw[if_neg h,if_neg h];by_cases u:j<o+ws.length
   .rw[if_pos u,if_pos (by omega)];simp[AB]
   .rw[if_neg u,if_neg (by omega),f j (by omega)];have e2:o+ws.length+(j-o-ws.length)=j:=(by omega);rw[e2];simp only[AB,List.getElem?_map]
 .rw[if_neg r,List.getElem?_eq_none];simp[AB];omega
theorem aj3 {w:o_} {d a:d_ f_} {IW Hq CQ sCap:Nat} {ty:j_} (hn:Nat.min CQ IW=0):(Builtin.copy_ #[116,116] ty #[.slice d IW Hq,.slice a CQ sCap]).run prog w=.ok (goInt 0) w:=pq Jm hn
section
variable (m:Nat) (w:o_)
theorem vY (g n cap i j:Nat) (xs:U_) (hR:Rw 123 1 w g n cap xs) (hij:i<j) (hjn:j<=n):
  P_ m 271 #[Q_ g n cap,b_ (i:Nat),b_ (j:Nat)] w λe w'=>e=.returned (Q_ g (i+(n-j)) cap)/\Keep (At g) w w'/\Rw 123 1 w' g (i+(n-j)) cap (xs.take (i*1)++xs.drop (j*1)):=by
 have p:=hR.le;have r:¬((j:Int)<(i:Int)):=by omega
 have s:¬((n:Int)<(j:Int)):=by omega
 have t:¬((cap:Int)<(n:Int)):=by omega
 by_cases a:cap=j
 all_goals
  gi_enter func271,ntmps271
  gi_wp2
  refine CV 6 33 ?_
  gi_wp2
  refine Fg ?_ ?_
  .intro W f
   repeat' (refine Az ?_ ?_)
   all_goals first|exact trivial|gi_wp2
  .intro W f;obtain⟨w1,b,h,l⟩:=kJ (w:=W) (ty:=116) Jm (hR.keep ((p_ No w).drew.then f) id) hij hjn;obtain⟨w2,d,k,o⟩:=PV (c:=cap-(i+(n-j))) (q:=n-(i+(n-j))) (ty:=0) Jm l (by omega);simp only[Nat.mul_one]at b d
   first|(rw[if_pos a]at b;simp only[a,Nat.sub_self]at b d)|rw[if_neg a]at b
   refine Cc rfl (.tmp 22) (.tmp 25) _ rfl rfl rfl b ?_;gi_wp2;go_ret;exact⟨by simp[a],(((p_ _ _).drew.then f.no).then h).then k,o⟩
theorem TF (a:d_ f_) (n cap:Nat) (hc:n<=cap):P_ m 271 #[.slice a n cap,b_ 0,b_ 0] w λe w'=>e=.returned (.slice a n cap)/\Keep No w w':=by
 cases a with
 |none=>
  gi_enter func271,ntmps271
  gi_wp2
  go_ret
  exact⟨by simp,p_ _ _⟩
 |some a=>
  gi_enter func271,ntmps271
  gi_wp2
  go_ret
  exact⟨by simp,p_ _ _⟩
end
def Jq (r:PR) (v:n_) (o n:Nat):Prop:=(v=.slice none 0 0/\n=0)\/∃g c,r.im=Q_ g r.Ae.length c/\v=.slice (some (T_ g o)) n n/\1<=n/\o+n<=r.Ae.length
def N7 (l:List Nat) (o:Nat) (ws:List Nat):List Nat:=l.take o++ws++l.drop (o+ws.length)
theorem ak6 (l:List Nat) (o:Nat):N7 l o []=l:=by simp[N7]
def WJ (X:List Nat->(Nat->Ct)->Nat->Nat->n_->Prop) (K:KS) (b:Nat) (r:PR) (w:o_) (e:Ending) (w':o_):Prop:=∃(Ae:List Nat) (ct:Nat->Ct) (x y:Nat) (f:n_),e=.returned (.agg #[a_ x,a_ y,f])/\x<65536/\y<65536/\Nj K.T w' K.kb b f/\Ae.length=r.Ae.length/\(∀z∈Ae,z<65536)/\A8 (KS.AP { K with ct:=ct } b { r with Ae:=Ae }) w'/\BV K.T K.T w w'/\X Ae ct x y f
theorem A8.qw {K:KS} {w:o_} {b:Nat} {r:PR} (h:A8 K w) (hb:K.ps b=some r) (hn:r.en=false):∃g c,w.cell? (T_ b 8)=some (Q_ g r.Ae.length c)/\Rw 123 1 w g r.Ae.length c (AB r.Ae)/\K.T g=(7,b)/\r.im=Q_ g r.Ae.length c:=by
 obtain⟨g,c,a,d,e⟩:=(h.ps b r hb).im hn;exact⟨g,c,by rw[h.JK hb];simp[PR.arr,a],d,e,a⟩
theorem A8.zo {K:KS} {w w':o_} {b g c:Nat} {r:PR} {Ae:List Nat} (h:A8 K w) (hb:K.ps b=some r) (hn:r.en=false) (h1:r.im=Q_ g r.Ae.length c) (h3:K.T g=(7,b)) (hK:Keep (At g) w w') (h2:Rw 123 1 w' g r.Ae.length c (AB Ae)) (hl:Ae.length=r.Ae.length):A8 (K.AP b { r with Ae:=Ae }) w'/\BV K.T K.T w w':=by
 have M:DY K.T K.T (λt=>t=(6,b)\/t=(7,b)\/t=(8,b)\/t=(9,b)) (λt=>t=(6,b)\/t=(7,b)\/t=(8,b)\/t=(9,b)) w w':=DY.of (hK.on λk _ e=>by subst e;exact .inr (.inl h3)) h.lt;have a:=h.ps b r hb;have d:Keep (On K.T λt=>t=(7,b)) w w':=hK.on λk _ e=>by subst e;exact h3
 refine⟨h.um M ⟨a.t,hK.old a.o (λe=>?_),λ_=>⟨g,c,by rw[h1];simp only[hl],by simpa only[hl]using h2,h3⟩,λe=>?_,a.bl.keep d (by simp),λe=>absurd e (by simp[hn])⟩,M.TL (by rintro t (rfl|rfl|rfl|rfl)<;>simp)⟩
 .have:=a.t;rw[show b=g from e,h3]at this;simp at this
 .obtain⟨j,i,a1,a2,f⟩:=a.fd e;exact⟨j,i,a1,a2.keep d (by unfold On;rw[f];simp),f⟩
theorem GX {K:KS} {b:Nat} {r:PR} (hb:K.ps b=some r):K.AP b r=K:=by
 unfold KS.AP;have e:BX K.ps b r=K.ps:=by funext k;unfold BX;split;rename_i e;rw[e,hb];rfl
 rw[e]
theorem Js {K:KS} {w:o_} {b:Nat} {r:PR} {v:n_} {CQ sCap:Nat} {a:d_ f_} {ws:List Nat} {ty:j_} {o n:Nat} (h:A8 K w) (hb:K.ps b=some r) (hn:r.en=false) (hI:∀z∈r.Ae,z<65536) (hv:Jq r v o n) (hw:∀x∈ws,x<65536) (hl:ws.length=CQ) (hs:∀ad,a=some ad->∀j u,(AB ws)[j]?=some u->w.cell? (ad.add j)=some u) (ha:a=none->CQ=0):
  ∃w' k Ae,(Builtin.copy_ #[116,116] ty #[v,.slice a CQ sCap]).run prog w=.ok (goInt (k:Nat)) w'/\k<=CQ/\k<=128+r.Ae.length/\Ae.length=r.Ae.length/\(∀z∈Ae,z<65536)/\A8 (K.AP b { r with Ae:=Ae }) w'/\BV K.T K.T w w'/\Keep (On K.T λt=>t=(7,b)) w w'/\Hid (k=Nat.min CQ n/\Ae=N7 r.Ae o (ws.take k)):=by
 have i:∀(d:d_ f_) (IW Hq:Nat),Nat.min CQ IW=0->v=.slice d IW Hq->IW=n->∃w' k Ae,(Builtin.copy_ #[116,116] ty #[v,.slice a CQ sCap]).run prog w=.ok (goInt (k:Nat)) w'/\k<=CQ/\k<=128+r.Ae.length/\Ae.length=r.Ae.length/\(∀z∈Ae,z<65536)/\A8 (K.AP b { r with Ae:=Ae }) w'/\BV K.T K.T w w'/\Keep (On K.T λt=>t=(7,b)) w w'/\Hid (k=Nat.min CQ n/\Ae=N7 r.Ae o (ws.take k)):=λd IW Hq f e F=>by
  subst e F
  exact⟨w,0,r.Ae,aj3 f,by omega,by omega,rfl,hI,by rw[GX hb];exact h,BV.no (p_ _ _) h.lt,p_ _ _,f.symm,by rw[List.take_zero,ak6]⟩
 obtain⟨rfl,e⟩|⟨g,c,p,rfl,J,M⟩:=hv
 .exact i none 0 0 (by simp) rfl e.symm
 .cases a with
  |none=>exact i _ n n (by rw[ha rfl];simp) rfl rfl
  |some ad=>
   obtain⟨G,E,_,H,C,l⟩:=h.qw hb hn
   obtain⟨rfl,rfl⟩:g=G/\c=E:=by rw[l]at p;simp at p;exact⟨p.1.symm,p.2.symm⟩
   have B:(ws.take (Nat.min CQ n)).length=Nat.min CQ n:=by rw[List.length_take,hl];exact Nat.min_eq_left (Nat.min_le_left _ _)
   have I:Nat.min CQ n<=n:=Nat.min_le_right _ _
   have m:Nat.min CQ n<=CQ:=Nat.min_le_left _ _
   obtain⟨w',L,A,D⟩:=WG (ty:=ty) (sCap:=sCap) (Hq:=n) (IW:=n) (o:=o) (a:=ad) H rfl (ws:=ws.take (Nat.min CQ n)) (λj u q=>hs ad rfl j u (by
    simp only[AB,List.map_take,List.getElem?_take]at q
    split at q
    .exact q
    .cases q)) B (by rw[B];omega)
   have y:(r.Ae.take o++ws.take (Nat.min CQ n)++r.Ae.drop (o+(ws.take (Nat.min CQ n)).length)).length=r.Ae.length:=by
    simp only[List.length_append,List.length_take,List.length_drop,hl]
    have:min (Nat.min CQ n) CQ=Nat.min CQ n:=Nat.min_eq_left m
    rw[this];omega
   have s:=h.zo hb hn l C A D y;refine⟨w',Nat.min CQ n,_,L,m,by omega,y,λz f=>?_,s.1,s.2,A.on λk _ e=>(by subst e;exact C),rfl,rfl⟩;obtain f|f:=List.mem_append.1 f
   .obtain f|f:=List.mem_append.1 f
    .exact hI z (List.mem_of_mem_take f)
    .exact hw z (List.mem_of_mem_take f)
   .exact hI z (List.mem_of_mem_drop f)
end Go.Fxa
