/- Files are made and opened; pip -/
import Derived.Test.YtmhplpfpcnjekaaGreatA28
namespace Go.Fxa
open Conc Proofs RowKit Proofs.Tryz
set_option maxRecDepth 1000000
set_option maxHeartbeats 0
def YO (op:Nat->Nat):d_ Nat->Nat->Nat
 |none=>op
 |some f=>Ar op f (op f+1)
theorem iW (op:Nat->Nat) (o:d_ Nat) (g:Nat):YO op o g=op g+(if o=some g then 1 else 0):=by
 cases o with
 |none=>simp[YO]
 |some f=>
  simp only[YO,Ar]
  by_cases e:g=f
  .subst e;simp
  .rw[if_neg e,if_neg (by simpa using Ne.symm e)];rfl
theorem xk {d:Nat->Nat} {e:Nat->d_ Nat} {i0:Nat} {o:d_ Nat} (hi:i0<20) (hd:d i0=0) (g:Nat):Ej (Ar d i0 1) (Ar e i0 o) g=Ej d e g+(if o=some g then 1 else 0):=by
 have:=Jf (f:=λj=>if 0<Ar d i0 1 j/\Ar e i0 o j=some g then 1 else 0) (g:=λj=>if 0<d j/\e j=some g then 1 else 0) List.nodup_range (List.mem_range.2 hi) (λk a=>by simp only[Ar,if_neg a]);have e1:(if 0<Ar d i0 1 i0/\Ar e i0 o i0=some g then 1 else 0)=(if o=some g then 1 else 0):=by simp[Ar]
 have e2:(if 0<d i0/\e i0=some g then 1 else 0)=0:=by simp[hd]
 rw[e1,e2]at this;unfold Ej;omega
theorem ED.add {H:Nat->Nat} {K:KS} {i0:Nat} {o:d_ Nat} {nm:Nat->d_ Nat} {T:Tag} (h:ED H K) (hi:i0<20) (hd:K.desc i0=0) (hnm:∀i j f,i<16->j<16->nm i=some f->nm j=some f->i=j) (hdj:∀i f,i<16->nm i=some f->f ∉ K.nl):ED (Ar H i0 1) { K with desc:=Ar K.desc i0 1,ef:=Ar K.ef i0 o,op:=YO K.op o,nm:=nm,T:=T }:=by
 refine⟨λi a=>?_,λi a=>?_,λg=>?_,h.nd,λg b=>?_,hnm,hdj⟩
 .show Ar K.desc i0 1 i=Ar H i0 1 i;unfold Ar;split
  .rfl
  .exact h.ho i a
 .unfold Ar;split
  .omega
  .exact h.le i a
 .show YO K.op o g=Ej (Ar K.desc i0 1) (Ar K.ef i0 o) g;rw[xk hi hd,iW,h.op g]
 .have:=h.nz g b;show 1<=YO K.op o g;rw[iW];omega
theorem av6 {H:Nat->Nat} {K:KS} {w:o_} {b:Nat} (h:AV K w) (ht:ED H K) (hb:w.heap.size<=b):K.op b=0:=by
 rw[ht.op b];cases hz:Ej K.desc K.ef b with
 |zero=>rfl
 |succ n=>
  exfalso
  obtain⟨i,k,g⟩:=TC (f:=λi=>if 0<K.desc i/\K.ef i=some b then 1 else 0) (l:=List.range 20) (by unfold Ej at hz;omega)
  split at g
  .rename_i c;obtain⟨v,_,_,_,j⟩:=h.uU (List.mem_range.1 k);obtain⟨e,⟨_,f,m,a⟩|⟨_,_,a⟩|⟨_,_,a⟩⟩:=j c.1
   .rw[c.2]at a;obtain rfl:b=f:=(by simpa using a);obtain⟨_,_,d,_⟩:=h.fl.GL e b m;rw[h.lt b hb]at d;simp at d
   .rw[c.2]at a;cases a
   .rw[c.2]at a;cases a
  .omega
theorem AV.yR {K:KS} {w w':o_} {b:Nat} {t:Nat×Nat} (h:AV K w) (hK:Keep No w w') (hb:w.heap.size<=b) (hb':b<w'.heap.size) (ht:10<=t.1) (hp:FOne (BA K.T b t) K.op w' K.kb b):AV { K with T:=BA K.T b t } w'/\BM K.T (BA K.T b t) w w':=by
 obtain⟨J,j,u⟩:=h.k;have M:Dv K.T (BA K.T b t) (λt=>t=(1,0)\/t=(5,0)\/10<=t.1) (λt=>t=(5,0)\/10<=t.1) w w':=Dv.row hK.no h.lt (.inr hb) hb' (.inr ht);have E:Dv K.T (BA K.T b t) (λt=>10<=t.1) (λt=>10<=t.1) w w':=Dv.row hK.no h.lt (.inr hb) hb' ht;refine⟨h.Yd (ks':=J) M (hK.old j id) (u.IE E (by simp)) (YI.of λk=>?_) ?_,M.Vt ?_⟩
 .by_cases e:k=b
  .subst e;exact hp
  .have m:=(h.fl.one k).keep hK id (λ_ _=>id);have l:∀x,x≠b->BA K.T b t x=K.T x:=λx I=>Bf I
   have D:∀{B v},Sj K.T w' k B v->Sj (BA K.T b t) w' k B v:=λr=>by
    obtain r | ⟨g,c,A,a1,a2,o,F,q⟩:=r
    .exact .inl r
    .exact .inr ⟨g,c,A,a1,a2,o,F,by rw[l g (λe=>by rw[e,h.lt b hb]at q;simp at q)];exact q⟩
   refine⟨λa=>?_,λa=>?_,λf a=>?_,λa=>?_,λa=>?_⟩<;>rw[l k e]at a
   .obtain⟨v,a1,a2⟩:=m.file a;exact⟨v,a1,D a2⟩
   .obtain⟨v,x,y,a1,a2⟩:=m.pipe a;exact⟨v,x,y,a1,D a2⟩
   .obtain⟨n,a1,a2,o⟩:=m.GL f a;exact⟨n,a1,by rw[l f (λe=>by rw[e,h.lt b hb]at a2;simp at a2)];exact a2,o⟩
   .obtain⟨p,a1,a2⟩:=m.rend a;exact⟨p,a1,by rw[l p (λe=>by rw[e,h.lt b hb]at a2;simp at a2)];exact a2⟩
   .obtain⟨p,a1,a2⟩:=m.Ru a;exact⟨p,a1,by rw[l p (λe=>by rw[e,h.lt b hb]at a2;simp at a2)];exact a2⟩
 .obtain⟨d,L,N⟩:=h.dk;have O:=h.lt b hb;obtain⟨n,H⟩:∃n,t=(10,0)->LenAt w' b n:=by
   by_cases e:t=(10,0)
   .obtain⟨v,a1,a2⟩:=hp.file (by rw[BH,e]);obtain rfl|⟨g,c,A,rfl,_⟩:=a2
    .exact⟨0,λ_=>⟨_,_,_,a1⟩⟩
    .exact⟨A.length,λ_=>⟨_,_,_,a1⟩⟩
   .exact⟨0,λh=>absurd h e⟩
  have z:∀k,K.T k=(10,0)->Ar d b n k=d k:=λk j=>if_neg (by rintro rfl;rw[O]at j;simp at j)
  refine⟨Ar d b n,λk e=>?_,?_⟩
  .by_cases C:k=b
   .subst C;rw[BH]at e;have:Ar d k n k=n:=if_pos rfl;rw[this];exact H e
   .rw[Bf C]at e;rw[z k e];exact(L k e).keep hK id
  .have e1:BD (Ot (Ar d b n) K.nm) (List.range 16)=BD (Ot d K.nm) (List.range 16):=BV λi G=>by
    unfold Ot
    cases Iu:K.nm i with
    |none=>rfl
    |some f=>simp only;rw[z f ((u.nm i (List.mem_range.1 G)).2 f Iu)]
   obtain⟨_,_,_,s⟩:=u.nl;have e2:BD (λk=>Aj (Ar d b n k)) K.nl=BD (λk=>Aj (d k)) K.nl:=BV λk j=>by rw[z k (s k j)]
   show BD _ _+BD _ _<=40;rw[e1,e2];exact N
 .rintro t (rfl|rfl|h)<;>try simp
  rintro rfl;simp at h
theorem AV.bh2 {K:KS} {w:o_} {i:Nat} {o:d_ Nat} (h:AV K w) (hi:i<16) (ho:∀b,o=some b->K.T b=(10,0)) (hd:VK K.T (Ar K.nm i o) K.nl w):AV { K with nm:=Ar K.nm i o } (w.setCell (T_ K.kb (4+i)) (XX o))/\BM K.T K.T w (w.setCell (T_ K.kb (4+i)) (XX o)):=by
 obtain⟨g,f,d⟩:=h.k;have c:Keep (At K.kb) w (w.setCell (T_ K.kb (4+i)) (XX o)):=(p_ _ _).setCell _ λ_=>rfl
 have M:Dv K.T K.T (λt=>t=(1,0)\/t=(5,0)\/10<=t.1) (λt=>t=(5,0)\/10<=t.1) w (w.setCell (T_ K.kb (4+i)) (XX o)):=Dv.of (c.on λk _ e=>by subst e;exact .inl h.tk) h.lt;have a:Dv K.T K.T (λt=>t=(1,0)) (λt=>t=(1,0)) w (w.setCell (T_ K.kb (4+i)) (XX o)):=Dv.of (c.on λk _ e=>by subst e;exact h.tk) h.lt;exact⟨h.Yd M (Ah f _) ((d.IE a (by simp)).bc5 hi ho) (h.fl.IE a (by rintro t rfl;simp) (by rintro t rfl;simp)) (hd.IE a (by simp) (by simp)),a.Vt (by rintro t rfl;simp)⟩
section
variable (m:Nat) (w:o_)
theorem aw4 (K:KS) (i:Nat) (h:AV K w) (hi:i<16) (AU:K.op w.heap.size=0):
  P_ m 44 #[.pointer (some (T_ K.kb 4)),b_ (i:Nat),.slice none 0 0] w λe w'=>e=.returned (.tuple #[])/\AV { K with nm:=Ar K.nm i (some w.heap.size),T:=BA K.T w.heap.size (10,0) } w'/\BM K.T (BA K.T w.heap.size (10,0)) w w':=by
 have z:(i:Int)<16:=by omega
 have u:Keep No w (w.alloc (.cells #[.slice none 0 0,b_ 0] 191)):=(p_ _ _).alloc _;have a:(w.alloc (.cells #[.slice none 0 0,b_ 0] 191)).heap[w.heap.size]?=some (O_ #[.slice none 0 0,b_ 0] 191):=heap_alloc_new rfl;obtain⟨d,q⟩:=h.yR (t:=(10,0)) u (w_ _) (BQ a) (by simp) (FOne.file' (v:=.slice none 0 0) BH (by rw[a,AU];rfl) (.inl rfl));obtain⟨p,n⟩:=AV.bh2 (i:=i) (o:=some w.heap.size) d hi (λb e=>by cases e;exact BH) (d.dk.sub λc x=>by
  have r:c w.heap.size=0:=(x _ BH).eq ⟨_,_,_,a⟩
  have e2:=UE (f:=Ot c (Ar K.nm i (some w.heap.size))) (g:=Ot c K.nm) (l:=List.range 16) (b:=i) List.nodup_range (List.mem_range.2 hi) λk _ j=>by unfold Ot Ar;rw[if_neg j]
  have e4:Ot c (Ar K.nm i (some w.heap.size)) i=0:=by unfold Ot Ar;rw[if_pos rfl];simp only;rw[r];rfl
  have s:BD (Ot c (Ar K.nm i (some w.heap.size))) (List.range 16)<=BD (Ot c K.nm) (List.range 16):=by omega
  exact Nat.add_le_add_right s _);have y:=(d.nmc hi).1;have z1:=d.yx (4+i);simp only[XX,ptr]at p n;gi_enter func44,ntmps44;gi_wp2;go_end0;exact⟨by simp,p,q.trans n⟩
theorem Z9 (K:KS) (i f:Nat) (h:AV K w) (hi:i<16) (hf:K.nm i=some f) (AU:K.op f<=1000):
  P_ m 206 #[.pointer (some (T_ K.kb 4)),b_ (i:Nat)] w λe w'=>∃pb,e=.returned (.iface 337 (ptr pb))/\AV { K with op:=Ar K.op f (K.op f+1),T:=BA K.T pb (12,f) } w'/\BM K.T (BA K.T pb (12,f)) w w':=by
 have q:(i:Int)<16:=by omega
 obtain⟨k,a⟩:=h.nmc hi;have a:=a f hf;rw[hf]at k;simp only[XX,ptr]at k;obtain⟨v,c,_⟩:=h.fl.file f a;have q1:w.cell? (T_ f 1)=some (b_ (K.op f)):=(Af c 1).trans rfl;have z1:=BO c 1;obtain⟨g,j⟩:=h.an8 (n:=K.op f+1) a;push_cast at g j;have p:Keep No (w.setCell (T_ f 1) (b_ ((K.op f:Int)+1))) ((w.setCell (T_ f 1) (b_ ((K.op f:Int)+1))).alloc (.cells #[.pointer (some (T_ K.kb 4)),R_ f,b_ 0] 339)):=(p_ _ _).alloc _;have b:((w.setCell (T_ f 1) (b_ ((K.op f:Int)+1))).alloc (.cells #[.pointer (some (T_ K.kb 4)),R_ f,b_ 0] 339)).heap[(w.setCell (T_ f 1) (b_ ((K.op f:Int)+1))).heap.size]?=some (O_ #[.pointer (some (T_ K.kb 4)),R_ f,b_ 0] 339):=heap_alloc_new rfl;have d:f≠(w.setCell (T_ f 1) (b_ ((K.op f:Int)+1))).heap.size:=λe=>by have:=g.lt f (Nat.le_of_eq e.symm);simp only at this;rw[a]at this;simp at this
 obtain⟨o,l⟩:=AV.yR (t:=(12,f)) g p (w_ _) (BQ b) (by simp) (FOne.Jd (n:=0) BH b (by rw[Bf d];exact a) (by omega));gi_enter func206,ntmps206;gi_wp2;go_ret;refine⟨(w.setCell (T_ f 1) (b_ ((K.op f:Int)+1))).heap.size,by simp[ptr],o,j.trans l⟩
end
section
variable (m:Nat) (w:o_)
theorem jK (K:KS) (NC NS b name number:Nat) (r:PR) (h:AV K w) (hO:Ez NC NS K) (hm:b∈K.AP) (hb:K.ps b=some r) (hn:r.en=false) (hname:name<65536):
  P_ m 150 #[R_ K.kb,R_ b,a_ (name:Nat),a_ (number:Nat)] w (FQ NC NS b K w):=by
 have o:=hO.pr b r hb;have hlen:r.fds.length<=6:=by rw[o.fds hn];omega
 obtain⟨Z,rb,BN⟩:=HY w;have h0:=h.no Z;have Gp:K.T w.heap.size=(0,0):=h.lt _ (w_ _);have cn:=λm=>Qj m _ K name h0 hname
 have ct:=λm w1 (hK:Keep No (w.alloc V_) w1)=>Xe m w1 K b 1 r (h0.no hK) hb hn (by omega)
 simp only[Int.natCast_one]at ct;by_cases hn0:number=0
 .have g1:((number:Int) !=0)=false:=by simp[hn0]
  gi_enter func150,ntmps150;gi_wp2_with (gi_at_call 205;refine(cn _).mono ?_;rintro e w1 ⟨K1,x,rfl,hx⟩;obtain⟨rfl,Lm,f,yX⟩|⟨rfl,Lm,yX⟩|⟨rfl,Lm⟩:=hx)
  .gi_wp2_with (gi_at_call 198;refine(ct _ _ K1).mono ?_;rintro e w2 ⟨⟨rfl,U,V⟩|⟨Y,rfl,hxx,ar2⟩,K2⟩<;>generalize X:w.alloc V_=w0 at *)
   .have KK:=K1.then K2;have p:1<=FK r.fds:=U;have A:1<=I5 K.desc 20:=V;have h3:=h0.no KK;have O:AV { K with nm:=K.nm,T:=K.T } w2.drew:=AV.no h3 (p_ No w2).drew;have zg:=λm=>Z9 m w2.drew { K with nm:=K.nm,T:=K.T } name f O Lm (yX) (by have J:=hO.DV.op (f);have G:=O9 K.desc K.ef (f);show K.op (f)<=1000;omega)
    refine CV (P:=prog) _ rfl rfl (by kernel_rfl) 11 56 [0,1,2,3,4,5,6,7,8] [9,10] (by kernel_rfl) (by rfl)
     (Yi (On (K.T) λt=>t≠(0,0)) w2.drew 9 10 (λv W=>∃g,v=.iface 337 (ptr g)/\AV { K with nm:=K.nm,op:=Ar K.op f (K.op f+1),T:=BA (K.T) g (12,f) } W/\BM (K.T) (BA (K.T) g (12,f)) w2.drew W) (λ_ v W=>∃g d,v=b_ (d:Nat)/\d<20/\K.desc d=0/\AV { K with nm:=K.nm,op:=Ar K.op f (K.op f+1),T:=BA (K.T) g (12,f),desc:=Ar K.desc d 1,ef:=Ar K.ef d (some f) } W/\BM (K.T) (BA (K.T) g (12,f)) w2.drew W)) (Tu (by simp) (by simp)) _ _ rfl rfl ?_;gi_wp2;refine⟨rfl,by kernel_rfl,O1,?_,?_,?_⟩
    .intro L' u W B
     repeat' (refine Ae ?_ ?_)
     all_goals first|exact trivial|gi_wp2
    .intro q hq L' u W B z hu;obtain rfl|rfl:=(by simpa using hq:q=9\/q=10)
     .obtain⟨rfl,_⟩:=B.2.1 z;refine Bh rfl λKK Lh=>?_
      show wpListIn NF m prog _ _ _ (Act.put (Act.put _ (some 52) (u 9)) (some 53) (u 10)) _;gi_wp2_with (gi_at_call 206;refine(zg _).mono ?_;rintro e w4 ⟨g,rfl,Q,E⟩);exact⟨_,rfl,Tt B (by decide) z E.keep ⟨g,rfl,Q,E⟩⟩
     .have h9:=hu 9 (by simp) (by decide);obtain⟨g,N,Q,E⟩:=B.2.2.1 h9 z;refine Bh rfl λKK Lh=>?_
      show wpListIn NF m prog _ _ _ (Act.put (Act.put _ (some 52) (u 9)) (some 53) (u 10)) _;have ca:=λm=>Wx m W _ (.iface 337 (ptr g)) (some (f)) Q ⟨g,.inl ⟨rfl,f,BH,rfl⟩⟩ (QH A)
      simp only[ptr]at ca N;rw[N];gi_wp2_with (gi_at_call 201;refine(ca _).mono ?_;rintro e w5 ⟨d,l,n,rfl,R,I⟩);rw[<-N];exact⟨_,rfl,Tq (by decide) h9 (E.trans I).keep ⟨g,d,rfl,l,n,R,E.trans I⟩⟩
    .intro L' u W B hL;obtain⟨g,d,M,l,n,R,I⟩:=B.2.2.2 (hL 10 (by simp));show wpListIn NF m prog _ _ _ (Act.put (Act.put _ (some 52) (u 9)) (some 53) (u 10)) _;rw[M];have L:=λm=>Qy m W _ b (d:Int) r R hb hn (by omega) p
     gi_wp2_with (gi_at_call 200;refine(L _).mono ?_;rintro e w6 ⟨j,S,rfl,h6,M6⟩);have hjl:=(LQ.1 S).1;have hH0:BF K.ps K.AP d=0:=(by rw[<-hO.DV.ho d l];exact n);obtain⟨NJ,Gt⟩:=hO.fds (K1:={ K with nm:=K.nm,op:=Ar K.op f (K.op f+1),T:=BA (K.T) g (12,f),desc:=Ar K.desc d 1,ef:=Ar K.ef d (some f) }) (r':={ r with fds:=r.fds.set j (d:Int) }) (H:=Ar (BF K.ps K.AP) d 1) ⟨rfl⟩ hm hb rfl rfl rfl rfl rfl (Wl o (λe=>by simp[o.fds e]) (RD o.fd (.inr ⟨d,rfl,l⟩)) hn) (hO.DV.add (o:=some (f)) (nm:=K.nm) l n hO.DV.nm hO.DV.dj) (λk _=>by
      have:=NT (m:=(d:Int)) (a:=(k:Int)) S
      rw[if_neg (c:=(-1:Int)=(k:Int)) (by omega)]at this
      simp only[Ar]
      split
      .rename_i e;subst e;rw[if_pos rfl]at this;omega
      .rename_i e;rw[if_neg (by omega)]at this;omega)
     have bW:BM K.T (BA (K.T) g (12,f)) w0 w6:=((((BM.no KK h0.lt)).then (p_ No w2).drew).trans I).trans M6;gi_wp2_with (first|(gi_at_call 152;refine(Dx _ _ j (by omega)).mono ?_;rintro e wz ⟨rfl,s⟩;obtain⟨w8,C,D,F⟩:=Ap (x:=j) (y:=0) (f:=.nilFunc) (s.old (bW.old rb Gp) id) rfl)|refine En C ?_);refine TR j 0 (by simp[results,results150,go_sem,EF F]) rfl ?_;exact A7 (K':=KS.Di { K with nm:=K.nm,op:=Ar K.op f (K.op f+1),T:=BA (K.T) g (12,f),desc:=Ar K.desc d 1,ef:=Ar K.ef d (some f) } b { r with fds:=r.fds.set j (d:Int) }) (x:=j) (y:=0) h.lt Z BN ((bW).then s) ((h6).no s) D (by omega) (by omega) (.inl rfl) (NJ) (Gt) Am (λ_=>hm)
   .have KK:=K1.then K2;gi_wp2_with (first|(gi_at_call 140;refine(J5 _ _ Y).mono ?_;rintro e wz ⟨rfl,s⟩;obtain⟨w8,C,D,F⟩:=Ap (x:=0) (y:=Y) (f:=.nilFunc) (s.old (KK.old rb id) id) rfl)|refine En C ?_);refine TR 0 Y (by simp[results,results150,go_sem,EF F]) rfl ?_;exact BJ h hO hm hb Z BN (KK.then s) D (by decide) (by omega)
  .generalize X:w.alloc V_=w0 at*;gi_wp2_with (first|(gi_at_call 140;refine(wr8 6 (K1.old rb id) _).mono ?_;rintro e wz ⟨rfl,s,w8,C,D,F⟩)|refine En C ?_);refine TR 0 6 (by simp[results,results150,go_sem,EF F]) rfl ?_;exact BJ h hO hm hb Z BN (K1.then s) D (by decide) (by decide)
  .generalize X:w.alloc V_=w0 at*;gi_wp2_with (first|(gi_at_call 140;refine(wr8 13 (K1.old rb id) _).mono ?_;rintro e wz ⟨rfl,s,w8,C,D,F⟩)|refine En C ?_);refine TR 0 13 (by simp[results,results150,go_sem,EF F]) rfl ?_;exact BJ h hO hm hb Z BN (K1.then s) D (by decide) (by decide)
 .have g1:((number:Int) !=0)=true:=by simp;omega
  gi_enter func150,ntmps150;gi_wp2_with (gi_at_call 205;refine(cn _).mono ?_;rintro e w1 ⟨K1,x,rfl,hx⟩;obtain⟨rfl,Lm,f,yX⟩|⟨rfl,Lm,yX⟩|⟨rfl,Lm⟩:=hx)
  .gi_wp2_with (gi_at_call 198;refine(ct _ _ K1).mono ?_;rintro e w2 ⟨⟨rfl,U,V⟩|⟨Y,rfl,hxx,ar2⟩,K2⟩<;>generalize X:w.alloc V_=w0 at *)
   .have KK:=K1.then K2;have p:1<=FK r.fds:=U;have A:1<=I5 K.desc 20:=V;have h3:=h0.no KK;have O:AV { K with nm:=K.nm,T:=K.T } w2.drew:=AV.no h3 (p_ No w2).drew;have zg:=λm=>Z9 m w2.drew { K with nm:=K.nm,T:=K.T } name f O Lm (yX) (by have J:=hO.DV.op (f);have G:=O9 K.desc K.ef (f);show K.op (f)<=1000;omega)
    refine CV (P:=prog) _ rfl rfl (by kernel_rfl) 11 56 [0,1,2,3,4,5,6,7,8] [9,10] (by kernel_rfl) (by rfl)
     (Yi (On (K.T) λt=>t≠(0,0)) w2.drew 9 10 (λv W=>∃g,v=.iface 337 (ptr g)/\AV { K with nm:=K.nm,op:=Ar K.op f (K.op f+1),T:=BA (K.T) g (12,f) } W/\BM (K.T) (BA (K.T) g (12,f)) w2.drew W) (λ_ v W=>∃g d,v=b_ (d:Nat)/\d<20/\K.desc d=0/\AV { K with nm:=K.nm,op:=Ar K.op f (K.op f+1),T:=BA (K.T) g (12,f),desc:=Ar K.desc d 1,ef:=Ar K.ef d (some f) } W/\BM (K.T) (BA (K.T) g (12,f)) w2.drew W)) (Tu (by simp) (by simp)) _ _ rfl rfl ?_;gi_wp2;refine⟨rfl,by kernel_rfl,O1,?_,?_,?_⟩
    .intro L' u W B
     repeat' (refine Ae ?_ ?_)
     all_goals first|exact trivial|gi_wp2
    .intro q hq L' u W B z hu;obtain rfl|rfl:=(by simpa using hq:q=9\/q=10)
     .obtain⟨rfl,_⟩:=B.2.1 z;refine Bh rfl λKK Lh=>?_
      show wpListIn NF m prog _ _ _ (Act.put (Act.put _ (some 52) (u 9)) (some 53) (u 10)) _;gi_wp2_with (gi_at_call 206;refine(zg _).mono ?_;rintro e w4 ⟨g,rfl,Q,E⟩);exact⟨_,rfl,Tt B (by decide) z E.keep ⟨g,rfl,Q,E⟩⟩
     .have h9:=hu 9 (by simp) (by decide);obtain⟨g,N,Q,E⟩:=B.2.2.1 h9 z;refine Bh rfl λKK Lh=>?_
      show wpListIn NF m prog _ _ _ (Act.put (Act.put _ (some 52) (u 9)) (some 53) (u 10)) _;have ca:=λm=>Wx m W _ (.iface 337 (ptr g)) (some (f)) Q ⟨g,.inl ⟨rfl,f,BH,rfl⟩⟩ (QH A)
      simp only[ptr]at ca N;rw[N];gi_wp2_with (gi_at_call 201;refine(ca _).mono ?_;rintro e w5 ⟨d,l,n,rfl,R,I⟩);rw[<-N];exact⟨_,rfl,Tq (by decide) h9 (E.trans I).keep ⟨g,d,rfl,l,n,R,E.trans I⟩⟩
    .intro L' u W B hL;obtain⟨g,d,M,l,n,R,I⟩:=B.2.2.2 (hL 10 (by simp));show wpListIn NF m prog _ _ _ (Act.put (Act.put _ (some 52) (u 9)) (some 53) (u 10)) _;rw[M];have L:=λm=>Qy m W _ b (d:Int) r R hb hn (by omega) p
     gi_wp2_with (gi_at_call 200;refine(L _).mono ?_;rintro e w6 ⟨j,S,rfl,h6,M6⟩);have hjl:=(LQ.1 S).1;have hH0:BF K.ps K.AP d=0:=(by rw[<-hO.DV.ho d l];exact n);obtain⟨NJ,Gt⟩:=hO.fds (K1:={ K with nm:=K.nm,op:=Ar K.op f (K.op f+1),T:=BA (K.T) g (12,f),desc:=Ar K.desc d 1,ef:=Ar K.ef d (some f) }) (r':={ r with fds:=r.fds.set j (d:Int) }) (H:=Ar (BF K.ps K.AP) d 1) ⟨rfl⟩ hm hb rfl rfl rfl rfl rfl (Wl o (λe=>by simp[o.fds e]) (RD o.fd (.inr ⟨d,rfl,l⟩)) hn) (hO.DV.add (o:=some (f)) (nm:=K.nm) l n hO.DV.nm hO.DV.dj) (λk _=>by
      have:=NT (m:=(d:Int)) (a:=(k:Int)) S
      rw[if_neg (c:=(-1:Int)=(k:Int)) (by omega)]at this
      simp only[Ar]
      split
      .rename_i e;subst e;rw[if_pos rfl]at this;omega
      .rename_i e;rw[if_neg (by omega)]at this;omega)
     have bW:BM K.T (BA (K.T) g (12,f)) w0 w6:=((((BM.no KK h0.lt)).then (p_ No w2).drew).trans I).trans M6;gi_wp2_with (first|(gi_at_call 152;refine(Dx _ _ j (by omega)).mono ?_;rintro e wz ⟨rfl,s⟩;obtain⟨w8,C,D,F⟩:=Ap (x:=j) (y:=0) (f:=.nilFunc) (s.old (bW.old rb Gp) id) rfl)|refine En C ?_);refine TR j 0 (by simp[results,results150,go_sem,EF F]) rfl ?_;exact A7 (K':=KS.Di { K with nm:=K.nm,op:=Ar K.op f (K.op f+1),T:=BA (K.T) g (12,f),desc:=Ar K.desc d 1,ef:=Ar K.ef d (some f) } b { r with fds:=r.fds.set j (d:Int) }) (x:=j) (y:=0) h.lt Z BN ((bW).then s) ((h6).no s) D (by omega) (by omega) (.inl rfl) (NJ) (Gt) Am (λ_=>hm)
   .have KK:=K1.then K2;gi_wp2_with (first|(gi_at_call 140;refine(J5 _ _ Y).mono ?_;rintro e wz ⟨rfl,s⟩;obtain⟨w8,C,D,F⟩:=Ap (x:=0) (y:=Y) (f:=.nilFunc) (s.old (KK.old rb id) id) rfl)|refine En C ?_);refine TR 0 Y (by simp[results,results150,go_sem,EF F]) rfl ?_;exact BJ h hO hm hb Z BN (KK.then s) D (by decide) (by omega)
  .gi_wp2_with (gi_at_call 198;refine(ct _ _ K1).mono ?_;rintro e w2 ⟨⟨rfl,U,V⟩|⟨Y,rfl,hxx,ar2⟩,K2⟩<;>generalize X:w.alloc V_=w0 at *)
   .have KK:=K1.then K2;have p:1<=FK r.fds:=U;have A:1<=I5 K.desc 20:=V;have G:=h0.no KK;have hnew:=av6 G hO.DV (w_ _);have cmk:=λm=>aw4 m w2 K name G Lm hnew
    clear hnew;gi_wp2_with (gi_at_call 44;refine(cmk _).mono ?_;rintro e w3 ⟨rfl,h3,M3⟩);have tnew:K.T w2.heap.size=(0,0):=G.lt _ (w_ _);have hnn:∀i,i<16->K.nm i≠some w2.heap.size:=λi hi e=>by
     have:=(G.nmc hi).2 _ e
     rw[tnew]at this;simp at this
    have bu1:∀i j f,i<16->j<16->Ar K.nm name (some w2.heap.size) i=some f->Ar K.nm name (some w2.heap.size) j=some f->i=j:=λi j f hi S J G=>by
     simp only[Ar]at J G
     split at J<;>split at G
     .omega
     .rename_i e1 e2;rw[<-J]at G;exact absurd G (hnn j S)
     .rename_i e1 e2;rw[<-G]at J;exact absurd J (hnn i hi)
     .exact hO.DV.nm i j f hi S J G
    have bv1:∀i f,i<16->Ar K.nm name (some w2.heap.size) i=some f->f ∉ K.nl:=λi f hi J hf=>by
     simp only[Ar]at J
     split at J
     .obtain rfl:w2.heap.size=f:=(by simpa using J);obtain⟨ks,_,hc⟩:=G.k;obtain⟨_,_,_,hbN⟩:=hc.nl;have:=hbN _ hf;rw[tnew]at this;simp at this
     .exact hO.DV.dj i f hi J hf
    have O:AV { K with nm:=Ar K.nm name (some w2.heap.size),T:=BA K.T w2.heap.size (10,0) } w3.drew:=AV.no h3 (p_ No w3).drew;have zg:=λm=>Z9 m w3.drew { K with nm:=Ar K.nm name (some w2.heap.size),T:=BA K.T w2.heap.size (10,0) } name w2.heap.size O Lm (by simp[Ar]) (by have J:=hO.DV.op (w2.heap.size);have G:=O9 K.desc K.ef (w2.heap.size);show K.op (w2.heap.size)<=1000;omega)
    refine CV (P:=prog) _ rfl rfl (by kernel_rfl) 11 56 [0,1,2,3,4,5,6,7,8] [9,10] (by kernel_rfl) (by rfl)
     (Yi (On (BA K.T w2.heap.size (10,0)) λt=>t≠(0,0)) w3.drew 9 10 (λv W=>∃g,v=.iface 337 (ptr g)/\AV { K with nm:=Ar K.nm name (some w2.heap.size),op:=Ar K.op w2.heap.size (K.op w2.heap.size+1),T:=BA (BA K.T w2.heap.size (10,0)) g (12,w2.heap.size) } W/\BM (BA K.T w2.heap.size (10,0)) (BA (BA K.T w2.heap.size (10,0)) g (12,w2.heap.size)) w3.drew W) (λ_ v W=>∃g d,v=b_ (d:Nat)/\d<20/\K.desc d=0/\AV { K with nm:=Ar K.nm name (some w2.heap.size),op:=Ar K.op w2.heap.size (K.op w2.heap.size+1),T:=BA (BA K.T w2.heap.size (10,0)) g (12,w2.heap.size),desc:=Ar K.desc d 1,ef:=Ar K.ef d (some w2.heap.size) } W/\BM (BA K.T w2.heap.size (10,0)) (BA (BA K.T w2.heap.size (10,0)) g (12,w2.heap.size)) w3.drew W)) (Tu (by simp) (by simp)) _ _ rfl rfl ?_;gi_wp2;refine⟨rfl,by kernel_rfl,O1,?_,?_,?_⟩
    .intro L' u W B
     repeat' (refine Ae ?_ ?_)
     all_goals first|exact trivial|gi_wp2
    .intro q hq L' u W B z hu;obtain rfl|rfl:=(by simpa using hq:q=9\/q=10)
     .obtain⟨rfl,_⟩:=B.2.1 z;refine Bh rfl λKK Lh=>?_
      show wpListIn NF m prog _ _ _ (Act.put (Act.put _ (some 52) (u 9)) (some 53) (u 10)) _;gi_wp2_with (gi_at_call 206;refine(zg _).mono ?_;rintro e w4 ⟨g,rfl,Q,E⟩);exact⟨_,rfl,Tt B (by decide) z E.keep ⟨g,rfl,Q,E⟩⟩
     .have h9:=hu 9 (by simp) (by decide);obtain⟨g,N,Q,E⟩:=B.2.2.1 h9 z;refine Bh rfl λKK Lh=>?_
      show wpListIn NF m prog _ _ _ (Act.put (Act.put _ (some 52) (u 9)) (some 53) (u 10)) _;have ca:=λm=>Wx m W _ (.iface 337 (ptr g)) (some (w2.heap.size)) Q ⟨g,.inl ⟨rfl,w2.heap.size,BH,rfl⟩⟩ (QH A)
      simp only[ptr]at ca N;rw[N];gi_wp2_with (gi_at_call 201;refine(ca _).mono ?_;rintro e w5 ⟨d,l,n,rfl,R,I⟩);rw[<-N];exact⟨_,rfl,Tq (by decide) h9 (E.trans I).keep ⟨g,d,rfl,l,n,R,E.trans I⟩⟩
    .intro L' u W B hL;obtain⟨g,d,M,l,n,R,I⟩:=B.2.2.2 (hL 10 (by simp));show wpListIn NF m prog _ _ _ (Act.put (Act.put _ (some 52) (u 9)) (some 53) (u 10)) _;rw[M];have L:=λm=>Qy m W _ b (d:Int) r R hb hn (by omega) p
     gi_wp2_with (gi_at_call 200;refine(L _).mono ?_;rintro e w6 ⟨j,S,rfl,h6,M6⟩);have hjl:=(LQ.1 S).1;have hH0:BF K.ps K.AP d=0:=(by rw[<-hO.DV.ho d l];exact n);obtain⟨NJ,Gt⟩:=hO.fds (K1:={ K with nm:=Ar K.nm name (some w2.heap.size),op:=Ar K.op w2.heap.size (K.op w2.heap.size+1),T:=BA (BA K.T w2.heap.size (10,0)) g (12,w2.heap.size),desc:=Ar K.desc d 1,ef:=Ar K.ef d (some w2.heap.size) }) (r':={ r with fds:=r.fds.set j (d:Int) }) (H:=Ar (BF K.ps K.AP) d 1) ⟨rfl⟩ hm hb rfl rfl rfl rfl rfl (Wl o (λe=>by simp[o.fds e]) (RD o.fd (.inr ⟨d,rfl,l⟩)) hn) (hO.DV.add (o:=some (w2.heap.size)) (nm:=Ar K.nm name (some w2.heap.size)) l n bu1 bv1) (λk _=>by
      have:=NT (m:=(d:Int)) (a:=(k:Int)) S
      rw[if_neg (c:=(-1:Int)=(k:Int)) (by omega)]at this
      simp only[Ar]
      split
      .rename_i e;subst e;rw[if_pos rfl]at this;omega
      .rename_i e;rw[if_neg (by omega)]at this;omega)
     have bW:BM K.T (BA (BA K.T w2.heap.size (10,0)) g (12,w2.heap.size)) w0 w6:=((((BM.no KK h0.lt).trans M3).then (p_ No w3).drew).trans I).trans M6;gi_wp2_with (first|(gi_at_call 152;refine(Dx _ _ j (by omega)).mono ?_;rintro e wz ⟨rfl,s⟩;obtain⟨w8,C,D,F⟩:=Ap (x:=j) (y:=0) (f:=.nilFunc) (s.old (bW.old rb Gp) id) rfl)|refine En C ?_);refine TR j 0 (by simp[results,results150,go_sem,EF F]) rfl ?_;exact A7 (K':=KS.Di { K with nm:=Ar K.nm name (some w2.heap.size),op:=Ar K.op w2.heap.size (K.op w2.heap.size+1),T:=BA (BA K.T w2.heap.size (10,0)) g (12,w2.heap.size),desc:=Ar K.desc d 1,ef:=Ar K.ef d (some w2.heap.size) } b { r with fds:=r.fds.set j (d:Int) }) (x:=j) (y:=0) h.lt Z BN ((bW).then s) ((h6).no s) D (by omega) (by omega) (.inl rfl) (NJ) (Gt) Am (λ_=>hm)
   .have KK:=K1.then K2;gi_wp2_with (first|(gi_at_call 140;refine(J5 _ _ Y).mono ?_;rintro e wz ⟨rfl,s⟩;obtain⟨w8,C,D,F⟩:=Ap (x:=0) (y:=Y) (f:=.nilFunc) (s.old (KK.old rb id) id) rfl)|refine En C ?_);refine TR 0 Y (by simp[results,results150,go_sem,EF F]) rfl ?_;exact BJ h hO hm hb Z BN (KK.then s) D (by decide) (by omega)
  .generalize X:w.alloc V_=w0 at*;gi_wp2_with (first|(gi_at_call 140;refine(wr8 13 (K1.old rb id) _).mono ?_;rintro e wz ⟨rfl,s,w8,C,D,F⟩)|refine En C ?_);refine TR 0 13 (by simp[results,results150,go_sem,EF F]) rfl ?_;exact BJ h hO hm hb Z BN (K1.then s) D (by decide) (by decide)
end
theorem JA (w:o_) (o:Obj):(w.alloc o).heap.size=w.heap.size+1:=by simp
theorem Tn {f:Nat->d_ PR} {b:Nat} {r r':PR}:Dz (Dz f b r) b r'=Dz f b r':=by funext k;unfold Dz;split<;>rfl
theorem WI {K:KS} {b:Nat} {r r':PR}:(K.Di b r).Di b r'=K.Di b r':=by
 unfold KS.Di;have e:Dz (Dz K.ps b r) b r'=Dz K.ps b r':=by funext k;unfold Dz;split<;>rfl
 simp only[e]
theorem aU (l:List Int):FK l=l.count (-1):=by
 unfold FK dm;rw[List.count,List.countP_eq_length_filter]
theorem wH {d:Nat->Nat} {i1:Nat} (h:2<=I5 d 20):∃i,i<20/\Ar d i1 1 i=0:=by
 refine Classical.byContradiction λc=>?_
 have f:∀x∈(List.range 20).filter (λi=>d i==0),x∈[i1]:=λx g=>by
  obtain⟨a,b⟩:=List.mem_filter.1 g
  refine List.mem_singleton.2 (Classical.byContradiction λe=>c ⟨x,List.mem_range.1 a,?_⟩)
  simp only[Ar,if_neg e];simpa using b
 have:=UL (List.Pairwise.filter _ List.nodup_range) f;unfold I5 at h;simp at this;omega
theorem AV.VM {K:KS} {w:o_} {b g c i x:Nat} {r:PR} (h:AV K w) (hb:K.ps b=some r) (hn:r.en=false) (h1:r.im=Q_ g r.Ag.length c):AV (K.Di b { r with Ag:=r.Ag.set i x }) (w.setCell (T_ g i) (a_ (x:Nat)))/\BM K.T K.T w (w.setCell (T_ g i) (a_ (x:Nat))):=by
 obtain⟨e,d,_,f,j,a⟩:=h.YF hb hn;obtain⟨rfl,rfl⟩:g=e/\c=d:=by rw[a]at h1;simp at h1;exact⟨h1.1.symm,h1.2.symm⟩
 have:=f.set (i:=i) (a_ (x:Nat)) rfl;exact h.Μ hb hn a j ((p_ _ _).setCell _ λ_=>rfl) (by simpa [Az,List.map_set]using this) (by simp)
section
variable (m:Nat) (w:o_)
theorem pV (K:KS) (h:AV K w):P_ m 199 #[] w λe w'=>∃e1 e2 T3,e=.returned (.tuple #[.iface 330 (ptr e1),.iface 334 (ptr e2)])/\AV { K with T:=T3 } w'/\T3 e1=(13,0)/\T3 e2=(14,0)/\BM K.T T3 w w':=by
 have a1:(w.alloc (.cells #[.slice none 0 0,.bool true,.bool true] 329)).heap[w.heap.size]?=some (O_ #[.slice none 0 0,.bool true,.bool true] 329):=heap_alloc_new rfl;obtain⟨i,d⟩:=h.yR (t:=(11,0)) (w':=w.alloc (.cells #[.slice none 0 0,.bool true,.bool true] 329)) ((p_ _ _).alloc _) (w_ _) (BQ a1) (by simp) (FOne.U3 (v:=.slice none 0 0) (x:=true) (y:=true) BH a1 (.inl rfl));have b:(w.alloc (.cells #[.slice none 0 0,.bool true,.bool true] 329)).heap.size=w.heap.size+1:=JA _ _;have a2:((w.alloc (.cells #[.slice none 0 0,.bool true,.bool true] 329)).alloc (.cells #[R_ w.heap.size] 333)).heap[w.heap.size+1]?=some (O_ #[R_ w.heap.size] 333):=by
  have:=heap_alloc_new (w:=w.alloc (.cells #[.slice none 0 0,.bool true,.bool true] 329)) (o:=.cells #[R_ w.heap.size] 333) rfl
  rwa [b]at this
 obtain⟨j,f⟩:=AV.yR (t:=(13,0)) (w':=(w.alloc (.cells #[.slice none 0 0,.bool true,.bool true] 329)).alloc (.cells #[R_ w.heap.size] 333)) i ((p_ _ _).alloc _) (Nat.le_of_eq b) (BQ a2) (by simp) (FOne.rend' BH a2 (show BA (BA K.T w.heap.size (11,0)) (w.heap.size+1) (13,0) w.heap.size=(11,0)from(Bf (by omega)).trans BH));have c:((w.alloc (.cells #[.slice none 0 0,.bool true,.bool true] 329)).alloc (.cells #[R_ w.heap.size] 333)).heap.size=w.heap.size+2:=by rw[JA,JA]
 have a:(((w.alloc (.cells #[.slice none 0 0,.bool true,.bool true] 329)).alloc (.cells #[R_ w.heap.size] 333)).alloc (.cells #[R_ w.heap.size] 335)).heap[w.heap.size+2]?=some (O_ #[R_ w.heap.size] 335):=by
  have:=heap_alloc_new (w:=(w.alloc (.cells #[.slice none 0 0,.bool true,.bool true] 329)).alloc (.cells #[R_ w.heap.size] 333)) (o:=.cells #[R_ w.heap.size] 335) rfl
  rwa [c]at this
 obtain⟨k,g⟩:=AV.yR (t:=(14,0)) (w':=((w.alloc (.cells #[.slice none 0 0,.bool true,.bool true] 329)).alloc (.cells #[R_ w.heap.size] 333)).alloc (.cells #[R_ w.heap.size] 335)) j ((p_ _ _).alloc _) (Nat.le_of_eq c) (BQ a) (by simp) (FOne.bg8 BH a (show BA (BA (BA K.T w.heap.size (11,0)) (w.heap.size+1) (13,0)) (w.heap.size+2) (14,0) w.heap.size=(11,0)from(Bf (by omega)).trans ((Bf (by omega)).trans BH)));gi_enter func199,ntmps199;gi_wp2;go_ret2;refine⟨w.heap.size+1,w.heap.size+2,by first|rfl|simp[ptr],BA (BA (BA K.T w.heap.size (11,0)) (w.heap.size+1) (13,0)) (w.heap.size+2) (14,0),k,(Bf (by omega)).trans BH,BH,(d.trans f).trans g⟩
theorem xq (K:KS) (NC NS b at_:Nat) (r:PR) (h:AV K w) (hO:Ez NC NS K) (hm:b∈K.AP) (hb:K.ps b=some r) (hn:r.en=false) (hat:at_<65536):
  P_ m 145 #[R_ K.kb,R_ b,a_ (at_:Nat)] w (FQ NC NS b K w):=by
 have o:=hO.pr b r hb;have hlen:r.fds.length<=6:=by rw[o.fds hn];omega
 have hL:=(hO.co.pl b r hb).1;obtain⟨W,rb,Z⟩:=HY w;have Y:=h.no W;have Gp:K.T w.heap.size=(0,0):=h.lt _ (w_ _);obtain⟨L,ci,V,hRi,kP,C⟩:=Y.YF hb hn;have XY:=hRi.le;have ct:=λm w1 (hK:Keep No (w.alloc V_) w1)=>Xe m w1 K b 2 r (Y.no hK) hb hn (by omega)
 have two:((2:Nat):Int)=2:=rfl;simp only[two]at ct;by_cases Eo:at_+2<=r.Ag.length
 .have cw:=λm=>EM b L ci r.Ag.length 2 at_ m (w.alloc V_) V (by omega) hat hL XY Eo
  gi_enter func145,ntmps145;gi_wp2_with (first|(gi_at_call 138;refine(cw _).mono ?_;rintro e w1 ⟨rfl,E⟩;have E:=E.symm;subst E)|(gi_at_call 198;refine(ct _ _ (p_ No _)).mono ?_;rintro e w2 ⟨⟨rfl,hs1,hs2⟩|⟨xx,rfl,hxx,ar2⟩,X⟩<;>generalize hw0:w.alloc V_=w0 at *))
  .have h2:=Y.no X;have cp:=λm=>pV m w2 K h2
   gi_wp2_with (gi_at_call 199;refine(cp _).mono ?_;rintro e w3 ⟨e1,e2,T3,rfl,h3,te1,te2,M3⟩;simp only[ptr]);have ca:=λm=>Wx m w3 { K with T:=T3 } (.iface 330 (ptr e1)) none h3 ⟨e1,.inr (.inl ⟨rfl,te1,rfl⟩)⟩ (QH (by show 1<=I5 K.desc 20;omega))
   simp only[ptr]at ca;gi_wp2_with (gi_at_call 201;refine(ca _).mono ?_;rintro e w4 ⟨g,u,Q,rfl,h4,M4⟩);have chd:=λm=>Qy m w4 { K with T:=T3,desc:=Ar K.desc g 1,ef:=Ar K.ef g none } b (g:Int) r h4 hb hn (by omega) (by omega)
   gi_wp2_with (gi_at_call 200;refine(chd _).mono ?_;rintro e w5 ⟨l,D,rfl,h5,M5⟩;have ce4:=(LQ.1 D).1;have ce6:l<6:=(by omega);obtain⟨g5,c5,_,M,tg5,bu5⟩:=h5.YF Am hn;have t:L=g5/\ci=c5:=(by have:=C.symm.trans bu5;simpa using this);obtain⟨rfl,rfl⟩:=t;have z5:=M.fz at_;have q5:=M.cell (i:=at_) (by show at_<r.Ag.length*1;omega);obtain⟨x5,hx5⟩:∃v,(Az r.Ag)[at_]?=some v:=⟨_,Ii (by simp[Az];omega)⟩;have q5:=q5.trans hx5);have s6:=h5.VM (i:=at_) (x:=l) Am hn C;rw[WI]at s6;obtain⟨h6,M6⟩:=s6;have cb:=λm=>Wx m _ _ (.iface 334 (ptr e2)) none h6 ⟨e2,.inr (.inr ⟨rfl,te2,rfl⟩)⟩ (wH (d:=K.desc) hs2)
   simp only[ptr]at cb;gi_wp2_with (gi_at_call 201;refine(cb _).mono ?_;rintro e w7 ⟨j,z,q,rfl,h7,M7⟩);have S:1<=FK (r.fds.set l (g:Int)):=by
    have:=NT (m:=(g:Int)) (a:=-1) D
    rw[aU]at hs1 ⊢
    rw[if_pos rfl,if_neg (by omega)]at this
    omega
   have che:=λm=>Qy m w7 _ b (j:Int) _ h7 Am hn (by show(r.fds.set l (g:Int)).length<=1000;simp;omega) S
   gi_wp2_with (gi_at_call 200;refine(che _).mono ?_;rintro e w8' ⟨n,R,rfl,h8,M8⟩;have ce3:=(LQ.1 R).1;have ce5:n<6:=(by have:(r.fds.set l (g:Int)).length<=6:=(by simp;omega);omega);obtain⟨g8,c8,_,N,tg8,J⟩:=h8.YF Am hn;have t:L=g8/\ci=c8:=(by have:=C.symm.trans J;simpa using this);obtain⟨rfl,rfl⟩:=t;have z8:=N.fz (at_+1);have V:=N.cell (i:=at_+1) (by show at_+1<(r.Ag.set at_ l).length*1;simp;omega);obtain⟨x8,hx8⟩:∃v,(Az (r.Ag.set at_ l))[at_+1]?=some v:=⟨_,Ii (by simp[Az];omega)⟩;have V:=V.trans hx8);have s9:=h8.VM (i:=at_+1) (x:=n) Am hn J;rw[WI]at s9;obtain⟨h9,M9⟩:=s9;have eK:KS.Di { ({ K with T:=T3,desc:=Ar K.desc g 1,ef:=Ar K.ef g none }:KS).Di b { r with fds:=r.fds.set l (g:Int),Ag:=r.Ag.set at_ l } with desc:=Ar (Ar K.desc g 1) j 1,ef:=Ar (Ar K.ef g none) j none } b { r with fds:=(r.fds.set l (g:Int)).set n (j:Int),Ag:=(r.Ag.set at_ l).set (at_+1) n }=KS.Di { K with T:=T3,desc:=Ar (Ar K.desc g 1) j 1,ef:=Ar (Ar K.ef g none) j none } b { r with fds:=(r.fds.set l (g:Int)).set n (j:Int),Ag:=(r.Ag.set at_ l).set (at_+1) n }:=(by unfold KS.Di;simp only[Tn]);have h9:AV (KS.Di { K with T:=T3,desc:=Ar (Ar K.desc g 1) j 1,ef:=Ar (Ar K.ef g none) j none } b { r with fds:=(r.fds.set l (g:Int)).set n (j:Int),Ag:=(r.Ag.set at_ l).set (at_+1) n }) (w8'.setCell (T_ L (at_+1)) (a_ (n:Nat))):=(by rw[<-eK];exact h9);have hH1:BF K.ps K.AP g=0:=(by rw[<-hO.DV.ho g u];exact Q);have Cm:j≠g:=λe=>by rw[e]at q;simp[KS.Di,Ar]at q
   have bv2:K.desc j=0:=(by have:Ar K.desc g 1 j=0:=q;rwa [show Ar K.desc g 1 j=K.desc j from if_neg Cm]at this);have hH2:BF K.ps K.AP j=0:=(by rw[<-hO.DV.ho j z];exact bv2);have br0:=hO.DV.add (o:=none) (nm:=K.nm) (T:=T3) u Q hO.DV.nm hO.DV.dj;have bq9:=br0.add (o:=none) (nm:=K.nm) (T:=T3) z (show Ar K.desc g 1 j=0 from q) hO.DV.nm hO.DV.dj;have p:((r.Ag.set at_ l).set (at_+1) n).length=r.Ag.length:=(by simp);obtain⟨NJ,Gt⟩:=hO.fds (K1:={ K with T:=T3,desc:=Ar (Ar K.desc g 1) j 1,ef:=Ar (Ar K.ef g none) j none }) (r':={ r with fds:=(r.fds.set l (g:Int)).set n (j:Int),Ag:=(r.Ag.set at_ l).set (at_+1) n }) (H:=Ar (Ar (BF K.ps K.AP) g 1) j 1) ⟨rfl⟩ hm hb rfl rfl rfl rfl p ⟨o.A,o.B,o.P,o.st,o.pid,o.par,λx U=>by
    obtain U|rfl:=List.mem_or_eq_of_mem_set U
    .obtain U|rfl:=List.mem_or_eq_of_mem_set U
     .exact o.Ag x U
     .omega
    .omega,λe=>by simp[o.fds e],RD (RD o.fd (.inr ⟨g,rfl,u⟩)) (.inr ⟨j,rfl,z⟩),λe=>by simp only[p];exact o.len e,λe=>absurd e (by simp[hn])⟩ bq9 (λk _=>by
    have a1:=NT (m:=(g:Int)) (a:=(k:Int)) D;have a2:=NT (m:=(j:Int)) (a:=(k:Int)) R;rw[if_neg (c:=(-1:Int)=(k:Int)) (by omega)]at a1 a2;simp only at a2 ⊢;simp only[Ar];by_cases e2:k=j
    .subst e2;rw[if_neg (by omega)]at a1;rw[if_pos rfl]at a2 ⊢;omega
    .rw[if_neg (by omega)]at a2;rw[if_neg e2];by_cases e1:k=g
     .subst e1;rw[if_pos rfl]at a1 ⊢;omega
     .rw[if_neg (by omega)]at a1;rw[if_neg e1];omega)
   have O:BM K.T T3 w0 _:=((((((BM.no X Y.lt).trans M3).trans M4).trans M5).trans M6).trans M7).trans (M8.trans M9);gi_wp2_with (first|(gi_at_call 152;refine(Dx _ _ 0 (by omega)).mono ?_;rintro e wz ⟨rfl,s⟩;obtain⟨w8,F,G,I⟩:=Ap (x:=0) (y:=0) (f:=.nilFunc) (s.old (O.old rb Gp) id) rfl)|refine En F ?_);refine TR 0 0 (by simp[results,results145,go_sem,EF I]) rfl ?_;exact A7 (K':=KS.Di { K with T:=T3,desc:=Ar (Ar K.desc g 1) j 1,ef:=Ar (Ar K.ef g none) j none } b { r with fds:=(r.fds.set l (g:Int)).set n (j:Int),Ag:=(r.Ag.set at_ l).set (at_+1) n }) (x:=0) (y:=0) h.lt W Z ((O).then s) ((h9).no s) G (by omega) (by omega) (.inl rfl) (NJ) (Gt) Am (λ_=>hm)
  .skip
   gi_wp2_with (first|(gi_at_call 140;refine(J5 _ _ xx).mono ?_;rintro e wz ⟨rfl,s⟩;obtain⟨w8,F,G,I⟩:=Ap (x:=0) (y:=xx) (f:=.nilFunc) (s.old (X.old rb id) id) rfl)|refine En F ?_);refine TR 0 xx (by simp[results,results145,go_sem,EF I]) rfl ?_;exact BJ h hO hm hb W Z (X.then s) G (by decide) (by omega)
 .have cw:=λm=>Il b L ci r.Ag.length 2 at_ m (w.alloc V_) V (by omega) (by omega) hat Eo
  gi_enter func145,ntmps145;gi_wp2_with (gi_at_call 138;refine(cw _).mono ?_;rintro e w1 ⟨rfl,E⟩;have E:=E.symm;subst E;generalize hw0:w.alloc V_=w0 at *);gi_wp2_with (first|(gi_at_call 140;refine(wr8 1 rb _).mono ?_;rintro e wz ⟨rfl,s,w8,F,G,I⟩)|refine En F ?_);refine TR 0 1 (by simp[results,results145,go_sem,EF I]) rfl ?_;exact BJ h hO hm hb W Z s G (by decide) (by decide)
end
section
variable (m:Nat) (w:o_)
theorem ay6 (cb bx pb:Nat) (x y:Int) (h1:w.cell? (T_ cb 1)=some (b_ x)) (h2:w.cell? (S_ bx)=some (R_ pb)) (h3:w.cell? (S_ pb)=some (b_ y)):
  P_ m 230 #[R_ cb,R_ bx] w λe w'=>Keep No w w'/\∃z,e=.returned (.bool z):=by
 gi_enter func230,ntmps230;gi_wp2;refine Bi 8 13 ?_;gi_wp2;refine CZ ?_ ?_
 .intro W a;have d1:=a.has (w:=w.drew) h1;have d2:=a.has (w:=w.drew) h2;have d3:=a.has (w:=w.drew) h3
  repeat' (refine Ae ?_ ?_)
  all_goals first|exact trivial|gi_wp2
 .intro W a;have KW:Keep No w W:=(p_ No w).drew.then a;gi_wp2
  all_goals go_ret
  all_goals exact⟨KW,_,rfl⟩
theorem xB (g cap bx pb:Nat) (l:List Nat) (y:Int) (hR:Rw 119 1 w g l.length cap (Bj l)) (hc:∀b∈l,∃x:Int,w.cell? (T_ b 1)=some (b_ x)) (h2:w.cell? (S_ bx)=some (R_ pb)) (h3:w.cell? (S_ pb)=some (b_ y)) (hl:l.length<=100000):
  P_ m 238 #[Q_ g l.length cap,.func (.func 230) #[] #[R_ bx]] w λe w'=>Keep No w w'/\∃j:Int,e=.returned (b_ j):=by
 gi_enter func238,ntmps238;gi_wp2;gi_loopw [8] (λi wr=>∃k:Nat,k<=l.length/\i=b_ k/\Keep No w wr) (λi _=>l.length-(intOf i).toNat)
 case atStart=>exact⟨0,by omega,rfl,p_ _ _⟩
 case round=>
  obtain⟨k,o,rfl,KK⟩:=hrel
  by_cases f:k<l.length
  .have a:l[k]?=some l[k]:=Ii f;generalize l[k]=b at a;have n:wr.cell? (T_ g k)=some (R_ b):=(by rw[Rw.cell (hR.keep KK id) (by omega)];simp[Bj,a,ptr]);obtain⟨x,h⟩:=hc b (t_ a);have c:=λm=>ay6 m wr b bx pb x y (KK.has h) (KK.has h2) (KK.has h3)
   gi_wp2_with (gi_at_call 230;refine(c _).mono ?_;rintro e w1 ⟨d,z,rfl⟩;cases z)
   .go_roundw
    case rel=>exact⟨k+1,by omega,by go_num,KK.then d⟩
    case measure=>simp[intOf];omega
   .go_ret;exact⟨KK.then d,_,rfl⟩
  .obtain rfl:k=l.length:=(by omega);gi_wp2;go_ret;exact⟨KK,_,rfl⟩
theorem jS (K:KS) (pb:Nat) (p:PR) (h:AV K w) (hT:K.EC) (hp:K.ps pb=some p) (hl:K.AP.length<=100):
  P_ m 194 #[R_ K.kb,R_ pb] w λe w'=>Keep No w w'/\∃z,e=.returned (.bool z):=by
 have d:Keep No w (w.alloc (.cells #[R_ pb] 119)):=(p_ _ _).alloc _;have a:=h.no d;have n:=a.kc2;have f:=a.GG hp 0;simp[PR.arr]at f;have i:(w.alloc (.cells #[R_ pb] 119)).heap[w.heap.size]?=some (O_ #[R_ pb] 119):=heap_alloc_new rfl;have c:=λm=>xB m (w.alloc (.cells #[R_ pb] 119)) K.pg K.pc w.heap.size pb K.AP p.pid a.pr (λb k=>by
  obtain⟨r,l⟩:=hT b k
  exact⟨r.par,by rw[a.GG l];simp[PR.arr]⟩) ((Af i 0).trans rfl) f (by omega)
 gi_enter func194,ntmps194;gi_wp2_with (first|(gi_at_call 238;refine(c _).mono ?_;rintro e w1 ⟨g,j,rfl⟩)|(gi_at_call 229;gi_in))
 all_goals go_ret
 all_goals exact⟨d.then g,_,rfl⟩
end
end Go.Fxa
